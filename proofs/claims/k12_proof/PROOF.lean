import PyProof.Rows.All
import Wide.All
import OpenK.AllK
import Wide.FinOn
import Lean
import PyProof.EqAt
import PyProof.EqKinds
import PyProof.TupleCall
import KE.KDictList
import KE.KMinBuiltin
import KE.KSortTup
import PyProof.AttrMissHeap
import PyProof.NeKinds
import PyProof.Rows.CallKwBuiltin
import PyProof.StrWalks
import PyProof.TupleIter
import PyProof.TupleOfSeq
import PySem.Challenge.RW_joinback_k12_papers_of_fewest_ways
set_option Elab.async false
set_option linter.all false
set_option compiler.extract_closed false
set_option genSizeOf false
set_option bootstrap.genMatcherCode false
set_option maxRecDepth 100000
set_option hygiene false
set_option hygiene false
local macro_rules
 |`(1.10)=>`((by omega))
 |`(1.11)=>`((λ_=>Z.mono (by decide)))
 |`(1.12)=>`((model X.prog X.w))
 |`(1.13)=>`((ixb (λ_=>aM Z)))
 |`(1.14)=>`((.ListComp elt [⟨target,iter,ifs,0⟩] scope pos))
set_option hygiene true
local macro_rules
 |`($n:scientific)=>do
  let c:=n.raw[0].getAtomVal
  unless c.startsWith "2." do Lean.Macro.throwUnsupported
  let a (t:String):Lean.Term:=if t.front.isDigit then(if t.contains '.' then ⟨(Lean.Syntax.mkScientificLit t).raw⟩ else Lean.Syntax.mkNumLit t) else if t=="_" then ⟨Lean.mkNode `Lean.Parser.Term.hole #[Lean.mkAtom "_"]⟩ else if t.front=='.' then ⟨Lean.mkNode `Lean.Parser.Term.dotIdent #[Lean.mkAtom ".",Lean.mkIdent (t.drop 1).toName]⟩ else Lean.mkIdent t.toName
  let p (l:List Lean.Term):=Lean.Syntax.mkApp l.getLast! l.dropLast.reverse.toArray
  return p ((((("eC (.int 1)|adj js js.length|ao ae 0|sIf (jO (eB (e2 di (ao ae 8) (ao ae 3))) (eOr (eB (e2 di (ao ae 8) (ao ae 5))) (eB (e2 A_ (ao ae 9) (e2 gIx (ao ae 5) (ao ae 8)))))) (bO (ao ae 9) (jg gj 5 (ig 5) (ao ae 8))) cL|ao ae 4|aj (ao ae 3) au|js.map jD|l.map D.str|ac (.int k)|ao ae 1|List Str|b7 (eC (.bl ae))|Option Nat|obC cap ob|ao ae 2|model prog w|plus M Fr|aa (ak ae 0) aq|ak ae 4|fu X N' scope C Y H fp|.dK kvs|ns.map D.str|.Subscript (.Name x p2) eF q2|ao ae 6|aa (ak ae 3) aq|.lst .own (z.map (lvL .own))|A.deeper (acO qual (aK st) s.heap.objs.size f cdv)|tpT 2 (aP (tpN 0) (aP (tpN 1) cg))|aG (aV fX)|.inl z|Y pins s σ H _ I h|ak ae 2|aY (aa aH aq)|ak ae 1|ak ae 6|lvL .frz|.ref s.heap.objs.size|aj (eAp bA au) au|.Name x pos|eC (.int 2)|.lst .own ds|EP X pins σ Q|.inr z|tpT 3 (aP (tpN 0) (aP (tpN 1) (aP (tpN 2) cg)))|.lst xs|eC (.int 0)|.lst .own gs.dropLast|InX X N' scope|wn ob S Fr|.ref p|aj (ao ae 9) (aj (ao ae 12) au)|cj .own .own ks f|ac (lvP L0)|ak ae 5|.tup xs|W.add L|bF (aj (eC (.int 3)) au)|.lst .own (sp.map D.int)|.builtin id|.Subscript (.Name x p1) eE q1|ac (.lst .own (ms.map D.str))|aj (ao ae 10) (aj (ao ae 9) (aj (e1 gh (ao ae 7)) au))|Y pos pins s σ H _ I h|xV CX P w K mg base N qual scope f cdv A outer s H E|Same.refl H|wn ob S (plus N Fr)|.Attribute o Z apos|aj (ao ae 7) au|fpD .own us|.Name y ypos|.str a|.str b|.int i|.ref it|plus L Fr|aj (ao ae 5) au|ac (wM .own gs)|L.map lvT|ac (pT ps)|List D|bc (aX 6 nd) (bc (aX 7 nd) fQ)|.inl rfl|V pins s σ H _ I h|Z1 es X.env|ue cap S Fr|min items.size q.size|ns.map D.int|ac (.Name x pos')|bL X.prog X.w|.str x|aP (tgN i) (aP (tgN j) cg)|aP (tgN 6) (aP (tgN 7) cg)|aam (Z9 (Z8 e) (I.ok.cab x c hfn O))|I.ok.hd O|fZ cap ρ|.UnaryOp .Not a pos|acO qual scope s.heap.objs.size f D|.tup ds|ac (.int a)|ac (.int b)|ns.map V.int|bF (aj (eC (.int 8)) au)|cs.map D.int|aae D.str jL|aeg e (.Slice af af (ac es) p2) (.ref a) (.ref F.heap.objs.size)|I.hok.fresh (ZZ _)|st.getD 1|hs.sub.subset O|.dct .own ks ds|aa (ak ae 7) aq|acZ x qual (oZ st) (iM st) (aK st) .none kV doc pm an cdv ct|OwE d2 J a b ps h k af|ac (.int c)|aa (ak ae 9) (aa (ak ae 12) aq)|List Nat|fnOf x x (oZ st) (iM st) (aK st) .none kV doc pm an cdv ct|.ref Z.heap.objs.size|.Name x p|HT.sIx xs.length 0 lo|pv i (z c) (Z c) hd O|plus R Fr|b7 (eC (.bl ag))|Z9 (Z8 e) I.ok.above|W2 _ (W2 _ (iB U e))|cT 1.13 (ak ae 0) aH|L.map (lvL k)|lF jq aH|.Tuple es k pos|model P w|.lst ys|uJ cap Si S|hs.sub.subset z|eC (.int 6)|l.map ptD|OlE d3 N P h S w k'|fH rfl|acZ name qual a0 body scope dV kV doc pm an cdv ct|ρ.set i (ac (dU p d' d0))|aP (tgN 7) (aP (tgN 8) cg)|O.hok.fresh (ZZ _)|pyL (dtL ds)|LtB.up Up.refl|jZ js a b ps L|Z.trans I|.lst m ds|vR Z h U a4 a0 a3|wM .own us|.lst .own (jL.map D.str)|.lst .own (ne.map D.str)|OlE d' N P h (lvP L) w k|eB (e2 gEq (eAp bz (aj (e2 gIx 2.14 2.2) au)) 2.9)|e2 gLe (eAp xG (aj (e2 jb (eMt ik 2.4 (aj 2.2 2.5)) (eMt ik 2.4 (aj 2.9 2.5))) au)) 2.0|aj 2.2 au|e2 gIx (eAp (aZ dF) (aj (e2 gIx 2.14 2.2) (aj 2.9 au))) 2.0|eAp bz (aj 2.4 au)|eMt ik (ao ae 3) (aj (e2 gIx (ao ae 5) (e1 gh 2.0)) 2.37)|.lst .frz 2.6|cj .scr .frz ks 2.1|.frz ob 2.20|ak ae 0|eAp bz (aj 2.9 au)|bR cu (bR cu (dg slb 2.18 dR (cO 2.34)) (dg slb 2.18 (cO 2.34) (cO (bR cu 2.34 aH)))) (dg slb 2.18 (cO 2.34) dR)|lvL .own|ak ae 3|e2 gNe (e2 gIx 2.4 2.23) (eAp bA au)|e2 cR (e2 cR (eSl 2.4 fW (eU 2.23)) (eSl 2.4 (eU 2.23) (eU (e2 cR 2.23 2.0)))) (eSl 2.4 (eU 2.23) fW)|bO (e2 cR (e2 gIx 2.4 2.23) (eAp bx 2.67)) (tgN 9)|aa 2.18 aq|bF (aj (eAp bz (aj 2.14 au)) au)|eB (e2 di (e2 gIx 2.2 2.0) 2.9)|aj (eAp bA (aj 2.14 2.50)) au|eAp bx (aj (eAp bx (aj (ao ae 5) (aj 2.23 au))) (aj (eAp bx (aj 2.23 2.75)) au))|.lst .frz 2.21|aa 2.33 aq|upd H a (.frz o 2.20)|.lst .own 2.7|L.map 2.35|.int k|eAp bx (aj 2.2 (aj (e1 gh 2.9) au))|eAp bz (aj 2.23 au)|dg slb 2.18 (cO (bR cu 2.34 aH)) dR|cT 1.13 2.53 aH|eSl 2.4 (eU (e2 cR 2.23 2.0)) fW|cT 1.13 2.18 2.34|.ref a|wn ob S 2.16|.inr 2.29|.inr 2.42|ms.map D.str|eAp bx (aj (eAp bx (aj 2.14 (aj 2.0 au))) (aj 2.4 au))|eAp bx (aj (eAp bx (aj 2.14 (aj (e1 gh 2.0) au))) 2.5)|bF (aj 2.14 (aj (ao ae 3) (aj 2.4 (aj (ao ae 9) au))))|bF (aj 2.39 au)|cj .own .own ks 2.1|jg gj 3 (ig 3) (e1 gh 2.0)|eMt pO 2.14 (aj 2.23 2.37)|.lst .own (ds.set k 2.46)|wn 2.13 Si (plus M 2.84)|aa 2.53 aq|aa (cT 1.13 (cT 1.13 (ak ae 7) 2.126) aH) aq|I.base.keep b o e n U J|f (.int i t) (.int j u)|wY xs lo hi|.inr rfl|I.tok _|aaL rfl|upd H' D ob|fu X N' scope C a0 H fp|wn ob S' 2.16|eC (.int 4)|bF (aj (eAp bz 2.5) au)|.int L.length|L.take k|ZV _ z|.Subscript e (.Slice af af (ac es) p2) pos|.Attribute o name apos|jT cap tg c e items ρ|bF (aj (ao ae 3) (aj 2.4 (aj 2.23 2.67)))|aa 2.33 (aa 2.31 2.24)|.ref f|upd H a o|I.base.free b o e n J|σ.set i (ac v)|ρ.set i (ac d)|en0 N.length ds|L2.start N J|wF its.length i|bk1 S1 j (Sc 0)|e2 gIx (ao ae 5) 2.45|itS 2.2|ao ae 3|eAp bz 2.152|ao ae 5|e1 gh 2.0|eAp (aZ cV) 2.152|dg slb 2.18 dR (cO 2.34)|aj (e2 jb 2.154 2.0) au|LwE js h 2.157 fs .scr hs 2.76 y6 y7 y8 y9".splitOn "|")[(c.drop 2).toNat!]!).replace "(" " ( ").replace ")" " ) ").splitOn " "|>.foldl (fun s t=>match t,s with|"",s=>s|"(",s=>[]::s|")",l::m::s=>(p l::m)::s|t,l::s=>(a t::l)::s|_,s=>s) [[]]).head!
local macro_rules
 |`(tactic|simp![$x,*]$[$l:location]?)=>`(tactic|simp only[$x,*]$[$l:location]?)
set_option hygiene true
open Lean.Parser.Command Lean.Parser.Term in
local macro_rules
 |`(command|def $i:declId $s:optDeclSig := $v)=>`(command|noncomputable def $i $s := $v)
 |`(command|def $i:declId $s:optDeclSig $[$a:matchAlt]*)=>`(command|noncomputable def $i $s:optDeclSig $[$a:matchAlt]*)
section
def aac:=@decide_eq_false
def aag:=@if_neg
def aal:=@if_true
def aaB:=@decide_eq_true
def abF:=@decide_eq_true_iff
def abQ:=@of_decide_eq_true
def ab2:=@if_false
open Option renaming bind_some->gD,map_some->aao,isSome_iff_exists->abI,getD_some->acL,isSome_map->aeo,getD_none->aez,map->afk,isSome_some->afK,none_or->ags
open PySem renaming Shared->jl,wpAny_bind->Mz,sizeLine->Z0,starEach->Z1,wpAny_pure->Z3,Program->aad,FuncData->aap,compareOp->aar,boot_len->aaw,Around->aaK,mainGlobals->aaZ,backTo->aa1,assignEach->aa4,foldedSetIterable->aba,cellsFrom->abf,binaryOp->abg,attributeBase->abj,sysModules->abp,wpAny_callSpecial?_slot->abt,wpAny_truthy_bool->abu,bootBuiltins->abx,Keyword->abE,NameKind->abH,wpAny_newObj_type->abO,mem_of_lookup->abT,wpAny_field->abV,swapsWith->abX,tupleKind_room_in1->abY,wpAny_passesOwn->abZ,valueAt->ab0,wpAny_holding->ab1,keywordEach->ab9,swapsWithSole->ace,wpAny_mono->aci,wpAny_Call_Name_kw->acj,IsPart->acz,builtinLookup_eq_fast->acF,wpAny_call_entry->acG,swappedStores->acM,behindInMarks->acN
open PySem renaming sliceBounds->acR,backToKw->ac1,call_meetsIn->ac2,call_meets->ac7,isSubtype_type->ac8,wpAny_pyIter_enum->adg,wpAny_pyIter_list->adh,assign->adk,rawInt->adl,tupleKind->ady,holding->adA,wpAny_execs_nil->adF,letOwnedTupleGo->adG,codeAny_mono->adH,PlainAttrs->adI,codeAny_call_builtin->adK,typeLookup_type->adM,codeAny->adR,getItem->adT,sizeLine_eq->adZ,wpAny_of_eq->ad2,PassesOwn->ad4,wpAny_standAt->aec,wpAny_letOwnedTupleGo_enum->aeh,slot_list_getitem->aen,wpAny_rule->aer,callerA->aeu,Paired->aev,pyIter->aex,noFill_tuple_add->aey,wpAny_getItem_list_slice->aeA,wpAny_comprehension_free->aeB,pushCells->aeN,codeAny_builtin->aeO,wpAny_pyNext_list_item->aeQ,seqIndex_of->aeS,wpAny_Call_method_late->aeU,richCompare_meets_room->aeV,isTrue->aeW,pyNext->aeX
open PySem renaming wpAny_pyNext_list_end->aeZ,BindsTo->ae1,typeOf->ae3,newFunctionEnv->ae4,dictSetDefault->ae8,assignInOrder->afn,seq_tuple_add->afo,evalPart_none->afp,wpAny_attempt->afr,concat_meets->afF,wpAny_typeOf->afG,seqIndex?->afH,seqIndex_neg->afI,Fin->afL,scanBound->afN,standAt->afV,list_append->af3,call->agi
open List renaming mem_append->Ls,length_map->Pr,mem_append_right->W2,mem_append_left->ZV,map_cons->ZX,mem_cons->Z2,length_cons->Z4,map_map->Z5,getElem?_cons_succ->Z6,getElem?_cons_zero->Z7,mem_singleton->aab,map->aae,nodup_cons->aah,mem_cons_of_mem->aai,cons_append->aaj,map_congr_left->aak,length_nil->aan,nodup_nil->aaq,findIdx?_eq_some_iff_getElem->aas,map_append->aat,mem_of_getElem?->aau,map_nil->aax,findIdx?_eq_none_iff->aay,length_take->aaD,set_cons_succ->aaF,range->aaG,sublist_append_right->aaI,replicate->aaN,mem_of_mem_take->aaO,mem_cons_self->aaP,set_cons_zero->aaQ,lookup_cons->aaV,nodup_append->aaY,getElem?_set_self->aa0,sublist_append_left->aa2,mem_map->aa3,getElem?_append_right->aa8,Sublist->abb,getElem_mem->abh,mem_of_mem_drop->abi
open List renaming take_of_length_le->abn,getElem_cons_drop->abo,getElem?_append_left->abq,length_reverse->abw,length_drop->abB,drop_length->abC,any_eq_true->abD,find?_cons->abK,append_assoc->abP,all_eq_true->abU,getElem?_set->ab4,drop_eq_getElem_cons->ab8,any_cons->acf,map_take->acg,range_succ_eq_map->acp,drop_eq_nil_of_le->acq,ext_getElem?->acs,take_add_one->acu,mem_range->acx,all_map->acB,take_append_drop->acC,set_append_right->acD,perm_append_comm->acE,getElem?_of_mem->acI,mem_reverse->acJ,take_length->acK,all_cons->acP,length->acQ,filterMap_cons->acS,of_mem_zip->acU,getElem?_eq_none_iff->acW,Perm->ac4,findIdx?_cons->ac5,reverse_cons->ade,eraseIdx_append_of_length_le->adn,drop_of_length_le->ado,map_drop->adq,nil_sublist->adu,getElem?_eq_none->adC,eraseIdxIfInBounds_toArray->adD
open List renaming mem_filter->adE,map_set->adO,mem_filterMap->ad5,getD_eq_getElem?_getD->ael,mem_or_eq_of_mem_set->aes,getElem_inj->aew,set_eq_of_length_le->aeC,zip->aeD,getElem?_replicate->aeG,length_eq_zero_iff->aeK,getElem?_reverse->ae5,drop_zero->ae7,eq_nil_or_concat->afb,concat_eq_append->afc,length_filter_le->afd,findIdx?_append->afm,sum_cons->afs,getElem?_range->afv,length_pos_iff->afy,getElem_of_mem->afz,any_map->afO,pairwise_cons->afQ,drop->afS,take->afT,getElem?_take->afU,take_sublist->af2,map_fst_zip->agd,map_snd_zip->age,map_reverse->agg,length_set->agh,foldl_cons->agj,filter_map->agk,mapM_cons->agr
open PySem.Heap renaming get?_push_of_some->ZS,lt_size->Z8,get?_push_size->Z_,get?_update_other->abl,size_push->abm,SameBut->acb,get?_update_self->acA,IsSliceOf->agq
open PySem.W renaming Frag->ZW,kia_one->abd,fnOf->acZ,kitx_list->ada,kitx_dict->adb,kitOne->adQ,keepIn->adS,kitAny->adU,methodObj->aem,instObj->aeL,OpenLaw->aeM,cellsFrom_some->aeR,lookIn->ae0,codeIn->ae2,kitx_float->afC,kitx_tuple->afD,kitx_none->afZ,kitx_bool->af0,plainGet->af7,kitx_int->af8,kitx_str->af9,kitx_own->af_,findIn->agm,WalkO->agv
open Nat renaming le_refl->ZZ,lt_of_lt_of_le->Z9,ne_of_lt->aam,le_trans->aaC,lt_irrefl->aa7,zero_add->abz,sub_self->abL,le_of_lt->aca,lt_succ_of_lt->acr,ne_of_gt->acy,min_eq_left->acY,le_of_succ_le->adf,lt_succ_self->adt,min_eq_right->adv,le_succ->ad0,zero_le->ad1,lt_or_ge->afP,le_total->afR,min_le_right->aga,succ_ne_self->agc,not_lt_zero->agl
open Bool renaming and_eq_true->aaa,false_ne_true->aav,false_eq_true->aa9,eq_iff_iff->abe,and_self->abS,eq_false_iff->acw,or_eq_true->adL,and_true->aej,not_true->aek,false_and->aeY,not_false->afa,and_eq_true_iff->afh,false_or->afq,not_eq_true'->af5,and_assoc->ago
open Sum renaming inr->aaf,inl->aet
open PySem.PassesOwn renaming never->aaz
open PySem.Value renaming ref->aaA,none->abr,type->ach,int->adw,str->adx,bool->aeq,float->af6,isStrOf->agu
open PySem.Builtin.Slice renaming slicePlaces->aaE,sliceAdjust->aaH,sliceApplied->ab3
open PyProof.Rows renaming slot_tuple_getitem->aaJ,boot_isinstance->aaU,callWith_type1->abv,boot_tuple->abW,envOfC->acO,AllBare->adz,boot_all->adY,assignInOrder_cons->ad3,boot_list->ad9,subscriptTail->aeg,subscriptTail_builtinR->aeT,tail_any->afe,entry_tuple_getitem->aft,IntsAre->afW,sortedS->afY
open Or renaming inr->aaL,inl->aa_
open PySem.Builtin.Str renaming occurrences->aaM,strKind->acT,partsBetween->ac3
open Option.some renaming inj->aaR,injEq->adi
open Ne renaming symm->aaS
open PySem.F renaming slot_dict_get->aaT,plainAttrs_list->aaW,plainAttrs_dict->aaX,slot_tuple_iterator_next->abk,type_dict_get->abG,slot_list_append->abM,type_list_append->abN,called_set->acd,entry_dict_get->aco,args_tuple_add_2->ac0,entry_tuple_add->ac9,slot_tuple_add->adm,args_tuple_iterator_next_1->adV,slot_dict_setdefault->adW,type_dict_setdefault->adX,entry_tuple_iterator_next->ad7,args_dict_get_2->aeH,args_dict_get_3->aeI,slot_list_pop->ae9,type_list_pop->ae_,args_list_append_2->afg,args_object_init_2->afi,entry_list_append->afu,slot_list_append->afJ
open True renaming intro->aa5
open Int renaming toNat_natCast->aa6,emod_lt_of_pos->ac6,emod_nonneg->adN,fmod_eq_emod_of_nonneg->aed,fdiv_eq_ediv_of_nonneg->aee
open PySem.Str renaming ofString->aby,length_append->acv
open PySem.NameKind renaming cell->abA,free->adp
open PySem.Builtin.Tuple renaming tupleExact->abJ,tupleItemsOf->aef
open Function renaming comp->abR
open List.Sublist renaming refl->ab5
open False renaming elim->ab6
open PySem.Builtin.SmallTypes renaming nextOf->ab7,stopIteration->aei,ownedTupleFields->afX,newRecord->agn
open PySem.PyData renaming hasDict->ab_,shownAll->ack,showable->acX,showableAll->ad8,hasDictAll->aep,shown->aeF,depthAll->aeP
open PySem.Calls renaming callWith_builtin->acn,evalArgs_plain->adJ,Name_function_global->aeb,spliced_cons->afE,spliced_nil->af1
open PySem.Obj renaming mapSeq->acH,data_mapDictKeys->afl,data_mapFields->afM
open ForInStep renaming yield->acV
open PyProof.Rows.F renaming plain_set_update_loop->ac_,entry_set_update_loop->aeJ
open Array renaming getElem?_toList->adB,length_toList->adP
open PySem.Heap.IsSliceOf renaming new->ad6
open PySem.Challenge renaming pw_joinback_k12_papers_of_fewest_ways->ad_
open PySem.Paired renaming length->aea
open PySem.SeqAt.EqAt renaming int_int->aeE,int_str->afA,str_int->afB,same->agt
open List.Perm renaming append_left->ae6
open PySem.Around renaming under_plainId->afj
open PySem.Heap.SameBut renaming update->afw
open Std.Legacy.Range renaming forIn_eq_forIn_range'->afx,size->agy
open Classical renaming not_not->af4
open PySem.IsL renaming update->agb
open PySem.SeqAt renaming EqAt->agf
open PySem.Builtin.Frozenset renaming updateFrom->agp
open Prod.mk renaming injEq->agw
open PySem.Shared renaming TypeIs->agx
open Option renaming some->ac,none->af
open Bool renaming true->ag,false->ae
open PySem
variable{XP:(Str->Option Value)->Heap->Prop}{a b it f dx sl:Addr}{A:Around}{osl:Array (Option Value)}{g' g:Array GenState}{items:Array Value}{op:CmpOp}{d:DefRec}{d':Drawn}{env:Env}{e tg elt target:Expr}{h h' base:Heap}{C:Int->Int->Prop}{pins:List (Addr×Obj)}{z:List (List Str)}{U:List (Option Expr)}{us:List (Str×Nat)}{ch M fp L:List Addr}{es J F ifs elts:List Expr}{cs sp:List Int}{p js:List Nat}{body:List Stmt}{N ps l ks I ns N':List Str}{its:List Value}{t' i j n tk m x1:Nat}{ob pr:Nat->Bool}{o:Obj}{pos pos' apos p2 cpos tpos p1 q1 q2 ypos:Pos}{prog:Program}{scope:Scope}{s:Shared}{x y qual Z name:Str}{mg:Str->Option Value}{q:Str->Option abH}{T:String}{κ α β ι:Type}{u v oc v' u':Value}{E:Value->Shared->Prop}{Q:Value->jl->Prop}{w:World}{YP:World->Heap->Prop}{P:aad}{fd:aap}{s':jl}
namespace L2
open PySem PySem.Spec PyProof.Rows
abbrev Key:=Sum Int Str
def v5:Key->Value->Bool
 |.inl k,v=>Value.isInt k v
 |.inr x,v=>agu x v
def ZC(w:World):Key->Int
 |.inl k=>hashInt k
 |.inr x=>hashStr w x
def eV:∀{k:Key}{v:Value},v5 k v=ag->(∃i t,k=aet i/\v=adw i t)∨(∃x t,k=aaf x/\v=adx x t)
 |.inl i,v,h=>by
  obtain⟨t,e⟩:=Value.isInt_shape (k:=i) (v:=v) h;exact .inl ⟨i,t,rfl,e⟩
 |.inr x,v,h=>by
  obtain⟨t,e⟩:=Value.isStrOf_shape (x:=x) (v:=v) h;exact .inr ⟨x,t,rfl,e⟩
def Ke(i:Int)(t:Tok):v5 (.inl i) (.int i t)=ag:=by simp[v5,Value.isInt]
def J7(x:Str)(t:Tok):v5 (.inr x) (.str x t)=ag:=by simp[v5,agu]
def V4(a b:Int):decide ((aet a:Key)=aet b)=(a==b):=by
 by_cases e:a=b
 .subst e;simp
 .have h:¬(aet a:Key)=aet b:=λq=>e (Sum.inl.inj q)
  rw[aac h];exact(beq_eq_false_iff_ne.mpr e).symm
def VP(a b:Str):decide ((aaf a:Key)=aaf b)=decide (a=b):=by
 by_cases e:a=b
 .subst e;simp
 .have h:¬(aaf a:Key)=aaf b:=λq=>e (Sum.inr.inj q)
  rw[aac h,aac e]
def Vu(a:Int)(b:Str):decide ((aet a:Key)=aaf b)=ae:=aac (λq=>nomatch q)
def UW(a:Str)(b:Int):decide ((aaf a:Key)=aet b)=ae:=aac (λq=>nomatch q)
noncomputable def bL(prog:aad)(w:World):PySem.KeyKind prog w Key where
 is:=v5
 hash:=ZC w
 inj:=λv a b Y U=>by
  rcases eV Y with⟨i,t,rfl,rfl⟩|⟨x,t,rfl,rfl⟩
  .rcases eV U with⟨j,u,rfl,e⟩|⟨y,u,rfl,e⟩
   .injection e with e1 _;rw[e1]
   .exact nomatch e
  .rcases eV U with⟨j,u,rfl,e⟩|⟨y,u,rfl,e⟩
   .exact nomatch e
   .injection e with e1 _;rw[e1]
 byValue:=λk v h=>by
  rcases eV h with⟨i,t,rfl,rfl⟩|⟨x,t,rfl,rfl⟩<;>rfl
 pyHash:=λZ h=>by
  rcases eV Z with⟨i,t,rfl,rfl⟩|⟨x,t,rfl,rfl⟩
  .exact wpAny_pyHash_int h
  .exact wpAny_pyHash_str h
 eqBool:=λhu Z h=>by
  rcases eV hu with⟨i,t,rfl,rfl⟩|⟨x,t,rfl,rfl⟩
  .rcases eV Z with⟨j,u,rfl,rfl⟩|⟨y,u,rfl,rfl⟩
   .rw[V4]at h;exact wpAny_eqBool_int h
   .rw[Vu]at h;exact afA i t y u _ _ _ _ h
  .rcases eV Z with⟨j,u,rfl,rfl⟩|⟨y,u,rfl,rfl⟩
   .rw[UW]at h;exact afB x t j u _ _ _ _ h
   .rw[VP]at h;exact wpAny_eqBool_str h
 «strs»:=λk x t v h=>by
  rcases eV h with⟨i,u,rfl,e⟩|⟨y,u,rfl,e⟩
  .exact nomatch e
  .injection e with e1 _
   subst e1;cases v<;>rfl
def Cj(prog:aad)(w:World)(i:Int)(t:Tok):(bL prog w).is (.inl i) (.int i t)=ag:=Ke i t
def Ec(prog:aad)(w:World)(x:Str)(t:Tok):(bL prog w).is (.inr x) (.str x t)=ag:=J7 x t
inductive V where
 |non|bl (b:Bool)|int (i:Int)|str (x:Str)|byt (b:Array UInt8)|flt (b:UInt64)|ref (a:Addr)|ty (n:String)
 deriving DecidableEq
def RelV:V->Value->Prop
 |.non,u=>u=abr
 |.bl b,u=>u=aeq b
 |.int i,u=>∃t,u=adw i t
 |.str x,u=>∃t,u=adx x t
 |.byt b,u=>∃t,u=Value.bytes b t
 |.flt b,u=>∃t,u=af6 b t
 |.ref a,u=>u=aaA a
 |.ty n,u=>u=ach n
noncomputable abbrev Vals:List V->List Value->Prop:=aev RelV
variable{xs:List V}{us:List Value}
def Vals.length(r:Vals xs us):xs.length=us.length:=aea r
def Vals.get:∀{xs:List V}{us:List Value}{i:Nat}{x:V},Vals xs us->xs[i]? =ac x->∃u,us[i]? =ac u/\RelV x u
 |_,_,_,_,.nil,e=>by simp at e
 |_,_,0,_,.cons r _,e=>by simp at e;subst e;exact⟨_,rfl,r⟩
 |_,_,i+1,x,.cons _ t,e=>by
  obtain⟨u,h1,h2⟩:=Vals.get (i:=i) (x:=x) t (by simpa using e);exact⟨u,by simpa using h1,h2⟩
def Vals.set{x:V}(r:RelV x u):∀{xs:List V}{us:List Value}(i:Nat),Vals xs us->Vals (xs.set i x) (us.set i u)
 |_,_,_,.nil=>.nil
 |_,_,0,.cons _ t=>.cons r t
 |_,_,i+1,.cons q t=>.cons q (Vals.set r i t)
def Vals.append:∀{xs ys:List V}{us q:List Value},Vals xs us->Vals ys q->Vals (xs++ys) (us++q)
 |_,_,_,_,.nil,s=>s
 |_,_,_,_,.cons r t,s=>.cons r (Vals.append t s)
def Vals.take:∀{xs:List V}{us:List Value}(n:Nat),Vals xs us->Vals (xs.take n) (us.take n)
 |_,_,0,_=>.nil
 |_,_,_+1,.nil=>.nil
 |_,_,n+1,.cons r t=>.cons r (Vals.take n t)
def Vals.drop:∀{xs:List V}{us:List Value}(n:Nat),Vals xs us->Vals (xs.drop n) (us.drop n)
 |_,_,0,r=>r
 |_,_,_+1,.nil=>.nil
 |_,_,n+1,.cons _ t=>Vals.drop n t
def mU:Option V->Option Value->Prop
 |some v,ac u=>RelV v u
 |none,af=>True
 |_,_=>False
def KV:List (κ×V)->List (κ×Value)->Prop:=aev λ(p:κ×V)(q:κ×Value)=>p.1=q.1/\RelV p.2 q.2
def kV:Key->V
 |.inl i=>.int i
 |.inr x=>.str x
inductive HO where
 |lst (xs:List V)
 |tup (xs:List V)
 |dK (kvs:List (Key×V))|dT (kvs:List (List Key×V))
 |set (S:Int->Bool) (n:Nat)
 |ins (C dx:Addr) (fs:List (Str×V))
 |own (x:Addr)
 |xd (fs:List (Str×V))
 |met (f x:Addr)
 |rng (lo hi:Int)
 |frz (o:Obj) (u:HO)
 |tbl (ps:Array Value)
 |ext (φ:Heap->Prop)
abbrev Hp:=Addr->Option HO
def upd(H:Hp)(a:Addr)(o:HO):Hp:=λb=>if b=a then ac o else H b
variable{H:Hp}{o:HO}
def aR:upd H a o a=ac o:=by unfold upd;rw[if_pos rfl]
def aO(h:b≠a):upd H a o b=H b:=by unfold upd;rw[aag h]
def lN{u:HO}(h:H a=ac o)(h':H b=ac u)(d:o≠u):a≠b:=by
 intro e;subst e;rw[h]at h';exact d (aaR h')
def bC(h:H a=ac o)(h':H b=af):a≠b:=by
 intro e;subst e;rw[h]at h';cases h'
def mJ(h:Heap)(a:Addr)(items:Array Value):Prop:=∃o,h.get? a=ac o/\o.cls= .type "tuple"/\∃n,o.data= .seq items n/\o.dict=af
def mJ.new(h:Heap)(items:Array Value):mJ (h.push {cls:=.type "tuple",data:=.seq items}) h.objs.size items:=⟨_,Z_ _ rfl,rfl,_,rfl,rfl⟩
def mJ.t(x:mJ h a items):IsTup h a items:=let⟨o,e,c,n,d,_⟩:=x;⟨o,e,c,n,d⟩
section
variable(P:Program)(w:World)
def cU(H:Hp)(h:Heap)(a:Addr):HO->Prop
 |.lst xs=>xs.length<=Z0/\∃(its:List Value)(n:Nat),Vals xs its/\h.get? a=ac {cls:=.type "list",data:=.seq its.toArray n}
 |.tup xs=>xs.length<=Z0/\∃its:List Value,Vals xs its/\mJ h a its.toArray
 |.dK kvs=>kvs.length<=Z0/\(a==abp)=ae/\∃J,KV kvs J/\h.DictOf (bL P w) a J
 |.dT kvs=>kvs.length<=Z0/\(a==abp)=ae/\∃xs:List (List Key×Addr×Value),
  aev (λ(p:List Key×V)(q:List Key×Addr×Value)=>p.1=q.1/\H q.2.1=ac (.tup (p.1.map kV))/\RelV p.2 q.2.2) kvs xs/\
  ∃o es Z,h.get? a=ac o/\o.ExactDict/\o.data= .dict es Z/\es.toList=xs.map (entryOfKey (ady (bL P w)))/\(xs.map (·.1)).Nodup
 |.set S n=>h.SetOf (intKind P w) a S n
 |.ins C dx fs=>H dx=ac (.own a)/\fs.length<=1000/\dx≠a/\h.get? a=ac (aeL C dx)/\
  ∃D,h.Ns1 dx D/\(∀f,mU (fs.lookup f) (D f))/\PySem.Within D (fs.map (·.1))
 |.own _=>∃o,h.get? a=ac o
 |.xd fs=>∃D,h.Ns1 a D/\∀f,mU (fs.lookup f) (D f)
 |.rng lo hi=>∃t u v,h.get? a=ac {cls:=.type "range",data:=.fields #[.int lo t,.int hi u,.int 1 v]}
 |.frz o u=>h.get? a=ac o/\cU H h a u
 |.tbl ps=>h.get? a=ac {cls:=.none,data:=.fields ps}
 |.met f x=>h.get? a=ac (aem (.ref f) (.ref x))
 |.ext I=>I h/\(∃o,h.get? a=ac o)/\∀h1 h2:Heap,I h1->(∀o,h1.get? a=ac o->h2.get? a=ac o)->I h2
def HOk(H:Hp)(h:Heap):Prop:=∀a o,H a=ac o->cU P w H h a o
end
variable{P:Program}
def cU.lt(x:cU P w H h a o):a<h.objs.size:=by
 cases o with
 |lst xs=>obtain⟨_,_,_,_,e⟩:=x;exact Z8 e
 |tup xs=>obtain⟨_,_,_,p⟩:=x;exact p.t.lt
 |dK kvs=>obtain⟨_,_,_,_,o,_,_,e,_⟩:=x;exact Z8 e
 |dT kvs=>obtain⟨_,_,_,_,o,_,_,e,_⟩:=x;exact Z8 e
 |set S n=>obtain⟨o,_,_,_,e,_⟩:=x;exact Z8 e
 |ins C dx fs=>obtain⟨_,_,_,e,_⟩:=x;exact Z8 e
 |own y=>obtain⟨_,e⟩:=x;exact Z8 e
 |xd fs=>obtain⟨_,⟨_,_,_,e,_⟩,_⟩:=x;exact Z8 e
 |rng lo hi=>obtain⟨_,_,_,e⟩:=x;exact Z8 e
 |frz ob u=>obtain⟨e,_⟩:=x;exact Z8 e
 |tbl ps=>exact Z8 (show h.get? a=ac _ from x)
 |met f y=>exact Z8 (show h.get? a=ac _ from x)
 |ext I=>obtain⟨_,⟨_,e⟩,_⟩:=x;exact Z8 e
def Paired.mapP{F G:α->β->Prop}:∀{l₁:List α}{l₂:List β},aev F l₁ l₂->(∀a b,F a b->G a b)->aev G l₁ l₂
 |_,_,.nil,_=>.nil
 |_,_,.cons r t,f=>.cons (f _ _ r) (Paired.mapP t f)
variable{H':Hp}
def cU.stay(x:cU P w H h a o)(k:∀b u,(b=a∨H b=ac (.own a))->h.get? b=ac u->h'.get? b=ac u)
  (F:∀b,H b=ac (.own a)->H' b=ac (.own a)) (U:∀b xs,H b=ac 2.54->H' b=ac 2.54):cU P w H' h' a o:=by
 induction o with
 |lst xs=>obtain⟨z,its,n,r,e⟩:=x;exact⟨z,its,n,r,k _ _ (.inl rfl) e⟩
 |tup xs=>obtain⟨z,its,r,ob,e,c⟩:=x;exact⟨z,its,r,ob,k _ _ (.inl rfl) e,c⟩
 |dK kvs=>obtain⟨z,y,J,r,ob,es,Z,e,c⟩:=x;exact⟨z,y,J,r,ob,es,Z,k _ _ (.inl rfl) e,c⟩
 |dT kvs=>
  obtain⟨z,y,xs,r,ob,es,Z,e,c⟩:=x;exact⟨z,y,xs,Paired.mapP r λp q z=>⟨z.1,U _ _ z.2.1,z.2.2⟩,ob,es,Z,k _ _ 2.81 e,c⟩
 |set S n=>obtain⟨ob,es,Z,t,e,c⟩:=x;exact⟨ob,es,Z,t,k _ _ (.inl rfl) e,c⟩
 |ins C dx fs=>
  obtain⟨d,z,O,e,D,⟨od,es,Z,e2,c⟩,r⟩:=x;exact⟨F _ d,z,O,k _ _ 2.81 e,D,⟨od,es,Z,k _ _ (.inr d) e2,c⟩,r⟩
 |own y=>obtain⟨ob,e⟩:=x;exact⟨ob,k _ _ (.inl rfl) e⟩
 |xd fs=>obtain⟨D,⟨od,es,Z,e,c⟩,r⟩:=x;exact⟨D,⟨od,es,Z,k _ _ (.inl rfl) e,c⟩,r⟩
 |rng lo hi=>obtain⟨t,u,v,e⟩:=x;exact⟨t,u,v,k _ _ (.inl rfl) e⟩
 |frz ob u V=>obtain⟨e,q⟩:=x;exact⟨k _ _ (.inl rfl) e,V q⟩
 |tbl ps=>
  have e:h.get? a=ac {cls:=.none,data:=.fields ps}:=x;show h'.get? a=ac {cls:=.none,data:=.fields ps};exact k a _ 2.81 e
 |met f y=>
  have e:h.get? a=ac (aem 2.219 (.ref y)):=x;show h'.get? a=ac (aem 2.219 (.ref y));exact k a _ 2.81 e
 |ext I=>obtain⟨p,⟨o,e⟩,st⟩:=x;exact⟨st _ _ p λo q=>k _ _ (.inl rfl) q,⟨o,k _ _ (.inl rfl) e⟩,st⟩
def HOk.lt(x:HOk P w H h)(e:H a=ac o):a<h.objs.size:=(x a o e).lt
def HOk.fresh(x:HOk P w H h)(e:h.objs.size<=a):H a=af:=by
 cases q:H a with
 |none=>rfl
 |some u=>exact absurd (Z9 (x.lt q) e) (aa7 _)
def HOk.kept(x:HOk P w H h)(k:∀b u,h.get? b=ac u->h'.get? b=ac u):HOk P w H h':=λa o e=>
 (x a o e).stay (λb u _ q=>k b u q) (λ_ q=>q) λ_ _ q=>q
def HOk.laid(x:HOk P w H h)(k:∀b u,h.get? b=ac u->h'.get? b=ac u)(V:h.objs.size<=a)(new:cU P w 2.220 h' a o):HOk P w 2.220 h':=λb u e=>by
 have hn:=x.fresh V;by_cases U:b=a
 .subst U;rw[aR]at e;cases e;exact new
 .rw[aO U]at e
  exact(x b u e).stay (λc v _ q=>k c v q) (λc q=>by rw[aO (bC q hn)];exact q) λc xs q=>by rw[aO (bC q hn)];exact q
def Rd(H:Hp)(a:Addr)(u:HO):Prop:=H a=ac u∨∃o,H a=ac (.frz o u)
def Rd.ok{P:aad}{u:HO}(r:Rd H a u)(x:HOk P w H h):cU P w H h a u:=by
 rcases r with r|⟨o,r⟩
 .exact x a u r
 .obtain⟨_,q⟩:=x a _ r
  exact q
def Mut:Option HO->Prop
 |some (.lst _)=>True
 |some (.dK _)=>True
 |some (.dT _)=>True
 |some (.set _ _)=>True
 |some (.ins _ _ _)=>True
 |some (.ext _)=>True
 |_=>False
variable{x e:Addr}{o':HO}
def HOk.write(ok:HOk P w H h)(mu:Mut (H x))(V:e=x∨H e=ac (.own x))(k:∀b u,b≠e->h.get? b=ac u->h'.get? b=ac u)(F:∃u,h'.get? e=ac u)
  (new:cU P w (upd H x o') h' x o'):HOk P w (upd H x o') h':=λb u q=>by
 have I:∀c y,H c=ac (.own y)->c≠x:=λc y r z=>by subst z;rw[r]at mu;exact mu
 have J:∀c xs,H c=ac 2.54->c≠x:=λc xs r z=>by subst z;rw[r]at mu;exact mu
 by_cases U:b=x
 .subst U;rw[aR]at q;cases q;exact new
 .rw[aO U]at q
  by_cases D:b=e
  .have q':H b=ac (.own x):=by
    rcases V with z|z
    .exact absurd (D.trans z) U
    .rw[D];exact z
   rw[q]at q';cases q';obtain⟨v,Z⟩:=F;exact⟨v,by rw[D];exact Z⟩
  .refine(ok b u q).stay (λc v O r=>k c v ?_ r) (λc r=>by rw[aO (I c b r)];exact r) λc xs r=>by rw[aO (J c xs r)];exact r
   rcases O with rfl|O
   .exact D
   .rintro rfl
    rcases V with z|z
    .exact I c b O z
    .rw[O]at z;cases z;exact U rfl
structure Un(fs ex:List Addr)(H H':Hp)(h h':Heap):Prop where
 keep:∀b o,h.get? b=ac o->H b=af->b∉fs->b∉ex->h'.get? b=ac o
 slot:∀b o,h.get? b=ac o->H b=af->b∈fs->b∉ex->∃sl,h'.get? b=ac {o with slots:=sl}
 free:∀b o,h.get? b=ac o->H b=af->b∉ex->H' b=af
 there:∀b o,h.get? b=ac o->b∉ex->∃o',h'.get? b=ac o'
 tups:∀b xs,H b=ac 2.54->H' b=ac 2.54
 frzs:∀b o u,H b=ac (.frz o u)->H' b=ac (.frz o u)
 tbls:∀b ps,H b=ac (.tbl ps)->∃more,H' b=ac (.tbl (ps++more))
section
variable{fs fs' ex ex':List Addr}{H H1 H2:Hp}{h h1 h2 h':Heap}{a x e:Addr}{o:HO}
def Un.any(u:Un fs ex H H1 h h1){b:Addr}{ob:Obj}(q:h.get? b=ac ob)(n:H b=af)(J:b∉ex):∃sl,h1.get? b=ac {ob with slots:=sl}:=by
 by_cases U:b∈fs
 .exact u.slot b ob q n U J
 .exact⟨ob.slots,u.keep b ob q n U J⟩
def Un.kept(k:∀b u,h.get? b=ac u->h'.get? b=ac u):Un fs ex H H h h':=
 ⟨λb ob q _ _ _=>k b ob q,λb ob q _ _ _=>⟨ob.slots,k b ob q⟩,λ_ _ _ n _=>n,λb ob q _=>⟨ob,k b ob q⟩,λ_ _ q=>q,λ_ _ _ q=>q,λ_ ps q=>⟨#[],by rw[q];simp⟩⟩
def Un.refl:Un fs ex H H h h:=Un.kept λ_ _ q=>q
def Un.laid(k:∀b u,h.get? b=ac u->h'.get? b=ac u)(V:h.objs.size<=a)(hn:H a=af):Un fs ex H 2.220 h h' where
 keep:=λb u q _ _ _=>k b u q
 slot:=λb u q _ _ _=>⟨u.slots,k b u q⟩
 free:=λb u q n _=>by rw[aO (aam (Z9 (Z8 q) V))];exact n
 there:=λb u q _=>⟨u,k b u q⟩
 tups:=λb xs q=>by rw[aO (bC q hn)];exact q
 frzs:=λb u xs q=>by rw[aO (bC q hn)];exact q
 tbls:=λb ps q=>⟨#[],by rw[aO (bC q hn),q];simp⟩
def Un.write(mu:Mut (H x))(V:e=x∨H e=ac (.own x))(k:∀b u,b≠e->h.get? b=ac u->h'.get? b=ac u)(F:∃u,h'.get? e=ac u):Un fs ex H (upd H x o) h h':=by
 have J:∀b,H b=af->b≠x:=λb n z=>by subst z;rw[n]at mu;exact mu
 have U:∀b,H b=af->b≠e:=λb n z=>by
  subst z;rcases V with r|r
  .exact J b n r
  .rw[n]at r;cases r
 have I:∀b u,H b=ac u->¬Mut (ac u)->b≠x:=λb u q Z z=>by subst z;rw[q]at mu;exact Z mu
 refine⟨λb u q n _ _=>k b u (U b n) q,λb u q n _ _=>⟨u.slots,k b u (U b n) q⟩,λb u q n _=>by rw[aO (J b n)];exact n,λb u q _=>?_,
  λb xs q=>by rw[aO (I b _ q λz=>z)];exact q,λb u xs q=>by rw[aO (I b _ q λz=>z)];exact q,λb ps q=>⟨#[],by rw[aO (I b _ q λz=>z),q];simp⟩⟩
 by_cases D:b=e
 .subst D;exact F
 .exact⟨u,k b u D q⟩
end
def trk(h:Heap)(H:Hp):List Addr:=(aaG h.objs.size).filter λa=>(H a).isSome
def BL(h:Heap)(H:Hp):Heap:=PySem.W.hideAll h (trk h H)
def JV(h:Heap)(H:Hp):(BL h H).objs.size=h.objs.size:=PySem.W.hideAll_size _ _
variable{o:Obj}
def LC(e:h.get? b=ac o)(n:H b=af):(BL h H).get? b=ac o:=
 PySem.W.hideAll_get _ e λJ=>by
  have q:(H b).isSome=ag:=(adE.mp J).2;rw[n]at q;simp at q
def Q6(e:(BL h H).get? b=ac o):h.get? b=ac o/\H b=af:=by
 have e':h.get? b=ac o:=PySem.W.of_hideAll (trk h H) e;refine⟨e',?_⟩;cases q:H b with
 |none=>rfl
 |some x=>
  have J:b∈trk h H:=adE.mpr ⟨acx.mpr (Z8 e'),by simp[q]⟩;have z:(BL h H).get? b=af:=PySem.W.hideAll_none (trk h H) J;rw[z]at e;cases e
def S8(g h:Heap)(L:Addr):List (Addr×Obj):=(aaG h.objs.size).filterMap λa=>if a=L∨(g.get? a).isSome=ag then af else(h.get? a).map λo=>(a,o)
def rest(g h:Heap)(L d:Addr):List (Addr×Obj):=(S8 g h L).filter λp=>decide (p.1≠d)
structure Mod(K:PySem.W.Frag)(mg:Str->Option Value)(base:Heap):Prop where
 kin:K.In base
 glob:base.Ns aaZ mg
 blt:∃mb,base.Ns builtinsNs mb/\∀x:Str,x≠"__name__"->mb x=abx x
 nolimit:base.NoLimit
structure Cx where
 prog:aad
 w:World
 K:ZW
 mg:Str->Option Value
 base:Heap
 A:aaK
 N:List Str
 s₀:jl
 H₀:Hp
 env:Env
 outer:List Env
 stack:List Env
 ex:List Addr
 fn:Str->Bool
 calm:Bool
 pn:List (Addr×Obj)
 xe:Value->jl->Prop
def frs(l:List Env):List Addr:=l.filterMap (·.frame)
noncomputable abbrev Cx.fs(X:Cx):List Addr:=frs X.outer
def Vis(z:Scope)(x:Str):Prop:=z.names.lookup x=ac .local∨z.names.lookup x=ac .cell∨z.names.lookup x=ac .free
def Loc(z:Scope)(x:Str):Prop:=z.names.lookup x=ac .local∨z.names.lookup x=ac .cell
def Look(env:Env)(h:Heap)(m:Str->Option Value)(x:Str)(u:Value):Prop:=
 (env.kindOf x=ac .local/\m x=ac u)∨((env.kindOf x=ac .cell∨env.kindOf x=ac .free)/\∃c,env.cells.lookup x=ac c/\h.IsCell c (ac u))
structure Cx.Ok(X:Cx):Prop where
 mod:Mod X.K X.mg X.base
 kind:X.env.scope.kind= .function
 glob:X.env.globals=aaZ
 blt:X.env.builtins=builtinsNs
 above:X.s₀.heap.objs.size<=X.env.locals
 inj:∀x y c,X.env.cells.lookup x=ac c->X.env.cells.lookup y=ac c->x=y
 has:∀x,(X.env.kindOf x=ac .cell∨X.env.kindOf x=ac .free)->∃c,X.env.cells.lookup x=ac c
 cab:∀x c,X.fn x=ag->X.env.cells.lookup x=ac c->X.s₀.heap.objs.size<=c
 hd:X.calm=ag->X.A.handled=af
 frames:X.A.frames=ac X.stack
 stk:X.stack=X.outer∨(X.stack=X.env::X.outer/\X.env.frame=ac X.env.locals)
 exf:∀b∈X.ex,b≠X.env.locals/\∀x c,X.env.cells.lookup x=ac c->c≠b
 bs:∀b o,X.base.get? b=ac o->X.s₀.heap.get? b=ac o/\X.H₀ b=af
 bsz:X.base.objs.size<=X.s₀.heap.objs.size
 noex:∀b o,X.base.get? b=ac o->b∉X.ex
 exfs:∀b∈X.ex,b∉X.fs
 funs:X.s₀.heap.FunFrames X.base X.outer
 frf:∀b∈X.fs,X.H₀ b=af
structure Inv(X:Cx)(pins:List (Addr×Obj))(σ:List (Option V))(H:Hp)(s:Shared):Prop where
 ok:X.Ok
 os:s.os=X.s₀.os
 bare:adz s.gens
 base:Un X.fs X.ex X.H₀ H X.s₀.heap s.heap
 loc:∃m,s.heap.Ns X.env.locals m/\∀(i:Nat)(x:Str)(v:V),X.N[i]? =ac x->σ[i]? =ac (ac v)->Vis X.env.scope x->∃u,RelV v u/\Look X.env s.heap m x u
 cell:∀x c,X.env.cells.lookup x=ac c->∃v,s.heap.IsCell c v
 free:H X.env.locals=af
 freeC:∀x c,X.env.cells.lookup x=ac c->H c=af
 pin:∀p∈X.pn++pins,s.heap.get? p.1=ac p.2/\H p.1=af/\p.1≠X.env.locals/\p.1∉X.fs/\∀v,p.2.data≠.cell v
 hok:HOk X.prog X.w H s.heap
 len:σ.length=X.N.length
variable{X:Cx}
def Cx.Ok.nofr(ok:X.Ok)(e:X.base.get? b=ac o):b∉X.fs:=λU=>by
 have:=(ok.funs.mem U).1;rw[e]at this;cases this
variable{σ:List (Option V)}
def Inv.bs(I:Inv X pins σ H s):∀b o,X.base.get? b=ac o->s.heap.get? b=ac o/\H b=af:=λb o e=>
 ⟨I.base.keep b o (I.ok.bs b o e).1 (I.ok.bs b o e).2 (I.ok.nofr e) (I.ok.noex b o e),I.base.free b o (I.ok.bs b o e).1 (I.ok.bs b o e).2 (I.ok.noex b o e)⟩
def Inv.bk(I:Inv X pins σ H s):∀b o,X.base.get? b=ac o->s.heap.get? b=ac o:=λb o e=>(I.bs b o e).1
def Inv.mod(I:Inv X pins σ H s):Mod X.K X.mg X.base:=I.ok.mod
def Inv.kIn(I:Inv X pins σ H s):X.K.In s.heap:=I.ok.mod.kin.keeps I.bk
def Inv.lt(I:Inv X pins σ H s):X.env.locals<s.heap.objs.size:=let⟨_,hn,_⟩:=I.loc;hn.lt
def Inv.sz(I:Inv X pins σ H s):X.s₀.heap.objs.size<=s.heap.objs.size:=aaC I.ok.above (aca I.lt)
def Inv.nofs(I:Inv X pins σ H s)(h:s.heap.objs.size<=a):a∉X.fs:=λU=>by
 obtain⟨_,o,F,_⟩:=I.ok.funs.mem U;exact absurd (Z9 (Z8 F) (aaC I.sz h)) (aa7 _)
def Inv.cne(I:Inv X pins σ H s):∀x c,X.env.cells.lookup x=ac c->c≠X.env.locals:=λx c e z=>by
 obtain⟨v,o,F,hd⟩:=I.cell x c e;obtain⟨m,⟨o',es,Z,D,O,_⟩,_⟩:=I.loc;rw[z,D]at F;cases F;rw[O]at hd;cases hd
def Inv.funs(I:Inv X pins σ H s):s.heap.FunFrames X.base X.outer:=by
 have all:∀(l:List Env),(∀b∈frs l,b∈X.fs)->X.s₀.heap.FunFrames X.base l->s.heap.FunFrames X.base l:=by
  intro l
  induction l with
  |nil=>intro _ _;trivial
  |cons env r O=>
   intro hs Y;obtain⟨J,⟨L,o,D,hn,F,hd⟩,Z⟩:=Y;have q:L∈X.fs:=hs L (by unfold frs;rw[acS,D];exact aaP);obtain⟨sl,e⟩:=I.base.slot L o F (I.ok.frf L q) q λz=>I.ok.exfs L z q;exact⟨J,⟨L,_,D,hn,e,hd⟩,O (λb U=>hs b (by unfold frs;rw[acS,D];exact aai _ U)) Z⟩
 exact all X.outer (λ_ U=>U) I.ok.funs
def Inv.stack(I:Inv X pins σ H s):s.heap.FunFrames X.base X.stack:=by
 rcases I.ok.stk with e|⟨e,Y⟩
 .rw[e];exact I.funs
 .rw[e]
  obtain⟨m,hn,_⟩:=I.loc;refine .cons (by rw[I.ok.kind];decide) Y hn ?_ I.funs;exact Heap.get?_none_of_le (aaC I.ok.bsz I.ok.above)
def Inv.stkSub(I:Inv X pins σ H s):∀b∈frs X.stack,b∈X.env.locals::X.fs:=λb U=>by
 rcases I.ok.stk with e|⟨e,Y⟩
 .rw[e]at U;exact aai _ U
 .rw[e]at U
  unfold frs at U;rw[acS,Y]at U;exact U
def Inv.stkFree(I:Inv X pins σ H s):∀b∈frs X.stack,H b=af:=λb U=>by
 rcases Z2.mp (I.stkSub b U)with e|U
 .rw[e];exact I.free
 .obtain⟨_,o,ho,_⟩:=I.ok.funs.mem U
  exact I.base.free b o ho (I.ok.frf b U) λz=>I.ok.exfs b z U
def Inv.step(I:Inv X pins σ H s)
  (Z:∀b∈ch,(b∈X.ex∨X.s₀.heap.objs.size<=b)/\b≠X.env.locals/\(∀x c,X.env.cells.lookup x=ac c->c≠b)/\∀p∈X.pn++pins,p.1≠b)
  (keep:∀b o,b≠X.env.locals->b∉X.fs->b∉ch->s.heap.get? b=ac o->H b=af->h'.get? b=ac o)
  (slot:∀b o,b≠X.env.locals->b∈X.fs->b∉ch->s.heap.get? b=ac o->H b=af->∃sl,h'.get? b=ac {o with slots:=sl}) (free:∀b o,b∉ch->s.heap.get? b=ac o->H b=af->H' b=af)
  (there:∀b o,b∉ch->s.heap.get? b=ac o->∃o',h'.get? b=ac o')
  (tups:∀b xs,H b=ac 2.54->H' b=ac 2.54) (frzs:∀b o u,H b=ac (.frz o u)->H' b=ac (.frz o u)) (tbls:∀b ps,H b=ac (.tbl ps)->∃more,H' b=ac (.tbl (ps++more)))
  (ns:∀m,s.heap.Ns X.env.locals m->h'.Ns X.env.locals m) (hok:HOk X.prog X.w H' h') (hg:adz g') :
  Inv X pins σ H' {s with heap:=h',gens:=g',drawn:=d',toks:=t'}:=by
 have a3:∀b o,X.s₀.heap.get? b=ac o->b≠X.env.locals:=λb o e=>aam 2.122;have a2:∀b o,X.s₀.heap.get? b=ac o->b∉X.ex->b∉ch:=λb o e J U=>by
  rcases(Z b U).1 with z|z
  .exact J z
  .exact absurd (Z9 (Z8 e) z) (aa7 _)
 have a0:∀x c,X.env.cells.lookup x=ac c->∀v,s.heap.IsCell c v->h'.IsCell c v:=λx c e v ⟨o,F,hd⟩=>by
  have a1:c∉ch:=λz=>(Z c z).2.2.1 x c e rfl;by_cases O:c∈X.fs
  .obtain⟨sl,q⟩:=slot c o (I.cne x c e) O a1 F (I.freeC x c e)
   exact⟨_,q,hd⟩
  .exact⟨o,keep c o (I.cne x c e) O a1 F (I.freeC x c e),hd⟩
 refine⟨I.ok,I.os,hg,⟨λb o e n U J=>?_,λb o e n U J=>?_,λb o e n J=>?_,λb o e J=>?_,λb xs e=>tups b xs (I.base.tups b xs e),λb o xs e=>frzs b o xs (I.base.frzs b o xs e),λb ps e=>?_⟩,?_,λx c e=>?_,?_,λx c e=>?_,λp V=>?_,hok,I.len⟩
 .exact keep b o (a3 b o e) U (a2 b o e J) 2.200 2.221
 .obtain⟨sl,e1⟩:=I.base.slot b o e n U J
  obtain⟨a4,e2⟩:=slot b _ (a3 b o e) U (a2 b o e J) e1 2.221;exact⟨a4,e2⟩
 .obtain⟨o',e1⟩:=I.base.there b o e J
  exact free b o' (a2 b o e J) e1 2.221
 .obtain⟨o',e1⟩:=I.base.there b o e J
  exact there b o' (a2 b o e J) e1
 .obtain⟨m1,e1⟩:=I.base.tbls b ps e
  obtain⟨D,e2⟩:=tbls b _ e1;exact⟨m1++D,by rw[e2,Array.append_assoc]⟩
 .obtain⟨m,hn,hl⟩:=I.loc
  refine⟨m,ns m hn,λi x v e1 e2 Y=>?_⟩;obtain⟨u,r,l⟩:=hl i x v e1 e2 Y;refine⟨u,r,?_⟩;rcases l with l|⟨k,c,e,z⟩
  .exact .inl l
  .exact .inr ⟨k,c,e,a0 x c e _ z⟩
 .obtain⟨v,z⟩:=I.cell x c e
  exact⟨v,a0 x c e v z⟩
 .obtain⟨m,⟨o,_,_,F,_⟩,_⟩:=I.loc
  exact free _ o (λz=>(Z _ z).2.1 rfl) F I.free
 .obtain⟨v,o,F,hd⟩:=I.cell x c e
  exact free c o (λz=>(Z c z).2.2.1 x c e rfl) F (I.freeC x c e)
 .obtain⟨e,n,ne,nf,d⟩:=I.pin p V
  have a1:p.1∉ch:=λz=>(Z p.1 z).2.2.2 p V rfl;exact⟨keep p.1 p.2 ne nf a1 e n,free p.1 p.2 a1 e n,ne,nf,d⟩
def Inv.un(I:Inv X pins σ H s)(u:Un X.fs [] H H' s.heap h')(hok:HOk X.prog X.w H' h'):Inv X pins σ H' {s with heap:=h',toks:=t'}:=by
 obtain⟨m,⟨o,es,O,F,r⟩,_⟩:=id I.loc;obtain⟨sl,q⟩:=u.any F I.free (by simp);exact I.step (g':=s.gens) (d':=s.drawn) (ch:=[]) (λ_ z=>nomatch z) (λb o _ U _ e n=>u.keep b o e n U (by simp)) (λb o _ U _ e n=>u.slot b o e n U (by simp)) (λb o _ e n=>u.free b o e n (by simp)) (λb o _ e=>u.there b o e (by simp)) u.tups u.frzs u.tbls (λm' J=>by
  obtain⟨o',V,Y,D,Z⟩:=J;rw[F]at D;cases D;exact⟨_,V,Y,q,Z⟩) hok I.bare
def Inv.call(I:Inv X pins σ H s)(u:Un (frs X.stack) ch H H' s.heap h')(hok:HOk X.prog X.w H' h')(hg:adz g')
  (a0:∀b∈ch,(b∈X.ex∨X.s₀.heap.objs.size<=b)/\b≠X.env.locals/\(∀x c,X.env.cells.lookup x=ac c->c≠b)/\∀p∈X.pn++pins,p.1≠b) :
  Inv X pins σ H' {s with heap:=h',gens:=g',drawn:=d',toks:=t'}:=by
 obtain⟨m,⟨o,es,ep,F,r⟩,_⟩:=id I.loc;obtain⟨sl,q⟩:=u.any F I.free λz=>(a0 _ z).2.1 rfl;exact I.step (ch:=ch) a0 (λb o q U O e n=>u.keep b o e n (λz=>(Z2.mp (I.stkSub b z)).elim q U) O) (λb o _ _ O e n=>u.any e n O) (λb o O e n=>u.free b o e n O) (λb o O e=>u.there b o e O) u.tups u.frzs u.tbls (λm' J=>by
  obtain⟨o',V,Y,D,Z⟩:=J;rw[F]at D;cases D;exact⟨_,V,Y,q,Z⟩) hok hg
def Inv.turned(I:Inv X pins σ H s)(k:∀b o,b≠it->s.heap.get? b=ac o->h'.get? b=ac o)(hn:H it=af)(F:it≠X.env.locals)
  (h1:it∈X.ex∨X.s₀.heap.objs.size<=it) (h2:∀x c,X.env.cells.lookup x=ac c->c≠it) (V:∀p∈X.pn++pins,p.1≠it):Inv X pins σ H {s with heap:=h',toks:=t'}:=by
 have D:∀b u,H b=ac u->b≠it:=λb u e z=>by rw[z,hn]at e;cases e
 refine I.step (g':=s.gens) (d':=s.drawn) (ch:=[it]) (λb U=>?_) (λb o _ _ O e _=>k b o (λz=>O (by simp[z])) e) (λb o _ _ O e _=>⟨o.slots,k b o (λz=>O (by simp[z])) e⟩) (λ_ _ _ _ n=>n)
  (λb o O e=>⟨o,k b o (λz=>O (by simp[z])) e⟩) (λ_ _ e=>e) (λ_ _ _ e=>e) (λb ps e=>⟨#[],by rw[e];simp⟩) (λm J=>?_) (λb u e=>?_) I.bare
 .have e:b=it:=by simpa using U
  subst e;exact⟨h1,F,h2,V⟩
 .obtain⟨o,es,ep,ho,r⟩:=J
  exact⟨o,es,ep,k _ o (aaS F) ho,r⟩
 .refine(I.hok b u e).stay (λc v O q=>k c v ?_ q) (λ_ q=>q) λ_ _ q=>q
  rcases O with z|z
  .rw[z];exact D b u e
  .exact D c _ z
def Inv.tok(I:Inv X pins σ H s)(t:Nat):Inv X pins σ H {s with toks:=t}:=I.un (h':=s.heap) (t':=t) Un.refl I.hok
def Inv.kept(I:Inv X pins σ H s)(k:∀b u,s.heap.get? b=ac u->h'.get? b=ac u):Inv X pins σ H {s with heap:=h',toks:=t'}:=I.un (Un.kept k) (I.hok.kept k)
def Inv.laid{o:HO}(I:Inv X pins σ H s)(k:∀b u,s.heap.get? b=ac u->h'.get? b=ac u)(V:s.heap.objs.size<=a)(new:cU X.prog X.w 2.220 h' a o) :
 Inv X pins σ 2.220 {s with heap:=h',toks:=t'}:=I.un (Un.laid k V (I.hok.fresh V)) (I.hok.laid k V new)
def Inv.write{o:HO}(I:Inv X pins σ H s)(mu:Mut (H x))(V:e=x∨H e=ac (.own x))(k:∀b u,b≠e->s.heap.get? b=ac u->h'.get? b=ac u)(F:∃u,h'.get? e=ac u)
 (new:cU X.prog X.w (upd H x o) h' x o):Inv X pins σ (upd H x o) {s with heap:=h',toks:=t'}:=I.un (Un.write mu V k F) (I.hok.write mu V k F new)
theorem Inv.weak{F:List (Option V)}(I:Inv X pins σ H s)(Y:F.length=σ.length)(w:∀(i:Nat) v,F[i]? =ac (ac v)->σ[i]? =ac (ac v)):Inv X pins F H s:=
 ⟨I.ok,I.os,I.bare,I.base,let⟨m,hn,hl'⟩:=I.loc;⟨m,hn,λi x v e1 e2 q=>hl' i x v e1 (w i v e2) q⟩,I.cell,I.free,I.freeC,I.pin,I.hok,Y.trans I.len⟩
def Inv.pins_of{q:List (Addr×Obj)}(I:Inv X pins σ H s)(h:∀p∈q,s.heap.get? p.1=ac p.2/\H p.1=af/\p.1≠X.env.locals/\p.1∉X.fs/\∀v,p.2.data≠.cell v):Inv X q σ H s:=
 ⟨I.ok,I.os,I.bare,I.base,I.loc,I.cell,I.free,I.freeC,λp V=>(Ls.mp V).elim (λz=>I.pin p 2.213) (h p),I.hok,I.len⟩
variable{x:Str}
def CP(z:N.Nodup)(a:N[i]? =ac x)(b:N[j]? =ac x):i=j:=by
 obtain⟨h1,e1⟩:=List.getElem?_eq_some_iff.mp a;obtain⟨h2,e2⟩:=List.getElem?_eq_some_iff.mp b;exact(aew z).mp (e1.trans e2.symm)
variable{M:Model}{A:aaK}{E:Value->jl->Prop}{Q:Unit->jl->Prop}
def JM{v:V}(I:Inv X pins σ H s)(hN:X.N.Nodup)(hi:X.N[i]? =ac x)(J:Loc X.env.scope x)(r:RelV v u)
  (h:∀s',Inv X pins 2.222 H s'->(∃a,acb a s.heap s'.heap/\(a=X.env.locals∨X.env.cells.lookup x=ac a))->Q () s') (hf:X.fn x=ag∨X.env.scope.names.lookup x=ac .local:=by first|exact .inl rfl|exact .inr rfl|assumption):wpAny M A (storeName X.env x u) Q E s:=by
 obtain⟨m,hn,hl⟩:=id I.loc;have a3:(X.env.scope.kind== .class||(X.env.scope.kind== .module&&X.env.locals !=X.env.globals))=ae:=by rw[I.ok.kind];rfl
 have a1:i<σ.length:=by rw[I.len];exact(List.getElem?_eq_some_iff.mp hi).1
 have cne:=I.cne;have a0:∀{a:Addr}{h':Heap},(∃o,s.heap.get? a=ac o/\H a=af)->acb a s.heap h'->HOk X.prog X.w H h':=λ{a h'} Y hs b ob e=>by
  obtain⟨_,_,D⟩:=Y;refine(I.hok b ob e).stay (λc w' O q=>(hs.2 c ?_).trans q) (λ_ q=>q) λ_ _ q=>q;rintro rfl;rcases O with rfl|O
  .rw[D]at e;cases e
  .rw[D]at O;cases O
 rcases J with hk|hk
 .refine wpAny_storeName_local hk hn (λh' a6 hs=>?_) a3
  obtain⟨oL,_,_,a5,_⟩:=id hn;refine h _ ⟨I.ok,I.os,I.bare,⟨λb o e n U J=>?_,λb o e n U J=>?_,I.base.free,λb o e J=>?_,I.base.tups,I.base.frzs,I.base.tbls⟩,⟨_,a6,λj y v' e1 e2 e3=>?_⟩,λy c e=>?_,I.free,I.freeC,λp hp=>?_,a0 ⟨oL,a5,I.free⟩ hs,by simpa using I.len⟩ ⟨_,hs,.inl rfl⟩
  .exact(hs.2 b (aam 2.122)).trans 2.200
  .obtain⟨sl,e1⟩:=I.base.slot b o e n U J
   exact⟨sl,(hs.2 b (aam 2.122)).trans e1⟩
  .obtain⟨o',e1⟩:=I.base.there b o e J
   exact⟨o',(hs.2 b (aam 2.122)).trans e1⟩
  .by_cases hj:j=i
   .subst hj
    rw[hi]at e1;cases e1;rw[aa0 a1]at e2;cases e2;exact⟨u,r,.inl ⟨hk,by simp⟩⟩
   .rw[List.getElem?_set_ne (aaS hj)]at e2
    obtain⟨u',Z,q⟩:=hl j y v' e1 e2 e3;refine⟨u',Z,?_⟩;rcases q with⟨k,e⟩|⟨k,c,e,z⟩
    .refine .inl ⟨k,?_⟩
     have:y≠x:=λe=>hj (CP hN e1 (e▸hi));simp[this,e]
    .exact .inr ⟨k,c,e,z.sameBut hs (cne y c e)⟩
  .obtain⟨w',z⟩:=I.cell y c e
   exact⟨w',z.sameBut hs (cne y c e)⟩
  .obtain⟨e,n,ne,nf,d⟩:=I.pin p hp
   exact⟨(hs.2 p.1 ne).trans e,n,ne,nf,d⟩
 .have hfn:X.fn x=ag:=by
   rcases hf with z|z
   .exact z
   .rw[z]at hk;cases hk
  obtain⟨c,O⟩:=I.ok.has x (.inl hk);obtain⟨w',z⟩:=I.cell x c O;refine wpAny_storeName_cell I.ok.kind hk O z (λh' F hs=>?_);obtain⟨oc,a2,a4⟩:=id z;refine h {s with heap:=h'} ⟨I.ok,I.os,I.bare,⟨λb o e n U J=>?_,λb o e n U J=>?_,I.base.free,λb o e J=>?_,I.base.tups,I.base.frzs,I.base.tbls⟩,⟨m,hn.sameBut hs (aaS (cne x c O)),λj y v' e1 e2 e3=>?_⟩,λy c' e=>?_,I.free,I.freeC,λp hp=>?_,a0 ⟨oc,a2,I.freeC x c O⟩ hs,by simpa using I.len⟩ ⟨c,hs,.inr O⟩
  .exact(hs.2 b 2.92).trans 2.200
  .obtain⟨sl,e1⟩:=I.base.slot b o e n U J
   exact⟨sl,(hs.2 b 2.92).trans e1⟩
  .obtain⟨o',e1⟩:=I.base.there b o e J
   exact⟨o',(hs.2 b 2.92).trans e1⟩
  .by_cases hj:j=i
   .subst hj
    rw[hi]at e1;cases e1;rw[aa0 a1]at e2;cases e2;exact⟨u,r,.inr ⟨.inl hk,c,O,F⟩⟩
   .rw[List.getElem?_set_ne (aaS hj)]at e2
    obtain⟨u',Z,q⟩:=hl j y v' e1 e2 e3;refine⟨u',Z,?_⟩;rcases q with q|⟨k,c',e,z'⟩
    .exact .inl q
    .refine .inr ⟨k,c',e,z'.sameBut hs ?_⟩
     rintro rfl;exact hj (CP hN e1 (I.ok.inj _ _ _ e O▸hi))
  .by_cases hcc:c'=c
   .subst hcc;exact⟨_,F⟩
   .obtain⟨w2,z2⟩:=I.cell y c' e
    exact⟨w2,z2.sameBut hs hcc⟩
  .obtain⟨e,n,ne,nf,d⟩:=I.pin p hp
   refine⟨(hs.2 p.1 ?_).trans e,n,ne,nf,d⟩;intro q;rw[q,a2]at e;have q':oc=p.2:=aaR e;exact d w' (by rw[←q'];exact a4)
def nF{v:V}(I:Inv X pins σ H s)(z:X.N.Nodup)(hi:X.N[i]? =ac x)(J:Loc X.env.scope x)(r:RelV v u)
  (h:∀s',Inv X pins 2.222 H s'->Q () s') (Y:X.fn x=ag∨X.env.scope.names.lookup x=ac .local:=by first|exact .inl rfl|exact .inr rfl|assumption):wpAny M A (storeName X.env x u) Q E s:=
 JM I z hi J r (λs' q _=>h s' q) Y
def Inv.call'(I:Inv X pins σ H s)(F:s'.os=s.os)(u:Un (frs X.stack) ch H H' s.heap s'.heap)(hok:HOk X.prog X.w H' s'.heap)(q:adz s'.gens)
  (Z:∀b∈ch,(b∈X.ex∨X.s₀.heap.objs.size<=b)/\b≠X.env.locals/\(∀x c,X.env.cells.lookup x=ac c->c≠b)/\∀p∈X.pn++pins,p.1≠b):Inv X pins σ H' s':=by
 obtain⟨h',g',d',t',o'⟩:=s';have e:o'=s.os:=F;subst e;exact I.call (g':=g') (t':=t') (d':=d') u hok q Z
abbrev XK:=Value->Option Addr->Hp->Prop
abbrev St:=List (Option V)
abbrev VK:=V->Hp->Prop
abbrev TE:=St->Hp->VK->Prop
abbrev TT:=St->Hp->(Bool->Hp->Prop)->Prop
abbrev TA:=St->Hp->(List V->Hp->Prop)->Prop
structure Ends where
 nx:St->Hp->Prop
 rt:VK
 bk:St->Hp->Prop:=λ_ _=>False
 ct:St->Hp->Prop:=λ_ _=>False
abbrev TS:=Ends->St->Hp->Prop
def EP(X:Cx)(pins:List (Addr×Obj))(σ:St)(Q:VK)(u:Value)(s':jl):Prop:=∃v H',Inv X pins σ H' s'/\RelV v u/\Q v H'
def TP(X:Cx)(pins:List (Addr×Obj))(σ:St)(Q:Bool->Hp->Prop)(b:Bool)(s':jl):Prop:=∃H',Inv X pins σ H' s'/\Q b H'
def AP(X:Cx)(pins:List (Addr×Obj))(σ:St)(Q:List V->Hp->Prop)(us:List Value)(s':jl):Prop:=∃J H',Inv X pins σ H' s'/\Vals J us/\Q J H'
def SP(X:Cx)(pins:List (Addr×Obj))(D:Ends)(f:Flow)(s':jl):Prop:=
 match f with
 |.next=>∃F H',Inv X pins F H' s'/\D.nx F H'
 |.brk=>∃F H',Inv X pins F H' s'/\D.bk F H'
 |.cont=>∃F H',Inv X pins F H' s'/\D.ct F H'
 |.ret u=>∃v F H',Inv X pins F H' s'/\RelV v u/\D.rt v H'
def PE(X:Cx)(e:Expr)(t:TE):Prop:=
 ∀(pins:List (Addr×Obj))(s:jl)(σ:St)(H:Hp)(Q:VK),Inv X pins σ H s->t σ H Q->wpAny 1.12 X.A (eval e X.env) 2.41 X.xe s
def PT(X:Cx)(e:Expr)(t:TT):Prop:=
 ∀(pins:List (Addr×Obj))(s:jl)(σ:St)(H:Hp)(Q:Bool->Hp->Prop),Inv X pins σ H s->t σ H Q->wpAny 1.12 X.A (aeW e X.env (eval e X.env)) (TP X pins σ Q) X.xe s
def PW(X:Cx)(e:Expr)(t:TT):Prop:=
 ∀(q:Sem Value)(pins:List (Addr×Obj))(s:jl)(σ:St)(H:Hp)(Q:Bool->Hp->Prop),Inv X pins σ H s->t σ H Q->wpAny 1.12 X.A (aeW e X.env q) (TP X pins σ Q) X.xe s
variable{e:Expr}
def PW.pt{t:TT}(h:PW X e t):PT X e t:=h _
def PA(X:Cx)(es:List Expr)(t:TA):Prop:=
 ∀(pos:Pos)(pins:List (Addr×Obj))(s:jl)(σ:St)(H:Hp)(Q:List V->Hp->Prop),Inv X pins σ H s->t σ H Q->wpAny 1.12 X.A (spliced (aa1 pos 2.83)) (AP X pins σ Q) X.xe s
def PS(X:Cx)(st:Stmt)(t:TS):Prop:=
 ∀(pins:List (Addr×Obj))(s:jl)(σ:St)(H:Hp)(D:Ends),Inv X pins σ H s->t D σ H->wpAny 1.12 X.A (exec st X.env) (SP X pins D) X.xe s
def PSs(X:Cx)(st:List Stmt)(t:TS):Prop:=
 ∀(pins:List (Addr×Obj))(s:jl)(σ:St)(H:Hp)(D:Ends),Inv X pins σ H s->t D σ H->wpAny 1.12 X.A (execs st X.env) (SP X pins D) X.xe s
def thn{t:Sem α}{Q z:α->jl->Prop}{s:jl}(h:wpAny M A t Q E s)(q:∀a s,Q a s->z a s):wpAny M A t z E s:=aci h q λ_ _ x=>x
section
variable{X:Cx}
def xW(i:Nat):TE:=λσ H Q=>∃v,σ[i]? =ac (ac v)/\Q v H
def tC(v:V):TE:=λ_ H Q=>Q v H
def w5{i:Nat}{x:Str}{pos:Pos}(z:X.N[i]? =ac x)(Z:Vis X.env.scope x)(hd:(x==("__debug__":Str))=ae:=by decide)(F:(x==("__classdict__":Str))=ae:=by decide):PE X 2.38 (xW i):=by
 intro pins s σ H Q I h;obtain⟨v,e,h⟩:=h;obtain⟨m,hn,Y⟩:=I.loc;obtain⟨u,r,l⟩:=Y i x v z e Z;have fin:EP X pins σ Q u s:=⟨v,H,I,r,h⟩;rcases l with⟨D,J⟩|⟨D,c,O,q⟩
 .exact wpAny_Name (wpAny_loadName_local I.ok.kind D hn J fin) hd
 .rcases D with D|D
  .exact wpAny_Name (wpAny_loadName_cell I.ok.kind D O q fin) hd
  .exact wpAny_Name (wpAny_loadName_free I.ok.kind D O q fin F) hd
def Ob{i j pos}:PE X (.Constant 2.72 j pos) (tC 2.72):=λ_ _ _ H _ I h=>wpAny_Constant_int ⟨.int i,H,I.tok _,⟨_,rfl⟩,h⟩
def Xu{b j pos}:PE X (.Constant (.bool b) j pos) (tC (.bl b)):=λ_ _ _ H _ I h=>Constant_bool ⟨.bl b,H,I,rfl,h⟩
def Wh{j pos}:PE X (.Constant .none j pos) (tC .non):=λ_ _ _ H _ I h=>Constant_none ⟨.non,H,I,rfl,h⟩
def Gv{x j pos}:PE X (.Constant 2.89 j pos) (tC 2.89):=λ_ _ _ H _ I h=>Calls.Constant_str ⟨.str x,H,I.tok _,⟨_,rfl⟩,h⟩
def Gl(X:Cx)(x:Str):Prop:=X.env.kindOf x=ac .globalImplicit
def Hd{E:Value->jl->Prop}{pins:List (Addr×Obj)}{s:jl}{σ:St}{H:Hp}{x:Str}{u:Value}{pos:Pos}{Q:Value->jl->Prop}(I:Inv X pins σ H s)(F:Gl X x)(J:X.mg x=ac u)(h:Q u s)
  (hd:(x==("__debug__":Str))=ae:=by decide):wpAny 1.12 X.A (eval 2.38 X.env) Q E s:=
 aeb I.ok.kind F (Calls.loadGlobal_global (by rw[I.ok.glob];exact I.mod.glob.keeps I.bk) J h) hd
def nZ{E:Value->jl->Prop}{pins:List (Addr×Obj)}{s:jl}{σ:St}{H:Hp}{x:Str}{u:Value}{pos:Pos}{Q:Value->jl->Prop}(I:Inv X pins σ H s)(F:Gl X x)(J:X.mg x=af)(Z:abx x=ac u)(h:Q u s)
  (hn:x≠"__name__":=by decide) (hd:(x==("__debug__":Str))=ae:=by decide):wpAny 1.12 X.A (eval 2.38 X.env) Q E s:=by
 obtain⟨q,h1,h2⟩:=I.mod.blt;exact aeb I.ok.kind F (Calls.loadGlobal_builtin (by rw[I.ok.glob];exact I.mod.glob.keeps I.bk) J (by rw[I.ok.blt];exact h1.keeps I.bk) ((h2 x hn).trans Z) h) hd
def Hz{x:Str}{v:V}{u:Value}{pos:Pos}(F:Gl X x)(J:X.mg x=ac u)(r:RelV v u)(hd:(x==("__debug__":Str))=ae:=by decide):PE X 2.38 (tC v):=
 λ_ _ _ H _ I h=>Hd I F J ⟨v,H,I,r,h⟩ hd
def QR{x:Str}{v:V}{u:Value}{pos:Pos}(F:Gl X x)(J:X.mg x=af)(Z:abx x=ac u)(r:RelV v u)(hn:x≠"__name__":=by decide)(hd:(x==("__debug__":Str))=ae:=by decide):PE X 2.38 (tC v):=
 λ_ _ _ H _ I h=>nZ I F J Z ⟨v,H,I,r,h⟩ hn hd
variable{a b:Expr}{ta tb:TE}{pos:Pos}
variable{tA tB':TT}{rest:List Expr}
def Za(t u:TT):TT:=λσ H Q=>t σ H λc H1=>if c=ag then u σ H1 Q else Q ae H1
def tOr(t u:TT):TT:=λσ H Q=>t σ H λc H1=>if c=ag then Q ag H1 else u σ H1 Q
def Wz(t:TT):TT:=λσ H Q=>t σ H λc H1=>Q (!c) H1
def RJ(Y:PT X a tA):PW X (.BoolOp .And [a] pos) tA:=by
 intro q pins s σ H Q I h;refine isTrue_and (thn (Y pins s σ H Q I h) λc Z e=>?_);cases c with
 |true=>exact isTrue_and_nil e
 |false=>exact e
def Ww(Y:PT X a tA):PW X (.BoolOp .Or [a] pos) tA:=by
 intro q pins s σ H Q I h;refine isTrue_or (thn (Y pins s σ H Q I h) λc Z e=>?_);cases c with
 |false=>exact isTrue_or_nil e
 |true=>exact e
def Vd(Y:PT X a tA)(U:PW X (.BoolOp .And (b::rest) pos) tB'):PW X (.BoolOp .And (a::b::rest) pos) (Za tA tB'):=by
 intro q pins s σ H Q I h;refine isTrue_and (thn 2.30 λc Z ⟨H1,O,q1⟩=>?_);cases c with
 |true=>exact U q pins Z σ H1 Q O q1
 |false=>exact⟨H1,O,q1⟩
def Xn(Y:PT X a tA)(U:PW X (.BoolOp .Or (b::rest) pos) tB'):PW X (.BoolOp .Or (a::b::rest) pos) (tOr tA tB'):=by
 intro q pins s σ H Q I h;refine isTrue_or (thn 2.30 λc Z ⟨H1,O,q1⟩=>?_);cases c with
 |true=>exact⟨H1,O,q1⟩
 |false=>exact U q pins Z σ H1 Q O q1
def Qt(Y:PT X a tA):PT X 2.95 (Wz tA):=by
 intro pins s σ H Q I h;exact isTrue_not (Y pins s σ H (λc H1=>Q (!c) H1) I h)
def Uq(ta tb:TE):TE:=λσ H Q=>ta σ H λx H1=>∃c,x= .bl c/\if c=ag then tb σ H1 Q else Q (.bl ae) H1
def TV(ta:TE):TE:=λσ H Q=>ta σ H λx H1=>∃c,x= .bl c/\Q (.bl (!c)) H1
def U7{op}{t:TE}(h:PE X a t):PE X (.BoolOp op [a] pos) t:=λpins s σ H Q I Z=>BoolOp_one (h pins s σ H Q I Z)
def VM(Y:PE X a ta)(U:PE X (.BoolOp .And (b::rest) pos) tb):PE X (.BoolOp .And (a::b::rest) pos) (Uq ta tb):=by
 intro pins s σ H Q I h;refine BoolOp_and (thn 2.30 λv Z ⟨x,H1,O,z,q1⟩=>?_);obtain⟨c,rfl,q1⟩:=q1;cases z;refine abu ?_;cases c with
 |true=>exact U pins Z σ H1 Q O q1
 |false=>exact⟨.bl ae,H1,O,rfl,q1⟩
def VN(Y:PE X a ta):PE X 2.95 (TV ta):=by
 intro pins s σ H Q I h;refine UnaryOp_ (thn 2.30 λv Z ⟨x,H1,O,z,q1⟩=>?_);obtain⟨c,rfl,q1⟩:=q1;cases z;exact not_of (abu ⟨.bl (!c),H1,O,rfl,q1⟩)
end
def SqL(K:ZW)(H:Hp)(a:Addr)(xs:List V):Prop:=
 Rd H a 2.44∨
  ∃(o:Obj)(its:Array Value)(n:Nat),K.lookup a=ac o/\o.cls= .type "list"/\o.dict=af/\o.data= .seq its n/\its.size<=Z0/\Vals xs its.toList
def SqT(K:ZW)(H:Hp)(a:Addr)(xs:List V):Prop:=
 Rd H a 2.54∨
  ∃(o:Obj)(its:Array Value)(n:Nat),K.lookup a=ac o/\o.cls= .type "tuple"/\o.data= .seq its n/\its.size<=Z0/\Vals xs its.toList
def ZK:Value->Option V
 |.none=>ac .non
 |.bool b=>ac (.bl b)
 |.int i _=>ac (.int i)
 |.str x _=>ac (.str x)
 |.bytes b _=>ac (.byt b)
 |.float b _=>ac (.flt b)
 |.ref a=>ac (.ref a)
 |.type n=>ac (.ty n)
 |_=>af
def RelV.abs{x:V}(r:RelV x u):ZK u=ac x:=by
 cases x with
 |non=>cases r;rfl
 |bl _=>cases r;rfl
 |int _=>obtain⟨t,rfl⟩:=r;rfl
 |str _=>obtain⟨t,rfl⟩:=r;rfl
 |byt _=>obtain⟨t,rfl⟩:=r;rfl
 |flt _=>obtain⟨t,rfl⟩:=r;rfl
 |ref _=>cases r;rfl
 |ty _=>cases r;rfl
def RelV.inj{x y:V}(r:RelV x u)(q:RelV y u):x=y:=aaR (r.abs.symm.trans q.abs)
def Vals.inj:∀{xs ys:List V}{us:List Value},Vals xs us->Vals ys us->xs=ys
 |_,_,_,.nil,.nil=>rfl
 |_,_,_,.cons r t,.cons r' t'=>by rw[r.inj r',Vals.inj t t']
def SqL.of{K:ZW}(h:H a=ac 2.44):SqL K H a xs:=.inl (.inl h)
def SqT.of{K:ZW}(h:H a=ac 2.54):SqT K H a xs:=.inl (.inl h)
variable{σ:St}
def Inv.list(I:Inv X pins σ H s)(h:SqL X.K H a xs):∃its:List Value,Vals xs its/\PlainL s.heap a its.toArray/\xs.length<=Z0:=by
 rcases h with h|⟨o,its,n,q,O,hd,hs,hz,r⟩
 .obtain⟨z,its,n,r,e⟩:=h.ok I.hok
  exact⟨its,r,⟨_,n,e,rfl,rfl,rfl⟩,z⟩
 .refine⟨its.toList,r,⟨o,n,I.kIn a o q,O,hd,by simpa using hs⟩,?_⟩
  have e:=r.length;simp![adP]at e;omega
def Inv.tuple(I:Inv X pins σ H s)(h:SqT X.K H a xs):∃its:List Value,Vals xs its/\IsTup s.heap a its.toArray/\xs.length<=Z0:=by
 rcases h with h|⟨o,its,n,q,O,hs,hz,r⟩
 .obtain⟨z,its,r,p⟩:=h.ok I.hok
  exact⟨its,r,p.t,z⟩
 .refine⟨its.toList,r,⟨o,I.kIn a o q,O,n,by simpa using hs⟩,?_⟩
  have e:=r.length;simp![adP]at e;omega
variable{ys:List V}
def Inv.list_inj(I:Inv X pins σ H s)(h:SqL X.K H a xs)(h':SqL X.K H a ys):xs=ys:=by
 obtain⟨its,r,⟨o,n,e,_,_,d⟩,_⟩:=I.list h;obtain⟨its',Z,⟨o',O,e',_,_,d'⟩,_⟩:=I.list h';rw[e]at e';cases e';rw[d]at d';injection d' with d1 _;have:its=its':=by simpa using congrArg Array.toList d1
 subst this;exact r.inj Z
def Inv.tuple_inj(I:Inv X pins σ H s)(h:SqT X.K H a xs)(h':SqT X.K H a ys):xs=ys:=by
 obtain⟨its,r,⟨o,e,_,n,d⟩,_⟩:=I.tuple h;obtain⟨its',Z,⟨o',e',_,O,d'⟩,_⟩:=I.tuple h';rw[e]at e';cases e';rw[d]at d';injection d' with d1 _;have:its=its':=by simpa using congrArg Array.toList d1
 subst this;exact r.inj Z
abbrev Cx.wish(X:Cx)(E:Value->jl->Prop):Cx:={X with xe:=E}
abbrev Cx.nox(X:Cx):Cx:=X.wish λ_ _=>False
def Cx.Ok.wish(ok:X.Ok)(E:Value->jl->Prop):(X.wish E).Ok:=
 ⟨ok.mod,ok.kind,ok.glob,ok.blt,ok.above,ok.inj,ok.has,ok.cab,ok.hd,ok.frames,ok.stk,ok.exf,ok.bs,ok.bsz,ok.noex,ok.exfs,ok.funs,ok.frf⟩
def Cx.Ok.unwish(ok:(X.wish E).Ok):X.Ok:=
 ⟨ok.mod,ok.kind,ok.glob,ok.blt,ok.above,ok.inj,ok.has,ok.cab,ok.hd,ok.frames,ok.stk,ok.exf,ok.bs,ok.bsz,ok.noex,ok.exfs,ok.funs,ok.frf⟩
def Inv.wish(I:Inv X pins σ H s)(E:Value->jl->Prop):Inv (X.wish E) pins σ H s:=⟨I.ok.wish E,I.os,I.bare,I.base,I.loc,I.cell,I.free,I.freeC,I.pin,I.hok,I.len⟩
variable{E:Value->Shared->Prop}
def Inv.unwish(I:Inv (X.wish E) pins σ H s):Inv X pins σ H s:=⟨I.ok.unwish,I.os,I.bare,I.base,I.loc,I.cell,I.free,I.freeC,I.pin,I.hok,I.len⟩
def SP.unwish{D:Ends}{f:Flow}(h:SP (X.wish E) pins D f s'):SP X pins D f s':=by
 cases f with
 |next=>obtain⟨F,H',I,q⟩:=h;exact⟨F,H',I.unwish,q⟩
 |brk=>obtain⟨F,H',I,q⟩:=h;exact⟨F,H',I.unwish,q⟩
 |cont=>obtain⟨F,H',I,q⟩:=h;exact⟨F,H',I.unwish,q⟩
 |ret u=>obtain⟨v,F,H',I,r,q⟩:=h;exact⟨v,F,H',I.unwish,r,q⟩
def PSs.nox{st:List Stmt}{t:TS}(h:PSs X.nox st t):PSs X st t:=λpins s σ H D I Z=>
 aci (h pins s σ H D (I.wish _) Z) (λ_ _ q=>q.unwish) λ_ _ z=>ab6 z
section
variable{X:Cx}{st:Stmt}{rest:List Stmt}{t u:TS}{e:Expr}{te:TE}{pos:Pos}
def Ul:TS:=λD σ H=>D.nx σ H
def Y4(t u:TS):TS:=λD σ H=>t {D with nx:=u D} σ H
def Q_:PSs X [] Ul:=λ_ _ σ H _ I h=>adF ⟨σ,H,I,h⟩
def Nu(h1:PS X st t)(h2:PSs X rest u):PSs X (st::rest) (Y4 t u):=by
 intro pins s σ H D I h;refine wpAny_execs_cons (thn (h1 pins s σ H {D with nx:=u D} I h) λf Z q=>?_);cases f with
 |next=>
  obtain⟨F,H',J,q⟩:=q;exact h2 pins Z F H' D J q
 |ret v=>exact q
 |brk=>exact q
 |cont=>exact q
def SX(h1:PS X st t):PSs X [st] t:=by
 intro pins s σ H D I h;refine wpAny_execs_cons (thn (h1 pins s σ H D I h) λf Z q=>?_);cases f with
 |next=>exact adF q
 |ret v=>exact q
 |brk=>exact q
 |cont=>exact q
def Inv.quiet{pins:List (Addr×Obj)}{σ:St}{H:Hp}{s:jl}(I:Inv X pins σ H s):interactive X.env=ae:=by simp[interactive,I.ok.kind]
def Eh(te:TE):TS:=λD σ H=>te σ H λ_ H1=>D.nx σ H1
def rZ(V:PE X e te)(hs:abX e af pos.line X.env=pure ae:=by rfl):PS X (.Expr e pos) (Eh te):=by
 intro pins s σ H D I h;exact wpAny_Expr_any (thn 2.82 λv Z ⟨x,H1,O,z,q1⟩=>⟨σ,H1,O,q1⟩) I.quiet hs
def S_(te:TE):TS:=λD σ H=>te σ H D.rt
def Bk(V:PE X e te):PS X (.Return (ac e) pos) (S_ te):=by
 intro pins s σ H D I h;exact wpAny_Return_some (thn 2.82 λv Z ⟨x,H1,O,z,q1⟩=>⟨x,σ,H1,O,z,q1⟩)
def Xq(c:TT)(t u:TS):TS:=λD σ H=>c σ H λb H1=>if b=ag then t D σ H1 else u D σ H1
def TQ{c:Expr}{a b:List Stmt}{tc:TT}(O:PT X c tc)(Y:PSs X a t)(U:PSs X b u):PS X (.If c a b pos) (Xq tc t u):=by
 intro pins s σ H D I h;refine wpAny_If (thn (O pins s σ H _ I h) λd Z ⟨H1,q,q1⟩=>?_);cases d with
 |true=>exact Y pins Z σ H1 D q q1
 |false=>exact U pins Z σ H1 D q q1
end
abbrev TG:=V->St->Hp->(St->Hp->Prop)->Prop
abbrev TGs:=List V->St->Hp->(St->Hp->Prop)->Prop
def PG(X:Cx)(target:Expr)(t:TG):Prop:=
 ∀(pins:List (Addr×Obj))(s:jl)(σ:St)(H:Hp)(v:V)(u:Value)(Q:St->Hp->Prop),Inv X pins σ H s->RelV v u->t v σ H Q->
  wpAny 1.12 X.A (adk target X.env u) (λ_ s'=>∃F H',Inv X pins F H' s'/\Q F H') X.xe s
def PGs(X:Cx)(ts:List Expr)(t:TGs):Prop:=
 ∀(pins:List (Addr×Obj))(s:jl)(σ:St)(H:Hp)(J:List V)(us:List Value)(Q:St->Hp->Prop),Inv X pins σ H s->Vals J us->t J σ H Q->
  wpAny 1.12 X.A (afn ((aa4 ts X.env).map (·.2)) us) (λ_ s'=>∃F H',Inv X pins F H' s'/\Q F H') X.xe s
abbrev J3:=V->V->V->Hp->(Hp->Prop)->Prop
def Rn(X:Cx)(t:J3):Prop:=
 ∀(pins:List (Addr×Obj))(s:jl)(σ:St)(H:Hp)(o i v:V)(U D u:Value)(Q:Hp->Prop),Inv X pins σ H s->RelV o U->RelV i D->RelV v u->t o i v H Q->
  wpAny 1.12 X.A (setItem U D u) (λ_ s'=>∃H',Inv X pins σ H' s'/\Q H') X.xe s
def yw(i:Nat):TG:=λv σ H Q=>Q 2.222 H
def B_(z:X.N.Nodup)(hi:X.N[i]? =ac x)(J:Loc X.env.scope x)(Y:X.fn x=ag∨X.env.scope.names.lookup x=ac .local:=by first|exact .inl rfl|exact .inr rfl|assumption):PG X 2.38 (yw i):=by
 intro pins s σ H v u Q I r h;exact wpAny_assign_Name (nF I z hi J r (λs' q=>⟨_,H,q,h⟩) Y)
def Th:TGs:=λJ σ H Q=>J=[]/\Q σ H
def Oi(t:TG)(u:TGs):TGs:=λJ σ H Q=>∃v r,J=v::r/\t v σ H λF H'=>u r F H' Q
def Im:PGs X [] Th:=by
 intro pins s σ H J us Q I r h;obtain⟨e,h⟩:=h;subst e;cases r;exact assignInOrder_nil ⟨σ,H,I,h⟩
def Cd{t:TG}{u:TGs}(h1:PG X e t)(h2:PGs X es u)
  (hs:(aa4 (e::es) X.env).map (·.2)=adk e X.env::(aa4 es X.env).map (·.2):=by rfl):PGs X (e::es) (Oi t u):=by
 intro pins s σ H J us Q I r h;obtain⟨v,q,e1,h⟩:=h;subst e1;cases r with
 |cons r D=>
  rw[hs];refine ad3 (thn (h1 pins s σ H _ _ _ I r h) λ_ Z ⟨V,H1,O,q1⟩=>?_);exact h2 pins Z V H1 _ _ Q O D q1
def Uv(K:ZW)(n:Nat)(t:TGs):TG:=λv σ H Q=>∃a xs,v= .ref a/\SqT K H a xs/\xs.length=n/\t xs σ H Q
variable{k:Nat}
def PB{t:TGs}(O:X.calm=ag)(h:PGs X es t)
  (hn:(aa4 es X.env).length=n:=by rfl) (q:(aa4 es X.env).findIdx? (·.1)=af:=by rfl):PG X 2.127 (Uv X.K n t):=by
 intro pins s σ H v u Q I r Z;obtain⟨a,xs,e1,D,Y,Z⟩:=Z;subst e1;cases r;obtain⟨its,z,U,hz⟩:=I.tuple D;refine assign_Tuple_tuple 2.93 U (by simp[hn,←Y,z.length]) q λh' J=>?_;have F:Inv X pins σ H {s with heap:=h'}:=I.kept (t':=s.toks) λb o e=>J b o (aam (Z8 e)) e;exact h pins _ σ H xs _ Q F (by simpa using z) Z
def jb(to q:TE)(t:J3):TG:=λv σ H Q=>to σ H λo H1=>q σ H1 λi H2=>t o i v H2 λY=>Q σ Y
def Wf{o i:Expr}{to ti:TE}{t:J3}(F:PE X o to)(hi:PE X i ti)(hs:Rn X t)
  (Y:∀v,adk (.Subscript o i pos) X.env v=(do
   let U ←adA [v] (eval o X.env)
   let iv ←adA [v,U] (eval i X.env)
   afV pos
   adA [v,U,iv] (setItem U iv v)
   release [v,U,iv] []):=by intro _;rfl):PG X (.Subscript o i pos) (jb to ti t):=by
 intro pins s σ H v u Q I r h;rw[Y];refine Mz (ab1 (thn (F pins s σ H _ I h) λU Z ⟨x,H1,O,z,q1⟩=>?_));refine Mz (ab1 (thn (hi pins Z σ H1 _ O q1) λiv s2 ⟨y,H2,V,q,q2⟩=>?_));refine Mz (aec (Mz (ab1 (thn (hs pins s2 σ H2 x y v U iv u _ V z q r q2) λ_ J ⟨H3,I3,D⟩=>?_))));exact wpAny_release ⟨σ,H3,I3,D⟩
def Tj(te:TE)(g:TG):TS:=λD σ H=>te σ H λx H1=>g x σ H1 D.nx
variable{te:TE}{g:TG}
def KY(V:PE X e te)(F:PG X tg g)(hs:ace [tg] e pos.line X.env=pure ae:=by rfl)(J:acM [tg] e X.env=pure af:=by rfl)
  (h1:(aa4 [tg] X.env).map (·.2)=[adk tg X.env]:=by rfl):PS X (.Assign [tg] e pos) (Tj te g):=by
 intro pins s σ H D I h;refine wpAny_Assign_stores (thn 2.82 λv Z ⟨x,H1,O,z,q1⟩=>?_) hs J;rw[h1];exact thn (F pins Z σ H1 x v _ O z q1) λ_ U q=>q
def Lp(F:X.N.Nodup)(hi:X.N[i]? =ac x)(J:Loc X.env.scope x)(V:PE X e te)(hs:abX e 2.87 pos.line X.env=pure ae:=by rfl)(Y:X.fn x=ag∨X.env.scope.names.lookup x=ac .local:=by first|exact .inl rfl|exact .inr rfl|assumption) :
  PS X (.Assign [.Name x pos'] e pos) (Tj te (yw i)):=by
 intro pins s σ H D I h;refine wpAny_Assign_Name (thn 2.82 λv Z ⟨y,H1,O,z,q1⟩=>?_) hs;exact nF O F hi J z (λU q=>⟨_,H1,q,q1⟩) Y
def Yp(i j:Nat)(ta:TA):TS:=λD σ H=>ta σ H λJ H1=>∃v w,J=[v,w]/\D.nx ((σ.set i (ac v)).set j (ac w)) H1
variable{a:Expr}{ta:TA}
def Og{b:Expr}{px py pt:Pos}{kt k2 pt2}(O:X.calm=ag)(hN:X.N.Nodup)(hi:X.N[i]? =ac x)(U:X.N[j]? =ac y)(a2:i≠j)
  (hx:X.env.scope.names.lookup x=ac .local) (V:X.env.scope.names.lookup y=ac .local) (Y:PA X [a,b] ta)
  (hw:acM [.Tuple [.Name x px,.Name y py] kt pt] (.Tuple [a,b] k2 pt2) X.env=pure (ac [x,y]))
  (hs:ace [.Tuple [.Name x px,.Name y py] kt pt] (.Tuple [a,b] k2 pt2) pos.line X.env=pure ae:=by rfl) :
  PS X (.Assign [.Tuple [.Name x px,.Name y py] kt pt] (.Tuple [a,b] k2 pt2) pos) (Yp i j ta):=by
 intro pins s σ H D I h;rw[exec_Assign_arm];refine Mz (aec ?_);rw[hs];refine Mz (Z3 ?_);rw[aag (by decide)];refine Mz (Tuple_ (thn (Y _ pins s σ H _ I h) λus Z ⟨J,H1,I1,z,q1⟩=>?_));obtain⟨v,w,e1,q1⟩:=q1;subst e1;obtain⟨u1,F,rfl,rv,a1⟩:∃u1 F,us=[u1,F]/\RelV v u1/\RelV w F:=by
  cases z with
  |cons p q=>
   cases q with
   |cons p' q'=>
    cases q';exact⟨_,_,rfl,p,p'⟩
 refine abO ?_ (by show 2<=Z0;decide);have I2:Inv X pins σ H1 {Z with heap:=Z.heap.push {cls:=.type "tuple",data:=.seq [u1,F].toArray}}:=I1.kept (t':=Z.toks) λb o e=>ZS _ e;rw[hw];refine Mz (Z3 ?_);show wpAny 1.12 X.A (do rule "assign.swapped-stores";let items ←unpackItems 2.116 2 af;afn [λv=>bindName X.env y v,λv=>bindName X.env x v] items.reverse;pure Flow.next) _ _ _;refine Mz (aer (Mz (unpackItems_tuple (items:=#[u1,F]) 2.93 (IsTup.new Z.heap _) λh' a0=>?_)));have I3:=I2.kept (h':=h') (t':=Z.toks) λb o e=>a0 b o (aam (Z8 e)) e;show wpAny _ _ (afn [λv=>bindName X.env y v,λv=>bindName X.env x v] [F,u1] >>=λ_=>pure Flow.next) _ _ _;refine Mz (ad3 (wpAny_bindName (nF I3 hN U (.inl V) a1 (λs2 I4=>?_) (.inr V))));refine ad3 (wpAny_bindName (nF I4 hN hi (.inl hx) rv (λs3 I5=>assignInOrder_nil (Z3 ?_)) (.inr hx)));rw[List.set_comm _ _ (aaS a2)]at I5;exact⟨_,H1,I5,q1⟩
def KZ(c:TT)(tb:TS):TS:=λD σ H=>∃W:Nat->St->Hp->Prop,(∃m,W m σ H)/\∀m σ H,W m σ H->
 c σ H λb H1=>if b=ag then ∃N:St->Hp->Prop,(∀F H',N F H'->∃m',m'<m/\W m' F H')/\tb {D with nx:=N,ct:=N,bk:=D.nx} σ H1 else D.nx σ H1
variable{c:Expr}{tb:TS}
def Lw{tc:TT}(V:ad4 1.12 X.A X.env X.xe)(O:PT X c tc)(U:PSs X body tb):PS X (.While c body [] pos) (KZ tc tb):=by
 intro pins s σ H D I h;obtain⟨W,⟨m0,w0⟩,a2⟩:=h;refine wpAny_While (codeAny_whileLoop (λn s'=>∃F H',Inv X pins F H' s'/\W n F H') ?_ m0 ⟨σ,H,I,w0⟩);rintro n Z ⟨a1,H1,I1,w1⟩;refine abZ V (thn (O pins Z a1 H1 _ I1 (a2 n a1 H1 w1)) λb s2 ⟨H2,I2,q2⟩=>?_);cases b with
 |true=>
  obtain⟨N,z,q2⟩:=q2;rw[if_pos rfl];refine abZ V (thn (U pins s2 a1 H2 _ I2 q2) λf s3 q3=>?_);cases f with
  |next=>
   obtain⟨a0,Y,I3,q⟩:=q3;obtain⟨m',J,w3⟩:=z a0 Y q;exact⟨m',J,a0,Y,I3,w3⟩
  |cont=>
   obtain⟨a0,Y,I3,q⟩:=q3;obtain⟨m',J,w3⟩:=z a0 Y q;exact⟨m',J,a0,Y,I3,w3⟩
  |brk=>exact q3
  |ret v=>exact q3
 |false=>
  rw[aag aav];exact adF ⟨a1,H2,I2,q2⟩
structure It where
 go:Nat->Hp->Prop
 yld:Nat->Hp->V->Hp->Prop
 stop:Nat->Hp->Prop
def m8(X:Cx)(pins:List (Addr×Obj))(H:Hp)(b:Addr):Prop:=
 H b=af/\b≠X.env.locals/\b∉X.fs/\(b∈X.ex∨X.s₀.heap.objs.size<=b)/\(∀x c,X.env.cells.lookup x=ac c->c≠b)/\∀p∈X.pn++pins,p.1≠b
variable{s:jl}
def Inv.fpOk(I:Inv X pins σ H s)(U:s.heap.objs.size<=b)(hn:H' b=af):m8 X pins H' b:=by
 refine⟨hn,acy (Z9 I.lt U),I.nofs U,.inr (aaC I.sz U),λx c e z=>?_,λp V z=>?_⟩
 .obtain⟨v,q⟩:=I.cell x c e
  exact absurd (Z9 q.lt (by rw[z];exact U)) (aa7 _)
 .exact absurd (Z9 (Z8 (I.pin p V).1) (by rw[z];exact U)) (aa7 _)
structure Turn(P:Program)(w:World)(K:PySem.W.Frag)(tg:Expr)(J:It)(fp:List Addr)(it:Addr)(tn:Nat->Heap->Prop):Prop where
 mem:it∈fp
 obj:∀i h,tn i h->∀b∈fp,∃o,h.get? b=ac o/\∀v,o.data≠.cell v
 keep:∀i h h',tn i h->(∀b∈fp,∀o,h.get? b=ac o->h'.get? b=ac o)->tn i h'
 item:∀(X:Cx),X.prog=P->X.w=w->X.K=K->X.calm=ag->∀(i:Nat)(pins:List (Addr×Obj))(s:jl)(σ:St)(H:Hp)(E:Value->jl->Prop),Inv X pins σ H s->(∀b∈fp,m8 X pins H b)->tn i s.heap->J.go i H->
  wpAny 2.128 X.A (aeX 2.73) (λr s1=>∃u,r=ac u/\
   wpAny 2.128 X.A (adG tg 2.73 u) (λ_ s2=>∃x H',Inv X pins σ H' s2/\RelV x u/\J.yld i H x H'/\tn (i+1) s2.heap/\∀b∈fp,H' b=af) E s1) E s
 done:∀(X:Cx),X.prog=P->X.w=w->X.K=K->X.calm=ag->∀(i:Nat)(pins:List (Addr×Obj))(s:jl)(σ:St)(H:Hp)(E:Value->jl->Prop),Inv X pins σ H s->(∀b∈fp,m8 X pins H b)->tn i s.heap->J.stop i H->
  wpAny 2.128 X.A (aeX 2.73) (λr s1=>r=af/\Inv X pins σ H s1) E s
 self:∀(A:aaK)(i:Nat)(s:jl)(Q:Value->jl->Prop)(E:Value->jl->Prop),tn i s.heap->Q 2.73 s->wpAny 2.128 A (aex 2.73) Q E s
abbrev TI:=St->Hp->(It->Hp->Prop)->Prop
def PIE(X:Cx)(pins:List (Addr×Obj))(σ:St)(tg:Expr)(R:It->Hp->Prop)(z:Value)(I:jl):Prop:=
 ∃(it:Addr)(fp:List Addr)(q:Nat->Heap->Prop)(J:It)(H':Hp),z= .ref it/\Inv X pins σ H' I/\Turn X.prog X.w X.K tg J fp it q/\q 0 I.heap/\(∀b∈fp,m8 X pins H' b)/\R J H'
def PI(X:Cx)(tg iter:Expr)(wi:TI):Prop:=
 ∀(pins:List (Addr×Obj))(s:jl)(σ:St)(H:Hp)(R:It->Hp->Prop),Inv X pins σ H s->wi σ H R->
  wpAny 1.12 X.A (eval iter X.env) (λv Z=>wpAny 1.12 X.A (aex v) (PIE X pins σ tg R) X.xe Z) X.xe s
def yq   {E:Value->jl->Prop}      {n:String} {J:Array Value}  (F:s.heap.get? it=ac o) (O:o.cls = .type n) (hd:o.data = .fields J)
    (hn:["enumerate", "zip", "dict_itemiterator", "dict_reverseitemiterator", "odict_iterator", "itertools.zip_longest", "itertools.pairwise"].contains n=ae) (q:Q () s):wpAny M A (adG tg 2.73 u) Q E s:=by
  unfold adG
  cases tg <;> first
    | exact Z3 q
    | (cases u <;> first
        | exact Z3 q
        | (refine Mz (wpAny_load F ?_)
           rw [O,hd]
           show wpAny M A (if (["enumerate", "zip", "dict_itemiterator", "dict_reverseitemiterator", "odict_iterator", "itertools.zip_longest", "itertools.pairwise"].contains n && J[0]? == ac (adl _))=ag then _ else _) Q E s
           rw [aag (by intro h; rw [hn,aeY] at h; cases h)]
           exact Z3 q))
def Itl(K:ZW)(a:Addr):It:=
 ⟨λi H=>∃xs x,SqL K H a xs/\xs[i]? =ac x,λi H x H'=>H'=H/\∀xs,SqL K H a xs->xs[i]? =ac x,λi H=>∃xs,SqL K H a xs/\xs.length<=i⟩
def Itt(K:ZW)(a:Addr):It:=
 ⟨λi H=>∃xs x,SqT K H a xs/\xs[i]? =ac x,λi H x H'=>H'=H/\∀xs,SqT K H a xs->xs[i]? =ac x,λi H=>∃xs,SqT K H a xs/\xs.length<=i⟩
def Itr(lo:Int)(n:Nat):It:=⟨λi _=>i<n,λi H x H'=>H'=H/\x= .int (lo+i),λi _=>n<=i⟩
variable{P:aad}
def JT{K:ZW}(a it:Addr):Turn P w K tg (Itl K a) [it] it (λi h=>h.IsListIter it a i)where
 mem:=by simp
 obj:=λi h st b U=>by
  have e:b=it:=by simpa using U
  subst e;obtain⟨o,e,c,d⟩:=st;exact⟨o,e,λv z=>by rw[d]at z;cases z⟩
 keep:=λi h h' st k=>st.at λo e=>k it (by simp) o e
 item:=by
  intro X hP Z hK O i pins s σ H E I hf st F;subst hP Z hK;obtain⟨xs,x,D,J⟩:=F;obtain⟨its,rv,p,hz⟩:=I.list D;obtain⟨u,hu,ru⟩:=rv.get J;obtain⟨f0,f1,q,f3,f4,f5⟩:=hf it (by simp);refine aeQ st p.isList (x:=u) (by simpa using hu) λh' a0 sb=>?_;have I1:Inv X pins σ H {s with heap:=h'}:=I.turned (t':=s.toks) (λb o U e=>(sb.2 b U).trans e) f0 f1 f3 f4 f5;obtain⟨o,e,c,d⟩:=id a0;exact⟨u,rfl,yq (s:={s with heap:=h'}) e c d (by decide) ⟨x,H,I1,ru,⟨rfl,λys V=>by rw[I.list_inj V D];exact J⟩,a0,λb U=>(hf b U).1⟩⟩
 done:=by
  intro X hP Z hK O i pins s σ H E I hf st F;subst hP Z hK;obtain⟨xs,D,J⟩:=F;obtain⟨its,rv,p,hz⟩:=I.list D;obtain⟨f0,f1,q,f3,f4,f5⟩:=hf it (by simp);have Y:=rv.length;exact aeZ 2.93 st p.isList (by simp;omega) λh' eb=>⟨rfl,I.turned (t':=s.toks) (λb o U e=>eb b o U e) f0 f1 f3 f4 f5⟩
 self:=λ_ _ _ _ _ st h=>wpAny_pyIter_listiter st h
def FN{K:ZW}(a it:Addr):Turn P w K tg (Itt K a) [it] it (λi h=>h.IsTupleIter it a i)where
 mem:=by simp
 obj:=λi h st b U=>by
  have e:b=it:=by simpa using U
  subst e;obtain⟨o,e,c,d⟩:=st;exact⟨o,e,λv z=>by rw[d]at z;cases z⟩
 keep:=λi h h' st k=>st.at λo e=>k it (by simp) o e
 item:=by
  intro X hP Z hK O i pins s σ H E I hf st F;subst hP Z hK;obtain⟨xs,x,D,J⟩:=F;obtain⟨its,rv,p,hz⟩:=I.tuple D;obtain⟨u,hu,ru⟩:=rv.get J;obtain⟨f0,f1,q,f3,f4,f5⟩:=hf it (by simp);refine wpAny_pyNext_tuple_item st (show s.heap.IsTuple a its.toArray from p) (x:=u) (by simpa using hu) λh' a0 sb=>?_;have I1:Inv X pins σ H {s with heap:=h'}:=I.turned (t':=s.toks) (λb o U e=>(sb.2 b U).trans e) f0 f1 f3 f4 f5;obtain⟨o,e,c,d⟩:=id a0;exact⟨u,rfl,yq (s:={s with heap:=h'}) e c d (by decide) ⟨x,H,I1,ru,⟨rfl,λys V=>by rw[I.tuple_inj V D];exact J⟩,a0,λb U=>(hf b U).1⟩⟩
 done:=by
  intro X hP Z hK O i pins s σ H E I hf st F;subst hP Z hK;obtain⟨xs,D,J⟩:=F;obtain⟨its,rv,p,hz⟩:=I.tuple D;obtain⟨f0,f1,q,f3,f4,f5⟩:=hf it (by simp);have Y:=rv.length;exact wpAny_pyNext_tuple_end 2.93 st (show s.heap.IsTuple a its.toArray from p) (by simp;omega) λh' eb=>⟨rfl,I.turned (t':=s.toks) (λb o U e=>eb b o U e) f0 f1 f3 f4 f5⟩
 self:=λ_ _ _ _ _ st h=>wpAny_pyIter_tupleiter st h
def Gr{K:ZW}(it:Addr)(lo:Int)(n:Nat):Turn P w K tg (Itr lo n) [it] it (λi h=>IsRangeIter h it (lo+(i:Nat)*1) ((n:Int)-(i:Nat)) 1)where
 mem:=by simp
 obj:=λi h st b U=>by
  have e:b=it:=by simpa using U
  subst e;exact⟨_,st,λv z=>by
   have z':Data.fields _=Data.cell v:=z;cases z'⟩
 keep:=λi h h' st k=>k it (by simp) _ st
 item:=by
  intro X hP hw J O i pins s σ H E I Y st F;subst hP hw J;obtain⟨f0,V,q,f3,D,f5⟩:=Y it (by simp);have W:=Walks.range (prog:=X.prog) (w:=X.w) 2.93 it lo 1 n;refine W.item i s _ _ F st λv h' tk Z a0 kk=>?_;obtain⟨t,rfl⟩:=Z;have I1:Inv X pins σ H {s with heap:=h',toks:=tk}:=I.turned (λb o U e=>kk b o (by simpa using U) e) f0 V f3 D f5;refine⟨_,rfl,yq (s:={s with heap:=h',toks:=tk}) (n:="range_iterator") a0 rfl rfl (by decide) ⟨.int (lo+i),H,I1,⟨t,?_⟩,⟨rfl,rfl⟩,a0,λb U=>(Y b U).1⟩⟩;rw[Int.mul_one]
 done:=by
  intro X hP hw J O i pins s σ H E I Y st F;subst hP hw J;obtain⟨f0,V,q,f3,D,f5⟩:=Y it (by simp);exact wpAny_pyNext_range_end 2.93 st (by have:n<=i:=F;omega) λh' eb=>⟨rfl,I.turned (t':=s.toks) (λb o U e=>eb b o U e) f0 V f3 D f5⟩
 self:=λ_ _ _ _ _ st h=>wpAny_pyIter_rangeiter st h
def Qg{R:It->Hp->Prop}{E:Value->jl->Prop}{lo hi:Int}{t u v:Tok}(I:Inv X pins σ H s)(h1: -(2 ^ 62)<=lo)(h2:lo<2 ^ 62)(O: -(2 ^ 62)<=hi)(Z:hi<2 ^ 62)
  (q:R (Itr lo (hi-lo).toNat) H):wpAny 1.12 X.A (aex 2.36) (PIE X pins σ tg R) E {s with heap:=s.heap.push {cls:=.type "range",data:=.fields #[.int lo t,.int hi u,.int 1 v]},toks:=tk}:=by
 refine wpAny_pyIter_range (IsRange.new ..) (small_one h1 h2 O Z) ?_;have z:Inv X pins σ H {s with heap:=s.heap.push {cls:=.type "range",data:=.fields #[.int lo t,.int hi u,.int 1 v]},toks:=tk}:=I.kept λb o e=>ZS _ e;refine⟨(s.heap.push {cls:=.type "range",data:=.fields #[.int lo t,.int hi u,.int 1 v]}).objs.size,[(s.heap.push {cls:=.type "range",data:=.fields #[.int lo t,.int hi u,.int 1 v]}).objs.size],_,_,H,rfl,
  z.kept (t':=tk) λb o e=>ZS _ e,Gr _ lo (hi-lo).toNat,?_,λb U=>?_,q⟩
 .have e1:lo+((0:Nat):Int)*1=lo:=by simp
  have e2:(((hi-lo).toNat:Nat):Int)-((0:Nat):Int)=Builtin.Range.rangeSize lo hi 1:=by rw[rangeSize_one];split<;>omega
  show IsRangeIter _ _ (lo+((0:Nat):Int)*1) ((((hi-lo).toNat:Nat):Int)-((0:Nat):Int)) 1;rw[e1,e2];exact Z_ _ rfl
 .have e:b=(s.heap.push {cls:=.type "range",data:=.fields #[.int lo t,.int hi u,.int 1 v]}).objs.size:=by simpa using U
  subst e;exact z.fpOk (ZZ _) (z.hok.fresh (ZZ _))
def MK(ta:TA):TI:=λσ H R=>ta σ H λJ H1=>∃j:Int,J=[.int j]/\-(2 ^ 62)<=j/\j<2 ^ 62/\R (Itr 0 j.toNat) H1
def yh{p:Pos}(F:Gl X "range")(U:X.mg "range"=af)(Y:PA X [a] ta)(hs:Z1 [a] X.env=[(ae,eval a X.env)]:=by rfl):PI X tg (.Call (.Name "range" p) [a] [] pos) (MK ta):=by
 intro pins s σ H R I h;refine Call_ (nZ I F U boot_range (abv (thn 2.62 λus Z ⟨J,H1,O,z,q1⟩=>?_) hs rfl));obtain⟨j,e,q1,q2,q⟩:=q1;subst e;cases z with
 |cons r D=>
  cases D;obtain⟨t,rfl⟩:=r;exact call_range_1 (Qg O 1.10 1.10 q1 q2 (by simpa using q))
def QF(wi:TI)(g:TG)(tb:TS):TS:=λD σ H=>wi σ H λJ H1=>∃W:Nat->Nat->St->Hp->Prop,(∃m,W 0 m σ H1)/\∀i m σ H,W i m σ H->
 (J.stop i H/\D.nx σ H)∨(J.go i H/\∃N:St->Hp->Prop,(∀F H',N F H'->∃m',m'<m/\W (i+1) m' F H')/\∀x H',J.yld i H x H'->g x σ H' λσ2 H2=>tb {D with nx:=N,ct:=N,bk:=D.nx} σ2 H2)
def qg(fp:List Addr)(h:Heap):List (Addr×Obj):=fp.filterMap λb=>(h.get? b).map λo=>(b,o)
def iB(U:b∈fp)(e:h.get? b=ac o):(b,o)∈qg fp h:=ad5.mpr ⟨b,U,by rw[e];rfl⟩
def yR{p:Addr×Obj}(V:p∈qg fp h):p.1∈fp/\h.get? p.1=ac p.2:=by
 obtain⟨b,U,e⟩:=ad5.mp V;cases q:h.get? b with
 |none=>rw[q]at e;cases e
 |some o=>
  rw[q]at e;have e':(b,o)=p:=aaR e;subst e';exact⟨U,q⟩
def Inv.pinned(I:Inv X pins σ H s)(Y:∀b∈fp,m8 X pins H b)(F:∀b∈fp,∃o,s.heap.get? b=ac o/\∀v,o.data≠.cell v):Inv X (pins++qg fp s.heap) σ H s:=
 I.pins_of λp V=>(Ls.mp V).elim (λz=>I.pin p (W2 _ z)) λz=>by
  obtain⟨U,e⟩:=yR z;obtain⟨D,J,q,_⟩:=Y p.1 U;obtain⟨o,e',d⟩:=F p.1 U;rw[e]at e';cases e';exact⟨e,D,J,q,d⟩
def Inv.unpinned{pl:List (Addr×Obj)}(I:Inv X (pins++pl) σ H s):Inv X pins σ H s:=I.pins_of λp V=>I.pin p (W2 _ (ZV _ V))
def F_{iter:Expr}{wi:TI}(V:ad4 1.12 X.A X.env X.xe)(O:X.calm=ag)(hi:PI X tg iter wi)(hg:PG X tg g)(U:PSs X body tb)
  (hs:∀x,aba iter X.env x=pure x:=by intro _;rfl):PS X (.For tg iter body [] pos) (QF wi g tb):=by
 intro pins s σ H D I h;refine wpAny_For (thn (hi pins s σ H _ I h) λv s1 h1=>thn h1 λb2 s2 h2=>?_) hs;obtain⟨it,fp,tn,J,H2,e,I2,T,b0,q,W,⟨m0,w0⟩,a7⟩:=h2;subst e;have a3:∀{H':Hp},(∀b∈fp,H' b=af)->∀b∈fp,m8 X pins H' b:=λhn b U=>⟨hn b U,(q b U).2⟩;refine codeAny_forLoop_any (λn s'=>∃i F H',Inv X pins F H' s'/\tn i s'.heap/\(∀b∈fp,H' b=af)/\W i n F H') ?_ m0 ⟨0,σ,H2,I2,b0,λb U=>(q b U).1,w0⟩;rintro n s3 ⟨i,a1,Y,I3,a5,a6,w3⟩;rcases a7 i n a1 Y w3 with⟨stop,qn⟩|⟨go,N,z,step⟩
 .refine abZ V (thn (T.done X rfl rfl rfl O i pins s3 a1 Y X.xe I3 (a3 a6) a5 stop) λr s4 ⟨Z,I4⟩=>?_)
  subst Z;exact adF ⟨a1,Y,I4,qn⟩
 .refine abZ V (thn (T.item X rfl rfl rfl O i pins s3 a1 Y X.xe I3 (a3 a6) a5 go) λr s4 ⟨u,Z,h4⟩=>?_)
  subst Z;refine abZ V (thn h4 λ_ s5 ⟨x,H5,I5,r5,y5,a4,a8⟩=>?_);have b1:=I5.pinned (a3 a8) (T.obj _ _ a4);refine abZ V (thn (hg _ s5 a1 H5 x u _ b1 r5 (step x H5 y5)) λ_ s6 ⟨a9,H6,I6,q6⟩=>?_);refine abZ V (thn (U _ s6 a9 H6 _ I6 q6) λf s7 q7=>?_);have a2:∀{a0:St}{H7:Hp},Inv X (pins++qg fp s5.heap) a0 H7 s7->N a0 H7->∃m,m<n/\∃i F H',Inv X pins F H' s7/\tn i s7.heap/\(∀b∈fp,H' b=af)/\W i m F H':=λ{a0 H7} I7 n7=>by
   obtain⟨m',hm,w7⟩:=z a0 H7 n7;refine⟨m',hm,i+1,a0,H7,I7.unpinned,T.keep _ _ _ a4 λb U o e=>(I7.pin (b,o) 2.123).1,λb U=>?_,w7⟩;obtain⟨o,e,d⟩:=T.obj _ _ a4 b U;exact(I7.pin (b,o) 2.123).2.1
  cases f with
  |next=>obtain⟨a0,H7,I7,n7⟩:=q7;exact a2 I7 n7
  |cont=>obtain⟨a0,H7,I7,n7⟩:=q7;exact a2 I7 n7
  |brk=>obtain⟨a0,H7,I7,q7⟩:=q7;exact⟨a0,H7,I7.unpinned,q7⟩
  |ret v=>obtain⟨x7,a0,H7,I7,r7,q7⟩:=q7;exact⟨x7,a0,H7,I7.unpinned,r7,q7⟩
abbrev R2:=V->V->Hp->VK->Prop
def OpR(X:Cx)(f:Value->Value->Sem Value)(r:R2):Prop:=
 ∀(pins:List (Addr×Obj))(s:jl)(σ:St)(H:Hp)(x y:V)(v u:Value)(Q:VK),Inv X pins σ H s->RelV x v->RelV y u->r x y H Q->
  wpAny 1.12 X.A (f v u) 2.41 X.xe s
def UnR(X:Cx)(f:Value->Sem Value)(r:V->Hp->VK->Prop):Prop:=
 ∀(pins:List (Addr×Obj))(s:jl)(σ:St)(H:Hp)(x:V)(v:Value)(Q:VK),Inv X pins σ H s->RelV x v->r x H Q->
  wpAny 1.12 X.A (f v) 2.41 X.xe s
def gk(X:Cx)(f:Value)(r:List V->Hp->VK->Prop):Prop:=
 ∀(pins:List (Addr×Obj))(s:jl)(σ:St)(H:Hp)(xs:List V)(us:List Value)(Q:VK),Inv X pins σ H s->Vals xs us->r xs H Q->
  wpAny 1.12 X.A (call f us) 2.41 X.xe s
def ZF(X:Cx)(r:V->Hp->(Bool->Hp->Prop)->Prop):Prop:=
 ∀(pins:List (Addr×Obj))(s:jl)(σ:St)(H:Hp)(x:V)(v:Value)(Q:Bool->Hp->Prop),Inv X pins σ H s->RelV x v->r x H Q->
  wpAny 1.12 X.A (truthy v) (TP X pins σ Q) X.xe s
def tOp(r:R2)(ta tb:TE):TE:=λσ H Q=>ta σ H λx H1=>tb σ H1 λy H2=>r x y H2 Q
def tUn(r:V->Hp->VK->Prop)(ta:TE):TE:=λσ H Q=>ta σ H λx H1=>r x H1 Q
def rI(C:Int->Int->Prop)(g:Int->Int->V):R2:=λx y H Q=>∃i j,x= .int i/\y= .int j/\C i j/\Q (g i j) H
def rI0(g:Int->Int->V):R2:=λx y H Q=>∃i j,x= .int i/\y= .int j/\Q (g i j) H
def rU(g:Int->V):V->Hp->VK->Prop:=λx H Q=>∃i,x= .int i/\Q (g i) H
variable{b:Expr}{f:Value->Value->Sem Value}{ta tb:TE}
def VR(Y:PE X a ta)(U:PE X b tb){R:V->V->Hp->Prop}(I:Inv X pins σ H s)
  (h:ta σ H λx H1=>tb σ H1 λy H2=>R x y H2) {Q:Value->jl->Prop} 
  (hf:∀v u J x y H2,Inv X pins σ H2 J->RelV x v->RelV y u->R x y H2->wpAny 1.12 X.A (f v u) Q X.xe J) :
  wpAny 1.12 X.A (eval a X.env) (λv D=>wpAny 1.12 X.A (eval b X.env) (λu F=>wpAny 1.12 X.A (f v u) Q X.xe F) X.xe D) X.xe s:=by
 refine thn 2.30 λv Z ⟨x,H1,O,z,q1⟩=>?_;refine thn (U pins Z σ H1 _ O q1) λu J ⟨y,H2,I2,q,q2⟩=>?_;exact hf v u J x y H2 I2 z q q2
variable{r:R2}
def Ur{op:Operator}(F:OpR X (abg op) r)(Y:PE X a ta)(U:PE X b tb):PE X (.BinOp a op b pos) (tOp r ta tb):=by
 intro pins s σ H Q I h;exact wpAny_BinOp (VR Y U I h λv u z x y H2 V rx D q=>F pins z σ H2 x y v u Q V rx D q)
def Xz{op:UnaryOp}{r:V->Hp->VK->Prop}(F:UnR X (unaryOp op) r)(Y:PE X a ta):PE X (.UnaryOp op a pos) (tUn r ta):=by
 intro pins s σ H Q I h;exact UnaryOp_ (thn 2.30 λv Z ⟨x,H1,O,z,q1⟩=>F pins Z σ H1 x v Q O z q1)
variable{g:Int->Int->Int}
def opI
  (z:∀(i j:Int)(t u:Tok)(s:jl)(Q:Value->jl->Prop)(E:Value->jl->Prop),C i j->Q (.int (g i j) s.toks) {s with toks:=s.toks+1}->wpAny 1.12 X.A 2.201 Q E s) :
  OpR X f (rI C λi j=>.int (g i j)):=by
 intro pins s σ H x y v u Q I rx F h;obtain⟨i,j,rfl,rfl,O,q⟩:=h;obtain⟨t,rfl⟩:=rx;obtain⟨t',rfl⟩:=F;exact z i j t t' s _ _ O ⟨.int (g i j),H,I.tok _,⟨_,rfl⟩,q⟩
def Xf
  (z:∀(i j:Int)(t u:Tok)(s:jl)(Q:Value->jl->Prop)(E:Value->jl->Prop),Q (.int (g i j) s.toks) {s with toks:=s.toks+1}->wpAny 1.12 X.A 2.201 Q E s) :
  OpR X f (rI0 λi j=>.int (g i j)):=by
 intro pins s σ H x y v u Q I rx F h;obtain⟨i,j,rfl,rfl,q⟩:=h;obtain⟨t,rfl⟩:=rx;obtain⟨t',rfl⟩:=F;exact z i j t t' s _ _ ⟨.int (g i j),H,I.tok _,⟨_,rfl⟩,q⟩
def Rx{g:Int->Int->Bool}
  (z:∀(i j:Int)(t u:Tok)(s:jl)(Q:Value->jl->Prop)(E:Value->jl->Prop),Q (.bool (g i j)) s->wpAny 1.12 X.A 2.201 Q E s) :
  OpR X f (rI0 λi j=>.bl (g i j)):=by
 intro pins s σ H x y v u Q I rx F h;obtain⟨i,j,rfl,rfl,q⟩:=h;obtain⟨t,rfl⟩:=rx;obtain⟨t',rfl⟩:=F;exact z i j t t' s _ _ ⟨.bl (g i j),H,I,rfl,q⟩
def Zu(i j:Int):Prop:=0<j/\j<1073741824
def Zx(i j:Int):Prop:=0<=j/\j<=1000000/\i.natAbs<2 ^ 64
def WN(i j:Int):Prop:=(-(2 ^ 64)<i/\i<2 ^ 64)∨(-(2 ^ 64)<j/\j<2 ^ 64)
def WN.ok{i j:Int}(h:WN i j):IntMulOk i j:=by
 rcases h with⟨h1,h2⟩|⟨h1,h2⟩
 .exact .of_left (intBits_le_64 h1 h2)
 .exact .of_right (intBits_le_64 h1 h2)
def V9:OpR X (abg .Add) (rI0 λi j=>.int (i+j)):=Xf λ_ _ _ _ _ _ _ q=>add_int q
def WT:OpR X (abg .Sub) (rI0 λi j=>.int (i-j)):=Xf λ_ _ _ _ _ _ _ q=>sub_int q
def U_:OpR X (abg .Mult) (rI WN λi j=>.int (i*j)):=opI λ_ _ _ _ _ _ _ O q=>mul_int q O.ok
def Vw:OpR X (abg .Mod) (rI (λ_ j=>0<j) λi j=>.int (i % j)):=opI λi j _ _ _ _ _ O q=>by
 have h1:(0:Int)<j:=O;exact mod_int' 1.10 (by rw[aed i 1.10];exact q)
def WK:OpR X (abg .Pow) (rI Zx λi j=>.int (i ^ j.toNat)):=opI λ_ _ _ _ _ _ _ O q=>pow_int_small O.1 O.2.1 O.2.2 q
def unI{f:Value->Sem Value}{g:Int->Int}
  (z:∀(i:Int)(t:Tok)(s:jl)(Q:Value->jl->Prop)(E:Value->jl->Prop),Q (.int (g i) s.toks) {s with toks:=s.toks+1}->wpAny 1.12 X.A (f (.int i t)) Q E s) :
  UnR X f (rU λi=>.int (g i)):=by
 intro pins s σ H x v Q I rx h;obtain⟨i,rfl,q⟩:=h;obtain⟨t,rfl⟩:=rx;exact z i t s _ _ ⟨.int (g i),H,I.tok _,⟨_,rfl⟩,q⟩
def Xc:UnR X (unaryOp .USub) (rU λi=>.int (-i)):=unI λ_ _ _ _ _ q=>neg_int q
def K4{Q:VK}{k V:Bool}(I:Inv X pins σ H s)(q:Q (.bl k) H)(e:k=V):EP X pins σ Q (.bool V) s:=by
 subst e;exact⟨.bl k,H,I,rfl,q⟩
def Yj:OpR X (aar .Lt) (rI0 λi j=>.bl (decide (i<j))):=Rx λ_ _ _ _ _ _ _ q=>lt_int q
def YF:OpR X (aar .LtE) (rI0 λi j=>.bl (decide (i<=j))):=Rx λ_ _ _ _ _ _ _ q=>le_int q
def YB:OpR X (aar .Gt) (rI0 λi j=>.bl (decide (j<i))):=Rx λ_ _ _ _ _ _ _ q=>gt_int q
def Xr:OpR X (aar .GtE) (rI0 λi j=>.bl (decide (j<=i))):=Rx λ_ _ _ _ _ _ _ q=>ge_int q
def JR:OpR X (aar .Lt) (λx y H Q=>∃i j,x= .str i/\y= .str j/\Q (.bl (decide (i.cps.toList<j.cps.toList))) H):=by
 intro pins s σ H x y v u Q I rx F h;obtain⟨i,j,rfl,rfl,q⟩:=h;obtain⟨t,rfl⟩:=rx;obtain⟨t',rfl⟩:=F;exact lt_str (K4 I q rfl)
def J8:OpR X (aar .In) (λx y H Q=>∃i j,x= .str i/\y= .str j/\Q (.bl (!(aaM j i 0 j.length 1).isEmpty)) H):=by
 intro pins s σ H x y v u Q I rx F h;obtain⟨i,j,rfl,rfl,q⟩:=h;obtain⟨t,rfl⟩:=rx;obtain⟨t',rfl⟩:=F;exact in_str (K4 I q rfl)
def Il(F:OpR X (aar op) r)(Y:PE X a ta)(U:PE X b tb)(J:acN op b=ae):PE X (.Compare a [op] [b] pos) (tOp r ta tb):=by
 intro pins s σ H Q I h;exact wpAny_Compare1 (VR Y U I h λv u z x y H2 V rx D q=>F pins z σ H2 x y v u Q V rx D q) J
def Hy(t:TE):TT:=λσ H Q=>t σ H λx H'=>∃k,x= .bl k/\Q k H'
def Iw(F:OpR X (aar op) r)(Y:PE X a ta)(U:PE X b tb)(J:acN op b=ae):PT X (.Compare a [op] [b] pos) (Hy (tOp r ta tb)):=by
 intro pins s σ H Q I h;refine wpAny_isTrue_Compare1 (thn 2.30 λv Z ⟨x,H1,O,r1,q1⟩=>thn (U pins Z σ H1 _ O q1) λu s2 ⟨y,H2,V,q,q2⟩=>
  thn (F pins s2 σ H2 x y v u _ V r1 q q2) λc s3 ⟨z,H3,I3,r3,k,e,D⟩=>?_) J
 subst e;cases r3;exact abu ⟨H3,I3,D⟩
def K7(r Z:R2)(ta tb tc:TE):TE:=λσ H Q=>ta σ H λx H1=>tb σ H1 λy H2=>r x y H2 λz Y=>∃k,z= .bl k/\
 (if k=ag then tc σ Y λD q=>Z y D q Q else Q (.bl ae) Y)
variable{tc:TE}
def Ms{a0:CmpOp}{r':R2}(F:OpR X (aar op) r)(a1:OpR X (aar a0) r')(Y:PE X a ta)(U:PE X b tb)(O:PE X c tc)
  (J:lastMarks [op,a0] [b,c]=ae:=by with_unfolding_all rfl):PT X (.Compare a [op,a0] [b,c] pos) (Hy (K7 r r' ta tb tc)):=by
 intro pins s σ H Q I h;refine isTrue_chain (thn 2.30 λv Z ⟨x,H1,I1,r1,q1⟩=>test_link (thn (U pins Z σ H1 _ I1 q1) λu s2 ⟨y,H2,V,q,q2⟩=>
  thn (F pins s2 σ H2 x y v u _ V r1 q q2) λd s3 ⟨z,H3,I3,r3,k,e,D⟩=>?_)) J
 subst e;cases r3;refine abu ?_;cases k with
 |false=>
  obtain⟨k',e',q'⟩:=D;cases e';exact ite_ff ⟨H3,I3,q'⟩
 |true=>
  refine ite_tt (test_last (thn (O pins s3 σ H3 _ I3 D) λw' s4 ⟨z',H4,I4,r4,q4⟩=>thn (a1 pins s4 σ H4 y z' u w' _ I4 q r4 q4) λd' s5 ⟨z2,H5,I5,r5,k2,e2,q5⟩=>?_));subst e2;cases r5;exact abu ⟨H5,I5,q5⟩
def Nf(K:ZW)(x:V)(H:Hp)(k:Bool):Prop:=
 match x with
 |.non=>k=ae
 |.bl b=>k=b
 |.int i=>k=(i !=0)
 |.str y=>y.length<=Z0/\k=((y.length:Int)!=0)
 |.byt y=>y.size<=Z0/\k=((y.size:Int)!=0)
 |.ref p=>(∃xs,SqL K H p xs/\k= !xs.isEmpty)∨(∃xs,SqT K H p xs/\k= !xs.isEmpty)∨∃kvs,H p=ac (.dK kvs)/\k= !kvs.isEmpty
 |_=>False
def Gq{kvs:List (κ×V)}{J:List (κ×Value)}(r:KV kvs J):(!J.isEmpty)= !kvs.isEmpty:=by
 cases r<;>rfl
def wI(r:Vals xs its):(!its.toArray.isEmpty)= !xs.isEmpty:=by
 cases r<;>simp
def qt:(Z0:Nat)<2 ^ 63:=by rw[adZ];decide
def U9:ZF X (λx H Q=>∃k,Nf X.K x H k/\Q k H):=by
 intro pins s σ H x v Q I rx h;obtain⟨k,e,q⟩:=h;have Y:=qt;have hs:Z0=16777216:=adZ;cases x with
 |non=>
  cases rx;have e':k=ae:=e;subst e';exact truthy_none ⟨H,I,q⟩
 |bl b=>
  cases rx;have e':k=b:=e;subst e';exact abu ⟨H,I,q⟩
 |int i=>
  obtain⟨t,rfl⟩:=rx;have e':k=(i !=0):=e;subst e';exact PySem.P.truthy_int ⟨H,I,q⟩
 |str y=>
  obtain⟨t,rfl⟩:=rx;obtain⟨V,e'⟩:y.length<=Z0/\k=((y.length:Int)!=0):=e;subst e';exact PySem.P.truthy_str 1.10 ⟨H,I.tok _,q⟩
 |byt y=>
  obtain⟨t,rfl⟩:=rx;obtain⟨V,e'⟩:y.size<=Z0/\k=((y.size:Int)!=0):=e;subst e';exact PySem.W.truthy_bytes 1.10 ⟨H,I.tok _,q⟩
 |ref p=>
  cases rx;have e':(∃xs,SqL X.K H p xs/\k= !xs.isEmpty)∨(∃xs,SqT X.K H p xs/\k= !xs.isEmpty)∨∃kvs,H p=ac 2.20/\k= !kvs.isEmpty:=e;rcases e' with⟨xs,D,e'⟩|⟨xs,D,e'⟩|⟨kvs,D,e'⟩
  .subst e'
   obtain⟨its,r,pl,hz⟩:=I.list D;have z:=r.length;exact wpAny_truthy_list pl.isList (by simp![List.size_toArray];omega) ⟨H,I.tok _,by rw[wI r];exact q⟩
  .subst e'
   obtain⟨its,r,pl,hz⟩:=I.tuple D;have z:=r.length;exact truthy_tuple pl (by simp![List.size_toArray];omega) ⟨H,I.tok _,by rw[wI r];exact q⟩
  .subst e'
   obtain⟨hz,O,J,r,m⟩:kvs.length<=Z0/\(p==abp)=ae/\∃J,KV kvs J/\s.heap.DictOf 2.88 p J:=I.hok p _ D;have z:kvs.length=J.length:=aea r;exact wpAny_truthy_dict O m 1.10 ⟨H,I.tok _,by rw[Gq r];exact q⟩
 |_=>exact(show False from e).elim
def Dr(Y:PE X a ta)(V:∀q,aeW a X.env q=(do let v ←q;afV a.pos;adA [v] (truthy v))) :
  PT X a (λσ H Q=>ta σ H λx H'=>∃k,Nf X.K x H' k/\Q k H'):=by
 intro pins s σ H Q I h;exact isTrue_plain (thn 2.30 λv Z ⟨x,H1,O,z,q1⟩=>U9 pins Z σ H1 x v Q O z q1) (V _)
def G7:OpR X (abg .Add) (λx y H Q=>∃i j,x= .str i/\y= .str j/\i.length+j.length<=Z0/\Q (.str (i++j)) H):=by
 intro pins s σ H x y v u Q I rx F h;obtain⟨i,j,rfl,rfl,hz,q⟩:=h;obtain⟨t,rfl⟩:=rx;obtain⟨t',rfl⟩:=F;exact add_str (λt' tk=>⟨.str (i++j),H,I.tok _,⟨_,rfl⟩,q⟩) hz
def vals1{x:V}(r:Vals [x] us):∃u,us=[u]/\RelV x u:=by
 cases r with
 |cons z q=>cases q;exact⟨_,rfl,z⟩
def vals2{x y:V}(r:Vals [x,y] us):∃u Y,us=[u,Y]/\RelV x u/\RelV y Y:=by
 cases r with
 |cons z q=>
  cases q with
  |cons U I=>cases I;exact⟨_,_,rfl,z,U⟩
def N_:gk X (.builtin "abs") (λxs H Q=>∃i,xs=[.int i]/\Q (.int (if i<0 then -i else i)) H):=by
 intro pins s σ H xs us Q I r h;obtain⟨i,rfl,q⟩:=h;obtain⟨u,rfl,t,rfl⟩:=vals1 r;exact call_abs_int λu tk=>⟨.int (if i<0 then -i else i),H,I.tok _,⟨_,rfl⟩,q⟩
def Kf(O:X.calm=ag):gk X (.builtin "min") (λxs H Q=>∃i j,xs=[.int i,.int j]/\Q (.int (if j<i then j else i)) H):=by
 intro pins s σ H xs us Q I r h;obtain⟨i,j,rfl,q⟩:=h;obtain⟨u,Y,rfl,⟨t,rfl⟩,⟨t',rfl⟩⟩:=vals2 r;refine min_two_ints 2.93 λh' tk k=>⟨_,H,I.kept k,?_,q⟩;by_cases U:j<i
 .rw[if_pos U,if_pos U];exact⟨_,rfl⟩
 .rw[aag U,aag U];exact⟨_,rfl⟩
def Jl:gk X (.type "int") (λxs H Q=>(∃i,xs=[.int i]/\Q 2.72 H)∨∃k,xs=[.bl k]/\Q (.int (if k then 1 else 0)) H):=by
 intro pins s σ H xs us Q I r h;rcases h with⟨i,rfl,q⟩|⟨k,rfl,q⟩
 .obtain⟨u,rfl,t,rfl⟩:=vals1 r
  exact call_int_int ⟨.int i,H,I,⟨_,rfl⟩,q⟩
 .obtain⟨u,rfl,r1⟩:=vals1 r
  cases r1;exact call_int_bool ⟨.int (if k then 1 else 0),H,I.tok _,⟨_,rfl⟩,q⟩
def Eu:gk X (.builtin "divmod") (λxs H Q=>∃i j,xs=[.int i,.int j]/\Zu i j/\∀p,H p=af->Q 2.49 (upd H p (.tup [.int (i / j),.int (i % j)]))):=by
 intro pins s σ H xs us Q I r h;obtain⟨i,j,rfl,⟨h1,h2⟩,q⟩:=h;obtain⟨u,Y,rfl,⟨t,rfl⟩,⟨t',rfl⟩⟩:=vals2 r;refine divmod_int 1.10 ?_ (.inl (PyProof.noPylong_small 1.10));rw[aee i 1.10,aed i 1.10];have hn:H s.heap.objs.size=af:=I.hok.fresh (ZZ _);refine⟨.ref s.heap.objs.size,_,?_,rfl,q _ hn⟩;refine I.laid (λb o e=>ZS _ e) (ZZ _) ⟨by simp![Z4,aan];rw[adZ];decide,[.int (i / j) s.toks,.int (i % j) (s.toks+1)],.cons ⟨_,rfl⟩ (.cons ⟨_,rfl⟩ .nil),?_⟩;exact⟨_,Z_ s.heap rfl,rfl,0,rfl,rfl⟩
structure Ux(h:Heap)(x dx C:Addr)(mA:Str->Option Value):Prop where
 obj:h.get? x=ac (aeL C dx)
 ns:h.Ns1 dx mA
 ne:dx≠x
def Jj{D:Str->Option Value}(n:h.Ns1 dx D):∃od,h.get? dx=ac od/\∀name,ae0 name od=ac (D name):=by
 obtain⟨o,es,Z,F,hd,I,_,J⟩:=n;refine⟨o,F,λname=>?_⟩;have e:=J name;unfold nsFind findBy at e;rw[←Array.find?_toList]at e;unfold ae0;rw[hd];dsimp only;split
 .rename_i y q
  rw[q]at e;exact congrArg ac e
 .rename_i q
  rw[q]at e;have a:es.toList.any (·.refKey)=ae:=by
   rw[List.any_eq_false];intro y V;obtain⟨z,t,U⟩:=I y (Array.mem_toList_iff.mp V);simp[DictEntry.refKey,U]
  have O:¬es.toList.any (·.refKey)=ag:=by rw[a];exact aav
  rw[aag O];exact congrArg ac e
def Ux.look{x C:Addr}{D:Str->Option Value}(I:Ux h x dx C D):∃od,PySem.W.InstAt h x (aeL C dx) C (ac od)/\∀name,ae0 name od=ac (D name):=
 let⟨od,ho,hl⟩:=Jj I.ns
 ⟨od,⟨I.obj,rfl,rfl,ho⟩,hl⟩
variable{o:Option Value}
def mU.some_of{v:V}(r:mU (ac v) o):∃u,o=ac u/\RelV v u:=by
 cases o with
 |none=>exact(show False from r).elim
 |some u=>exact⟨u,rfl,r⟩
def mU.none_of(r:mU af o):o=af:=by
 cases o with
 |none=>rfl
 |some u=>exact(show False from r).elim
section
variable{P:Program}{w:World}{H H':Hp}{h h':Heap}{a C dx:Addr}{fs fs':List (Str×V)}
def Ik(hok:HOk P w H h)(e:H a=ac (.ins C dx fs)):∃D,Ux h a dx C D/\(∀f,mU (fs.lookup f) (D f))/\PySem.Within D (fs.map (·.1))/\fs.length<=1000/\H dx=ac (.own a):=by
 obtain⟨d,z,O,ob,D,n,r,q⟩:=(show cU P w H h a (.ins C dx fs)from hok a _ e);exact⟨D,⟨ob,n,O⟩,r,q,z,d⟩
end
structure Cls(K:PySem.W.Frag)(C:Addr):Prop where
 pg:af7 K C Str.empty=ag
 hd:PySem.W.hasDictIn K C=ag
 po:PySem.W.plainOver K C=ag
 sa:agm K (.ref C) "__setattr__"=ac (ac (.builtin "object.__setattr__"))
def Cls.get{K:ZW}{C:Addr}(c:Cls K C)(f:Str):af7 K C f=ag:=c.pg
inductive mQ(K:PySem.W.Frag)(H:Hp):V->Value->Prop where
 |non:mQ K H .non (.type "NoneType")
 |bl (x:Bool):mQ K H (.bl x) (.type "bool")
 |int (i:Int):mQ K H (.int i) (.type "int")
 |str (x:Str):mQ K H (.str x) (.type "str")
 |flt (x:UInt64):mQ K H (.flt x) (.type "float")
 |lst {a:Addr} {xs:List V} (e:H a=ac (.lst xs)):mQ K H (.ref a) (.type "list")
 |frz {a:Addr} {o:Obj} {xs:List V} (e:H a=ac (.frz o (.lst xs))):mQ K H (.ref a) (.type "list")
 |tup {a:Addr} {xs:List V} (e:H a=ac (.tup xs)):mQ K H (.ref a) (.type "tuple")
 |dK {a:Addr} {kvs:List (Key×V)} (e:H a=ac (.dK kvs)):mQ K H (.ref a) (.type "dict")
 |dT {a:Addr} {kvs:List (List Key×V)} (e:H a=ac (.dT kvs)):mQ K H (.ref a) (.type "dict")
 |ins {a C dx:Addr} {fs:List (Str×V)} (e:H a=ac (.ins C dx fs)) (cl:Cls K C) (ha:agm K (.ref C) "__class__"=ac (ac (.builtin "object.__class__")))
  (hn:PySem.W.specialIn K (.builtin "object.__class__") "__get__"=ac (ac (.builtin "getset_descriptor.__get__"))) (htk:PySem.W.takesIn K (.builtin "object.__class__")=ac ag)
  (hm:PySem.W.mroIn K C (.type "object")=ac ag):mQ K H 2.184 (.ref C)
variable{b:Bool}{s:Shared}{A:Around}{Q:Value->Shared->Prop}{c:Value}
def J_{x:V}{t:Value}(I:Inv X pins σ H s)(rx:RelV x u)(F:mQ X.K H x t)(e:adQ X.K t c=ac b)(h:∀tk,Q (.bool b) {s with toks:=tk}) :
  wpAny 1.12 A (call (.builtin "isinstance") [u,c]) Q E s:=by
 cases F with
 |non=>cases (show u=abr from rx);exact abd afZ I.kIn aa5 e (λz=>nomatch z) h
 |bl y=>cases (show u=aeq y from rx);exact abd af0 I.kIn aa5 e (λz=>nomatch z) h
 |int i=>obtain⟨t,q⟩:=(show ∃t,u=adw i t from rx);cases q;exact abd af8 I.kIn aa5 e (λz=>nomatch z) h
 |str y=>obtain⟨t,q⟩:=(show ∃t,u=adx y t from rx);cases q;exact abd af9 I.kIn aa5 e (λz=>nomatch z) h
 |flt y=>obtain⟨t,q⟩:=(show ∃t,u=af6 y t from rx);cases q;exact abd afC I.kIn aa5 e (λz=>nomatch z) h
 |@lst a xs D=>
  cases (show u=aaA a from rx);obtain⟨_,_,n,_,h1⟩:=(show cU X.prog X.w H s.heap a 2.44 from I.hok a _ D);exact abd ada I.kIn ⟨_,h1,rfl⟩ e (λz=>nomatch z) h
 |@frz a ob xs D=>
  cases (show u=aaA a from rx);obtain⟨_,_,_,n,_,h1⟩:=(show cU X.prog X.w H s.heap a (.frz ob 2.44)from I.hok a _ D);exact abd ada I.kIn ⟨_,h1,rfl⟩ e (λz=>nomatch z) h
 |@tup a xs D=>
  cases (show u=aaA a from rx);obtain⟨_,_,_,p⟩:=(show cU X.prog X.w H s.heap a 2.54 from I.hok a _ D);obtain⟨o,h1,h2,_⟩:=p;exact abd afD I.kIn ⟨o,h1,h2⟩ e (λz=>nomatch z) h
 |@dK a kvs D=>
  cases (show u=aaA a from rx);obtain⟨_,_,vs,_,p⟩:=(show cU X.prog X.w H s.heap a 2.20 from I.hok a _ D);obtain⟨o,es,Z,h1,h2,_⟩:=p;exact abd adb I.kIn ⟨o,h1,h2.1⟩ e (λz=>nomatch z) h
 |@dT a kvs D=>
  cases (show u=aaA a from rx);obtain⟨_,_,xs,_,o,es,Z,h1,h2,_⟩:=(show cU X.prog X.w H s.heap a (.dT kvs)from I.hok a _ D);exact abd adb I.kIn ⟨o,h1,h2.1⟩ e (λz=>nomatch z) h
 |@ins a C dx fs D cl Y hn U hm=>
  cases (show u=aaA a from rx);obtain⟨mA,O,_⟩:=Ik I.hok D;obtain⟨od,J,_⟩:=O.look;exact abd (af_ (cl.get _) cl.hd Y hn U hm) I.kIn J e (λz=>nomatch z) h
structure jM(k:Nat)(A:Around):Prop where
 hd:A.handled=af
 dp:A.depth+3*k+5<recursionLimit
 un:A.units+16*k+200<cLine
 gd:A.guards=ac []
variable{A:aaK}
def jM.mono(r:jM k A)(h:j<=k):jM j A:=⟨r.hd,by have:=r.dp;omega,by have:=r.un;omega,r.gd⟩
def jM.deeper(r:jM (k+1) A)(env:Env):jM k (A.deeper env):=
 ⟨r.hd,by have:=r.dp;show A.depth+1+3*k+5<_;omega,by have:=r.un;show A.units+3+16*k+200<_;omega,r.gd⟩
def jM.depth(r:jM k A):A.depth<recursionLimit:=by have:=r.dp;omega
def jM.units(r:jM k A):A.units+64<cLine:=by have:=r.un;omega
def V0:TA:=λ_ H Q=>Q [] H
def H_(ta:TE)(q:TA):TA:=λσ H Q=>ta σ H λx H1=>q σ H1 λxs H2=>Q (x::xs) H2
section
variable{X:Cx}{e:Expr}{es:List Expr}{te:TE}{t:TA}{pos:Pos}
def K3:PA X [] V0:=λ_ _ _ _ H Q I h=>af1 ⟨[],H,I,.nil,h⟩
def vg(Y:PE X e te)(Z:PA X es t)(hs:Z1 (e::es) X.env=(ae,eval e X.env)::Z1 es X.env:=by rfl):PA X (e::es) (H_ te t):=by
 intro pos pins s σ H Q I h;rw[hs];show wpAny _ _ (spliced ((ae,eval e X.env)::aa1 pos 2.83)) _ _ s;refine afE (thn 2.30 λu D ⟨x,H1,O,z,q1⟩=>?_);exact thn (Z pos pins D σ H1 _ O q1) λus F ⟨xs,H2,V,q,q2⟩=>⟨x::xs,H2,V,.cons z q,q2⟩
def ZD(t:TA):TE:=λσ H Q=>t σ H λxs H1=>xs.length<=Z0/\∀p,H1 p=af->Q 2.49 (upd H1 p 2.54)
def Zo(t:TA):TE:=λσ H Q=>t σ H λxs H1=>xs.length<=Z0/\∀p,H1 p=af->Q 2.49 (upd H1 p 2.44)
def KD{x1}(h:PA X es t):PE X (.Tuple es x1 pos) (ZD t):=by
 intro pins s σ H Q I D;refine wpAny_Tuple_spliced (thn (h pos pins s σ H _ I D) λus Z ⟨xs,H1,O,r,z,q⟩=>⟨by rw[←r.length];exact z,?_⟩);have Y:H1 Z.heap.objs.size=af:=O.hok.fresh (ZZ _);refine⟨.ref Z.heap.objs.size,upd H1 Z.heap.objs.size 2.54,O.laid (t':=Z.toks) (λb u e=>ZS _ e) (ZZ _) ?_,rfl,q _ Y⟩;exact⟨z,us,r,⟨_,Z_ _ rfl,rfl,_,rfl,rfl⟩⟩
def PK(h:PA X es t):PE X (.List es pos) (Zo t):=by
 intro pins s σ H Q I D;refine wpAny_List_spliced (thn (h pos pins s σ H _ I D) λus Z ⟨xs,H1,O,r,z,q⟩=>⟨by rw[←r.length];exact z,?_⟩);have Y:H1 Z.heap.objs.size=af:=O.hok.fresh (ZZ _);refine⟨.ref Z.heap.objs.size,upd H1 Z.heap.objs.size 2.44,O.laid (t':=Z.toks) (λb u e=>ZS _ e) (ZZ _) ?_,rfl,q _ Y⟩;exact⟨z,us,0,r,Z_ _ rfl⟩
end
abbrev Sp:=List V->Hp->VK->XK->Prop
abbrev CXT:=List Env->Hp->jl->XK->Value->jl->Prop
structure QM(P:Program)(w:World)(K:PySem.W.Frag)(mg:Str->Option Value)(base:Heap)(A:Around)(outer:List Env)(s:Shared)(H:Hp):Prop where
 frames:A.frames=ac outer
 mod:Mod K mg base
 bs:∀b o,base.get? b=ac o->s.heap.get? b=ac o/\H b=af
 bsz:base.objs.size<=s.heap.objs.size
 funs:s.heap.FunFrames base outer
 frf:∀b∈frs outer,H b=af
 hok:HOk P w H s.heap
 bare:adz s.gens
def CE(outer:List Env)(P:aad)(w:World)(H:Hp)(s:jl)(Q:VK)(u:Value)(s':jl):Prop:=
 ∃v H',s'.os=s.os/\adz s'.gens/\Un (frs outer) [] H H' s.heap s'.heap/\HOk P w H' s'.heap/\RelV v u/\Q v H'
def CR(CX:CXT)(outer:List Env)(P:aad)(w:World)(H:Hp)(s:jl)(Q:VK)(E:XK)(r:Result)(s':jl):Prop:=
 match r with
 |.ok (.ret u)=>CE outer P w H s Q u s'
 |.ok _=>False
 |.error e=>CX outer H s E e s'
structure dZ(P:Program)(w:World)(K:PySem.W.Frag)(mg:Str->Option Value)(base:Heap)(CX:CXT)(k:Nat)(f:Addr)(fd:FuncData)(ps:List Str)(sp:Sp):Prop where
 len:∀vs H Q E,sp vs H Q E->vs.length=ps.length
 run:∀(A:aaK)(outer:List Env)(s:jl)(H:Hp)(args:Args)(us:List Value)(vs:List V)(Q:VK)(E:XK),jM k A->QM P w K mg base A outer s H->ae1 s fd args (ps.zip us)->Vals vs us->sp vs H Q E->
  adR 2.128 A (.call 2.219 args) (CR CX outer P w H s Q E) s
variable{f:Addr}{CX:CXT}
theorem dZ.imp{K:ZW}{sp z:Sp}(F:dZ P w K mg base CX k f fd ps sp)
  (h:∀J H Q E,z J H Q E->sp J H Q E):dZ P w K mg base CX k f fd ps z:=
 ⟨λJ H Q E q=>F.len J H Q E (h _ _ _ _ q),λA outer s H args us J Q E Z V U D hs=>F.run A outer s H args us J Q E Z V U D (h _ _ _ _ hs)⟩
def Inv.env0(I:Inv X pins σ H s):QM X.prog X.w X.K X.mg X.base X.A X.stack s H:=
 ⟨I.ok.frames,I.ok.mod,I.bs,aaC I.ok.bsz I.sz,I.stack,I.stkFree,I.hok,I.bare⟩
variable{s':Shared}
def Inv.after{Q:VK}(I:Inv X pins σ H s)(h:CE X.stack X.prog X.w H s Q u s'):EP X pins σ Q u s':=by
 obtain⟨v,H',os,bare,un,hok,r,q⟩:=h;obtain⟨F,g,d,t,D⟩:=s';obtain rfl:D=s.os:=os;exact⟨v,H',I.call (h':=F) (g':=g) (d':=d) (t':=t) (ch:=[]) un hok bare (λb z=>absurd z (by simp)),r,q⟩
def Uj(sp:Sp)(dvs:List V)(E:XK)(t:TA):TE:=λσ H Q=>t σ H λJ H1=>sp (J++dvs) H1 Q E
def Binds(K:ZW)(fd:aap)(ps:List Str)(ds:List Value):Prop:=
 ∀(s:jl)(us:List Value),K.In s.heap->(us++ds).length=ps.length->ae1 s fd ⟨us,[]⟩ (ps.zip (us++ds))
def Binds.all{K:ZW}(h:∀us:List Value,us.length=ps.length->bindArgs fd ⟨us,[]⟩=pure (ps.zip us)):Binds K fd ps []:=λs us _ Y=>by
 rw[List.append_nil]at Y⊢;exact .of_eq (h us Y)
def FQ(CX:CXT)(X:Cx)(E:XK):Prop:=∀(pins:List (Addr×Obj))(σ:St)(H:Hp)(s:jl)(e:Value)(s':jl),Inv X pins σ H s->CX X.stack H s E e s'->X.xe e s'
section
variable{X:Cx}{CX:CXT}{k:Nat}{f C:Addr}{fd:FuncData}{ps:List Str}{sp:Sp}{dvs:List V}{ds:List Value}{E:XK}{x m:Str}{p pos apos:Pos}{e o:Expr}{es:List Expr}{ta:TE}{t:TA}
theorem We{pins:List (Addr×Obj)}{σ:St}{H:Hp}{s:jl}{Q:VK}{us:List Value}{J:List V}(F:dZ X.prog X.w X.K X.mg X.base CX k f fd ps sp)(Z:jM k X.A)(U:Binds X.K fd ps ds)(hd:Vals dvs ds)(z:FQ CX X E)
  (I:Inv X pins σ H s) (r:Vals J us) (h:sp (J++dvs) H Q E):wpAny 1.12 X.A (call 2.219 us) 2.41 X.xe s:=by
 have q:Vals (J++dvs) (us++ds):=r.append hd;have Y:(us++ds).length=ps.length:=by rw[←q.length];exact F.len _ _ _ _ h
 refine wpAny_call (adH (F.run X.A X.stack s H ⟨us,[]⟩ (us++ds) (J++dvs) Q E Z I.env0 (U s us I.kIn Y) q h) λr s' D=>?_);cases r with
 |error e=>exact z pins σ H s e s' I D
 |ok fl=>
  cases fl with
  |ret u=>exact I.after D
  |next=>exact ab6 D
  |brk=>exact ab6 D
  |cont=>exact ab6 D
def QH(F:dZ X.prog X.w X.K X.mg X.base CX k f fd ps sp)(Z:jM k X.A)(hg:Gl X x)(hm:X.mg x=ac 2.219)(hk:adS X.K 2.219=ag)(U:Binds X.K fd ps ds)(hd:Vals dvs ds)(hx:FQ CX X E)
  (Y:PA X (e::es) t) (D:(x==("__debug__":Str))=ae:=by decide) (V:Z1 (e::es) X.env=(ae,eval e X.env)::Z1 es X.env:=by rfl) (z:(aa1 pos 2.83).any (·.1)=ae:=by rfl) :
  PE X (.Call 2.117 (e::es) [] pos) (Uj sp dvs E t):=by
 intro pins s σ H Q I h;refine acj (Hd I hg hm ?_ D);refine PySem.W.callWith_K (h₀:=X.base) I.ok.mod.kin hk (thn 2.62 λus s1 ⟨J,H1,O,r,q⟩=>⟨O.kIn,?_⟩) V z;exact We F Z U hd hx O r q
end
structure bh(N P:List Str)(sc:Scope):Prop where
 kind:sc.kind= .function
 co:sc.isCoroutine=ae
 gen:sc.isGenerator=ae
 nd:N.Nodup
 pre:N.take P.length=P
 par:∀x∈P,sc.names.lookup x=ac .local∨sc.names.lookup x=ac .cell
 nofree:∀y∈sc.names,y.2≠.free
def za:∀{binds:List (Str×Value)}{m:Str->Option Value},(∀v,(x,v)∉binds)->bindL q binds m x=m x
 |[],_,_=>rfl
 |(n,v)::r,m,h=>by
  unfold bindL;rw[za λw Z=>h w (aai _ Z)];split
  .have:x≠n:=by rintro rfl;exact h v aaP
   simp[this]
  .rfl
def yK:∀{binds:List (Str×Value)}{m:Str->Option Value},(∀v,(x,v)∉binds)->bindC q binds m x=m x
 |[],_,_=>rfl
 |(n,v)::r,m,h=>by
  unfold bindC;rw[yK λw Z=>h w (aai _ Z)];split
  .rfl
  .have:x≠n:=by rintro rfl;exact h v aaP
   simp[this]
def yd{q:Str->Option abH}{x:Str}{v:Value}:∀{P:List Str}{J:List Value}{i:Nat}{m:Str->Option Value},P.Nodup->P[i]? =ac x->J[i]? =ac v->q x=ac .local->
  bindL q (P.zip J) m x=ac v
 |[],_,_,_,_,h,_,_=>by simp at h
 |_::_,[],_,_,_,_,h,_=>by simp at h
 |p::P,w::J,0,m,nd,h1,h2,hk=>by
  simp at h1 h2;subst h1;subst h2;show bindL q ((p,w)::P.zip J) m p=_;unfold bindL;rw[za λv Z=>(aah.mp nd).1 (acU Z).1,if_pos hk];simp
 |p::P,w::J,i+1,m,nd,h1,h2,hk=>by
  show bindL q ((p,w)::P.zip J) m x=_;unfold bindL;exact yd (i:=i) (aah.mp nd).2 (by simpa using h1) (by simpa using h2) hk
def yM{q:Str->Option abH}{x:Str}{v:Value}:∀{P:List Str}{J:List Value}{i:Nat}{m:Str->Option Value},P.Nodup->P[i]? =ac x->J[i]? =ac v->q x≠ac .local->
  bindC q (P.zip J) m x=ac v
 |[],_,_,_,_,h,_,_=>by simp at h
 |_::_,[],_,_,_,_,h,_=>by simp at h
 |p::P,w::J,0,m,nd,h1,h2,hk=>by
  simp at h1 h2;subst h1;subst h2;show bindC q ((p,w)::P.zip J) m p=_;unfold bindC;rw[yK λv Z=>(aah.mp nd).1 (acU Z).1,aag hk];simp
 |p::P,w::J,i+1,m,nd,h1,h2,hk=>by
  show bindC q ((p,w)::P.zip J) m x=_;unfold bindC;exact yM (i:=i) (aah.mp nd).2 (by simpa using h1) (by simpa using h2) hk
def start(N:List Str)(J:List V):St:=J.map ac++aaN (N.length-J.length) af
noncomputable def xV(CX:CXT)(P:aad)(w:World)(K:ZW)(mg:Str->Option Value)(base:Heap)(N:List Str)(qual:Str)(scope:Scope)(f:Addr)(D:Value)(A:aaK)(outer:List Env)(s:jl)(H:Hp)(E:XK):Cx where
 prog:=P
 w:=w
 K:=K
 mg:=mg
 base:=base
 A:=A.deeper 2.96
 N:=N
 s₀:=s
 H₀:=H
 env:=acO qual scope s.heap.objs.size f D
 outer:=outer
 stack:=acO qual scope s.heap.objs.size f D::outer
 ex:=[]
 calm:=ag
 fn:=λ_=>ag
 pn:=[]
 xe:=λe s'=>wpAny 2.128 (A.deeper 2.96) (leaving 2.96 e) (λ_ q=>CX outer H s E e q) (λe' q=>CX outer H s E e' q) s'
def Ew{z:Scope}(h:z.names.lookup x=ac .cell):∃c,(abf n z.names []).lookup x=ac c:=by
 have q:=aeR z.names n [] (.inl h);exact abI.mp q
theorem J1{K:ZW}{D:Value}{outer:List Env}{s Z:jl}{E:XK}{J:List V}
  (S:bh N ps scope) (hd:A.handled=af) (F:QM P w K mg base A outer s H) (hl:J.length=ps.length) (r:Vals J us)
  (x:InCallC s s.heap.objs.size (bindL (acO qual scope s.heap.objs.size f D).kindOf (ps.zip us) λ_=>af) (abf (s.heap.objs.size+1) scope.names []) (bindC (acO qual scope s.heap.objs.size f D).kindOf (ps.zip us) λ_=>af) Z) :
  Inv (xV CX P w K mg base N qual scope f D A outer s H E) [] (start N J) H Z:=by
 have a2:ps.length<=N.length:=by have:=congrArg acQ S.pre;rw[aaD]at this;omega
 obtain⟨h1,tk,rfl,I⟩:=x.done;have a0:∀b:Addr,b∉(xV CX P w K mg base N qual scope f D A outer s H E).ex:=λb z=>absurd (show b∈([]:List Addr)from z) (by simp);refine⟨⟨F.mod,S.kind,rfl,rfl,ZZ _,λy z c h1 h2=>?_,λy hy=>?_,λy c _ h=>?_,λ_=>hd,Around.frames_deeper F.frames,.inr ⟨rfl,rfl⟩,λb z=>absurd z (a0 b),F.bs,F.bsz,λb _ _=>a0 b,λb z=>absurd z (a0 b),F.funs,F.frf⟩,
  rfl,F.bare,Un.kept I,⟨_,x.toInCall.ns,λi y v h1 h2 O=>?_⟩,λy c h=>⟨_,x.cell y c h⟩,F.hok.fresh (ZZ _),λy c h=>?_,λp hp=>absurd (show p∈([]:List (Addr×Obj))from hp) (by simp),F.hok.kept I,?_⟩
 .exact name_of_addr x.apart (abT h1) (abT h2)
 .have hy:scope.names.lookup y=ac .cell∨scope.names.lookup y=ac .free:=hy
  rcases hy with hy|hy
  .exact Ew hy
  .exact absurd rfl (S.nofree _ (abT hy))
 .exact aca (x.above y c (abT h))
 .have hi:i<J.length:=by
   unfold start at h2;by_cases hi:i<J.length
   .exact hi
   .rw[aa8 (by simpa using hi)]at h2
    rw[aeG]at h2;split at h2<;>cases h2
  have Y:J[i]? =ac v:=by
   unfold start at h2;rw[abq (by simpa using hi),List.getElem?_map]at h2;cases e:J[i]? with
   |none=>rw[e]at h2;cases h2
   |some a=>rw[e]at h2;cases h2;rfl
  obtain⟨u,hu,U⟩:=r.get Y;have hp:ps[i]? =ac y:=by
   rw[←S.pre,List.getElem?_take_of_lt 1.10];exact h1
  have a1:ps.Nodup:=by rw[←S.pre];exact S.nd.sublist (af2 _ _)
  refine⟨u,U,?_⟩;rcases S.par y (aau hp)with k|k
  .exact .inl ⟨k,yd a1 hp hu k⟩
  .obtain⟨c,e⟩:=Ew (n:=s.heap.objs.size+1) k
   refine .inr ⟨.inl k,c,e,?_⟩;have q:=x.cell y c e;rw[yM a1 hp hu (by show scope.names.lookup y≠_;rw[k];decide)]at q;exact q
 .exact F.hok.fresh (aca (x.above y c (abT h)))
 .unfold start
  show _=N.length;rw[List.length_append,Pr,List.length_replicate];omega
def Ys{K:ZW}{a0:Arguments}{dV kV doc pm cdv ct:Value}{an od:Option Addr}
    {sp:Sp} (lk:K.lookup f=ac ⟨oc,od,.func 2.136,osl⟩) (O:ae2 K cdv qual=ag) (S:bh N ps scope)
  (len:∀vs H Q E,sp vs H Q E->vs.length=ps.length)
  (z:∀(A:aaK)(outer:List Env)(s:jl)(H:Hp)(vs:List V)(Q:VK)(E:XK),jM k (A.deeper (acO qual scope s.heap.objs.size f cdv))->sp vs H Q E->
   ∃t,PSs 2.63 body t/\t {nx:=λ_ H'=>Q .non H',rt:=Q} (start N vs) H) :
  dZ P w K mg base CX (k+1) f 2.136 ps sp:=by
 refine⟨len,λA outer s H args us vs Q E Z e0 U r a2=>?_⟩;have Y:=len _ _ _ _ a2;have KX:K.In s.heap:=e0.mod.kin.keeps λb o e=>(e0.bs b o e).1;have a3:s.heap.NoLimit:=e0.mod.nolimit.keeps λb o e=>(e0.bs b o e).1;have a1:∀y∈ps.zip us,scope.names.lookup y.1=ac .local∨(scope.names.lookup y.1=ac .cell/\((abf (s.heap.objs.size+1) scope.names []).lookup y.1).isSome=ag):=λ⟨n,v⟩ hy=>by
  rcases S.par n (acU hy).1 with q|q
  .exact .inl q
  .exact .inr ⟨q,aeR _ _ _ (.inl q)⟩
 refine codeAny_call_function Z.depth (KX _ _ lk) rfl S.co S.gen rfl (PySem.W.codeRec_of KX O) (U _ _ _ _ ?_);refine wpAny_newFunctionEnv_cells S.kind a1 λenv he s1 x=>?_;subst he;refine⟨a3.keeps x.toInCall.keep,codeAny_func ?_⟩;obtain⟨t,ht,D⟩:=z A outer s H vs Q E (Z.deeper _) a2;have I:Inv 2.63 [] (start N vs) H s1:=J1 S Z.hd e0 Y r x;refine aci (ht [] s1 (start N vs) H _ I D) (λfl s' hs=>?_) λe s' hs=>hs;have fin:∀{F:St}{H':Hp}{v:V}{u:Value},Inv 2.63 [] F H' s'->RelV v u->Q v H'->CE outer P w H s Q u s':=
  λ{F H' v u} J rv q=>⟨v,H',J.os,J.bare,J.base,J.hok,rv,q⟩
 cases fl with
 |ret u=>
  obtain⟨v,F,H',J,rv,q⟩:=hs;exact fin J rv q
 |next=>
  obtain⟨F,H',J,q⟩:=hs;exact fin (v:=V.non) (u:=abr) J rfl q
 |brk=>
  obtain⟨_,_,_,q⟩:=hs;exact ab6 q
 |cont=>
  obtain⟨_,_,_,q⟩:=hs;exact ab6 q
section
variable{X:Cx}{x:Str}{p pos:Pos}{e:Expr}{es:List Expr}{t:TA}{id T:String}{r:List V->Hp->VK->Prop}
def tCB(r:List V->Hp->VK->Prop)(t:TA):TE:=λσ H Q=>t σ H λJ H1=>r J H1 Q
def Qn(O:gk X 2.58 r)(F:Gl X x)(D:X.mg x=af)(hv:abx x=ac 2.58)(Y:PA X (e::es) t)(hn:x≠"__name__":=by decide)(q:(x==("__debug__":Str))=ae:=by decide)
  (V:Z1 (e::es) X.env=(ae,eval e X.env)::Z1 es X.env:=by rfl) (U:(aa1 pos 2.83).any (·.1)=ae:=by rfl):PE X (.Call 2.117 (e::es) [] pos) (tCB r t):=by
 intro pins s σ H Q I h;refine acj (nZ I F D hv ?_ hn q);exact PyProof.Rows.callWith_builtin1 (thn 2.62 λus Z ⟨J,H1,I1,z,q1⟩=>O pins Z σ H1 J us Q I1 z q1) V U
def zj(O:gk X (.type T) r)(F:Gl X x)(D:X.mg x=af)(hv:abx x=ac (.type T))(Y:PA X (e::es) t)(hn:x≠"__name__":=by decide)(q:(x==("__debug__":Str))=ae:=by decide)
  (V:Z1 (e::es) X.env=(ae,eval e X.env)::Z1 es X.env:=by rfl) (U:(aa1 pos 2.83).any (·.1)=ae:=by rfl):PE X (.Call 2.117 (e::es) [] pos) (tCB r t):=by
 intro pins s σ H Q I h;refine acj (nZ I F D hv ?_ hn q);exact abv (thn 2.62 λus Z ⟨J,H1,I1,z,q1⟩=>O pins Z σ H1 J us Q I1 z q1) V U
end
end L2
namespace HT
open PySem PyProof.Rows
def cat_tup{t:Addr}{J q:List Value}(ht:IsTup s.heap t J.toArray)(U:IsTup s.heap b q.toArray)(Z:J≠[])
  (h1:q=[]->Q (.ref t) s) (h2:q≠[]->Q 2.36 {s with heap:=s.heap.push {cls:=.type "tuple",data:=.seq (J++q).toArray}})
  (hsz:J.length+q.length<=Z0):wpAny 2.15 A (abg .Add (.ref t) (.ref b)) Q E s:=by
 obtain⟨⟨cls,D,data,sl⟩,ho,O,n,hd⟩:=id ht;obtain⟨⟨a2,z,Y,a1⟩,V,I,n2,a0⟩:=id U;simp only at O hd I a0;subst O hd I a0;have e:J.toArray++q.toArray=(J++q).toArray:=by simp
 by_cases hw:q=[]
 .exact afF ⟨_,ho,rfl⟩ ⟨_,V,rfl⟩ aey afo adm ac9 (ac0 _ _)
   (tuple_addW1 t b J.toArray q.toArray n n2 D z sl a1 (by simpa using Z) (by simp[hw])) ⟨ho,V,h1 hw⟩
 .refine afF ⟨_,ho,rfl⟩ ⟨_,V,rfl⟩ aey afo adm ac9 (ac0 _ _)
   (tuple_addW2 t b J.toArray q.toArray n n2 D z sl a1 (by simpa using Z) (by simpa using hw) (by rw[List.size_toArray,List.size_toArray];exact hsz)) ⟨ho,V,?_⟩
  rw[e];exact h2 hw
def sIx(n d:Nat):Option Int->Nat
 |none=>d
 |some v=>if v<0 then(v+(n:Int)).toNat else min v.toNat n
def sIx_none(n d:Nat):sIx n d af=d:=rfl
def sIx_nat(n d k:Nat):sIx n d (ac (k:Int))=min k n:=by
 show(if(k:Int)<0 then((k:Int)+(n:Int)).toNat else min (k:Int).toNat n)=min k n;rw[aag 1.10,aa6]
def W3(n d:Nat)(hd:d<=n)(o:Option Int):sIx n d o<=n:=by
 cases o with
 |none=>exact hd
 |some v=>
  show(if v<0 then(v+(n:Int)).toNat else min v.toNat n)<=n;by_cases Z:v<0
  .rw[if_pos Z];omega
  .rw[aag Z];exact aga _ _
def Hm(v:Int)(n d:Nat):(if v<0 then max (v+(n:Int)) 0 else min v (n:Int))=((sIx n d (ac v):Nat):Int):=by
 show(if v<0 then max (v+(n:Int)) 0 else min v (n:Int))=(((if v<0 then(v+(n:Int)).toNat else min v.toNat n):Nat):Int);by_cases Z:v<0
 .simp![if_pos Z];omega
 .simp![aag Z];omega
def adjust_gen(lo hi:Option Int)(n:Nat):aaH lo hi 1 (n:Int)=(((sIx n 0 lo:Nat):Int),((sIx n n hi:Nat):Int)):=by
 have h1:¬((1:Int)<0):=by omega
 unfold aaH;simp![h1,ab2];refine Prod.ext ?_ ?_
 .cases lo with
  |none=>rfl
  |some v=>exact Hm v n 0
 .cases hi with
  |none=>rfl
  |some v=>exact Hm v n n
def places_gen(i j:Nat):aaE (i:Int) (j:Int) 1=j-i:=by
 unfold aaE;have h1:(1:Int)>0:=by omega
 simp![h1,aal,Int.ediv_one];split<;>omega
def slicePart_{o:Option Int}{Q:Option Int->jl->Prop}(p:acz v o)(h:Q o s):wpAny 2.15 A (Builtin.Slice.slicePartIndex v) Q E s:=by
 cases p with
 |none=>exact slicePart_none h
 |int i t=>exact slicePart_int h
def tZ{vl F:Value}{lo hi:Option Int}{Q:Int×Int×Nat->jl->Prop}(hs:s.heap.IsSliceOf sl vl F .none)(pl:acz vl lo)(D:acz F hi)
  (h:Q (((sIx n 0 lo:Nat):Int),1,sIx n n hi-sIx n 0 lo) s):wpAny 2.15 A (ab3 (.ref sl) (pure (n:Int))) Q E s:=by
 obtain⟨os,Y,q,V⟩:=id hs;unfold ab3 Builtin.Slice.sliceFields;refine Mz (Mz (abV Y V (x:=vl) rfl (Mz (abV Y V (x:=F) rfl (Mz (abV Y V (x:=.none) rfl (Z3 ?_)))))));refine Mz (slicePart_none ?_);show wpAny _ _ (if((1:Int)==0)=ag then _ else _) _ _ s;rw[aag (by decide)];refine Mz (slicePart_ pl (Mz (slicePart_ D (Mz (Z3 ?_)))));show wpAny _ _ (match aaH lo hi 1 (n:Int)with|(lo,hi)=>pure (lo,(1:Int),aaE lo hi 1)) _ _ s;rw[adjust_gen lo hi n];show wpAny _ _ (pure (((sIx n 0 lo:Nat):Int),(1:Int),aaE ((sIx n 0 lo:Nat):Int) ((sIx n n hi:Nat):Int) 1)) _ _ s;rw[places_gen];exact Z3 h
def O3(xs:Array Value)(i k:Nat):((aaG k).filterMap λ(m:Nat)=>xs[((i:Int)+(m:Int)*1).toNat]?).toArray=((xs.toList.drop i).take k).toArray:=by
 have e:(λ(m:Nat)=>xs[((i:Int)+(m:Int)*1).toNat]?)=λm=>xs[i+m]?:=by
  funext m;have:((i:Int)+(m:Int)*1).toNat=i+m:=by omega
  rw[this]
 rw[e];have:=pick_run xs i k;rw[List.filterMap_map]at this;have e2:((λx=>xs[x]?)∘λx=>i+x)=λm=>xs[i+m]?:=rfl;rw[e2]at this;rw[this]
def getItem_tuple_cut{t:Addr}{vl F:Value}{lo hi:Option Int}(O:IsTup s.heap t items)(hs:s.heap.IsSliceOf sl vl F .none)(pl:acz vl lo)(D:acz F hi)
  (Z:¬(sIx items.size 0 lo=0/\sIx items.size items.size hi=items.size))
  (h:Q 2.36 {s with heap:=s.heap.push {cls:=.type "tuple",data:=.seq ((items.toList.drop (sIx items.size 0 lo)).take (sIx items.size items.size hi-sIx items.size 0 lo)).toArray}})
  (hsz:items.size<=Z0):wpAny 2.15 A (adT (.ref t) (.ref sl)) Q E s:=by
 have I:sizeOk (.seq ((items.toList.drop (sIx items.size 0 lo)).take (sIx items.size items.size hi-sIx items.size 0 lo)).toArray):=by
  show((items.toList.drop (sIx items.size 0 lo)).take (sIx items.size items.size hi-sIx items.size 0 lo)).toArray.size<=Z0;rw[List.size_toArray,aaD,abB,adP];omega
 have U:sIx items.size items.size hi<=items.size:=W3 _ _ (ZZ _) hi;obtain⟨os,Y,a0,V⟩:=id hs;have J:s.TypeIs (.ref sl) "slice":=⟨os,Y,a0⟩;unfold adT
 try with_reducible refine ab1 ?_
 first|refine Mz (Z3 ?_)|skip
 refine Mz (wpAny_sequenceKey O.typeIs (by decide) ?_);refine Mz (abt (name:=aby "__getitem__") O.typeIs aaJ
  (acG aaJ O.typeIs aft ?_ (args_tuple_getitem _ _)))
 show wpAny _ _ (aef (.ref t) >>=_) _ _ s;refine Mz (tupleItemsOf_ O ?_);refine Mz (afG J ?_);rw[if_pos (by decide)];refine Mz (tZ hs pl D ?_);have z:¬((((sIx items.size 0 lo:Nat):Int)==0&&(1:Int)==1&&(sIx items.size items.size hi-sIx items.size 0 lo)==items.size)=ag):=by
  intro q;rw[aaa,aaa]at q;have q1:((sIx items.size 0 lo:Nat):Int)=0:=eq_of_beq q.1.1;have q2:sIx items.size items.size hi-sIx items.size 0 lo=items.size:=eq_of_beq q.2;exact Z ⟨by omega,by omega⟩
 show wpAny _ _ (if(((sIx items.size 0 lo:Nat):Int)==0&&(1:Int)==1&&(sIx items.size items.size hi-sIx items.size 0 lo)==items.size)=ag then _ else _) _ _ s;rw[aag z,O3]
 first
  |exact Mz (m:=abJ _) (abO (Z3 ⟨_,rfl,Z3 h⟩) I)
  |exact Mz (m:=abJ _) (abO (Mz (Z3 (Z3 ⟨_,rfl,Z3 h⟩))) I)
  |exact Mz (Mz (m:=abJ _) (abO (Z3 (Z3 ⟨_,rfl,Z3 h⟩)) I))
  |exact Mz (Mz (m:=abJ _) (abO (Z3 ⟨_,rfl,Z3 h⟩) I))
end HT
namespace L2
open PySem PySem.Spec PyProof.Rows
abbrev TO:=St->Hp->(Option Int->Hp->Prop)->Prop
def PO(X:Cx)(e:Option Expr)(t:TO):Prop:=
 ∀(pins:List (Addr×Obj))(s:jl)(σ:St)(H:Hp)(Q:Option Int->Hp->Prop),Inv X pins σ H s->t σ H Q->
  wpAny 1.12 X.A (evalPart e X.env) (λu s'=>∃o H',Inv X pins σ H' s'/\acz u o/\Q o H') X.xe s
def Q3:TO:=λ_ H Q=>Q af H
def Yt(t:TE):TO:=λσ H Q=>t σ H λx H1=>∃i,x= .int i/\Q (ac i) H1
section
variable{X:Cx}{e:Expr}{te:TE}{lo hi:Option Expr}{tl th:TO}{pos p2:Pos}
def Ia:PO X af Q3:=by
 intro pins s σ H Q I h;rw[afp];exact Z3 ⟨af,H,I,.none,h⟩
def Hw(h:PE X e te):PO X (ac e) (Yt te):=by
 intro pins s σ H Q I D;rw[evalPart_some];refine thn (h pins s σ H _ I D) λu Z ⟨x,H1,O,z,q1⟩=>?_;obtain⟨i,rfl,q⟩:=q1;obtain⟨t,rfl⟩:=z;exact⟨ac i,H1,O,.int i t,q⟩
def SlR(X:Cx)(r:V->Option Int->Option Int->Hp->VK->Prop):Prop:=
 ∀(pins:List (Addr×Obj))(s:jl)(σ:St)(H:Hp)(x:V)(v vl F:Value)(lo hi:Option Int)(sl:Addr)(Q:VK),Inv X pins σ H s->RelV x v->s.heap.IsSliceOf sl vl F .none->acz vl lo->acz F hi->r x lo hi H Q->
  ∃T id,typeLookup (.type T) "__getitem__"=pure (ac 2.58)/\s.TypeIs v T/\wpAny 1.12 X.A (adT v (.ref sl)) 2.41 X.xe s
def SlR.or{r Z:V->Option Int->Option Int->Hp->VK->Prop}(h:SlR X r)(h':SlR X Z):SlR X (λx lo hi H Q=>r x lo hi H Q∨Z x lo hi H Q):=by
 intro pins s σ H x v vl F lo hi sl Q I rx hs pl D q;rcases q with q|q
 .exact h pins s σ H x v vl F lo hi sl Q I rx hs pl D q
 .exact h' pins s σ H x v vl F lo hi sl Q I rx hs pl D q
def tSl(r:V->Option Int->Option Int->Hp->VK->Prop)(te:TE)(tl th:TO):TE:=λσ H Q=>te σ H λx H1=>tl σ H1 λl H2=>th σ H2 λu Y=>r x l u Y Q
def DP{r:V->Option Int->Option Int->Hp->VK->Prop}(Z:SlR X r)(he:PE X e te)(Y:PO X lo tl)(hu:PO X hi th):PE X (.Subscript e (.Slice lo hi af p2) pos) (tSl r te tl th):=by
 intro pins s σ H Q I h;refine Subscript_ (thn (he pins s σ H _ I h) λv s1 ⟨x,H1,O,z,q1⟩=>?_);refine wpAny_Slice (thn (Y pins s1 σ H1 _ O q1) λvl s2 ⟨l,H2,I2,pl,q2⟩=>thn (hu pins s2 σ H2 _ I2 q2) λvu J ⟨u,H3,I3,pu,D⟩=>?_);rw[afp];refine Z3 ?_;have I4:Inv X pins σ H3 {J with heap:=J.heap.push {cls:=.type "slice",data:=.fields #[vl,vu,.none]}}:=I3.kept (t':=J.toks) λb ob q=>ZS _ q;obtain⟨T,id,hT,U,F⟩:=Z pins {J with heap:=J.heap.push {cls:=.type "slice",data:=.fields #[vl,vu,.none]}} σ H3 x v vl vu l u J.heap.objs.size Q I4 z (ad6 ..) pl pu D;show wpAny 1.12 X.A (aeg e (.Slice lo hi af p2) v (.ref J.heap.objs.size)) 2.41 X.xe {J with heap:=J.heap.push {cls:=.type "slice",data:=.fields #[vl,vu,.none]}};exact afe (ops:=[.ref J.heap.objs.size,v]) U hT F (by with_unfolding_all rfl)
def wY(xs:List V)(lo hi:Option Int):List V:=(xs.drop 2.118).take (HT.sIx xs.length xs.length hi-HT.sIx xs.length 0 lo)
def uo(xs:List V)(lo hi:Option Int):(wY xs lo hi).length<=xs.length:=by
 unfold wY;rw[aaD,abB];omega
def Zq(K:ZW):V->Option Int->Option Int->Hp->VK->Prop:=λx lo hi H Q=>∃a xs,x= .ref a/\SqT K H a xs/\
 ¬(HT.sIx xs.length 0 lo=0/\HT.sIx xs.length xs.length hi=xs.length)/\∀p,H p=af->Q 2.49 (upd H p (.tup 2.202))
def V1:SlR X (Zq X.K):=by
 intro pins s σ H x v vl F lo hi sl Q I rx hs pl D h;obtain⟨a,xs,rfl,J,Z,q⟩:=h;cases rx;obtain⟨its,r,U,hz⟩:=I.tuple J;have z:its.toArray.size=xs.length:=by rw[List.size_toArray];exact r.length.symm
 refine⟨"tuple",_,aaJ.lookup,U.typeIs,?_⟩;refine HT.getItem_tuple_cut U hs pl D (by rw[z];exact Z) ?_ (by rw[z];exact hz);rw[z];refine⟨.ref s.heap.objs.size,_,I.laid (t':=s.toks) (o:=.tup 2.202) (λb ob q=>ZS _ q) (ZZ _) ?_,rfl,q _ 2.105⟩;exact⟨aaC (uo xs lo hi) hz,_,(r.drop 2.118).take (HT.sIx xs.length xs.length hi-HT.sIx xs.length 0 lo),mJ.new _ _⟩
def Ze(K:ZW):R2:=λx y H Q=>∃a b xs ys,x= .ref a/\y= .ref b/\SqT K H a xs/\SqT K H b ys/\xs≠[]/\xs.length+ys.length<=Z0/\
 (ys=[]->Q 2.184 H)/\(ys≠[]->∀p,H p=af->Q 2.49 (upd H p (.tup (xs++ys))))
def Vals.nil_iff{xs:List V}{us:List Value}(r:Vals xs us):us=[]↔xs=[]:=by
 cases r with
 |nil=>simp
 |cons _ _=>simp
def Rg:OpR X (abg .Add) (Ze X.K):=by
 intro pins s σ H x y v u Q I rx F h;obtain⟨a,b,xs,ys,rfl,rfl,Y,U,J,hz,q1,q2⟩:=h;cases rx;cases F;obtain⟨its,V,p1,_⟩:=I.tuple Y;obtain⟨D,O,p2,_⟩:=I.tuple U;refine HT.cat_tup p1 p2 (λz=>J (V.nil_iff.mp z)) (λz=>⟨.ref a,H,I,rfl,q1 (O.nil_iff.mp z)⟩) (λz=>?_) (by rw[←V.length,←O.length];exact hz);refine⟨.ref s.heap.objs.size,_,I.laid (t':=s.toks) (o:=.tup (xs++ys)) (λb ob q=>ZS _ q) (ZZ _) ?_,rfl,q2 (λw=>z (O.nil_iff.mpr w)) _ 2.105⟩;exact⟨by rw[List.length_append];exact hz,_,V.append O,mJ.new _ _⟩
end
def ixN(n:Nat)(i:Int):Option Nat:=if 0<=i then(if i<n then ac i.toNat else af)else if -(n:Int)<=i then ac (i+n).toNat else af
def atI(xs:List α)(i:Int):Option α:=(ixN xs.length i).bind λj=>xs[j]?
variable{i:Int}
def zE(h:ixN n i=ac j):afH i n=ac j/\j<n/\-(n:Int)<=i/\i<n:=by
 unfold ixN at h;by_cases z:0<=i
 .rw[if_pos z]at h
  by_cases h1:i<n
  .rw[if_pos h1]at h
   have e:i.toNat=j:=aaR h;exact⟨by rw[aeS z h1,e],by omega,by omega,h1⟩
  .rw[aag h1]at h;cases h
 .rw[aag z]at h
  by_cases h1: -(n:Int)<=i
  .rw[if_pos h1]at h
   have e:(i+n).toNat=j:=aaR h;exact⟨by rw[afI 1.10 h1,e],by omega,h1,by omega⟩
  .rw[aag h1]at h;cases h
def Aw{xs:List α}{v:α}(h:atI xs i=ac v):∃j,afH i xs.length=ac j/\xs[j]? =ac v/\j<xs.length/\-(xs.length:Int)<=i/\i<xs.length:=by
 unfold atI at h;cases e:ixN xs.length i with
 |none=>rw[e]at h;cases h
 |some j=>
  rw[e]at h;obtain⟨h1,h2,O,Z⟩:=zE e;exact⟨j,h1,h,h2,O,Z⟩
def oV(b:Expr):Prop:=∀o i,subscripted b ae o i=operate [o,i] (adT o i)
def IxR(X:Cx)(r:R2):Prop:=
 ∀(J U:Expr)(pins:List (Addr×Obj))(s:jl)(σ:St)(H:Hp)(x y:V)(v u:Value)(Q:VK),Inv X pins σ H s->RelV x v->RelV y u->r x y H Q->
  subscripted U ae v u=operate [v,u] (adT v u)->wpAny 1.12 X.A (aeg J U v u) 2.41 X.xe s
def MtR(X:Cx)(id:String)(r:V->List V->Hp->VK->Prop):Prop:=
 ∀(pins:List (Addr×Obj))(s:jl)(σ:St)(H:Hp)(x:V)(xs:List V)(v:Value)(us:List Value)(Q:VK),Inv X pins σ H s->RelV x v->Vals xs us->r x xs H Q->
  wpAny 1.12 X.A (call 2.58 (v::us)) 2.41 X.xe s
section
variable{X:Cx}{a b:Expr}{ta tb:TE}{pos:Pos}
def IxR.or{r Z:R2}(h:IxR X r)(h':IxR X Z):IxR X (λx y H Q=>r x y H Q∨Z x y H Q):=by
 intro J U pins s σ H x y v u Q I rx F q hs;rcases q with q|q
 .exact h J U pins s σ H x y v u Q I rx F q hs
 .exact h' J U pins s σ H x y v u Q I rx F q hs
def Em{r:R2}(Z:IxR X r)(Y:PE X a ta)(U:PE X b tb)(hs:oV b):PE X (.Subscript a b pos) (tOp r ta tb):=by
 intro pins s σ H Q I h;exact Subscript_ (VR Y U I h λv u z x y H2 V rx F q=>Z a b pins z σ H2 x y v u Q V rx F q (hs _ _))
def Yk(K:ZW):R2:=λx y H Q=>∃p xs i v,x= .ref p/\y= .int i/\SqL K H p xs/\atI xs i=ac v/\Q v H
def Zg(K:ZW):R2:=λx y H Q=>∃p xs i v,x= .ref p/\y= .int i/\SqT K H p xs/\atI xs i=ac v/\Q v H
def XJ:R2:=λx y H Q=>∃z i c,x= .str z/\y= .int i/\z.length<=Z0/\atI z.cps.toList i=ac c/\Q (.str ⟨#[c]⟩) H
def Sx:IxR X (Yk X.K):=by
 intro J U pins s σ H x y v u Q I rx F h hs;obtain⟨p,xs,i,z,rfl,rfl,D,V,q⟩:=h;cases rx;obtain⟨t,rfl⟩:=F;obtain⟨its,r,pl,hz⟩:=I.list D;obtain⟨j,h1,h2,O,Z,h5⟩:=Aw V;obtain⟨w,ew,a0⟩:=r.get h2;have Y:=r.length;have hn:=qt;have fin:EP X pins σ Q w s:=⟨z,H,I,a0,q⟩;by_cases h0:0<=i
 .have hj:i.toNat=j:=by
   rw[aeS h0 h5]at h1;exact aaR h1
  exact item_listR pl.isList h0 1.10 (by rw[hj];simpa using ew) fin hs
 .have hj:(i+(its.toArray.size:Int)).toNat=j:=by
   rw[afI 1.10 Z]at h1;rw[List.size_toArray,←Y];exact aaR h1
  exact aeT (x:=w) pl.isList.typeIs aen.lookup
   (wpAny_getItem_list_neg (Q:=λr s'=>r=w/\EP X pins σ Q r s') pl.isList 1.10 (by rw[List.size_toArray]<;>omega) 1.10 (by rw[hj];simpa using ew) ⟨rfl,fin⟩) hs
def WQ:IxR X (Zg X.K):=by
 intro J U pins s σ H x y v u Q I rx F h hs;obtain⟨p,xs,i,z,rfl,rfl,D,V,q⟩:=h;cases rx;obtain⟨t,rfl⟩:=F;obtain⟨its,r,pl,hz⟩:=I.tuple D;obtain⟨j,h1,h2,O,Z,h5⟩:=Aw V;obtain⟨w,ew,a0⟩:=r.get h2;have Y:=r.length;have hn:=qt;have fin:EP X pins σ Q w s:=⟨z,H,I,a0,q⟩;exact aeT (x:=w) pl.typeIs slot_tuple_getitem.lookup
  (getItem_tuple (j:=j) (Q:=λr s'=>r=w/\EP X pins σ Q r s') pl 1.10 1.10 (by rw[List.size_toArray,←Y];exact h1) (by simpa using ew) ⟨rfl,fin⟩) hs
def Uz:IxR X XJ:=by
 intro J U pins s σ H x y v u Q I rx F h hs;obtain⟨z,i,c,rfl,rfl,hz,V,q⟩:=h;obtain⟨t,rfl⟩:=rx;obtain⟨t',rfl⟩:=F;obtain⟨j,h1,h2,O,Z,D⟩:=Aw V;have Y:z.cps.toList.length=z.length:=by simp[Str.length]
 rw[Y]at h1 Z D;have hn:=qt;exact afe (typeIs_str s z t) slot_str_getitem.lookup (getItem_str (c:=c) (by
  have e1:decide (i< -(2 ^ 63:Int))=ae:=aac 1.10;have e2:decide (i>=2 ^ 63)=ae:=aac 1.10;rw[e1,e2,Bool.or_false]) (by rw[h1];simpa using h2) ⟨.str ⟨#[c]⟩,H,I.tok _,⟨_,rfl⟩,q⟩) hs
def rIx(K:ZW):R2:=λx y H Q=>Yk K x y H Q∨Zg K x y H Q∨XJ x y H Q
def VB:IxR X (rIx X.K):=Sx.or (WQ.or Uz)
def G6(its:List Value)(n j:Nat)(u:Value):acH (·.setIfInBounds j u) {cls:=.type "list",data:=.seq its.toArray n}={cls:=.type "list",data:=.seq (its.set j u).toArray n}:=by
 simp[acH]
def Inv.lst{pins:List (Addr×Obj)}{σ:St}{H:Hp}{s:jl}{p:Addr}{xs:List V}(I:Inv X pins σ H s)(h:H p=ac 2.44) :
  ∃(its:List Value)(n:Nat),Vals xs its/\s.heap.get? p=ac {cls:=.type "list",data:=.seq its.toArray n}/\xs.length<=Z0:=by
 obtain⟨z,its,n,r,e⟩:=I.hok p _ h;exact⟨its,n,r,e,z⟩
def Inv.lstUpd{pins:List (Addr×Obj)}{σ:St}{H:Hp}{s:jl}{p:Addr}{xs ys:List V}{its its':List Value}{n O:Nat}{f:Obj->Obj}(I:Inv X pins σ H s)(h:H p=ac 2.44)
  (F:s.heap.get? p=ac {cls:=.type "list",data:=.seq its.toArray n}) (Y:f {cls:=.type "list",data:=.seq its.toArray n}={cls:=.type "list",data:=.seq its'.toArray O}) (r:Vals ys its') (hz:ys.length<=Z0) (t:Nat) :
  Inv X pins σ (upd H p 2.129) {s with heap:=s.heap.update p f,toks:=t}:=by
 have e:(s.heap.update p f).get? p=ac {cls:=.type "list",data:=.seq its'.toArray O}:=by
  rw[acA f F (by rw[Y]<;>rfl),Y]
 refine I.write (x:=p) (e:=p) (by rw[h];trivial) 2.81 (λb u U q=>(abl _ _ (aaS U)).trans q) ⟨_,e⟩ ?_;exact⟨hz,its',O,r,e⟩
def Uk:V->V->V->Hp->(Hp->Prop)->Prop:=λo i v H Q=>∃p xs k j,o= .ref p/\i= .int k/\H p=ac 2.44/\ixN xs.length k=ac j/\Q (upd H p (.lst (xs.set j v)))
def set_list:Rn X Uk:=by
 intro pins s σ H o i v ov D u Q I ro ri rv h;obtain⟨p,xs,k,j,rfl,rfl,V,U,q⟩:=h;cases ro;obtain⟨t,rfl⟩:=ri;obtain⟨its,n,r,F,hz⟩:=I.lst V;obtain⟨h1,h2,O,Z⟩:=zE U;have Y:=r.length;have hn:=qt;have J:Inv X pins σ (upd H p (.lst (xs.set j v))) {s with heap:=s.heap.update p (acH (·.setIfInBounds j u))}:=
  I.lstUpd V F (G6 its n j u) (r.set rv j) (by rw[agh];exact hz) s.toks
 by_cases z:0<=k
 .have hk:k.toNat=j:=by
   rw[aeS z Z]at h1;exact aaR h1
  exact PySem.W.ki_setAt F z 1.10 (by rw[List.size_toArray,←Y];exact Z) (by rw[hk];exact⟨_,J,q⟩)
 .have hk:(k+(its.toArray.size:Int)).toNat=j:=by
   rw[afI 1.10 O]at h1;rw[List.size_toArray,←Y];exact aaR h1
  exact PySem.W.ki_setBack F 1.10 (by rw[List.size_toArray,←Y];exact O) 1.10 (by rw[hk];exact⟨_,J,q⟩)
def zW(lo hi:Option Int)(n:Nat):(acR lo hi af n).1=((HT.sIx n 0 lo:Nat):Int)/\(acR lo hi af n).2.1=((HT.sIx n n hi:Nat):Int)/\(acR lo hi af n).2.2=1:=by
 refine⟨?_,?_,rfl⟩
 .cases lo with
  |none=>simp[acR,HT.sIx]
  |some i=>
   simp![acR,HT.sIx,aez,show(1:Int)>0 by decide,aal];by_cases h:i<0
   .simp![h,aal]<;>omega
   .simp![h,ab2]<;>omega
 .cases hi with
  |none=>simp[acR,HT.sIx]
  |some i=>
   simp![acR,HT.sIx,aez,show(1:Int)>0 by decide,aal];by_cases h:i<0
   .simp![h,aal]<;>omega
   .simp![h,ab2]<;>omega
def xP(its:List Value)(lo hi:Option Int):slicePick its.toArray lo hi af=((its.drop (HT.sIx its.length 0 lo)).take (HT.sIx its.length its.length hi-HT.sIx its.length 0 lo)).toArray:=by
 obtain⟨h1,h2,O⟩:=zW lo hi its.toArray.size;unfold slicePick;rw[h1,h2,O];simp![sliceRange_one,pick_run,List.size_toArray]<;>rfl
def X7(K:ZW):V->Option Int->Option Int->Hp->VK->Prop:=λx lo hi H Q=>∃a xs,x= .ref a/\SqL K H a xs/\∀p,H p=af->Q 2.49 (upd H p (.lst 2.202))
def Qz:SlR X (X7 X.K):=by
 intro pins s σ H x v vl F lo hi sl Q I rx hs pl D h;obtain⟨a,xs,rfl,J,q⟩:=h;cases rx;obtain⟨its,r,U,hz⟩:=I.list J;have z:=r.length;refine⟨"list",_,aen.lookup,U.isList.typeIs,?_⟩;refine aeA U.isList hs pl D .none (by simp) ?_ (by rw[List.size_toArray]<;>omega);rw[xP,←z];refine⟨.ref s.heap.objs.size,_,I.laid (t':=s.toks) (o:=.lst 2.202) (λb ob q=>ZS _ q) (ZZ _) ?_,rfl,q _ 2.105⟩;exact⟨aaC (uo xs lo hi) hz,_,0,(r.drop 2.118).take (HT.sIx xs.length xs.length hi-HT.sIx xs.length 0 lo),Z_ _ rfl⟩
def mO:V->Bool
 |.non=>ag
 |.bl _=>ag
 |.int _=>ag
 |.str _=>ag
 |_=>ae
def eqV:V->V->Bool
 |.non,.non=>ag
 |.bl a,.bl b=>a==b
 |.bl a,.int b=>(if a then 1 else 0)==b
 |.int a,.bl b=>a==(if b then 1 else 0)
 |.int a,.int b=>a==b
 |.str a,.str b=>a==b
 |_,_=>ae
def U5{A:aaK}{s:jl}{y x:V}{u v:Value}(F:RelV y u)(rx:RelV x v)(q:mO y=ag)(fx:mO x=ag):SeqAt.EqAt A s u v (eqV y x):=by
 cases y with
 |non=>
  cases F;cases x with
  |non=>cases rx;exact SeqAt.EqAt.same _
  |bl b=>cases rx;exact SeqAt.EqAt.none_bool b
  |int b=>obtain⟨t,rfl⟩:=rx;exact SeqAt.EqAt.none_int b t
  |str b=>obtain⟨t,rfl⟩:=rx;exact SeqAt.EqAt.none_str b t
  |_=>exact absurd (show ae=ag from fx) aav
 |bl a=>
  cases F;cases x with
  |non=>cases rx;exact SeqAt.EqAt.bool_none a
  |bl b=>cases rx;exact SeqAt.EqAt.bool_bool a b
  |int b=>obtain⟨t,rfl⟩:=rx;exact SeqAt.EqAt.bool_int a b t
  |str b=>obtain⟨t,rfl⟩:=rx;exact SeqAt.EqAt.bool_str a b t
  |_=>exact absurd (show ae=ag from fx) aav
 |int a=>
  obtain⟨t',rfl⟩:=F;cases x with
  |non=>cases rx;exact SeqAt.EqAt.int_none a t'
  |bl b=>cases rx;exact SeqAt.EqAt.int_bool a t' b
  |int b=>obtain⟨t,rfl⟩:=rx;exact SeqAt.EqAt.int_int a t' b t
  |str b=>obtain⟨t,rfl⟩:=rx;exact afA a t' b t
  |_=>exact absurd (show ae=ag from fx) aav
 |str a=>
  obtain⟨t',rfl⟩:=F;cases x with
  |non=>cases rx;exact SeqAt.EqAt.str_none a t'
  |bl b=>cases rx;exact SeqAt.EqAt.str_bool a t' b
  |int b=>obtain⟨t,rfl⟩:=rx;exact afB a t' b t
  |str b=>obtain⟨t,rfl⟩:=rx;exact SeqAt.EqAt.str_str a t' b t
  |_=>exact absurd (show ae=ag from fx) aav
 |_=>exact absurd (show ae=ag from q) aav
def eqU(x:V)(u:Value):Bool:=match u with
 |.none=>eqV .non x
 |.bool b=>eqV (.bl b) x
 |.int i _=>eqV (.int i) x
 |.str z _=>eqV (.str z) x
 |_=>ae
def Ot{x y:V}{u:Value}(r:RelV y u)(f:mO y=ag):eqU x u=eqV y x:=by
 cases y with
 |non=>cases r;rfl
 |bl b=>cases r;rfl
 |int i=>obtain⟨t,rfl⟩:=r;rfl
 |str z=>obtain⟨t,rfl⟩:=r;rfl
 |_=>exact absurd (show ae=ag from f) aav
def qR{x:V}:∀{xs:List V}{us:List Value},Vals xs us->xs.all mO=ag->us.any (eqU x)=xs.any λy=>eqV y x
 |_,_,.nil,_=>rfl
 |y::xs,u::us,.cons r t,f=>by
  rw[acP,aaa]at f;rw[acf,acf,Ot r f.1,qR t f.2]
def nM{A:aaK}{s:jl}{x:V}{v:Value}(rx:RelV x v)(fx:mO x=ag):∀{xs:List V}{us:List Value},Vals xs us->xs.all mO=ag->∀u∈us,SeqAt.EqAt A s u v (eqU x u)
 |_,_,.nil,_=>λu hu=>by cases hu
 |y::xs,u::us,.cons r t,f=>λu' hu=>by
  rw[acP,aaa]at f;rcases Z2.mp hu with rfl|hu
  .rw[Ot r f.1];exact U5 r rx f.1 fx
  .exact nM rx fx t f.2 u' hu
def inV(x:V)(xs:List V):Bool:=xs.any λy=>eqV y x
def rIn(K:ZW)(q:Bool):R2:=λx y H Q=>∃p xs,y= .ref p/\(SqL K H p xs∨SqT K H p xs)/\mO x=ag/\xs.all mO=ag/\Q (.bl (if q then !inV x xs else inV x xs)) H
def Kh:OpR X (aar .In) (rIn X.K ae):=by
 intro pins s σ H x y v u Q I rx F h;obtain⟨p,xs,rfl,D,fx,fs,q⟩:=h;cases F;rcases D with D|D
 .obtain⟨its,r,pl,hz⟩:=I.list D
  refine SeqAt.in_listAt (eqU x) pl.isList (λw Z=>nM rx fx r fs w (by simpa using Z)) ⟨.bl _,H,I,rfl,?_⟩;rw[show its.toArray.any (eqU x)=its.any (eqU x)by simp,qR r fs];exact q
 .obtain⟨its,r,pl,hz⟩:=I.tuple D
  refine SeqAt.in_tupleAt (eqU x) pl (λw Z=>nM rx fx r fs w (by simpa using Z)) ⟨.bl _,H,I,rfl,?_⟩;rw[show its.toArray.any (eqU x)=its.any (eqU x)by simp,qR r fs];exact q
def Bu:OpR X (aar .NotIn) (rIn X.K ag):=by
 intro pins s σ H x y v u Q I rx F h;obtain⟨p,xs,rfl,D,fx,fs,q⟩:=h;cases F;rcases D with D|D
 .obtain⟨its,r,pl,hz⟩:=I.list D
  refine SeqAt.notIn_listAt (eqU x) pl.isList (λw Z=>nM rx fx r fs w (by simpa using Z)) ⟨.bl _,H,I,rfl,?_⟩;rw[show its.toArray.any (eqU x)=its.any (eqU x)by simp,qR r fs];exact q
 .obtain⟨its,r,pl,hz⟩:=I.tuple D
  refine SeqAt.notIn_tupleAt (eqU x) pl (λw Z=>nM rx fx r fs w (by simpa using Z)) ⟨.bl _,H,I,rfl,?_⟩;rw[show its.toArray.any (eqU x)=its.any (eqU x)by simp,qR r fs];exact q
def Aq:OpR X (aar .NotIn) (λx y H Q=>∃i j,x= .str i/\y= .str j/\Q (.bl (!(!(aaM j i 0 j.length 1).isEmpty))) H):=by
 intro pins s σ H x y v u Q I rx F h;obtain⟨i,j,rfl,rfl,q⟩:=h;obtain⟨t,rfl⟩:=rx;obtain⟨t',rfl⟩:=F;exact notIn_str ⟨.bl _,H,I,rfl,q⟩
def Ak:gk X (.builtin "len") (λxs H Q=>∃p ys,xs=[.ref p]/\(SqL X.K H p ys∨SqT X.K H p ys)/\Q (.int ys.length) H):=by
 intro pins s σ H xs us Q I r h;obtain⟨p,ys,rfl,D,q⟩:=h;obtain⟨u,rfl,rx⟩:=vals1 r;cases rx;have hn:=qt;rcases D with D|D
 .obtain⟨its,r',pl,hz⟩:=I.list D
  have z:=r'.length;exact Calls.call_len_list pl.isList (by simp![List.size_toArray]<;>omega) ⟨.int ys.length,H,I.tok _,⟨s.toks+1,by rw[List.size_toArray,z]⟩,q⟩
 .obtain⟨its,r',pl,hz⟩:=I.tuple D
  have z:=r'.length;exact len_tuple pl (by simp![List.size_toArray]<;>omega) ⟨.int ys.length,H,I.tok _,⟨s.toks+1,by rw[List.size_toArray,z]⟩,q⟩
def Ai:gk X (.builtin "len") (λxs H Q=>∃z,xs=[.str z]/\z.length<=Z0/\Q (.int z.length) H):=by
 intro pins s σ H xs us Q I r h;obtain⟨z,rfl,hz,q⟩:=h;obtain⟨u,rfl,t,rfl⟩:=vals1 r;have hn:=qt;exact len_str 1.10 ⟨.int z.length,H,I.tok _,⟨_,rfl⟩,q⟩
def Bt:gk X (.type "list") (λxs H Q=>∃p ys,xs=[.ref p]/\(SqL X.K H p ys∨SqT X.K H p ys)/\∀l,H l=af->Q (.ref l) (upd H l 2.129)):=by
 intro pins s σ H xs us Q I r h;obtain⟨p,ys,rfl,D,q⟩:=h;obtain⟨u,rfl,rx⟩:=vals1 r;cases rx;have fin:∀(its:List Value),Vals ys its->ys.length<=Z0->∀(h':Heap)(V:Nat),(∀b o',s.heap.get? b=ac o'->h'.get? b=ac o')->
   h'.get? s.heap.objs.size=ac {cls:=.type "list",dict:=af,data:=.seq its.toArray V,slots:=#[]}->EP X pins σ Q 2.36 {s with heap:=h'}:=λits Z hz h' V kp e=>
  ⟨.ref s.heap.objs.size,_,I.laid (t':=s.toks) kp (ZZ _) (show cU X.prog X.w _ h' _ 2.129 from⟨hz,its,V,Z,e⟩),rfl,q _ 2.105⟩
 rcases D with D|D
 .obtain⟨its,Z,pl,hz⟩:=I.list D
  have z:=Z.length;obtain⟨o,F,O,n,hd⟩:=pl.isList;exact call_list_seq p 2.81 F O hd (λh' V kp e=>fin its Z hz h' V kp e) (by simp![List.size_toArray]<;>omega)
 .obtain⟨its,Z,pl,hz⟩:=I.tuple D
  have z:=Z.length;obtain⟨o,F,O,n,hd⟩:=pl;exact call_list_seq p 2.203 F O hd (λh' V kp e=>fin its Z hz h' V kp e) (by simp![List.size_toArray]<;>omega)
def xK:gk X (.type "tuple") (λxs H Q=>∃p ys,xs=[.ref p]/\((SqL X.K H p ys/\∀l,H l=af->Q (.ref l) (upd H l (.tup ys)))∨(SqT X.K H p ys/\Q 2.49 H))):=by
 intro pins s σ H xs us Q I r h;obtain⟨p,ys,rfl,h⟩:=h;obtain⟨u,rfl,rx⟩:=vals1 r;cases rx;rcases h with⟨D,q⟩|⟨D,q⟩
 .obtain⟨its,r',pl,hz⟩:=I.list D
  have z:=r'.length;refine call_tuple_list pl.isList (λh' kp=>?_) (by simp![List.size_toArray]<;>omega);have O:Inv X pins σ H {s with heap:=h'}:=I.kept (t':=s.toks) kp;have V:Inv X pins σ (upd H h'.objs.size (.tup ys)) {s with heap:=h'.push {cls:=.type "tuple",data:=.seq its.toArray}}:=
   O.laid (t':=s.toks) (λb o e=>ZS _ e) (ZZ _) (show cU X.prog X.w _ _ _ (.tup ys)from⟨hz,its,r',mJ.new _ _⟩)
  exact⟨.ref h'.objs.size,_,V,rfl,q _ 2.139⟩
 .obtain⟨its,r',pl,hz⟩:=I.tuple D
  exact call_tuple_same pl ⟨.ref p,H,I,rfl,q⟩
def tyV(K:ZW)(T:String)(x:V)(H:Hp):Prop:=match x with
 |.str _=>T="str"
 |.int _=>T="int"
 |.ref p=>(T="list"/\∃xs,SqL K H p xs)∨(T="tuple"/\∃o,K.lookup p=ac o/\o.cls= .type "tuple"/\o.dict=af)∨
  (T="dict"/\((∃kvs,H p=ac 2.20)∨∃kvs,H p=ac (.dT kvs)))∨(T="set"/\∃S n,H p=ac (.set S n))
 |_=>False
def Oq{pins:List (Addr×Obj)}{σ:St}{H:Hp}{s:jl}{T:String}{x:V}{v:Value}(I:Inv X pins σ H s)(r:RelV x v)(F:tyV X.K T x H) :
  s.TypeIs v T/\∀a,v= .ref a->∃ob,s.heap.get? a=ac ob/\ob.dict=af:=by
 cases x with
 |str z=>
  obtain⟨t,rfl⟩:=r;cases (show T="str" from F);exact⟨typeIs_str s z t,λ_ e=>nomatch e⟩
 |int i=>
  obtain⟨t,rfl⟩:=r;cases (show T="int" from F);exact⟨typeIs_int s i t,λ_ e=>nomatch e⟩
 |ref p=>
  cases r;rcases F with⟨rfl,xs,D⟩|⟨rfl,o,q,O,hd⟩|⟨rfl,q⟩|⟨rfl,S,n,q⟩
  .obtain⟨its,_,pl,_⟩:=I.list D
   refine⟨pl.isList.typeIs,λa e=>?_⟩;cases e;obtain⟨o,n,e,c,hd,_⟩:=pl;exact⟨o,e,hd⟩
  .refine⟨⟨o,I.kIn p o q,O⟩,λa e=>?_⟩
   cases e;exact⟨o,I.kIn _ o q,hd⟩
  .have z:∃o,s.heap.get? p=ac o/\o.ExactDict:=by
    rcases q with⟨kvs,q⟩|⟨kvs,q⟩
    .obtain⟨_,_,_,_,o,_,_,e,ex,_⟩:=I.hok p _ q
     exact⟨o,e,ex⟩
    .obtain⟨_,_,_,_,o,_,_,e,ex,_⟩:=I.hok p _ q
     exact⟨o,e,ex⟩
   obtain⟨o,e,ex⟩:=z;refine⟨⟨o,e,ex.1⟩,λa e2=>?_⟩;cases e2;exact⟨o,e,ex.2.1⟩
  .obtain⟨o,_,_,_,e,ex,_⟩:=I.hok p _ q
   refine⟨⟨o,e,ex.1⟩,λa e2=>?_⟩;cases e2;exact⟨o,e,ex.2.1⟩
 |_=>exact ab6 F
def Y5(K:ZW)(T:String)(r:V->List V->Hp->VK->Prop)(to:TE):TE:=λσ H Q=>to σ H λx H1=>tyV K T x H1/\r x [] H1 Q
def tBM(K:ZW)(T:String)(r:V->List V->Hp->VK->Prop)(to:TE)(t:TA):TE:=λσ H Q=>to σ H λx H1=>tyV K T x H1/\t σ H1 λxs H2=>r x xs H2 Q
variable{o e:Expr}{es:List Expr}{to:TE}{t:TA}{name:Str}{apos cpos:Pos}{T id:String}{r:V->List V->Hp->VK->Prop}
def P0(Y:adI T)(slot:Slot T name id)(q:ae3 2.58=pure (.type "method_descriptor"))(J:MtR X id r)(F:PE X o to)
  (U:abj o name X.env (eval o X.env)=eval o X.env:=by rfl) (V:(apos.endLine==cpos.line)=ag:=by rfl):PE X (.Call 2.215 [] [] cpos) (Y5 X.K T r to):=by
 intro pins s σ H Q I h;refine wpAny_Call_method0_late U V (thn (F pins s σ H _ I h) λv Z ⟨x,H1,O,z,D,q1⟩=>?_);obtain⟨h1,h2⟩:=Oq O z D;exact⟨T,id,Y,slot,q,h1,h2,acn rfl (PySem.evalArgs_none (J pins Z σ H1 x [] v [] Q O z .nil q1))⟩
def zc(pa:adI T)(slot:Slot T name id)(a3:ae3 2.58=pure (.type "method_descriptor"))(hm:MtR X id r)(F:PE X o to)(Y:PA X (e::es) t)
  (U:abj o name X.env (eval o X.env)=eval o X.env:=by rfl)
  (a2:((aa1 cpos (Z1 (e::es) X.env)).all (λx=>!x.1)&&(ac1 cpos (ab9 [] X.env)).all (λx=>x.1.isSome)
   &&decide ((e::es).length+([]:List abE).length+(if([]:List abE).isEmpty then 0 else 1)<30))=ag:=by rfl)
  (a1:(apos.endLine==cpos.line)=ag:=by rfl) (hs:Z1 (e::es) X.env=(ae,eval e X.env)::Z1 es X.env:=by rfl) (a0:(aa1 cpos 2.83).any (·.1)=ae:=by rfl) :
  PE X (.Call 2.215 (e::es) [] cpos) (tBM X.K T r to t):=by
 intro pins s σ H Q I h;refine aeU U a2 a1 rfl (thn (F pins s σ H _ I h) λv Z ⟨x,H1,O,z,ty,q1⟩=>?_);obtain⟨h1,h2⟩:=Oq O z ty;refine⟨T,id,pa,slot,a3,h1,h2,?_⟩;have D:=Y cpos pins Z σ H1 _ O q1;rw[hs]at D⊢;refine acn (by show(ae||(aa1 cpos 2.83).any (·.1))=ae;rw[a0]<;>rfl) (adJ ?_);exact thn D λus s2 ⟨J,H2,V,q,q2⟩=>hm pins s2 σ H2 x J v us Q V z q q2
end
def MtM(X:Cx)(id:String)(r:V->List V->Hp->VK->Prop):Prop:=
 ∀(pins:List (Addr×Obj))(s:jl)(σ:St)(H:Hp)(x:V)(xs:List V)(v:Value)(us:List Value)(Q:VK),Inv X pins σ H s->RelV x v->Vals xs us->r x xs H Q->
  wpAny 1.12 X.A (call 2.58 (v::us)) 2.41 X.xe s
def Vals.one:∀{x:V}{us:List Value},Vals [x] us->∃u,us=[u]/\RelV x u
 |_,_,.cons r .nil=>⟨_,rfl,r⟩
def Vals.two:∀{x y:V}{us:List Value},Vals [x,y] us->∃u v,us=[u,v]/\RelV x u/\RelV y v
 |_,_,_,.cons r (.cons q .nil)=>⟨_,_,rfl,r,q⟩
def Vals.zero:∀{us:List Value},Vals [] us->us=[]
 |_,.nil=>rfl
variable{xs:List V}{us:List Value}
def Vals.dropLast(h:Vals xs us):Vals xs.dropLast us.dropLast:=by
 induction h with
 |nil=>exact .nil
 |cons r t F=>
  cases t with
  |nil=>exact .nil
  |cons q t'=>exact .cons r F
def Vals.eraseIdx:∀{xs:List V}{us:List Value}(i:Nat),Vals xs us->Vals (xs.eraseIdx i) (us.eraseIdx i)
 |_,_,_,.nil=>.nil
 |_,_,0,.cons _ t=>t
 |_,_,i+1,.cons r t=>.cons r (Vals.eraseIdx i t)
def Vals.reverse(h:Vals xs us):Vals xs.reverse us.reverse:=by
 induction h with
 |nil=>exact .nil
 |cons r t F=>rw[ade,ade];exact Vals.append F (.cons r .nil)
def qH(l:List α):l.eraseIdx (l.length-1)=l.dropLast:=by
 induction l with
 |nil=>rfl
 |cons a r F=>
  cases r with
  |nil=>rfl
  |cons b r=>
   have e:(a::b::r).length-1=((b::r).length-1)+1:=by
    have h1:(a::b::r).length=r.length+2:=rfl;have h2:(b::r).length=r.length+1:=rfl;omega
   rw[e,List.eraseIdx_cons_succ,F]
   all_goals rfl
def yS:∀(l:List α)(i:Nat),(l.eraseIdx i).length<=l.length
 |[],_=>ZZ _
 |_::_,0=>ad0 _
 |_::r,i+1=>Nat.succ_le_succ (yS r i)
variable{X:Cx}{σ:St}{H:Hp}{l:Addr}{ys:List V}
def Inv.lset{its':List Value}{f:Array Value->Array Value}(I:Inv X pins σ H s)(O:H l=ac 2.44)
  (e:s.heap.get? l=ac {cls:=.type "list",data:=.seq its.toArray n}) (Y:f its.toArray=its'.toArray) (Z:Vals ys its') (hz:ys.length<=Z0) :
  Inv X pins σ (upd H l 2.129) {s with heap:=s.heap.update l (acH f),toks:=t'}:=by
 have q:=agb e f;rw[Y]at q;refine I.write (x:=l) (e:=l) (by rw[O];exact trivial) 2.81 (λz u U hu=>(abl s.heap (acH f) (aaS U)).trans hu) ⟨_,q⟩ ?_;exact⟨hz,its',_,Z,q⟩
def Inv.lnew(I:Inv X pins σ H s)(Z:Vals ys its)(hz:ys.length<=Z0) :
  Inv X pins σ (upd H s.heap.objs.size 2.129) {s with heap:=s.heap.push {cls:=.type "list",data:=.seq its.toArray},toks:=t'}:=
 I.laid (λ_ _ q=>ZS _ q) (ZZ _) ⟨hz,its,0,Z,Z_ _ rfl⟩
def Inv.fresh(I:Inv X pins σ H s):H s.heap.objs.size=af:=I.hok.fresh (ZZ _)
def Inv.lstM(I:Inv X pins σ H s)(O:H l=ac 2.44):xs.length<=Z0/\∃(its:List Value)(n:Nat),Vals xs its/\xs.length=its.length/\s.heap.get? l=ac {cls:=.type "list",data:=.seq its.toArray n}:=by
 obtain⟨z,its,n,r,e⟩:=I.hok l _ O;exact⟨z,its,n,r,r.length,e⟩
def sO:V->List V->Hp->VK->Prop:=λx J H Q=>∃l xs y,x= .ref l/\J=[y]/\H l=ac 2.44/\xs.length<Z0/\Q .non (upd H l (.lst (xs++[y])))
def tR:MtM X "list.append" sO:=by
 intro pins s σ H x J v us Q I rx U h;obtain⟨l,xs,y,rfl,rfl,O,hz,q⟩:=h;cases rx;obtain⟨u,rfl,Z⟩:=U.one;obtain⟨z,its,n,r,Y,e⟩:=I.lstM O;refine ac7 afJ ⟨_,e,rfl⟩ afu (afg _ _) (af3 l its.toArray n u (by rw[List.size_toArray];omega)) ⟨e,?_⟩;refine⟨.non,_,I.lset (its':=its++[u]) O e (by simp) (r.append (.cons Z .nil)) ?_,rfl,q⟩;rw[List.length_append,List.length_singleton];omega
def Yy:V->List V->Hp->VK->Prop:=λx J H Q=>∃l xs y,x= .ref l/\J=[]/\H l=ac 2.44/\xs[xs.length-1]? =ac y/\Q y (upd H l (.lst xs.dropLast))
theorem UG:MtM X "list.pop" Yy:=by
 intro pins s σ H x J v us Q I rx U h;obtain⟨l,xs,y,rfl,rfl,O,V,q⟩:=h;cases rx;have D:=U.zero;subst D;obtain⟨z,its,n,r,Y,e⟩:=I.lstM O;obtain⟨u,hu,Z⟩:=r.get V;have a0:its.toArray[its.toArray.size-1]? =ac u:=by
  show its.toArray[its.length-1]? =ac u;rw[←adB,←Y];exact hu
 refine ac7 F.slot_list_pop ⟨_,e,rfl⟩ F.entry_list_pop (F.args_list_pop_1 _) (MeetsSeq.list_pop_last l its.toArray n u a0 (by rw[List.size_toArray];omega)) ⟨e,?_⟩;refine⟨y,_,I.lset (its':=its.dropLast) O e ?_ r.dropLast ?_,Z,q⟩
 .show its.toArray.eraseIdxIfInBounds (its.toArray.size-1)=its.dropLast.toArray
  rw[List.size_toArray,adD,qH]
 .rw[List.length_dropLast]
  omega
def Mf:V->List V->Hp->VK->Prop:=λx J H Q=>∃l xs i k y,x= .ref l/\J=[.int i]/\H l=ac 2.44/\-(2 ^ 63)<=i/\i<2 ^ 63/\afH i xs.length=ac k/\xs[k]? =ac y/\Q y (upd H l (.lst (xs.eraseIdx k)))
theorem M7:MtM X "list.pop" Mf:=by
 intro pins s σ H x J v us Q I rx U h;obtain⟨l,xs,i,k,y,rfl,rfl,D,h1,h2,hk,V,q⟩:=h;cases rx;obtain⟨u,rfl,ru⟩:=U.one;obtain⟨t,rfl⟩:=ru;obtain⟨z,its,n,r,Y,e⟩:=I.lstM D;obtain⟨w,Z,O⟩:=r.get V;refine ac7 F.slot_list_pop ⟨_,e,rfl⟩ F.entry_list_pop (F.args_list_pop_2 _ _)
  (MeetsSeq.list_pop_at l its.toArray n i t k w (fitsIndex_both h1 h2) (by rw[List.size_toArray,←Y];exact hk) (by rw[←adB];exact Z) (by rw[List.size_toArray];omega)) ⟨e,?_⟩
 refine⟨y,_,I.lset (its':=its.eraseIdx k) D e ?_ (r.eraseIdx k) ?_,O,q⟩
 .show its.toArray.eraseIdxIfInBounds k=(its.eraseIdx k).toArray
  rw[adD]
 .have:=yS xs k
  omega
def D_:V->List V->Hp->VK->Prop:=λx J H Q=>∃l xs,x= .ref l/\J=[]/\H l=ac 2.44/\Q .non (upd H l (.lst xs.reverse))
theorem Ft:MtM X "list.reverse" D_:=by
 intro pins s σ H x J v us Q I rx U h;obtain⟨l,xs,rfl,rfl,O,q⟩:=h;cases rx;have D:=U.zero;subst D;obtain⟨z,its,n,r,Y,e⟩:=I.lstM O;refine ac7 F.slot_list_reverse ⟨_,e,rfl⟩ F.entry_list_reverse (F.args_list_reverse_1 _) (AutoSeq1.list_reverse_list_0 l its.toArray n (by rw[List.size_toArray];omega)) ⟨e,?_⟩;refine⟨.non,_,I.lset (its':=its.reverse) O e (by simp) r.reverse ?_,rfl,q⟩;rw[abw];omega
def YD:R2:=λx y H Q=>∃l b xs zs,x= .ref l/\y= .ref b/\H l=ac 2.44/\H b=ac (.lst zs)/\xs.length+zs.length<=Z0/\∀p,H p=af->Q 2.49 (upd H p (.lst (xs++zs)))
def W5:OpR X (abg .Add) YD:=by
 intro pins s σ H x y v u Q I rx F h;obtain⟨l,b,xs,zs,rfl,rfl,O,J,hz,q⟩:=h;cases rx;cases F;obtain⟨z,its,n,r,Y,e⟩:=I.lstM O;obtain⟨z2,D,Z,U,V,e2⟩:=I.lstM J;refine PySem.P.add_list e e2 ?_ (by rw[List.size_toArray,List.size_toArray];omega);have ea:its.toArray++D.toArray=(its++D).toArray:=by simp
 rw[ea];exact⟨.ref _,_,I.lnew (t':=s.toks) (r.append U) (by rw[List.length_append];omega),rfl,q _ I.fresh⟩
section
variable{κ:Type}[DecidableEq κ]
def jc(kvs:List (κ×V))(k:κ):Option V:=(kvs.find? λkv=>decide (kv.1=k)).map (·.2)
def putK(kvs:List (κ×V))(k:κ)(v:V):List (κ×V):=
 if(kvs.any λkv=>decide (kv.1=k))=ag then kvs.map (λkv=>if kv.1=k then(kv.1,v)else kv)else kvs++[(k,v)]
def vB{p:κ×V}{r:List (κ×V)}{k:κ}(e:p.1=k):jc (p::r) k=ac p.2:=by simp[jc,abK,e]
def wN{p:κ×V}{r:List (κ×V)}{k:κ}(e:¬p.1=k):jc (p::r) k=jc r k:=by simp[jc,abK,e]
def vN(k:κ):∀kvs:List (κ×V),(kvs.any λkv=>decide (kv.1=k))=(jc kvs k).isSome
 |[]=>rfl
 |p::r=>by
  rw[acf];by_cases e:p.1=k
  .simp![vB e,aaB e,Bool.true_or,afK]
  .rw[wN e,aac e,afq];exact vN k r
def jK(kvs:List (κ×V))(k:κ)(v:V):(putK kvs k v).length<=kvs.length+1:=by
 unfold putK;split
 .rw[Pr];omega
 .rw[List.length_append,Z4,aan];omega
def lz{kvs:List (κ×V)}{k:κ}(v:V)(h:jc kvs k=af):putK kvs k v=kvs++[(k,v)]:=by
 unfold putK;rw[vN,h];exact aag (by decide)
def mU.isSome_eq{o:Option V}{u:Option Value}(r:mU o u):o.isSome=u.isSome:=by
 cases o with
 |none=>cases u with
  |none=>rfl
  |some _=>exact(show False from r).elim
 |some _=>cases u with
  |none=>exact(show False from r).elim
  |some _=>rfl
def mU.getD{o:Option V}{u:Option Value}{d:V}{d':Value}(r:mU o u)(rd:RelV d d'):RelV (o.getD d) (u.getD d'):=by
 cases o with
 |none=>cases u with
  |none=>exact rd
  |some _=>exact(show False from r).elim
 |some _=>cases u with
  |none=>exact(show False from r).elim
  |some _=>exact r
def KV.val{kvs:List (κ×V)}{J:List (κ×Value)}(r:KV kvs J)(k:κ):mU (jc kvs k) (ab0 J k):=by
 unfold KV at r
 induction r with
 |nil=>exact aa5
 |@cons p q ps qs h t F=>
  obtain⟨h1,h2⟩:=h;by_cases e:p.1=k
  .have e':q.1=k:=h1.symm.trans e
   have b:ab0 (q::qs) k=ac q.2:=by simp[ab0,abK,e']
   rw[vB e,b];exact h2
  .have e':¬q.1=k:=λz=>e (h1.trans z)
   have b:ab0 (q::qs) k=ab0 qs k:=by simp[ab0,abK,e']
   rw[wN e,b];exact F
def KV.any{kvs:List (κ×V)}{J:List (κ×Value)}(r:KV kvs J)(k:κ):(kvs.any λkv=>decide (kv.1=k))=J.any λkv=>decide (kv.1=k):=by
 unfold KV at r
 induction r with
 |nil=>rfl
 |cons h t F=>rw[acf,acf,F,h.1]
def KV.repl{kvs:List (κ×V)}{J:List (κ×Value)}(r:KV kvs J)(k:κ){y:V}{u:Value}(F:RelV y u) :
  KV (kvs.map λkv=>if kv.1=k then(kv.1,y)else kv) (J.map λkv=>if kv.1=k then(kv.1,u)else kv):=by
 unfold KV at r⊢
 induction r with
 |nil=>exact .nil
 |@cons p q ps qs h t D=>
  rw[ZX,ZX];refine .cons ?_ D;obtain⟨h1,h2⟩:=h;by_cases e:p.1=k
  .rw[if_pos e,if_pos (h1.symm.trans e)];exact⟨h1,F⟩
  .rw[aag e,aag (λz=>e (h1.trans z))];exact⟨h1,h2⟩
def KV.put{kvs:List (κ×V)}{J:List (κ×Value)}(r:KV kvs J)(k:κ){y:V}{u:Value}(F:RelV y u):KV (putK kvs k y) (stored J k u):=by
 unfold putK stored;rw[r.any k];by_cases e:(J.any λkv=>decide (kv.1=k))=ag
 .rw[if_pos e,if_pos e];exact r.repl k F
 .rw[aag e,aag e];exact Paired.snoc r ⟨rfl,F⟩
def KV.length{kvs:List (κ×V)}{J:List (κ×Value)}(r:KV kvs J):kvs.length=J.length:=aea r
end
def nU{k:Key}(r:RelV (kV k) u):(bL P w).is k u=ag:=by
 cases k with
 |inl i=>obtain⟨t,e⟩:=(show ∃t,u=adw i t from r);subst e;exact Cj P w i t
 |inr x=>obtain⟨t,e⟩:=(show ∃t,u=adx x t from r);subst e;exact Ec P w x t
def yo:∀{ks:List Key}{us:List Value},Vals (ks.map kV) us->ItemsAre (bL P w) ks us
 |[],_,r=>by rw[aax]at r;cases r;exact .nil
 |k::ks,_,r=>by
  rw[ZX]at r;cases r with
  |cons h t=>exact .cons (nU h) (yo t)
noncomputable abbrev KT(H:Hp):List (List Key×V)->List (List Key×Addr×Value)->Prop:=aev λp q=>p.1=q.1/\H q.2.1=ac (.tup (p.1.map kV))/\RelV p.2 q.2.2
variable{xs:List (List Key×Addr×Value)}{kvs:List (List Key×V)}
def KT.val(r:KT H kvs xs)(k:List Key):mU (jc kvs k) ((atKey xs k).map (·.2)):=by
 induction r with
 |nil=>exact aa5
 |@cons p q ps qs h t F=>
  obtain⟨h1,_,h2⟩:=h;by_cases e:p.1=k
  .have e':q.1=k:=h1.symm.trans e
   have b:atKey (q::qs) k=ac q.2:=by simp[atKey,abK,e']
   rw[vB e,b];exact h2
  .have e':¬q.1=k:=λz=>e (h1.trans z)
   have b:atKey (q::qs) k=atKey qs k:=by simp[atKey,abK,e']
   rw[wN e,b];exact F
variable{y:V}
def KT.repl(r:KT H kvs xs)(k:List Key)(F:RelV y u) :
  KT H (kvs.map λkv=>if kv.1=k then(kv.1,y)else kv) (xs.map (putAt k u)):=by
 induction r with
 |nil=>exact .nil
 |@cons p q ps qs h t D=>
  rw[ZX,ZX];refine .cons ?_ D;obtain⟨h1,h2,O⟩:=h;unfold putAt;by_cases e:p.1=k
  .rw[if_pos e,if_pos (h1.symm.trans e)];exact⟨h1,h2,F⟩
  .rw[aag e,aag (λz=>e (h1.trans z))];exact⟨h1,h2,O⟩
def KT.put(r:KT H kvs xs)(k:List Key)(U:H b=ac (.tup (k.map kV)))(F:RelV y u) :
  KT H (putK kvs k y) (storedH xs k b u):=by
 have e:(kvs.any λkv=>decide (kv.1=k))=(atKey xs k).isSome:=by
  rw[vN,(r.val k).isSome_eq,aeo]
 unfold putK storedH;rw[e];by_cases q:(atKey xs k).isSome=ag
 .rw[if_pos q,if_pos q];exact r.repl k F
 .rw[aag q,aag q];exact Paired.snoc r ⟨rfl,U,F⟩
variable{H':Hp}
def KT.keeps(r:KT H kvs xs)(U:∀b ys,H b=ac (.tup ys)->H' b=ac (.tup ys)):KT H' kvs xs:=
 Paired.mapP r λ_ _ z=>⟨z.1,U _ _ z.2.1,z.2.2⟩
variable{P:Program}
def T9{u:HO}(ok:HOk P w H h)(e:Rd H a u):cU P w H h a u:=e.ok ok
def nG{kvs:List (Key×V)}(ok:HOk P w H h)(e:Rd H a 2.20):kvs.length<=Z0/\(a==abp)=ae/\∃J,KV kvs J/\h.DictOf (bL P w) a J:=
 show cU P w H h a 2.20 from T9 ok e
def x_{kvs:List (Key×V)}(ok:HOk P w H h)(e:H a=ac 2.20):kvs.length<=Z0/\(a==abp)=ae/\∃J,KV kvs J/\h.DictOf (bL P w) a J:=nG ok (.inl e)
def qd{ks:List Key}(ok:HOk P w H h)(e:H a=ac (.tup (ks.map kV))):(ady (bL P w)).is h ks a:=by
 obtain⟨_,its,r,o,h1,h2,n,O⟩:=(show cU P w H h a (.tup (ks.map kV))from ok a _ e);exact⟨o,its.toArray,n,h1,h2,O.1,by simpa using yo r⟩
def vL(ok:HOk P w H h)(e:Rd H a (.dT kvs)):kvs.length<=Z0/\(a==abp)=ae/\
  ∃xs,KT H kvs xs/\h.DictOfH (ady (bL P w)) a xs:=by
 obtain⟨z,y,xs,r,o,es,I,h1,h2,O,Z,U⟩:=(show cU P w H h a (.dT kvs)from T9 ok e);refine⟨z,y,xs,r,o,es,I,h1,h2,O,Z,λx J=>?_,U⟩;have all:∀{l:List (List Key×V)}{m:List (List Key×Addr×Value)},KT H l m->∀x∈m,(ady (bL P w)).is h x.1 x.2.1:=by
  intro l m q
  induction q with
  |nil=>intro x J;exact nomatch J
  |@cons p q ps qs D t F=>
   intro x J;rcases Z2.mp J with e|J
   .subst e
    exact qd ok (by rw[←D.1];exact D.2.1)
   .exact F x J
 exact all r x J
def Yd(ok:HOk P w H h)(e:H a=ac (.dT kvs)):kvs.length<=Z0/\(a==abp)=ae/\
 ∃xs,KT H kvs xs/\h.DictOfH (ady (bL P w)) a xs:=vL ok (.inl e)
def nT(H:Hp)(a:Addr)(y:V)(r:Option V):Prop:=
 (∃kvs k,Rd H a 2.20/\y=kV k/\r=jc kvs k)∨∃kvs k b,Rd H a (.dT kvs)/\y= .ref b/\H b=ac (.tup (k.map kV))/\r=jc kvs k
def Nj(H:Hp)(a:Addr)(y v:V)(H':Hp):Prop:=
 (∃kvs k,H a=ac 2.20/\y=kV k/\kvs.length<Z0/\H'=upd H a (.dK (putK kvs k v)))∨
 ∃kvs k b,H a=ac (.dT kvs)/\y= .ref b/\H b=ac (.tup (k.map kV))/\kvs.length<Z0/\H'=upd H a (.dT (putK kvs k v))
variable{kvs:List (Key×V)}
def nT.k{k:Key}(e:H a=ac 2.20):nT H a (kV k) (jc kvs k):=.inl ⟨kvs,k,.inl e,rfl,rfl⟩
variable{v:V}
def Nj.k{k:Key}(e:H a=ac 2.20)(Y:kvs.length<Z0):Nj H a (kV k) v (upd H a (.dK (putK kvs k v))):=.inl ⟨kvs,k,e,rfl,Y,rfl⟩
def Inv.big(I:Inv X pins σ H s):abp<s.heap.objs.size:=by
 have h:aaZ<s.heap.objs.size:=(I.mod.glob.keeps I.bk).lt;exact Nat.lt_trans (by decide) h
def Ji(hu:A.units+1<cLine)(I:Inv X pins σ H s)(g:nT H a y (ac v))(F:RelV y u)(h:∀Y s',Inv X pins σ H s'->RelV v Y->Q Y s') :
  wpAny 1.12 A (adT 2.184 u) Q E s:=by
 rcases g with⟨kvs,k,e,U,l⟩|⟨kvs,k,b,e,U,eb,l⟩
 .subst U
  obtain⟨z,hd,J,rel,D⟩:=nG I.hok e;obtain⟨Y,Z,O⟩:=mU.some_of (v:=v) (o:=ab0 J k) (by rw[l];exact rel.val k);exact wpAny_getItem_of (nU F) D.mapOf Z (h Y _ 2.204 O)
 .subst U
  cases (show u=aaA b from F);obtain⟨z,hd,xs,rel,D⟩:=vL I.hok e;obtain⟨Y,Z,O⟩:=mU.some_of (v:=v) (o:=(atKey xs k).map (·.2)) (by rw[l];exact rel.val k);obtain⟨p,V,q⟩:=Option.map_eq_some_iff.mp Z;refine wpAny_getItem_heap (abY hu) (qd I.hok eb) D V ?_;rw[q];exact h Y _ 2.204 O
variable{o:Option V}
def ZJ(hu:A.units+1<cLine)(I:Inv X pins σ H s)(g:nT H a y o)(F:RelV y u)(h:∀s',Inv X pins σ H s'->Q (.bool o.isSome) s') :
  wpAny 1.12 A (aar .In u 2.184) Q E s:=by
 rcases g with⟨kvs,k,e,U,l⟩|⟨kvs,k,b,e,U,O,l⟩
 .subst U
  obtain⟨z,hd,J,rel,D⟩:=nG I.hok e;refine wpAny_in_of (nU F) hd D.mapOf ?_;rw[←(rel.val k).isSome_eq,←l];exact h _ 2.204
 .subst U
  cases (show u=aaA b from F);obtain⟨z,hd,xs,rel,D⟩:=vL I.hok e;refine wpAny_in_heap (abY hu) (qd I.hok O) hd D ?_;have q:=(rel.val k).isSome_eq;rw[aeo]at q;rw[←q,←l];exact h _ 2.204
def Sq(hu:A.units+1<cLine)(I:Inv X pins σ H s)(g:nT H a y o)(F:RelV y u)(h:∀s',Inv X pins σ H s'->Q (.bool (!o.isSome)) s') :
  wpAny 1.12 A (aar .NotIn u 2.184) Q E s:=by
 rcases g with⟨kvs,k,e,U,l⟩|⟨kvs,k,b,e,U,O,l⟩
 .subst U
  obtain⟨z,hd,J,rel,D⟩:=nG I.hok e;refine wpAny_notIn_of (nU F) hd D.mapOf ?_;rw[←(rel.val k).isSome_eq,←l];exact h _ 2.204
 .subst U
  cases (show u=aaA b from F);obtain⟨z,hd,xs,rel,D⟩:=vL I.hok e;refine wpAny_notIn_heap (abY hu) (qd I.hok O) hd D ?_;have q:=(rel.val k).isSome_eq;rw[aeo]at q;rw[←q,←l];exact h _ 2.204
def oW{ob:HO}(I:Inv X pins σ H s)(mu:Mut (H a))(hs:acb a s.heap h')(V:∃q,h'.get? a=ac q)(new:cU X.prog X.w (upd H a ob) h' a ob) :
  Inv X pins σ (upd H a ob) {s with heap:=h',toks:=t'}:=
 I.write (x:=a) (e:=a) mu 2.81 (λb q U z=>(hs.2 b U).trans z) V new
variable{P:aad}
def Bs{J:List (Key×Value)}(z:kvs.length<=Z0)(hd:(a==abp)=ae)(rel:KV kvs J)(D:h'.DictOf (bL P w) a J) :
 cU P w H' h' a (.dK kvs):=⟨z,hd,J,rel,D⟩
variable{r:Value}
def J2{Q:Unit->jl->Prop}(hu:A.units+1<cLine)(I:Inv X pins σ H s)(g:Nj H a y v H')(F:RelV y u)(U:RelV v r)(h:∀s',Inv X pins σ H' s'->Q () s') :
  wpAny 1.12 A (setItem 2.184 u r) Q E s:=by
 rcases g with⟨kvs,k,e,ey,l,eH⟩|⟨kvs,k,b,e,ey,eb,l,eH⟩
 .subst ey eH
  obtain⟨z,hd,J,rel,dd⟩:=x_ I.hok e;have hz:J.length<=Z0:=by rw[←rel.length];exact z
  have Y:(putK kvs k v).length<=Z0:=by have:=jK kvs k v;omega
  refine wpAny_setItem_pairs (hsz:=hz) (nU F) dd λh' a0 hs=>h _ ?_;have V:∃q,h'.get? a=ac q:=let⟨q,_,_,D,_⟩:=a0;⟨q,D⟩;exact oW I (by rw[e];exact aa5) hs V (Bs Y hd (rel.put k U) a0)
 .subst ey eH
  cases (show u=aaA b from F);obtain⟨z,hd,xs,rel,dd⟩:=Yd I.hok e;have hz:xs.length<=Z0:=by rw[←aea rel];exact z
  have Y:(putK kvs k v).length<=Z0:=by have:=jK kvs k v;omega
  refine wpAny_setItem_heap (hsz:=hz) (abY hu) (qd I.hok eb) dd λh' a0 hs=>h _ ?_;obtain⟨q,es,ep,D,h2,O,Z,_,h5⟩:=a0;refine oW I (by rw[e];exact aa5) hs ⟨q,D⟩ ⟨Y,hd,_,(rel.put k eb U).keeps λc ys ec=>?_,q,es,ep,D,h2,O,Z,h5⟩;rw[aO (lN ec e (λz=>nomatch z))];exact ec
section
variable{X:Cx}{pins:List (Addr×Obj)}{σ:St}{H:Hp}{s:Shared}{a:Addr}{kvs:List (Key×V)}{k:Key}{u:Value}{A:Around}{E:Value->Shared->Prop}
def Yg{Q:Value->jl->Prop}(I:Inv X pins σ H s)(e:Rd H a 2.20)(h:∀t s',Inv X pins σ H s'->Q (.int kvs.length t) s'):wpAny 1.12 A (call (.builtin "len") [.ref a]) Q E s:=by
 obtain⟨z,hd,J,rel,D⟩:=nG I.hok e;refine call_len_dict hd D (by rw[←rel.length];rw[adZ]at z;omega) ?_;rw[←rel.length];exact h _ _ 2.204
end
def Dz{s:jl}(I:Inv X pins σ H s)(g:nT H a y o):s.TypeIs 2.184 "dict":=by
 rcases g with⟨kvs,k,e,_,_⟩|⟨kvs,k,b,e,_,_,_⟩
 .obtain⟨_,_,vs,_,dd⟩:=nG I.hok e
  exact dd.typeIs
 .obtain⟨_,_,xs,_,dd⟩:=vL I.hok e
  exact dd.typeIs
def Dp(h:Heap)(U:abp<h.objs.size):cU P w H (h.push {cls:=.type "dict",data:=.dict #[]}) h.objs.size (.dK []):=
 ⟨ad1 _,beq_eq_false_iff_ne.mpr (aaS (aam U)),[],.nil,Heap.DictOf.new h⟩
def WF:TE:=λ_ H Q=>∀p,H p=af->Q 2.49 (upd H p (.dK []))
def Ow:PE X (.Dict [] [] pos) WF:=λpins s σ H Q I h=>
 wpAny_Dict_empty ⟨.ref s.heap.objs.size,_,I.laid (a:=s.heap.objs.size) (o:=.dK []) (t':=s.toks) (λ_ _ q=>ZS _ q) (ZZ _) (Dp s.heap I.big),rfl,h _ 2.105⟩
def z6:List (TE×TE)->St->Hp->(List (V×V)->Hp->Prop)->Prop
 |[],_,H,Q=>Q [] H
 |(tk,tv)::r,σ,H,Q=>tk σ H λx H1=>tv σ H1 λy H2=>z6 r σ H2 λps Y=>Q ((x,y)::ps) Y
noncomputable abbrev VV:List (V×V)->List (Value×Value)->Prop:=aev λp q=>RelV p.1 q.1/\RelV p.2 q.2
def PPs(X:Cx)(pos:Pos)(U:List (Option Expr))(F:List Expr)(z:List (TE×TE)):Prop:=
 ∀(pins:List (Addr×Obj))(s:jl)(σ:St)(H:Hp)(Q:List (V×V)->Hp->Prop),Inv X pins σ H s->z6 z σ H Q->
  wpAny 1.12 X.A (evalPairs (pairTrees U F X.env pos)) (λJ s'=>∃ps H',Inv X pins σ H' s'/\VV ps J/\Q ps H') X.xe s
def HX:PPs X pos [] [] []:=λpins s σ H Q I h=>pairTrees_nil_walk ⟨[],H,I,.nil,h⟩
def xm{k v:Expr}{ks:List (Option Expr)}{tk tv:TE}{z:List (TE×TE)}(hk:PE X k tk)(hv:PE X v tv)(Z:PPs X pos ks J z) :
  PPs X pos (ac k::ks) (v::J) ((tk,tv)::z):=λpins s σ H Q I h=>
 pairTrees_cons_walk (thn (hk pins s σ H _ I h) λu s1 ⟨x,H1,O,rx,q1⟩=>thn (hv pins s1 σ H1 _ O q1) λU s2 ⟨y,H2,V,F,q2⟩=>
  thn (Z pins s2 σ H2 _ V q2) λq s3 ⟨ps,Y,I3,rel,D⟩=>⟨(x,y)::ps,Y,I3,.cons ⟨rx,F⟩ rel,D⟩)
def oh(kvs more:List (Key×V)):List (Key×V):=more.foldl (λacc kv=>putK acc kv.1 kv.2) kvs
def KV.merge:∀{more:List (Key×V)}{z:List (Key×Value)}{kvs:List (Key×V)}{J:List (Key×Value)},KV more z->KV kvs J->KV (oh kvs more) (merged J z):=by
 intro more z kvs J r;unfold KV at r
 induction r generalizing kvs J with
 |nil=>intro q;exact q
 |@cons p q ps qs h t F=>
  intro D;have e:KV (putK kvs p.1 p.2) (stored J q.1 q.2):=by
   have:=D.put p.1 h.2;rw[←h.1];exact this
  exact F e
def pM:∀(more kvs:List (Key×V)),(oh kvs more).length<=kvs.length+more.length
 |[],kvs=>by show kvs.length<=kvs.length+0;omega
 |p::r,kvs=>by
  have h1:=pM r (putK kvs p.1 p.2);have h2:=jK kvs p.1 p.2;show(oh (putK kvs p.1 p.2) r).length<=_;rw[Z4];omega
def v6{P:aad}{w:World}:∀{kvs:List (Key×V)}{I:List (Value×Value)},VV (kvs.map λkv=>(kV kv.1,kv.2)) I->∃z,Carries (bL P w) I z/\KV kvs z
 |[],_,r=>by rw[aax]at r;cases r;exact⟨[],aa5,.nil⟩
 |p::kvs,_,r=>by
  rw[ZX]at r;cases r with
  |@cons a b as bs h t=>
   obtain⟨z,c,q⟩:=v6 (P:=P) (w:=w) t;obtain⟨D,F⟩:=b;exact⟨(p.1,F)::z,⟨nU h.1,rfl,c⟩,.cons ⟨rfl,h.2⟩ q⟩
def KC(z:List (TE×TE)):TE:=λσ H Q=>∀p,H p=af->z6 z σ (upd H p (.dK [])) λps H2=>H2 p=ac (.dK [])/\∃kvs:List (Key×V),ps=kvs.map (λkv=>(kV kv.1,kv.2))/\kvs.length<=15/\Q 2.49 (upd H2 p (.dK (oh [] kvs)))
theorem Hn{a1:List (TE×TE)}(h:PPs X pos U F a1)(a0:U.all (·.isSome)=ag)(Y:U.length=F.length)(h0:U≠[])
  (a2:U.length<=15):PE X (.Dict U F pos) (KC a1):=by
 intro pins s σ H Q I q;have hn:=I.hok.fresh (ZZ s.heap.objs.size);have O:=I.laid (a:=s.heap.objs.size) (o:=.dK []) (h':=s.heap.push {cls:=.type "dict",data:=.dict #[]}) (t':=s.toks) (λ_ _ q=>ZS _ q) (ZZ _) (Dp s.heap I.big);refine wpAny_Dict_walk (knd:=bL X.prog X.w) a0 Y h0 a2 (thn (h pins _ σ _ _ O (q _ hn)) λws s2 ⟨ps,H2,I2,rel,e,kvs,Z,lk,q2⟩=>?_);subst Z;obtain⟨rs,c,rk⟩:=v6 (P:=X.prog) (w:=X.w) rel;obtain⟨z,hd,a3,r0,D⟩:=x_ I2.hok e;cases r0;refine⟨rs,c,D,λh' J hs=>⟨.ref s.heap.objs.size,_,?_,rfl,q2⟩⟩;have hz:(oh [] kvs).length<=Z0:=by
  have h1:=pM kvs [];rw[aan]at h1;rw[adZ];omega
 have V:∃q,h'.get? s.heap.objs.size=ac q:=let⟨q,_,_,hq,_⟩:=J;⟨q,hq⟩;exact oW I2 (by rw[e];exact aa5) hs V (Bs hz hd (rk.merge .nil) J)
def V_(hu:A.units+1<cLine)(I:Inv X pins σ H s)(g:nT H a y o)(q:RelV y u)(h:∀Y s',Inv X pins σ H s'->RelV (o.getD .non) Y->Q Y s') :
  wpAny 1.12 A (call (.builtin "dict.get") [.ref a,u]) Q E s:=by
 rcases g with⟨kvs,k,e,U,l⟩|⟨kvs,k,b,e,U,O,l⟩
 .subst U
  obtain⟨z,hd,J,rel,D⟩:=nG I.hok e;refine ac2 aaT D.typeIs aco (aeH _ _) (meets_dict_get 2.88 a (nU q) hd) ⟨_,D.mapOf,h _ _ 2.204 ?_⟩;rw[l];exact(rel.val k).getD rfl
 .subst U
  cases (show u=aaA b from q);obtain⟨z,hd,xs,rel,D⟩:=vL I.hok e;refine ac2 aaT D.typeIs aco (aeH _ _) (meetsH_dict_get (ady 2.88) a b hd) ⟨abY hu,k,xs,qd I.hok O,D,h _ _ 2.204 ?_⟩;rw[l];exact(rel.val k).getD rfl
variable{d:V}
def VF(hu:A.units+1<cLine)(I:Inv X pins σ H s)(g:nT H a y o)(q:RelV y u)(rd:RelV d r)(h:∀Y s',Inv X pins σ H s'->RelV (o.getD d) Y->Q Y s') :
  wpAny 1.12 A (call (.builtin "dict.get") [.ref a,u,r]) Q E s:=by
 rcases g with⟨kvs,k,e,U,l⟩|⟨kvs,k,b,e,U,O,l⟩
 .subst U
  obtain⟨z,hd,J,rel,D⟩:=nG I.hok e;refine ac2 aaT D.typeIs aco (aeI _ _ _) (meets_dict_get_default 2.88 a (nU q) hd r) ⟨_,D.mapOf,h _ _ 2.204 ?_⟩;rw[l];exact(rel.val k).getD rd
 .subst U
  cases (show u=aaA b from q);obtain⟨z,hd,xs,rel,D⟩:=vL I.hok e;refine ac2 aaT D.typeIs aco (aeI _ _ _) (meetsH_dict_get_default (ady 2.88) a b hd r) ⟨abY hu,k,xs,qd I.hok O,D,h _ _ 2.204 ?_⟩;rw[l];exact(rel.val k).getD rd
end L2
namespace Att
open PySem PySem.W PySem.Calls PyProof.Rows
variable{P:Params}
def uA:∀(ns:List Int)(J:List Value),WellAll P h J (ns.map WData.int)->afW J ns:=by
 intro ns
 induction ns with
 |nil=>
  intro J w;rw[aax]at w;cases w;exact .nil
 |cons n ns F=>
  intro J w;rw[ZX]at w;cases w with
  |cons a b=>
   cases a;exact .cons _ _ (F _ b)
variable{l:OpenLaw}
def Kg(hn:l.most=ac n){args:List WData}{a0:List Value}
  (Y:l.row.toRowW.claim.pre args=ag) (a2:WellAll P h a0 args) :
  ∃a J ns,a0=[aaA a]/\args=[WData.list (ns.map WData.int)]/\h.get? a=ac {cls:=.type "list",data:=.seq J.toArray}/\afW J ns/\ns.length<=n:=by
 have D:WShape.hasAll [] args [.list .int]=ag:=(pre_splitW Y).1;have O:l.pre.holds [] {args:=args}=ag:=(pre_splitW Y).2;obtain⟨d,r,rfl,h1,h2⟩:=hasAllW_cons D;obtain rfl:=hasAllW_nil h2;obtain⟨xs,rfl,h3⟩:=hasW_list h1;obtain⟨ns,rfl⟩:=items_int h3;have z:ns.length<=n:=by
  unfold OpenLaw.pre at O;have Z:(WTm.not (.lt (.lit (.int (n:Int))) (.len (.arg 0)))).holds [] {args:=[.list (ns.map .int)]}=ag:=by
   have Z:=(holds_andW O).1;rw[hn]at Z;exact Z
  have V:=condW_of Z (w_not (w_lt w_lit (w_len_list (w_arg rfl))));rw[Pr]at V;refine Nat.le_of_not_lt λq=>?_;have q':(n:Int)<((ns.length:Nat):Int):=by omega
  first
   |(rw[aaB q']at V;exact absurd V (by decide))
   |(simp at V;omega)
 cases a2 with
 |cons I U=>
  cases U;cases I with
  |list F a1=>exact⟨_,_,ns,rfl,rfl,F,uA ns _ a1,z⟩
def Kl(l:OpenLaw)(args:List WData):l.row.toRowW.claim.post args (.bool ag) args=ag:=
 postW_of (r:=l.row.toRowW) (X:=(ag==ag))
  (show WShape.has [] (.bool ag) .bool=ag by first|rfl|decide|simp[WShape.has,WShape.arms,WShape.armsAll])
  (show(WTm.eq .res (.lit (.bool ag))).value [] {args:=args,res:=ac (.bool ag),after:=args}=ac (.bool (ag==ag))from w_eq_bool (w_res rfl) w_lit) rfl
def attach_call{q:aad}
  (hn:l.most=ac n) (a2:d.params.defaults=[])
  (call:∀(w:World)(s₀ D:jl)(mg mb:Str->Option Value)(fa:Addr)(o:Obj)(pm cd doc:Value)(a:Addr)(J:List Value)(ns:List Int),
   Ground q I [] XP w s₀ mg mb D.heap->YP w D.heap->
   D.heap.get? fa=ac o->o.data= .func (docDef d.name d.params d.body d.scope pm cd doc)->D.heap.CodeRec cd d.name->mg d.name=ac (.ref fa)->
   D.heap.get? a=ac {cls:=.type "list",data:=.seq J.toArray}->afW J ns->ns.length<=n->D.gens= #[]->
   adR (model l.prog w) aeu (.call (.ref fa) ⟨[.ref a],[]⟩) (λr s'=>r= .ok (.ret (.bool ag))/\OldK D.heap s'.heap/\s'.os=D.os/\adz s'.gens) D) :
  WalkO q I XP YP l.row.toRowW d [] (λf J=>agi f J):=by
 intro w s₀ D mg mb G Y fa o pm cd doc dV kV F hd a4 U a5 hg args a7 as a0 a6 a8 a3 a9;obtain rfl:dV= .none:=Dflts.none U a2;obtain rfl:kV= .none:=Dflts.noKw U;obtain⟨a,J,ns,rfl,rfl,a1,V,z⟩:=Kg hn a0 a3;refine enter_call (adH (call w s₀ D mg mb fa o pm cd doc a J ns G Y F (fd_plain hd) a4 a5 a1 V z hg) λr s' hq=>?_);obtain⟨rfl,h2,O,Z⟩:=hq;exact⟨.inl ⟨.bool ag,.bool ag,[],rfl,λ_=>rfl,.bool ag,Kl l _,λ_=>⟨List.Pairwise.nil,λ_ hm=>(nomatch hm)⟩⟩,h2,O,Z⟩
end Att
namespace L2
open PySem PySem.Spec PyProof.Rows
def yE:∀{J:List Value}{ns:List Int},afW J ns->Vals 2.100 J
 |_,_,.nil=>.nil
 |_,_,.cons n t h=>.cons ⟨t,rfl⟩ (yE h)
def Only(H:Hp):Prop:=∀b,H b=af∨∃o xs,H b=ac (.frz o 2.44)
def Qk{K:ZW}{mb:Str->Option Value}{CX:CXT}{k:Nat}{fa:Addr}{sp:Sp}{D:jl}{J:List Value}{ns:List Int}
  (KX:K.In D.heap) (a7:D.heap.Ns aaZ mg) (U:D.heap.Ns builtinsNs mb) (a9:∀x:Str,x≠"__name__"->mb x=abx x) (a6:D.heap.NoLimit) (hg:D.gens= #[])
  (Y:D.heap.get? a=ac {cls:=.type "list",data:=.seq J.toArray}) (hi:afW J ns) (hl:ns.length<=Z0) (Z:jM k aeu)
  (F:∀base:Heap,K.In base->base.Ns aaZ mg->dZ P w K mg base CX k fa fd [x] sp) (a3:∀(s:jl)(u:Value),ae1 s fd ⟨[u],[]⟩ [(x,u)])
  (b2:∀H:Hp,Only H->SqL K H a 2.100->sp [.ref a] H (λv _=>v= .bl ag) λ_ _ _=>False)
  (b1:∀H e s',CX [] H D (λ_ _ _=>False) e s'->False) :
  adR 2.128 aeu (.call (.ref fa) ⟨[.ref a],[]⟩) (λr s'=>r= .ok (.ret (.bool ag))/\OldK D.heap s'.heap/\s'.os=D.os/\adz s'.gens) D:=by
 have rv:=yE hi;have a5:=hi.length;have a2:∀H:Hp,Only H->SqL K H a 2.100->HOk P w H D.heap->(∀b,H b≠af->b=a)->(H a≠af->K.lookup a=af)->
   adR 2.128 aeu (.call (.ref fa) ⟨[.ref a],[]⟩) (λr s'=>r= .ok (.ret (.bool ag))/\OldK D.heap s'.heap/\s'.os=D.os/\adz s'.gens) D:=by
  intro H hO O hok hA hK;have a0:∀{b:Addr}{o:Obj},D.heap.get? b=ac o->H b=af->(BL D.heap H).get? b=ac o:=λe n=>LC e n;have b0:∀{b:Addr}{o:Obj}{es:Array DictEntry}{ep:Nat},D.heap.get? b=ac o->o.data= .dict es ep->H b=af:=λ{b o es ep} e d=>by
   cases q:H b with
   |none=>rfl
   |some u=>
    have e':b=a:=hA b (by rw[q];simp);subst e';rw[Y]at e;cases e;have d':Data.seq J.toArray _=Data.dict es ep:=d;cases d'
  have a1:∀{b:Addr}{m:Str->Option Value},D.heap.Ns b m->(BL D.heap H).Ns b m:=λ{b m}⟨o,es,ep,e,d,r⟩=>⟨o,es,ep,a0 e (b0 e d),d,r⟩;have a4:K.In (BL D.heap H):=λb o e=>a0 (KX b o e) (by
   cases q:H b with
   |none=>rfl
   |some u=>
    have e':b=a:=hA b (by rw[q];simp);subst e';rw[hK (by rw[q];simp)]at e;cases e)
  have hM:Mod K mg (BL D.heap H):=⟨a4,a1 a7,⟨mb,a1 U,a9⟩,let⟨mc,h1,h2⟩:=a6;⟨mc,a1 h1,h2⟩⟩;have e0:QM P w K mg (BL D.heap H) aeu [] D H:=⟨rfl,hM,λb o e=>Q6 e,Nat.le_of_eq (JV _ _),trivial,λb U=>absurd (show b∈([]:List Addr)from U) (by simp),hok,.of_eq hg⟩;refine adH ((F _ a4 (a1 a7)).run aeu [] D H ⟨[.ref a],[]⟩ [.ref a] [.ref a] _ _ Z e0 (a3 D 2.184) (.cons rfl .nil) (b2 H hO O)) λr s' h=>?_;cases r with
  |error e=>exact(b1 H e s' h).elim
  |ok fl=>
   cases fl with
   |next=>exact ab6 h
   |brk=>exact ab6 h
   |cont=>exact ab6 h
   |ret u=>
    obtain⟨v,H',os,bare,un,a8,r',q⟩:=h;have q':v= .bl ag:=q;subst q';obtain rfl:u=aeq ag:=r';refine⟨rfl,OldK.of_keep λb o e=>?_,os,bare⟩;cases q:H b with
    |none=>exact un.keep b o e q (by intro z;exact absurd (show b∈([]:List Addr)from z) (by simp)) (by simp)
    |some u=>
     rcases hO b with z|⟨ob,xs,z⟩
     .rw[q]at z;cases z
     .have z2:=un.frzs b ob _ z
      obtain⟨e1,_⟩:=hok b _ z;obtain⟨e2,_⟩:=a8 b _ z2;rw[e]at e1;cases e1;exact e2
 cases I:K.lookup a with
 |some o=>
  have e:=KX a o I;rw[Y]at e;cases e;refine a2 (λ_=>af) (λ_=>.inl rfl) (.inr ⟨_,J.toArray,_,I,rfl,rfl,rfl,by rw[List.size_toArray,a5];exact hl,by simpa using rv⟩) (λb u z=>by have z':(af:Option HO)=ac u:=z;cases z') (λb z=>absurd rfl z) λz=>absurd rfl z
 |none=>
  refine a2 (λb=>if b=a then ac (.frz {cls:=.type "list",data:=.seq J.toArray} (.lst 2.100))else af) (λb=>?_) (.inl (.inr ⟨{cls:=.type "list",data:=.seq J.toArray},if_pos rfl⟩)) (λb u z=>?_) (λb z=>?_) λ_=>I
  .by_cases U:b=a
   .exact .inr ⟨_,_,if_pos U⟩
   .exact .inl (aag U)
  .by_cases U:b=a
   .have z':=(if_pos U).symm.trans z
    cases z';subst U;exact⟨Y,by rw[Pr];exact hl,J,_,rv,Y⟩
   .have z':=(aag U).symm.trans z
    cases z'
  .by_cases U:b=a
   .exact U
   .exact absurd (aag U) z
def walk_of{l:aeM}{k:Nat}{q:aad}{K:Params->ZW}{CX:World->CXT}{sp:World->Sp}
  (hn:l.most=ac n) (a4:n<=Z0) (a2:d.params.defaults=[]) (Z:jM k aeu)
  (hY:∀(w:World)(h:Heap),YP w h->(K w.params).In h)
  (F:∀(w:World)(mg:Str->Option Value)(fa:Addr)(h:Heap),(K w.params).In h->h.Ns aaZ mg->mg d.name=ac (.ref fa)->
   ∃fd:aap,(∀(s:jl)(u:Value),ae1 s fd ⟨[u],[]⟩ [(x,u)])/\
    ∀base:Heap,(K w.params).In base->base.Ns aaZ mg->dZ l.prog w (K w.params) mg base (CX w) k fa fd [x] (sp w))
  (a6:∀(w:World)(H:Hp)(a:Addr)(ns:List Int),ns.length<=n->Only H->SqL (K w.params) H a 2.100->sp w [.ref a] H (λv _=>v= .bl ag) λ_ _ _=>False)
  (a5:∀(w:World)(H:Hp)(s:jl)(e:Value)(s':jl),CX w [] H s (λ_ _ _=>False) e s'->False) :
  agv q I XP YP l.row.toRowW d [] (λf J=>agi f J):=by
 refine Att.attach_call hn a2 λw s₀ D mg mb fa o pm cd doc a J ns G Y ho hd a7 a3 a1 a0 z hg=>?_;have KX:=hY w _ Y;obtain⟨fd,U,hF⟩:=F w mg fa _ KX G.T.g a3;exact Qk KX G.T.g G.T.b G.T.builtins G.T.nolimit hg a1 a0 (aaC z a4) Z hF U (λH hO O=>a6 w H a ns z hO O) λH e s'=>a5 w H D e s'
def oZ(s:Stmt):Arguments:=match s with
 |.FunctionDef _ a _ _ _ _ _ _ _ _=>a
 |_=>{posonlyargs:=[],args:=[],vararg:=af,kwonlyargs:=[],kw_defaults:=[],kwarg:=af,defaults:=[]}
def iM(s:Stmt):List Stmt:=match s with
 |.FunctionDef _ _ b _ _ _ _ _ _ _=>b
 |_=>[]
def aK(s:Stmt):Scope:=match s with
 |.FunctionDef _ _ _ _ _ _ z _ _ _=>z
 |_=>{kind:=.function,names:=[],isGenerator:=ae,isCoroutine:=ae}
abbrev CX0:CXT:=λ_ _ _ _ _ _=>False
abbrev E0:XK:=λ_ _ _=>False
variable{X:Cx}
def YM:FQ CX0 X E0:=λ_ _ _ _ _ _ _ h=>h.elim
structure Fun(K:PySem.W.Frag)(x qual:Str)(st:Stmt)(f:Addr)(fd:FuncData):Prop where
 ex:∃(oc:Value)(od:Option Addr)(kV doc pm:Value)(an:Option Addr)(cdv ct:Value)(osl:Array (Option Value)),
  fd=acZ x qual (oZ st) (iM st) (aK st) .none kV doc pm an cdv ct/\K.lookup f=ac ⟨oc,od,.func fd,osl⟩/\ae2 K cdv qual=ag
 kp:adS K 2.219=ag
section
variable{P:Program}{w:World}{K:PySem.W.Frag}{mg:Str->Option Value}{base:Heap}
theorem Fun.ok{x qual:Str}{st:Stmt}{f:Addr}{fd:aap}{N ps:List Str}{k:Nat}{sp:Sp}(F:Fun K x qual st f fd)(S:bh N ps (aK st))(len:∀J H Q E,sp J H Q E->J.length=ps.length)
  (z:∀(cdv:Value)(A:aaK)(outer:List Env)(s:jl)(H:Hp)(J:List V)(Q:VK)(E:XK),jM k 2.26->sp J H Q E->
   ∃t,PSs (xV CX0 P w K mg base N qual (aK st) f cdv A outer s H E).nox (iM st) t/\t {nx:=λ_ H'=>Q .non H',rt:=Q} (start N J) H):dZ P w K mg base CX0 (k+1) f fd ps sp:=by
 obtain⟨oc,od,kV,doc,pm,an,cdv,ct,osl,rfl,D,O⟩:=F.ex;refine Ys D O S len λA outer s H J Q E Z I=>?_;obtain⟨t,h,q⟩:=z cdv A outer s H J Q E Z I;exact⟨t,h.nox,q⟩
theorem Fun.binds{x qual:Str}{st:Stmt}{f:Addr}{fd:aap}{ps:List Str}(F:Fun K x qual st f fd)
  (h:∀(kV doc pm:Value)(an:Option Addr)(cdv ct:Value)(us:List Value),us.length=ps.length->bindArgs 2.110 ⟨us,[]⟩=pure (ps.zip us)):Binds K fd ps []:=by
 obtain⟨oc,od,kV,doc,pm,an,cdv,ct,osl,rfl,D,O⟩:=F.ex;exact .all (h kV doc pm an cdv ct)
def WM{x qual:Str}{st:Stmt}{f:Addr}{oc:Value}{od an:Option Addr}{osl:Array (Option Value)}{kV doc pm cdv ct:Value}(l:K.lookup f=ac ⟨oc,od,.func 2.110,osl⟩)
 (c:ae2 K cdv qual=ag) (k:adS K 2.219=ag):Fun K x qual st f (acZ x qual (oZ st) (iM st) (aK st) .none kV doc pm an cdv ct):=⟨⟨oc,od,kV,doc,pm,an,cdv,ct,osl,rfl,l,c⟩,k⟩
end
def pv(i:Nat)(z:X.N[i]? =ac x:=by rfl)(Z:Vis X.env.scope x:=by first|exact aa_ rfl|exact aaL (aa_ rfl)|exact aaL 2.205)(hd:(x==("__debug__":Str))=ae:=by decide)
 (O:(x==("__classdict__":Str))=ae:=by decide):PE X 2.38 (xW i):=w5 z Z hd O
def Ax{A B:Prop}(h:B):if ae=ag then A else B:=by
 rw[aag aav];exact h
def uY{A B:Prop}(h:A):if ag=ag then A else B:=by
 rw[if_pos rfl];exact h
def Same(H H':Hp):Prop:=∀b o,H b=ac o->H' b=ac o
def Same.refl(H:Hp):Same H H:=λ_ _ h=>h
def Same.trans{H H1 H2:Hp}(a:Same H H1)(b:Same H1 H2):Same H H2:=λc o h=>b c o (a c o h)
def Same.free{H H':Hp}(e:Same H H'){l:Addr}(h:H' l=Option.none):H l=Option.none:=by
 cases q:H l with
 |none=>rfl
 |some o=>
  rw[e l o q]at h;cases h
def Jf:gk X (.builtin "len") (λxs H Q=>∃a kvs,xs=[V.ref a]/\H a=ac 2.20/\Q (.int kvs.length) H):=by
 intro pins s σ H xs us Q I r h;obtain⟨a,kvs,rfl,Y,q⟩:=h;obtain⟨u,rfl,Z⟩:=vals1 r;cases Z;exact Yg I (.inl Y) λt s' J=>⟨.int kvs.length,H,J,⟨t,rfl⟩,q⟩
end L2
set_option maxHeartbeats 4000000
namespace Jb
open PySem PySem.Spec PyProof.Rows L2
structure Cal(P:Program)(w:World)(K:PySem.W.Frag)(mg:Str->Option Value)(base:Heap)(k:Nat)(x:Str)(ps:List Str)(sp:Sp):Prop where
 ex:∃f fd,dZ P w K mg base CX0 k f fd ps sp/\mg x=ac 2.219/\adS K 2.219=ag/\Binds K fd ps []
variable{X:Cx}{t:TA}{p:Pos}{k:Nat}
def O6{sp:Sp}(C:Cal X.prog X.w X.K X.mg X.base k x ps sp)(Z:jM k X.A)(D:Gl X x)(Y:PA X (e::es) t)
  (q:(x==("__debug__":Str))=ae:=by decide) (V:Z1 (e::es) X.env=(ae,eval e X.env)::Z1 es X.env:=by rfl) (z:(aa1 pos 2.83).any (·.1)=ae:=by rfl) :
  PE X (.Call 2.117 (e::es) [] pos) (Uj sp [] E0 t):=by
 obtain⟨f,fd,F,J,I,U⟩:=C.ex;exact QH F Z D J I U .nil YM Y q V z
def X6{n:String}(F:Gl X x)(J:X.mg x=af)(Z:abx x=ac (.type n))(hn:x≠"__name__":=by decide)(hd:(x==("__debug__":Str))=ae:=by decide):PE X 2.38 (tC (.ty n)):=
 QR F J Z rfl hn hd
def YK(_ j:Int):Prop:=0<j/\j<18446744073709551616
def Lb:OpR X (abg .FloorDiv) (rI YK λi j=>.int (i / j)):=opI λi j _ _ _ _ _ O q=>by
 have h1:(0:Int)<j:=O.1;have h2:j<18446744073709551616:=O.2;have z:j.natAbs<2 ^ 64:=by omega
 have Z:j.natAbs≠0:=by omega
 have V:j.natAbs.log2<64:=(Nat.log2_lt Z).mpr z;exact floordiv_int 1.10 (by rw[aee i 1.10];exact q) (.inl (PyProof.noPylong_of_log2 1.10))
variable{b:Expr}
def Cw:gk X (.builtin "isinstance") (λxs H Q=>∃x n t b,xs=[x,.ty n]/\mQ X.K H x t/\adQ X.K t (.type n)=ac b/\Q (.bl b) H):=by
 intro pins s σ H xs us Q I r h;obtain⟨x,n,t,b,rfl,F,e,q⟩:=h;obtain⟨u,Y,rfl,z,D⟩:=vals2 r;cases D;exact J_ I z F e λtk=>⟨.bl b,H,I.tok tk,rfl,q⟩
variable{H:Hp}
def Same.new{q:Addr}{o:HO}(h:H q=af):Same H (L2.upd H q o):=λb u e=>by rw[aO (bC e h)];exact e
def GJ{l:List α}{f:α->β->Sem (ForInStep β)}(g:β->α->β):∀(q:β),(∀x∈l,∀c,f x c=pure (.yield (g c x)))->forIn l q f=pure (l.foldl g q):=by
 induction l with
 |nil=>intro q _;rfl
 |cons x r F=>
  intro q h;rw[List.forIn_cons,h x aaP q];show(pure (acV (g q x)) >>=_)=_;rw[pure_bind];exact F (g q x) λy V c=>h y (aai _ V) c
def pN(env:Env)(cs:List (Str×Addr))(y:Str×abH):List (Str×Addr):=if y.2== .free then(y.1,(env.cells.lookup y.1).getD 0)::cs else cs
def wL(scope:Scope)(env:Env):List (Str×Addr):=scope.names.foldl (pN env) []
def pL(h:∀y∈scope.names,y.2= .free->∃c,env.cells.lookup y.1=ac c):closureFor scope env=pure (wL scope env):=by
 unfold closureFor;dsimp only;rw[GJ (pN env) [] λy V c=>?_]
 .rw[pure_bind]
  rfl
 .obtain⟨n,k⟩:=y
  unfold pN;dsimp only;by_cases I:(k==adp)=ag
  .rw[if_pos I,if_pos I]
   obtain⟨a,Y⟩:=h (n,k) V (by simpa using I);have Y:env.cells.lookup n=ac a:=Y;unfold cellOf;rw[Y];rfl
  .rw[aag I,aag I]
def yN(R:Str->Addr->Prop):∀(l:List (Str×abH))(acc:List (Str×Addr)),(∀x c,acc.lookup x=ac c->R x c)->(∀y∈l,y.2= .free->R y.1 ((env.cells.lookup y.1).getD 0))->
  ∀x c,(l.foldl (pN env) acc).lookup x=ac c->R x c
 |[],acc,h,_=>h
 |y::r,acc,h,hy=>by
  refine yN R r (pN env acc y) (λx c e=>?_) λz hz=>hy z (aai _ hz);unfold pN at e;split at e
  .rename_i hk
   rw[aaV]at e;cases J:(x==y.1)with
   |true=>
    rw[J]at e;have ex:x=y.1:=by simpa using J
    cases e;rw[ex];exact hy y aaP (by simpa using hk)
   |false=>
    rw[J]at e;exact h x c e
  .exact h x c e
def tB{env:Env}:∀(l:List (Str×abH))(acc:List (Str×Addr))(x:Str),((∃c,acc.lookup x=ac c)∨(x,adp)∈l)->∃c,(l.foldl (pN env) acc).lookup x=ac c
 |[],acc,x,h=>by
  rcases h with h|h
  .exact h
  .cases h
 |y::r,acc,x,h=>by
  refine tB r (pN env acc y) x ?_;rcases h with⟨c,h⟩|h
  .left
   unfold pN;split
   .rw[aaV]
    cases J:(x==y.1)with
    |true=>exact⟨_,rfl⟩
    |false=>exact⟨c,h⟩
   .exact⟨c,h⟩
  .rcases Z2.mp h with e|e
   .left
    unfold pN;subst e;rw[if_pos (by rfl),aaV,show(x==x)=ag by simp];exact⟨_,rfl⟩
   .exact .inr e
def Br:∀(names:List (Str×abH))(n:Nat)(acc:List (Str×Addr))(x:Str)(c:Addr),(abf n names acc).lookup x=ac c->acc.lookup x=ac c∨n<=c
 |[],_,_,_,_,h=>.inl h
 |(y,k)::r,n,acc,x,c,h=>by
  unfold abf at h;split at h
  .rcases Br r _ _ x c h with z|z
   .rw[aaV]at z
    split at z
    .cases z;exact .inr (ZZ _)
    .exact .inl z
   .exact .inr (adf z)
  .exact Br r n acc x c h
def Gx:∀(names:List (Str×abH))(n:Nat)(acc:List (Str×Addr)),(∀x c,acc.lookup x=ac c->c<n)->(∀x y c,acc.lookup x=ac c->acc.lookup y=ac c->x=y)->∀x y c,(abf n names acc).lookup x=ac c->(abf n names acc).lookup y=ac c->x=y
 |[],_,_,_,h=>h
 |(w,k)::r,n,acc,hl,h=>by
  unfold abf;split
  .refine Gx r _ _ (λx c e=>?_) λx y c e1 e2=>?_
   .rw[aaV]at e
    split at e
    .cases e;exact adt _
    .exact acr (hl x c e)
   .rw[aaV]at e1 e2
    cases J:(x==w)<;>cases V:(y==w)<;>rw[J]at e1<;>rw[V]at e2
    .exact h x y c e1 e2
    .cases e2;exact absurd (hl x _ e1) (aa7 _)
    .cases e1;exact absurd (hl y _ e2) (aa7 _)
    .exact(beq_iff_eq.mp J).trans (beq_iff_eq.mp V).symm
  .exact Gx r n acc hl h
def FP:∀(names:List (Str×abH))(n:Nat)(acc:List (Str×Addr))(x:Str),((∃c,acc.lookup x=ac c)∨(x,abA)∈names)->∃c,(abf n names acc).lookup x=ac c
 |[],_,_,_,h=>h.elim id λz=>by cases z
 |(w,k)::r,n,acc,x,h=>by
  unfold abf;split
  .refine FP r _ _ x ?_
   rw[aaV];cases J:(x==w)with
   |true=>exact .inl ⟨_,rfl⟩
   |false=>
    rcases h with h|h
    .exact .inl h
    .rcases Z2.mp h with z|z
     .cases z;simp at J
     .exact .inr z
  .rename_i hk
   refine FP r n acc x (h.imp id λz=>?_);rcases Z2.mp z with z|z
   .cases z;exact absurd rfl hk
   .exact z
def Ae:∀(names:List (Str×abH))(n:Nat)(acc:List (Str×Addr))(x:Str),(x,abA)∉names->(abf n names acc).lookup x=acc.lookup x
 |[],_,_,_,_=>rfl
 |(w,k)::r,n,acc,x,h=>by
  unfold abf;split
  .rename_i hk
   rw[Ae r _ _ x λz=>h (aai _ z),aaV];have:(x==w)=ae:=by
    cases J:(x==w)with
    |false=>rfl
    |true=>exact absurd (by rw[beq_iff_eq.mp J,show k=abA by simpa using hk];exact aaP) h
   rw[this]
  .exact Ae r n acc x λz=>h (aai _ z)
def Fj:∀(names:List (Str×abH))(n:Nat)(acc:List (Str×Addr))(x:Str)(c:Addr),((∀c,acc.lookup x=ac c->m<=c)∨(x,abA)∈names)->m<=n->(abf n names acc).lookup x=ac c->m<=c
 |[],_,_,_,c,h,_,e=>h.elim (λh=>h c e) λz=>by cases z
 |(w,k)::r,n,acc,x,c,h,hm,e=>by
  unfold abf at e;split at e
  .refine Fj r _ _ x c ?_ (Nat.le_succ_of_le hm) e
   by_cases J:x=w
   .exact .inl λc e=>by rw[aaV,J,beq_self_eq_true]at e;cases e;exact hm
   .rcases h with h|h
    .exact .inl λc e=>by rw[aaV,beq_false_of_ne J]at e;exact h c e
    .rcases Z2.mp h with z|z
     .cases z;exact absurd rfl J
     .exact .inr z
  .rename_i hk
   refine Fj r n acc x c (h.imp id λz=>?_) hm e;rcases Z2.mp z with z|z
   .cases z;exact absurd rfl hk
   .exact z
def Ac:∀(names:List (Str×abH))(h:Heap)(acc:List (Str×Addr)),(∀x c,acc.lookup x=ac c->∃v,h.IsCell c v)->∀x c,(abf h.objs.size names acc).lookup x=ac c->∃v,(aeN h names).IsCell c v
 |[],_,_,h=>h
 |(w,k)::r,hp,acc,h=>by
  unfold abf aeN;split
  .have:=Ac r (hp.push {cls:=.type "cell",data:=.cell af}) ((w,hp.objs.size)::acc) λx c e=>by
    rw[aaV]at e;split at e
    .cases e;exact⟨_,_,Z_ _ rfl,rfl⟩
    .obtain⟨v,hv⟩:=h x c e
     exact⟨v,hv.keeps λb o e=>ZS _ e⟩
   rwa[abm]at this
  .exact Ac r hp acc h
variable{F:Value}
def RV{M:Model}{A:aaK}{E:Value->jl->Prop}{s:jl}{D z:Addr}{cl:List (Str×Addr)}{I:Option Addr}{Q:Env->jl->Prop}
  (q:Q (newEnv scope s.heap.objs.size D (abf (s.heap.objs.size+1) scope.names cl) qual I F (ac env) z) {s with heap:=aeN (s.heap.push {cls:=.type "dict",data:=.dict #[]}) scope.names}):wpAny M A (ae4 scope D cl [] qual I F (ac env) z) Q E s:=by
 simp![ae4,afK,aal];refine Mz (wpAny_alloc ?_);refine Mz (wpAny_layCells _ (λname kind J=>by cases O:kind==abA<;>simp[O]) _ _ _ _ ?_);rw[show({s with heap:=s.heap.push {cls:=.type "dict",data:=.dict #[]}}:jl).heap.objs.size=s.heap.objs.size+1 from abm ..];exact Mz (Z3 (Z3 q))
def Wb(scope:Scope)(x:Str):Bool:=match scope.names.lookup x with
 |some .cell=>ag
 |_=>ae
def Ei(scope:Scope)(env:Env)(C:Addr):List (Str×Addr):=abf (C+1) scope.names (wL scope env)
def fu(X:Cx)(N':List Str)(scope:Scope)(C:Addr)(Y:jl)(q:Hp)(fp:List Addr):Cx:=
 {X with N:=N',s₀:=Y,H₀:=q,env:=compEnvC scope (Ei scope X.env C) C X.env,outer:=X.stack,stack:=X.stack,ex:=fp,fn:=Wb scope,pn:=[],xe:=λ_ _=>False}
def ji(cap:List 2.12)(σ:L2.St):L2.St:=cap.map λo=>o.bind λj=>(σ[j]?).bind id
structure cJ(sc:Scope)(N N':List Str)(scope:Scope)(cap:List (Option Nat)):Prop where
 kind:scope.kind= .function
 cellnm:∀y∈scope.names,y.2= .cell->scope.names.lookup y.1=ac .cell
 nm:∀y∈scope.names,y.2= .local->scope.names.lookup y.1=ac .local
 free:∀y∈scope.names,y.2= .free->sc.names.lookup y.1=ac .cell∨sc.names.lookup y.1=ac .free
 len:cap.length=N'.length
 cap:∀i∈aaG cap.length,∀j∈aaG N.length,cap[i]? =ac (ac j)->N[j]? =N'[i]?/\∀x∈N'[i]?,scope.names.lookup x=ac .free
def kW{l:List (Str×α)}{k:α}(h:l.lookup x=ac k):(x,k)∈l:=abT h
def Qx(h:Wb scope x=ag):(x,abA)∈scope.names:=by
 unfold Wb at h;split at h
 .rename_i e;exact kW e
 .cases h
def rH{k:abH}(I:(relabel scope env).names.lookup x=ac k)(V:k= .cell∨k= .free):(x,adp)∈scope.names∨(x,abA)∈scope.names:=by
 have h:=kW I;obtain⟨⟨n,q⟩,J,e⟩:=List.mem_map.mp h;dsimp only at e;split at e
 .rename_i hc
  cases e;have:q= .free:=by
   have:=(afh.mp (afh.mp hc).1).1;simpa using this
  subst this;exact .inl J
 .cases e
  rcases V with z|z
  .subst z;exact .inr J
  .subst z;exact .inl J
variable{σ:L2.St}{cap:List (Option Nat)}{c:Addr}
def lM(I:Inv X pins σ H s)(O:cJ X.env.scope X.N N' scope cap)(h:(wL scope X.env).lookup x=ac c):X.env.cells.lookup x=ac c:=by
 refine yN (λx c=>X.env.cells.lookup x=ac c) scope.names [] (λx c e=>by simp at e) (λy V q=>?_) x c h;obtain⟨c,e⟩:=I.ok.has y.1 (O.free y V q);rw[e];rfl
variable{C:Addr}
def GC(I:Inv X pins σ H s)(O:cJ X.env.scope X.N N' scope cap)(h:(Ei scope X.env C).lookup x=ac c):X.env.cells.lookup x=ac c∨C+1<=c:=(Br _ _ _ x c h).imp (lM I O) id
def RM(I:Inv X pins σ H s)(O:cJ X.env.scope X.N N' scope cap)(Y:∀b∈fp,m8 X pins H b)(D:∀b∈fp,b<s.heap.objs.size)(F:s.heap.objs.size<=C):(fu X N' scope C s H fp).Ok where
 mod:=I.ok.mod
 kind:=O.kind
 glob:=I.ok.glob
 blt:=I.ok.blt
 above:=F
 inj:=Gx _ _ _ (λx c e=>by
   obtain⟨v,Z⟩:=I.cell x c (lM I O e);exact acr (Z9 Z.lt F)) λx y c h1 h2=>I.ok.inj x y c (lM I O h1) (lM I O h2)
 has:=λx h=>FP _ _ _ x ((h.elim (λh=>rH h 2.81) λh=>rH h 2.203).imp (λz=>tB scope.names [] x 2.42) id)
 cab:=λx c h e=>aaC F (adf (Fj _ _ _ x c (.inr (Qx h)) (ZZ _) e))
 hd:=I.ok.hd
 frames:=I.ok.frames
 stk:=.inl rfl
 exf:=λb U=>⟨aam (Z9 (D b U) F),λx c e=>(GC I O e).elim (λe=>(Y b U).2.2.2.2.1 x c e) λz=>acy (Z9 (D b U) (aaC F (adf z)))⟩
 bs:=I.bs
 bsz:=aaC I.ok.bsz I.sz
 noex:=λb o e U=>by
  rcases(Y b U).2.2.2.1 with z|z
  .exact I.ok.noex b o e z
  .exact absurd (Z9 (Z8 (I.ok.bs b o e).1) z) (aa7 _)
 exfs:=λb U z=>by
  rcases Z2.mp (I.stkSub b z)with q|q
  .exact(Y b U).2.1 q
  .exact(Y b U).2.2.1 q
 funs:=I.stack
 frf:=I.stkFree
theorem M4{F:Heap}{D:Addr}(I:Inv X pins σ H s)(O:cJ X.env.scope X.N N' scope cap)(hf:∀b∈fp,m8 X pins H b)(a8:∀b∈fp,b<s.heap.objs.size)
  (hC:s.heap.objs.size<=C) (hD:s.heap.objs.size<=D) (a7:D≠C) (Z:∀b u,s.heap.get? b=ac u->F.get? b=ac u) {m:Str->Option Value} (b2:F.Ns C m) (b4:F.get? D=ac o) (b0:∀v,o.data≠.cell v) (b1:∀x c,(Ei scope X.env C).lookup x=ac c->∃v,F.IsCell c v) :
  Inv (fu X N' scope C s H fp) [(D,o)] (ji cap σ) H {s with heap:=F,toks:=tk}where
 ok:=RM I O hf a8 hC
 os:=rfl
 bare:=I.bare
 base:=Un.kept Z
 loc:=by
  refine⟨m,b2,λi x v e1 e2 e3=>?_⟩;have e1:N'[i]? =ac x:=e1;unfold ji at e2;rw[List.getElem?_map]at e2;cases hc:cap[i]? with
  |none=>rw[hc]at e2;cases e2
  |some q=>
   rw[hc]at e2;cases q with
   |none=>cases e2
   |some j=>
    have e2:(σ[j]?).bind id=ac v:=aaR e2;have a5:σ[j]? =ac (ac v):=by
     cases z:σ[j]? with
     |none=>rw[z]at e2;cases e2
     |some y=>
      rw[z]at e2;have:y=ac v:=e2;rw[this]
    have hi:i<cap.length:=(List.getElem?_eq_some_iff.mp hc).1;have hj:j<X.N.length:=by
     have:=(List.getElem?_eq_some_iff.mp a5).1;rw[I.len]at this;exact this
    obtain⟨c1,c2⟩:=O.cap i (acx.mpr hi) j (acx.mpr hj) hc;have a1:scope.names.lookup x=ac .free:=c2 x (by rw[e1];rfl);have hN:X.N[j]? =ac x:=c1.trans e1;have a2:=kW a1;have a3:Vis X.env.scope x:=(O.free _ a2 rfl).elim (λz=>.inr 2.29) λz=>.inr 2.42;obtain⟨m0,_,Y⟩:=I.loc;obtain⟨u,r,lk⟩:=Y j x v hN a5 a3;refine⟨u,r,?_⟩;rcases lk with⟨k,_⟩|⟨_,c,ec,a0⟩
    .have k:X.env.scope.names.lookup x=ac .local:=k
     rcases O.free _ a2 rfl with z|z
     .rw[k]at z;cases z
     .rw[k]at z;cases z
    .right
     obtain⟨c',a6⟩:=tB (env:=X.env) scope.names [] x (.inr a2);have a4:=lM I O a6;rw[ec]at a4;cases a4;have b3:(x,abA)∉scope.names:=λz=>by
      have:=O.cellnm _ z rfl;rw[a1]at this;cases this
     refine⟨?_,c,(Ae _ _ _ x b3).trans a6,?_⟩
     .have e3:Vis (relabel scope X.env) x:=e3
      rcases e3 with e3|e3|e3
      .exfalso
       have J:=kW e3;obtain⟨⟨n,q⟩,a9,e⟩:=List.mem_map.mp J;dsimp only at e;split at e
       .cases e
       .cases e
        have:=O.nm _ a9 rfl;rw[a1]at this;cases this
      .exact .inl e3
      .exact .inr e3
     .obtain⟨oc,h1,h2⟩:=a0
      exact⟨oc,Z _ _ h1,h2⟩
 cell:=b1
 free:=I.hok.fresh hC
 freeC:=λx c e=>(GC I O e).elim (I.freeC x c) λz=>I.hok.fresh (aaC hC (adf z))
 pin:=λp V=>by
  have e:p=(D,o):=by simpa[fu]using V
  subst e;refine⟨b4,I.hok.fresh hD,a7,λz=>?_,b0⟩;obtain⟨b,U,e⟩:=ad5.mp z;have hz:D∈X.env.locals::X.fs:=I.stkSub D z;rcases Z2.mp hz with q|q
  .exact absurd (Z9 (by rw[q];exact I.lt) hD) (aa7 _)
  .exact I.nofs hD q
 hok:=I.hok.kept Z
 len:=by
  unfold ji;rw[Pr];exact O.len
theorem O_{H2:Heap}(I:Inv X pins σ H s)(O:cJ X.env.scope X.N N' scope cap)(q:s.heap.push o=H2)(z:o.isFreed=ae) :
  ∃F:Heap,(∀b u,s.heap.get? b=ac u->F.get? b=ac u)/\F.get? s.heap.objs.size=ac o/\F.Ns H2.objs.size (λ_=>af)/\(∀x c,(Ei scope X.env H2.objs.size).lookup x=ac c->∃v,F.IsCell c v)/\F=aeN (H2.push {cls:=.type "dict",data:=.dict #[]}) scope.names:=by
 have keep:∀b u,H2.get? b=ac u->(aeN (H2.push {cls:=.type "dict",data:=.dict #[]}) scope.names).get? b=ac u:=λb u e=>pushCells_keeps _ _ b u (ZS _ e);have D:∀b u,s.heap.get? b=ac u->H2.get? b=ac u:=λb u e=>q▸ZS _ e;refine⟨_,λb u e=>keep b u (D b u e),keep _ _ (q▸Z_ _ z),(Heap.Ns.new H2 (.type "dict")).keeps (pushCells_keeps _ _),?_,rfl⟩;have:=Ac scope.names (H2.push {cls:=.type "dict",data:=.dict #[]}) (wL scope X.env) λx c e=>by
  obtain⟨v,Z⟩:=I.cell x c (lM I O e);exact⟨v,Z.keeps λb u e=>ZS _ (D b u e)⟩
 rwa[abm]at this
abbrev NoX:Value->jl->Prop:=λ_ _=>False
variable{R:Result->Shared->Prop}
def BX{iter:Expr}{it acc:Value}(I:Nat->jl->Prop)
  (z:∀n s,I n s->wpAny 2.15 A (aeX it) (λr D=>match r with
   |none=>R (.ok .next) D
   |some v=>wpAny (model prog w) A (adG target it v) (λ_ U=>wpAny (model prog w) A (adk target env v) (λ_ Y=>
    wpAny 2.15 A (forIn ifs ag λc r=>if r=ag then do let ok ←aeW c env (eval c env);pure (acV ok)else pure (acV r)) (λok J=>
     if ok=ag then wpAny 2.15 A (eval elt env) (λx O=>wpAny 2.15 A (call (.builtin "list.append") [acc,x]) (λ_ Z=>∃m,m<n/\I m Z) NoX O) NoX J
     else ∃m,m<n/\I m J) NoX Y) NoX U) NoX D) NoX s)
  (n:Nat) (h:I n s):adR 2.15 A (.compLoop 1.14 0 it acc env) R s:=by
 refine codeAny_loop rfl I (λn s q=>?_) n h;show wpAny _ A ((compTurn 1.14 0 it acc env).onRaise (λx=>do noteFrame x env;theTreesLotGoes x)) _ _ s;refine wpAny_noted ?_;rw[compTurn_list];refine Mz (aec (Mz (aci (z n s q) (λr D F=>?_) λ_ _ h'=>h'.elim)));cases r with
 |none=>exact Z3 F
 |some v=>
  refine Mz (aci F (λ_ U a0=>?_) λ_ _ h'=>h'.elim);refine Mz (aci a0 (λ_ Y a2=>Mz (aci a2 (λok J V=>?_) λ_ _ h'=>h'.elim)) λ_ _ h'=>h'.elim);cases ok with
  |false=>exact Z3 ⟨rfl,V⟩
  |true=>
   exact Mz (Mz (aci V (λx O a1=>Mz (aci a1 (λ_ Z a3=>Z3 (Z3 ⟨rfl,a3⟩)) λ_ _ h'=>h'.elim)) λ_ _ h'=>h'.elim))
def PTs(X:Cx)(ifs:List Expr)(t:TT):Prop:=
 ∀(pins:List (Addr×Obj))(s:jl)(σ:L2.St)(H:Hp)(Q:Bool->Hp->Prop),Inv X pins σ H s->t σ H Q->
  wpAny 1.12 X.A (forIn ifs ag λc r=>if r=ag then do let ok ←aeW c X.env (eval c X.env);pure (acV ok)else pure (acV r)) (TP X pins σ Q) X.xe s
def Xv:TT:=λ_ H Q=>Q ag H
def Ra:PTs X [] Xv:=λ_ _ _ H _ I h=>wpAny_tests_nil ⟨H,I,h⟩
def SN{c:Expr}{t:TT}(h:PT X c t):PTs X [c] t:=λpins s σ H Q I q=>wpAny_tests_one (h pins s σ H Q I q)
def Kp(σ q:L2.St):Prop:=∀(i:Nat) v,σ[i]? =ac (ac v)->q[i]? =ac (ac v)
def Ui(J:It)(H:Hp)(g:TG)(tt:TT)(te:TE)(σ:L2.St)(Q:List V->Hp->Prop):Prop:=
 ∃W:Nat->Nat->List V->Hp->Prop,(∃m,W 0 m [] H)/\∀i m ys H,W i m ys H->
  (J.stop i H/\Q ys H)∨(J.go i H/\ys.length<Z0/\∃N:List V->Hp->Prop,(∀z H',N z H'->∃m',m'<m/\W (i+1) m' z H')/\
   ∀x H',J.yld i H x H'->g x σ H' λσ2 H2=>Kp σ σ2/\tt σ2 H2 λb Y=>if b=ag then te σ2 Y λv q=>N (ys++[v]) q else N ys Y)
def Cz(cap:List 2.12)(wi:TI)(g:TG)(tt:TT)(te:TE):TE:=λσ H Q=>wi σ H λJ H1=>
 Ui J H1 g tt te (ji cap σ) λys H2=>ys.length<=Z0/\∀D,H2 D=af->Q (.ref D) (upd H2 D 2.129)
section
variable{X:Cx}{elt target iter:Expr}{ifs:List Expr}{scope:Scope}{pos:Pos}{N':List Str}{cap:List (Option Nat)}{wi:TI}{g:TG}{tt:TT}{te:TE}
def lobj(its:List Value)(n:Nat):Obj:={cls:=.type "list",data:=.seq its.toArray n}
def wH{pins:List (Addr×Obj)}{σ:L2.St}{H:Hp}{Y:jl}{it:Addr}{fp:List Addr}{tn:Nat->Heap->Prop}{J:It}{Q:List V->Hp->Prop}{RR:Value->Addr->Result->jl->Prop}{E:Value->jl->Prop}
  (hc:X.calm=ag) (O:cJ X.env.scope X.N N' scope cap) (I:Inv X pins σ H Y) (T:Turn X.prog X.w X.K target J fp it tn) (st:tn 0 Y.heap) (f2:∀b∈fp,m8 X pins H b)
  (hg:∀C,PG 2.19 target g) (ht:∀C,PTs 2.19 ifs tt) (he:∀C,PE 2.19 elt te) (cw:Ui J H g tt te (ji cap σ) Q)
  (c4:∀(D C:Addr)(s':jl)(H':Hp)(ys:List V)(its:List Value)(n:Nat)(a8:L2.St),Y.heap.objs.size<=D->Y.heap.objs.size<=C->D≠C->Inv 2.19 [(D,lobj its n)] a8 H' s'->Vals ys its->Q ys H'->
   RR (.ref D) C (.ok .next) s') :
  wpAny 1.12 X.A (newList []) (λacc b3=>wpAny 1.12 X.A (ae4 scope X.env.globals (wL scope X.env) [] X.env.qual af .none (ac X.env)) (λb0 c2=>
   adR 1.12 X.A (.compStart 1.14 0 2.73 acc {b0 with scope:=relabel scope X.env}) (RR acc b0.locals) c2) E b3) E Y:=by
 refine abO (RV ?_);dsimp only;generalize b2:Y.heap.push {cls:=.type "list",dict:=af,data:=.seq ([]:List Value).toArray}=H2;have hC:H2.objs.size=Y.heap.objs.size+1:=by rw[←b2,abm]
 have a5:Y.heap.objs.size≠H2.objs.size:=by rw[hC];exact aam (adt _)
 have a0:Y.heap.objs.size<=H2.objs.size:=by rw[hC];exact ad0 _
 obtain⟨a9,b6,b5,a6,c7,c5⟩:=O_ (o:=lobj [] 0) I O b2 rfl;rw[←c5];have a7:∀b∈fp,b<Y.heap.objs.size:=λb U=>by
  obtain⟨o,e,_⟩:=T.obj 0 _ st b U;exact Z8 e
 have I1:=M4 (tk:=Y.toks) I O f2 a7 a0 (ZZ _) a5 b6 a6 b5 (λv z=>by cases z) c7;have b4:tn 0 a9:=T.keep _ _ _ st λb _ o e=>b6 b o e;obtain⟨W,⟨m0,w0⟩,b9⟩:=cw;generalize hD:Y.heap.objs.size=D at *
 generalize c9:H2.objs.size=C at *
 have a3:∀{H':Hp}{o:Obj},(∀b∈fp,H' b=af)->∀b∈fp,m8 2.19 [(D,o)] H' b:=λ{H' o} hn b U=>by
  refine⟨hn b U,aam (Z9 (a7 b U) a0),I1.ok.exfs b U,.inl U,(I1.ok.exf b U).2,λp hp=>?_⟩;have e:p=(D,o):=by simpa[fu]using hp
  subst e;exact acy (a7 b U)
 have b1:adR 1.12 X.A (.compLoop 1.14 0 2.73 (.ref D) (compEnvC scope (Ei scope X.env C) C X.env)) (RR (.ref D) C) {Y with heap:=a9}:=by
  refine BX (λn s'=>∃i ys its k H',Inv 2.19 [(D,lobj its k)] (ji cap σ) H' s'/\Vals ys its/\tn i s'.heap/\(∀b∈fp,H' b=af)/\W i n ys H') ?_ m0 ⟨0,[],[],0,H,I1,.nil,b4,λb U=>(f2 b U).1,w0⟩;rintro n s3 ⟨i,ys,its,k,H3,I3,rv,c0,c1,w3⟩;rcases b9 i n ys H3 w3 with⟨stop,qn⟩|⟨go,hsz,N,hN,step⟩
  .refine thn (T.done 2.19 rfl rfl rfl hc i _ s3 _ H3 NoX I3 (a3 c1) c0 stop) λr s4 ⟨Z,I4⟩=>?_
   subst Z;exact c4 D C s4 H3 ys its k _ (ZZ _) a0 a5 I4 rv qn
  .refine thn (T.item 2.19 rfl rfl rfl hc i _ s3 _ H3 NoX I3 (a3 c1) c0 go) λr s4 ⟨u,Z,h4⟩=>?_
   subst Z;refine thn h4 λ_ s5 ⟨x,H5,I5,r5,y5,a4,c8⟩=>?_;have c3:=I5.pinned (a3 c8) (T.obj _ _ a4);refine thn (hg C _ s5 _ H5 x u _ c3 r5 (step x H5 y5)) λ_ s6 ⟨a2,H6,I6,b8,q6⟩=>?_;refine thn (ht C _ s6 a2 H6 _ I6 q6) λok s7 ⟨H7,I7,q7⟩=>?_;have a1:∀{s':jl}{H':Hp}{a8:L2.St},Inv 2.19 ([(D,lobj its k)]++qg fp s5.heap) a8 H' s'->tn (i+1) s'.heap/\∀b∈fp,H' b=af:=λ{s' H' a8} Ix=>by
    refine⟨T.keep _ _ _ a4 λb U o e=>(Ix.pin (b,o) 2.123).1,λb U=>?_⟩;obtain⟨o,e,d⟩:=T.obj _ _ a4 b U;exact(Ix.pin (b,o) 2.123).2.1
   have b7:(ji cap σ).length=a2.length:=by rw[I6.len,I1.len]
   cases ok with
   |false=>
    have n7:N ys H7:=by simpa using q7
    obtain⟨m',hm,w7⟩:=hN _ _ n7;exact⟨m',hm,i+1,ys,its,k,H7,I7.unpinned.weak b7 b8,rv,(a1 I7).1,(a1 I7).2,w7⟩
   |true=>
    have q7:te a2 H7 λv H4=>N (ys++[v]) H4:=by simpa using q7
    refine thn (he C _ s7 a2 H7 _ I7 q7) λu8 s8 ⟨v,H8,I8,r8,n8⟩=>?_;obtain⟨eD,nD,_,c6,_⟩:=I8.pin (D,lobj its k) (W2 _ (ZV _ aaP));have lv:=rv.length;refine ac7 afJ ⟨_,eD,rfl⟩ afu (afg _ _) (af3 D its.toArray k u8 (by rw[List.size_toArray];omega)) ⟨eD,?_⟩;obtain⟨m',hm,w8⟩:=hN _ _ n8;obtain⟨k',eN⟩:∃k',(s8.heap.update D (acH (·.push u8))).get? D=ac (lobj (its++[u8]) k'):=by
     have q:=agb eD (·.push u8);dsimp only at q;rw[List.push_toArray]at q;exact⟨_,q⟩
    have I9:Inv 2.19 (qg fp s5.heap) a2 H8 {s8 with heap:=s8.heap.update D (acH (·.push u8))}:=by
     refine Inv.turned (it:=D) (t':=s8.toks) (I8.pins_of λp hp=>I8.pin p (W2 _ (W2 _ hp))) (λb o U e=>(abl s8.heap (acH _) (aaS U)).trans e) nD a5 (.inr (by rw[←hD];exact ZZ _)) (λx c e z=>?_) (λp hp z=>?_)
     .rcases GC I O e with e|e
      .obtain⟨vc,oc,h1,_⟩:=I.cell x c e
       have hh:=Z8 h1;rw[z,hD]at hh;exact aa7 _ hh
      .rw[z]at e
       exact absurd (aaC e a0) (Nat.not_succ_le_self _)
     .have hp:p∈qg fp s5.heap:=hp
      have hh:=a7 p.1 (yR hp).1;rw[z]at hh;exact aa7 _ hh
    refine⟨m',hm,i+1,ys++[v],its++[u8],k',H8,(I9.weak b7 b8).pins_of (λp hp=>?_),rv.append (.cons r8 .nil),?_,λb U=>?_,w8⟩
    .have e:p=(D,lobj (its++[u8]) k'):=aab.mp hp
     rw[e];exact⟨eN,nD,a5,c6,λv z=>by cases z⟩
    .exact T.keep _ _ _ a4 λb U o e=>(I9.pin (b,o) (W2 _ (iB U e))).1
    .obtain⟨o,e,d⟩:=T.obj _ _ a4 b U
     exact(I9.pin (b,o) (W2 _ (iB U e))).2.1
 exact codeAny_compStart_list b1 (T.self _ 0 _ _ _ b4 b1)
def Ho(hx:X.xe=NoX)(hc:X.calm=ag)(O:cJ X.env.scope X.N N' scope cap)(hi:PI X target iter wi)
  (hg:∀C Y H fp,PG 2.19 target g) (ht:∀C Y H fp,PTs 2.19 ifs tt) (V:∀C Y H fp,PE 2.19 elt te)
  (hs:∀x,aba iter X.env x=pure x:=by intro _;rfl):PE X 1.14 (Cz cap wi g tt te):=by
 intro pins s σ H Q I h;rw[eval_ListComp];refine aeB (use:=af) rfl hs (pL λy hy hk=>I.ok.has y.1 (O.free y hy hk)) O.kind O.nm (thn (hi pins s σ H _ I h) λv Z h1=>thn h1 λa4 s2 h2=>?_);obtain⟨it,fp,tn,J,H2,e,I2,T,a1,f2,cw⟩:=h2;subst e;refine wH (RR:=λacc C=>compPost 1.12 X.A X.xe af 2.41 acc C) hc O I2 T a1 f2 (λC=>hg C _ _ _) (λC=>ht C _ _ _) (λC=>V C _ _ _) cw ?_;intro D C s' H' ys its n F hD hC a0 I' rv q;obtain⟨hz,q⟩:=q;obtain⟨m,a2,_⟩:=I'.loc;refine⟨m,a2,λh' sb=>?_⟩;obtain⟨eD,nD,_,a5,_⟩:=I'.pin (D,lobj its n) (W2 _ aaP);have a3:Inv X pins σ (upd H' D 2.129) {s' with heap:=h'}:=by
  refine I2.call' (ch:=fp) I'.os ?_ ?_ I'.bare (λb U=>⟨(f2 b U).2.2.2.1,(f2 b U).2.1,(f2 b U).2.2.2.2.1,(f2 b U).2.2.2.2.2⟩)
  .have ne:∀b o,s2.heap.get? b=ac o->b≠C/\b≠D:=λb o e=>⟨aam (Z9 (Z8 e) hC),aam (Z9 (Z8 e) hD)⟩
   refine⟨λb o e n U V=>sb.extBut b o (ne b o e).1 (I'.base.keep b o e n U V),λb o e n U V=>?_,λb o e n V=>?_,λb o e V=>?_,λb xs e=>?_,λb o u e=>?_,λb ps e=>?_⟩
   .obtain⟨sl,e1⟩:=I'.base.slot b o e n U V
    exact⟨sl,sb.extBut b _ (ne b o e).1 e1⟩
   .rw[aO (ne b o e).2]
    exact I'.base.free b o e n V
   .obtain⟨o',e1⟩:=I'.base.there b o e V
    exact⟨o',sb.extBut b _ (ne b o e).1 e1⟩
   .have e1:=I'.base.tups b xs e
    rw[aO (bC e1 nD)];exact e1
   .have e1:=I'.base.frzs b o u e
    rw[aO (bC e1 nD)];exact e1
   .obtain⟨more,e1⟩:=I'.base.tbls b ps e
    refine⟨more,?_⟩;rw[aO (bC e1 nD)];exact e1
  .intro b u e
   by_cases U:b=D
   .subst U
    rw[aR]at e;cases e;exact⟨hz,its,n,rv,sb.extBut _ _ a0 eD⟩
   .rw[aO U]at e
    have nC:∀b u,H' b=ac u->b≠C:=λb u e z=>by
     have hf:H' C=af:=I'.free;rw[z,hf]at e;cases e
    refine(I'.hok b u e).stay (λc v hc q=>sb.extBut c v ?_ q) (λc q=>by rw[aO (bC q nD)];exact q) λc xs q=>by rw[aO (bC q nD)];exact q
    rcases hc with z|z
    .rw[z]
     exact nC b u e
    .exact nC c _ z
 exact⟨.ref D,_,a3,rfl,q D nD⟩
end
def VG{x:V}{t:Value}(I:Inv X pins σ H s)(rx:RelV x u)(F:mQ X.K H x t):∃Hq,PySem.W.KitX X.K u t Hq/\Hq s.heap/\u≠.builtin "__main__.__loader__#opaque":=by
 cases F with
 |non=>cases (show u=abr from rx);exact⟨_,afZ,aa5,λz=>nomatch z⟩
 |bl y=>cases (show u=aeq y from rx);exact⟨_,af0,aa5,λz=>nomatch z⟩
 |int i=>obtain⟨t,q⟩:=(show ∃t,u=adw i t from rx);cases q;exact⟨_,af8,aa5,λz=>nomatch z⟩
 |str y=>obtain⟨t,q⟩:=(show ∃t,u=adx y t from rx);cases q;exact⟨_,af9,aa5,λz=>nomatch z⟩
 |flt y=>obtain⟨t,q⟩:=(show ∃t,u=af6 y t from rx);cases q;exact⟨_,afC,aa5,λz=>nomatch z⟩
 |@lst a xs D=>
  cases (show u=aaA a from rx);obtain⟨_,_,n,_,h1⟩:=(show cU X.prog X.w H s.heap a 2.44 from I.hok a _ D);exact⟨_,ada,⟨_,h1,rfl⟩,λz=>nomatch z⟩
 |@frz a ob xs D=>
  cases (show u=aaA a from rx);obtain⟨_,_,_,n,_,h1⟩:=(show cU X.prog X.w H s.heap a (.frz ob 2.44)from I.hok a _ D);exact⟨_,ada,⟨_,h1,rfl⟩,λz=>nomatch z⟩
 |@tup a xs D=>
  cases (show u=aaA a from rx);obtain⟨_,_,_,p⟩:=(show cU X.prog X.w H s.heap a 2.54 from I.hok a _ D);obtain⟨o,h1,h2,_⟩:=p;exact⟨_,afD,⟨o,h1,h2⟩,λz=>nomatch z⟩
 |@dK a kvs D=>
  cases (show u=aaA a from rx);obtain⟨_,_,vs,_,p⟩:=(show cU X.prog X.w H s.heap a 2.20 from I.hok a _ D);obtain⟨o,es,Z,h1,h2,_⟩:=p;exact⟨_,adb,⟨o,h1,h2.1⟩,λz=>nomatch z⟩
 |@dT a kvs D=>
  cases (show u=aaA a from rx);obtain⟨_,_,xs,_,o,es,Z,h1,h2,_⟩:=(show cU X.prog X.w H s.heap a (.dT kvs)from I.hok a _ D);exact⟨_,adb,⟨o,h1,h2.1⟩,λz=>nomatch z⟩
 |@ins a C dx fs D cl Y hn U hm=>
  cases (show u=aaA a from rx);obtain⟨mA,O,_⟩:=Ik I.hok D;obtain⟨od,J,_⟩:=O.look;exact⟨_,af_ (cl.get _) cl.hd Y hn U hm,J,λz=>nomatch z⟩
def Ja:∀{J:List String}{us:List Value},Vals (J.map V.ty) us->us=J.map ach
 |[],_,.nil=>rfl
 |t::r,_,.cons h q=>by cases (show _=ach t from h);rw[Ja q];rfl
def zy:gk X (.builtin "isinstance") (λxs H Q=>∃x tp J t b,xs=[x,.ref tp]/\H tp=ac (.tup (aae V.ty J))/\mQ X.K H x t/\adU X.K t (J.map ach)=ac b/\Q (.bl b) H):=by
 intro pins s σ H xs us Q I r h;obtain⟨x,tp,J,t,b,rfl,a0,F,e,q⟩:=h;obtain⟨u,Y,rfl,z,r2⟩:=vals2 r;cases r2;obtain⟨Hq,Z,hz,hn⟩:=VG I z F;obtain⟨_,its,U,o,h1,h2,n,O,_⟩:=(show cU X.prog X.w H s.heap tp (.tup (J.map V.ty))from I.hok tp _ a0);rw[Ja U]at O;obtain⟨cls,D,data,sl⟩:=o;cases h2;cases O;exact PySem.W.kia_tup Z I.kIn hz h1 e hn λtk=>⟨.bl b,H,I.tok tk,rfl,q⟩
def yH:∀(tk:Nat)(l:List Str),Vals (l.map V.str) (strsFrom tk l)
 |_,[]=>.nil
 |tk,x::r=>.cons ⟨_,rfl⟩ (yH (tk+1) r)
def V2:V->List V->Hp->VK->Prop:=λx J H Q=>∃(a b:Str)(l:List Str),x= .str a/\J=[.str b]/\(decide (a.length<b.length)||decide (acT a<acT b))=ae/\(b.length==0)=ae/\
 (aaM a b 0 a.length (a.length+1)).isEmpty=ae/\a.length<=Z0/\ac3 a (aaM a b 0 a.length (a.length+1)) b.length=l/\l.length<=Z0/\
 ∀p,H p=af->Q 2.49 (upd H p (.lst (l.map V.str)))
theorem Oz:MtR X "str.split" V2:=by
 intro pins s σ H x J v us Q I rx U h;obtain⟨a,b,l,rfl,rfl,Y,V,z,O,rfl,D,q⟩:=h;obtain⟨t,rfl⟩:=rx;obtain⟨u,rfl,t',rfl⟩:=U.one;refine ac7 F.slot_str_split (typeIs_str s a t) F.entry_str_split (F.args_str_split_2 _ _) (meets_str_split_sep a b t t' Y V z O D) ?_;exact⟨.ref s.heap.objs.size,_,I.lnew (yH _ _) (by rw[Pr];exact D),rfl,q _ I.fresh⟩
set_option genSizeOf true in
inductive Dt where
 |non|bl (b:Bool)|int (i:Int)|str (x:Str)|lst (ds:List Dt)|tup (ds:List Dt)
mutual
noncomputable def eqD:Dt->Dt->Bool
 |.non,.non=>ag
 |.bl a,.bl b=>a==b
 |.int a,.int b=>a==b
 |.bl a,.int b=>(if a then 1 else 0)==b
 |.int a,.bl b=>a==(if b then 1 else 0)
 |.str a,.str b=>a==b
 |.lst a,.lst b=>eqL a b
 |.tup a,.tup b=>eqL a b
 |_,_=>ae
noncomputable def eqL:List Dt->List Dt->Bool
 |[],[]=>ag
 |a::r,b::q=>eqD a b&&eqL r q
 |_,_=>ae
end
mutual
noncomputable def Brs(K:ZW)(H:Hp):Dt->V->Prop
 |.non,v=>v= .non
 |.bl b,v=>v= .bl b
 |.int i,v=>v= .int i
 |.str x,v=>v= .str x
 |.lst ds,v=>∃a xs,v= .ref a/\SqL K H a xs/\je K H ds xs
 |.tup ds,v=>∃a xs,v= .ref a/\SqT K H a xs/\je K H ds xs
noncomputable def je(K:ZW)(H:Hp):List Dt->List V->Prop
 |[],xs=>xs=[]
 |d::r,xs=>∃x ys,xs=x::ys/\Brs K H d x/\je K H r ys
end
def je.length{K:ZW}:∀{ds:List Dt}{xs:List V},je K H ds xs->ds.length=xs.length
 |[],xs,h=>by
  have h:xs=[]:=by simpa[je]using h
  rw[h];rfl
 |d::r,xs,h=>by
  obtain⟨x,ys,rfl,_,h⟩:=(by simpa[je]using h:∃x ys,xs=x::ys/\Brs K H d x/\je K H r ys);simp[je.length h]
def Al:∀{ds es:List Dt},ds.length≠es.length->eqL ds es=ae
 |[],[],h=>absurd rfl h
 |[],_::_,_=>by simp[eqL]
 |_::_,[],_=>by simp[eqL]
 |d::r,e::q,h=>by
  have:r.length≠q.length:=by simpa using h
  simp[eqL,Al this]
def eqJ(ds es:List Dt)(j:Nat):Bool:=eqD (ds.getD j .non) (es.getD j .non)
def Bp:∀{ds es:List Dt},ds.length=es.length->(aaG ds.length).all (eqJ ds es)=eqL ds es
 |[],[],_=>by simp[eqL]
 |[],_::_,h=>by simp at h
 |_::_,[],h=>by simp at h
 |d::r,e::q,h=>by
  have h':r.length=q.length:=by simpa using h
  have F:=Bp h';rw[Z4,acp,acP,acB,eqL];congr 1
def uU{vl J:Value}{lo hi st:Option Int}{Q:Int×Int×Nat->jl->Prop}(hs:s.heap.IsSliceOf sl vl F J)(pl:acz vl lo)(D:acz F hi)(ps:acz J st)(z:st.getD 1≠0)
  (h:Q ((aaH lo hi 2.106 (n:Int)).1,st.getD 1,aaE (aaH lo hi 2.106 (n:Int)).1 (aaH lo hi 2.106 (n:Int)).2 2.106) s) :
  wpAny 2.15 A (ab3 (.ref sl) (pure (n:Int))) Q E s:=by
 obtain⟨os,Y,q,V⟩:=id hs;unfold ab3;refine Mz (Mz (abV Y V (x:=vl) rfl (Mz (abV Y V (x:=F) rfl (Mz (abV Y V (x:=J) rfl (Z3 ?_)))))));refine Mz (HT.slicePart_ ps ?_);have h1:(st.getD 1==0)=ae:=by simpa using z
 simp![h1,aa9,ab2,pure_bind];exact Mz (HT.slicePart_ pl (Mz (HT.slicePart_ D (Z3 h))))
def nu(xs:List α)(l st:Int)(k:Nat):List α:=(aaG k).filterMap λ(m:Nat)=>xs[(l+(m:Int)*st).toNat]?
def ju{t:Addr}{items:List Value}{vl J:Value}{lo hi st:Option Int}(U:IsTup s.heap t items.toArray)(hs:s.heap.IsSliceOf sl vl F J)(pl:acz vl lo)(pu:acz F hi)(ps:acz J st)(z:st.getD 1≠0)
  {l h':Int} (D:aaH lo hi 2.106 (items.length:Int)=(l,h'))  (ek:aaE l h' 2.106=k)
  (Z:(l=0/\st.getD 1=1/\k=items.length)->Q (.ref t) s)
  (hn:¬(l=0/\st.getD 1=1/\k=items.length)->Q 2.36 {s with heap:=s.heap.push {cls:=.type "tuple",data:=.seq (nu items l 2.106 k).toArray}})
  (hsz:(nu items l 2.106 k).length<=Z0):wpAny 2.15 A (adT (.ref t) (.ref sl)) Q E s:=by
 have I:sizeOk (.seq (nu items l 2.106 k).toArray):=by
  show(nu items l 2.106 k).toArray.size<=Z0;rw[List.size_toArray];exact hsz
 obtain⟨os,Y,q,V⟩:=id hs;have a0:s.TypeIs (.ref sl) "slice":=⟨os,Y,q⟩;unfold adT
 try with_reducible refine ab1 ?_
 first|refine Mz (Z3 ?_)|skip
 refine Mz (wpAny_sequenceKey U.typeIs (by decide) ?_);refine Mz (abt (name:=aby "__getitem__") U.typeIs aaJ
  (acG aaJ U.typeIs aft ?_ (args_tuple_getitem _ _)))
 show wpAny _ _ (aef (.ref t) >>=_) _ _ s;refine Mz (tupleItemsOf_ U ?_);refine Mz (afG a0 ?_);rw[if_pos (by decide)];rw[List.size_toArray];refine Mz (uU hs pl pu ps z ?_);rw[D,ek];dsimp only;by_cases O:(l=0/\st.getD 1=1/\k=items.length)
 .rw[if_pos (by simp[O])]
  refine Mz ?_;unfold Builtin.Tuple.tupleIsExact;refine Mz (afG U.typeIs (Z3 ?_));rw[if_pos (by decide)];exact Mz (aer (Z3 ⟨_,rfl,Z3 (Z O)⟩))
 .rw[aag (by simpa using O)]
  have e:(List.filterMap (λ(k:Nat)=>items.toArray[(l+(k:Int)*st.getD 1).toNat]?) (aaG k)).toArray=(nu items l 2.106 k).toArray:=by
   unfold nu;simp
  rw[e];exact Mz (m:=abJ _) (abO (Z3 ⟨_,rfl,Z3 (hn O)⟩) I)
def v8(xs:List α)(l st:Int)(k:Nat):(nu xs l st k).length<=k:=by
 unfold nu;have:=List.length_filterMap_le (λ(m:Nat)=>xs[(l+(m:Int)*st).toNat]?) (aaG k);rw[List.length_range]at this;exact this
def Mg(xs:List α):nu xs ((xs.length:Int)-1) (-1) xs.length=xs.reverse:=by
 unfold nu;apply acs;intro j;have q:∀n,n<=xs.length->(aaG n).filterMap (λ(m:Nat)=>xs[((xs.length:Int)-1+(m:Int)* -1).toNat]?)=(xs.reverse).take n:=by
  intro n
  induction n with
  |zero=>intro _;simp
  |succ n F=>
   intro hn;rw[List.range_succ,List.filterMap_append,F 1.10,acu];congr 1;have e1:((xs.length:Int)-1+(n:Int)* -1).toNat=xs.length-1-n:=by omega
   rw[ae5 1.10];simp![acS,List.filterMap_nil,e1];rw[List.getElem?_eq_getElem 1.10]
   try rfl
 rw[q xs.length (ZZ _),abn (by simp)]
def Ym(K:ZW):V->Option Int->Option Int->Hp->VK->Prop:=λx lo hi H Q=>∃a xs,x= .ref a/\SqT K H a xs/\(wY xs lo hi=xs->Q 2.184 H)/\∀p,H p=af->Q 2.49 (upd H p (.tup 2.202))
def WX:SlR X (Ym X.K):=by
 intro pins s σ H x v vl F lo hi sl Q I rx hs pl D h;obtain⟨a,xs,rfl,J,q1,q2⟩:=h;by_cases Z:(HT.sIx xs.length 0 lo=0/\HT.sIx xs.length xs.length hi=xs.length)
 .have rx0:=rx
  cases rx;obtain⟨its,r,U,hz⟩:=I.tuple J;have z:=r.length;refine⟨"tuple",_,aaJ.lookup,U.typeIs,?_⟩;have e1:aaH lo hi ((af:Option Int).getD 1) (its.length:Int)=(((0:Nat):Int),((xs.length:Nat):Int)):=by
   have e1:=HT.adjust_gen lo hi its.length;rw[←z,Z.1,Z.2]at e1;rw[←z];exact e1
  refine ju (items:=its) (st:=af) U hs pl D .none (by decide) e1 rfl (λ_=>?_) (λO=>?_) ?_
  .refine⟨.ref a,H,I,rfl,q1 ?_⟩
   unfold wY;rw[Z.1,Z.2];simp
  .refine absurd ⟨rfl,rfl,?_⟩ O
   show aaE ((0:Nat):Int) ((xs.length:Nat):Int) 1=its.length;rw[HT.places_gen];omega
  .refine aaC (v8 _ _ _ _) ?_
   show aaE ((0:Nat):Int) ((xs.length:Nat):Int) 1<=Z0;rw[HT.places_gen];omega
 .exact V1 pins s σ H _ v vl F lo hi sl Q I rx hs pl D ⟨a,xs,rfl,J,Z,q2⟩
def XC(K:ZW):R2:=λx y H Q=>∃a xs,x= .ref a/\SqT K H a xs/\((y= .int 1/\Q 2.184 H)∨(y= .int (-1)/\∀p,H p=af->Q 2.49 (upd H p (.tup xs.reverse))))
def PP(K:ZW):R2:=λx y H Q=>∃a b xs ys,x= .ref a/\y= .ref b/\SqT K H a xs/\SqT K H b ys/\xs.length+ys.length<=Z0/\
 (xs=[]->Q (.ref b) H)/\(xs≠[]->ys=[]->Q 2.184 H)/\(xs≠[]->ys≠[]->∀p,H p=af->Q 2.49 (upd H p (.tup (xs++ys))))
def Lq:OpR X (abg .Add) (PP X.K):=by
 intro pins s σ H x y v u Q I rx ry h;obtain⟨a,b,xs,ys,rfl,rfl,Y,U,hz,q0,q1,q2⟩:=h;by_cases J:xs=[]
 .cases rx
  cases ry;obtain⟨its,z,p1,_⟩:=I.tuple Y;obtain⟨a1,q,p2,_⟩:=I.tuple U;obtain⟨⟨cls,D,data,sl⟩,ho,O,n,hd⟩:=id p1;obtain⟨⟨a6,a3,a5,a4⟩,V,a2,Z,a0⟩:=id p2;simp only at O hd a2 a0;subst O hd a2 a0;exact afF ⟨_,ho,rfl⟩ ⟨_,V,rfl⟩ aey afo adm ac9 (ac0 _ _)
   (tuple_addW0 a b its.toArray a1.toArray n Z D a3 sl a4 (by rw[z.nil_iff.mpr J];rfl)) ⟨ho,V,⟨.ref b,H,I,rfl,q0 J⟩⟩
 .exact Rg pins s σ H _ _ v u Q I rx ry ⟨a,b,xs,ys,rfl,rfl,Y,U,J,hz,q1 J,q2 J⟩
def DX{p:Addr}{o:HO}(I:Inv X pins σ H s)(Y:∀b∈fp,m8 X pins H b)(keep:∀b u,b∉fp->s.heap.get? b=ac u->h'.get? b=ac u)(V:s.heap.objs.size<=p)
  (new:cU X.prog X.w (upd H p o) h' p o):Inv X pins σ (upd H p o) {s with heap:=h',toks:=t'}:=by
 have hn:H p=af:=I.hok.fresh V;have D:∀b u,H b=ac u->b∉fp:=λb u e U=>by rw[(Y b U).1]at e;cases e
 have F:∀b u,s.heap.get? b=ac u->b≠p:=λb u e=>aam (Z9 (Z8 e) V);refine I.step (g':=s.gens) (d':=s.drawn) (ch:=fp) (λb U=>⟨(Y b U).2.2.2.1,(Y b U).2.1,(Y b U).2.2.2.2.1,(Y b U).2.2.2.2.2⟩) (λb u _ _ O e _=>keep b u O e) (λb u _ _ O e _=>⟨u.slots,keep b u O e⟩)
  (λb u _ e n=>by rw[aO (F b u e)];exact n) (λb u O e=>⟨u,keep b u O e⟩) (λb xs e=>by rw[aO (bC e hn)];exact e) (λb ob u e=>by rw[aO (bC e hn)];exact e)
  (λb ps e=>⟨#[],by rw[aO (bC e hn),e];simp⟩) (λm J=>?_) (λb u e=>?_) I.bare
 .obtain⟨ob,es,ep,ho,r⟩:=J
  exact⟨ob,es,ep,keep _ ob (λz=>(Y _ z).2.1 rfl) ho,r⟩
 .by_cases U:b=p
  .subst U
   rw[aR]at e;cases e;exact new
  .rw[aO U]at e
   refine(I.hok b u e).stay (λc v O q=>keep c v ?_ q) (λc q=>by rw[aO (bC q hn)];exact q) λc xs q=>by rw[aO (bC q hn)];exact q
   rcases O with z|z
   .rw[z]
    exact D b u e
   .exact D c _ z
def yF(I:Inv X pins σ H s)(Y:∀b∈fp,m8 X pins H b)(keep:∀b u,b∉fp->s.heap.get? b=ac u->h'.get? b=ac u):Inv X pins σ H {s with heap:=h',toks:=t'}:=by
 have D:∀b u,H b=ac u->b∉fp:=λb u e U=>by rw[(Y b U).1]at e;cases e
 refine I.step (g':=s.gens) (d':=s.drawn) (ch:=fp) (λb U=>⟨(Y b U).2.2.2.1,(Y b U).2.1,(Y b U).2.2.2.2.1,(Y b U).2.2.2.2.2⟩) (λb u _ _ O e _=>keep b u O e) (λb u _ _ O e _=>⟨u.slots,keep b u O e⟩)
  (λb u _ e n=>n) (λb u O e=>⟨u,keep b u O e⟩) (λb xs e=>e) (λb ob u e=>e) (λb ps e=>⟨#[],by rw[e];simp⟩) (λm J=>?_) (λb u e=>?_) I.bare
 .obtain⟨ob,es,ep,ho,r⟩:=J
  exact⟨ob,es,ep,keep _ ob (λz=>(Y _ z).2.1 rfl) ho,r⟩
 .refine(I.hok b u e).stay (λc v O q=>keep c v ?_ q) (λc q=>q) λc xs q=>q
  rcases O with z|z
  .rw[z]
   exact D b u e
  .exact D c _ z
def Ite(K:ZW)(a:Addr):It:=
 ⟨λi H=>∃xs x,SqL K H a xs/\xs[i]? =ac x,λi H x H'=>∃p v,H p=af/\x= .ref p/\(∀xs,SqL K H a xs->xs[i]? =ac v)/\H'=upd H p (.tup [.int i,v]),λi H=>∃xs,SqL K H a xs/\xs.length<=i⟩
def Je{K:ZW}{x1}(a e it:Addr)(a3:e≠it) :
  Turn P w K (.Tuple elts x1 pos) (Ite K a) [e,it] e (λi h=>(∃a0,IsEnum h e it (i:Int) a0)/\h.IsListIter it a i)where
 mem:=by simp
 obj:=λi h st b U=>by
  obtain⟨⟨a0,V⟩,o,F,c,d⟩:=st;rcases Z2.mp U with z|z
  .subst z
   exact⟨_,V,λv z=>by cases z⟩
  .have z:b=it:=by simpa using z
   subst z;exact⟨o,F,λv z=>by rw[d]at z;cases z⟩
 keep:=λi h h' st k=>by
  obtain⟨⟨a0,V⟩,a1⟩:=st;exact⟨⟨a0,k e (by simp) _ V⟩,a1.at λo q=>k it (by simp) o q⟩
 item:=by
  intro X hP Z hK O i pins s σ H E I hf st hg;subst hP Z hK;obtain⟨xs,x,D,J⟩:=hg;obtain⟨its,rv,p,hz⟩:=I.list D;obtain⟨u,hu,ru⟩:=rv.get J;obtain⟨⟨a0,V⟩,a1⟩:=st;refine wpAny_pyNext_enum_item V a1 p.isList (x:=u) (by simpa using hu) a3 λh1 a7 a5 a8 b1 k1=>?_;refine⟨.ref s.heap.objs.size,rfl,aeh a7 λh2 a6 a2=>?_⟩;have a9:e<s.heap.objs.size:=Z8 V;have a4:s.heap.objs.size≠e:=acy a9;have b0:h2.get? s.heap.objs.size=ac {cls:=.type "tuple",data:=.seq #[.int i s.toks,u]}:=a2.extBut _ _ a4 a8;have I2:Inv X pins σ (upd H s.heap.objs.size (.tup [.int i,x])) {s with heap:=h2,toks:=s.toks+1}:=by
   refine DX (fp:=[e,it]) (t':=s.toks+1) I hf (λb o U q=>?_) (ZZ _) ?_
   .have n1:b≠e:=λz=>U (by simp[z])
    have n2:b≠it:=λz=>U (by simp[z]);exact a2.extBut b o n1 (k1 b o n1 n2 q)
   .exact⟨by show 2<=Z0;decide,[.int i s.toks,u],.cons ⟨_,rfl⟩ (.cons ru .nil),_,b0,rfl,_,rfl,rfl⟩
  refine⟨.ref s.heap.objs.size,upd H s.heap.objs.size (.tup [.int i,x]),I2,rfl,⟨_,x,I.hok.fresh (ZZ _),rfl,λys hy=>by rw[I.list_inj hy D];exact J,rfl⟩,?_,λb U=>?_⟩
  .refine⟨⟨u,?_⟩,a5.extBut a2.extBut (aaS a3)⟩
   have e1:(((i+1:Nat)):Int)=(i:Int)+1:=by omega
   rw[e1];exact a6
  .rw[aO]
   .exact(hf b U).1
   .intro z
    rw[z]at U;rcases Z2.mp U with q|q
    .exact a4 q
    .have q:s.heap.objs.size=it:=by simpa using q
     obtain⟨o,F,_⟩:=a1;exact absurd (Z8 F) (by rw[q];exact aa7 _)
 done:=by
  intro X hP Z hK O i pins s σ H E I hf st hg;subst hP Z hK;obtain⟨xs,D,J⟩:=hg;obtain⟨its,rv,p,hz⟩:=I.list D;obtain⟨⟨a0,V⟩,a1⟩:=st;have Y:=rv.length;refine wpAny_pyNext_enum_end 2.93 V a1 p.isList (by simp;omega) λh1 eb=>⟨rfl,?_⟩;exact yF (fp:=[e,it]) (t':=s.toks) I hf λb o U q=>eb b o (λz=>U (by simp[z])) q
 self:=λA i s Q E st h=>by
  obtain⟨⟨a0,V⟩,_⟩:=st;exact adg V h
def putAll(kvs:List (Key×V))(prs:List (Key×V)):List (Key×V):=prs.foldl (λacc kv=>putK acc kv.1 kv.2) kvs
def v7:∀(prs kvs:List (Key×V)),(putAll kvs prs).length<=kvs.length+prs.length
 |[],kvs=>by simp[putAll]
 |p::r,kvs=>by
  have h1:=v7 r (putK kvs p.1 p.2);have h2:=jK kvs p.1 p.2;have e:putAll kvs (p::r)=putAll (putK kvs p.1 p.2) r:=rfl;rw[e,Z4];omega
def Itd(a:Addr)(ob:Obj)(kvs:List (Key×V)):It:=
 ⟨λi H=>H a=ac 2.158/\i<kvs.length,λi H x H'=>H'=H/\∃p,kvs[i]? =ac p/\x=kV p.1,λi H=>H a=ac 2.158/\kvs.length<=i⟩
def KH{k:Key}(h:(bL P w).is k u=ag):RelV (kV k) u:=by
 have h:v5 k u=ag:=h;rcases eV h with⟨i,t,rfl,rfl⟩|⟨x,t,rfl,rfl⟩
 .exact⟨t,rfl⟩
 .exact⟨t,rfl⟩
def yx{F:α->β->Prop}:∀{xs:List α}{ys:List β},aev F xs ys->∀{i:Nat}{a:α}{b:β},xs[i]? =ac a->ys[i]? =ac b->F a b
 |_,_,.nil,i,a,b,h,_=>by simp at h
 |_,_,.cons p r,0,a,b,h1,h2=>by cases h1;cases h2;exact p
 |_,_,.cons p r,i+1,a,b,h1,h2=>yx r (i:=i) (by simpa using h1) (by simpa using h2)
def Pa{s:jl}{ob:Obj}{kvs:List (Key×V)}{es:Array DictEntry}{Z:Nat}(I:Inv X pins σ H s)(e:H a=ac 2.158)(hd:ob.data= .dict es Z) :
  ∃J,KV kvs J/\s.heap.DictAt 2.88 a J Z:=by
 obtain⟨h1,_,_,J,rel,o,D,Y,g,x,d,z,q,U⟩:=(show cU X.prog X.w H s.heap a 2.158 from I.hok a _ e);rw[h1]at g;cases g;rw[hd]at d;cases d;exact⟨J,rel,ob,es,h1,x,hd,z,q,U⟩
def J0{K:ZW}(a it:Addr)(ob:Obj)(kvs:List (Key×V)) :
  Turn P w K tg (Itd a ob kvs) [it] it (λi h=>∃es ep,ob.data= .dict es ep/\h.IsKeyIter it a i kvs.length ep)where
 mem:=by simp
 obj:=λi h st b U=>by
  have e:b=it:=by simpa using U
  subst e;obtain⟨_,_,_,o,e,c,d⟩:=st;exact⟨o,e,λv z=>by rw[d]at z;cases z⟩
 keep:=λi h h' st k=>let⟨es,ep,hd,st⟩:=st;⟨es,ep,hd,st.at λo e=>k it (by simp) o e⟩
 item:=by
  intro X hP Z hK O i pins s σ H E I hf st F;subst hP Z hK;obtain⟨e,hi⟩:=F;obtain⟨es,ep,hd,st⟩:=st;obtain⟨J,rel,D⟩:=Pa I e hd;have Y:=rel.length;obtain⟨f0,f1,f2,f3,f4,f5⟩:=hf it (by simp);have a1:i<J.length:=by omega
  rw[Y]at st;refine wpAny_pyNext_dict_item (k:=J[i].1) (v:=J[i].2) st D (by rw[List.getElem?_eq_getElem a1]) λq h' hk a0 sb=>?_;have I1:Inv X pins σ H {s with heap:=h'}:=I.turned (t':=s.toks) (λb o U e=>sb.extBut b o U e) f0 f1 f3 f4 f5;obtain⟨o,e2,c,d⟩:=id a0;have ek:kvs[i].1=J[i].1:=(yx rel (List.getElem?_eq_getElem hi) (List.getElem?_eq_getElem a1)).1;refine⟨q,rfl,yq (s:={s with heap:=h'}) e2 c d (by decide) ⟨kV kvs[i].1,H,I1,?_,⟨rfl,kvs[i],by rw[List.getElem?_eq_getElem hi],rfl⟩,⟨es,ep,hd,by rw[Y];exact a0⟩,λb U=>(hf b U).1⟩⟩;rw[ek];exact KH hk
 done:=by
  intro X hP Z hK O i pins s σ H E I hf st F;subst hP Z hK;obtain⟨e,hi⟩:=F;obtain⟨es,ep,hd,st⟩:=st;obtain⟨J,rel,D⟩:=Pa I e hd;have Y:=rel.length;obtain⟨f0,f1,f2,f3,f4,f5⟩:=hf it (by simp);rw[Y]at st;exact wpAny_pyNext_dict_end 2.93 st D (adC 1.10) λh' eb=>⟨rfl,I.turned (t':=s.toks) (λb o U e=>eb b o U e) f0 f1 f3 f4 f5⟩
 self:=λ_ _ _ _ _ st h=>let⟨_,_,_,st⟩:=st;wpAny_pyIter_keyiter st h
def Qo{F:L2.St}{H2 H':Hp}{I:jl}{D:Addr}{ob:HO}(I2:Inv X pins σ H2 I)(f2:∀b∈fp,m8 X pins H2 b)
  (hD:I.heap.objs.size<=D) (hC:I.heap.objs.size<=C) (Z:D≠C) (J:Inv (fu X N' scope C I H2 fp) [(D,o)] F H' s') (new:∀h',h'.get? D=ac o->cU X.prog X.w 2.206 h' D ob)
  (h':Heap) (sb:acb C s'.heap h'):Inv X pins σ 2.206 {s' with heap:=h'}:=by
 obtain⟨eD,nD,_,a0,_⟩:=J.pin (D,o) (W2 _ aaP);refine I2.call' (ch:=fp) J.os ?_ ?_ J.bare (λb U=>⟨(f2 b U).2.2.2.1,(f2 b U).2.1,(f2 b U).2.2.2.2.1,(f2 b U).2.2.2.2.2⟩)
 .have ne:∀b o,I.heap.get? b=ac o->b≠C/\b≠D:=λb o e=>⟨aam (Z9 (Z8 e) hC),aam (Z9 (Z8 e) hD)⟩
  refine⟨λb o e n U V=>sb.extBut b o (ne b o e).1 (J.base.keep b o e n U V),λb o e n U V=>?_,λb o e n V=>?_,λb o e V=>?_,λb xs e=>?_,λb o u e=>?_,λb ps e=>?_⟩
  .obtain⟨sl,e1⟩:=J.base.slot b o e n U V
   exact⟨sl,sb.extBut b _ (ne b o e).1 e1⟩
  .rw[aO (ne b o e).2]
   exact J.base.free b o e n V
  .obtain⟨o',e1⟩:=J.base.there b o e V
   exact⟨o',sb.extBut b _ (ne b o e).1 e1⟩
  .have e1:=J.base.tups b xs e
   rw[aO (bC e1 nD)];exact e1
  .have e1:=J.base.frzs b o u e
   rw[aO (bC e1 nD)];exact e1
  .obtain⟨more,e1⟩:=J.base.tbls b ps e
   refine⟨more,?_⟩;rw[aO (bC e1 nD)];exact e1
 .intro b u e
  by_cases U:b=D
  .subst U
   rw[aR]at e;cases e;exact new h' (sb.extBut _ _ Z eD)
  .rw[aO U]at e
   have nC:∀b u,H' b=ac u->b≠C:=λb u e z=>by
    have Y:H' C=af:=J.free;rw[z,Y]at e;cases e
   refine(J.hok b u e).stay (λc v O q=>sb.extBut c v ?_ q) (λc q=>by rw[aO (bC q nD)];exact q) λc xs q=>by rw[aO (bC q nD)];exact q
   rcases O with z|z
   .rw[z]
    exact nC b u e
   .exact nC c _ z
section
variable{X:Cx}{elt kx vx target iter:Expr}{ifs:List Expr}{scope:Scope}{pos pos' pos2:Pos}{N':List Str}{cap:List (Option Nat)}{wi:TI}{g:TG}{tt:TT}{te tk tv:TE}
def RG{pins:List (Addr×Obj)}{σ F:L2.St}{H2 H':Hp}{I s':jl}{fp:List Addr}{D C:Addr}{o:Obj}{ob:HO}{i:Nat}{x:Str}{Dn:Ends}(I2:Inv X pins σ H2 I)(f2:∀b∈fp,m8 X pins H2 b)
  (hD:I.heap.objs.size<=D) (hC:I.heap.objs.size<=C) (a1:D≠C) (I':Inv (fu X N' scope C I H2 fp) [(D,o)] F H' s') (new:∀h',h'.get? D=ac o->cU X.prog X.w 2.206 h' D ob)
  (hN:X.N.Nodup) (hi:X.N[i]? =ac x) (J:Loc X.env.scope x) (Y:X.fn x=ag∨X.env.scope.names.lookup x=ac .local) (q:Dn.nx (σ.set i (ac (.ref D))) 2.206) :
  wpAny 1.12 X.A (assignAll (.ref D) ((aa4 [.Name x pos'] X.env).map (·.2))) (λ_ a0=>∃m,a0.heap.Ns C m/\∀h',acb C a0.heap h'->SP X pins Dn .next {a0 with heap:=h'}) X.xe s':=by
 have I3:Inv X pins σ 2.206 s':=Qo I2 f2 hD hC a1 I' new s'.heap ⟨rfl,λ_ _=>rfl⟩;obtain⟨m,O,_⟩:=I'.loc;obtain⟨a4,nD,_,a5,_⟩:=I'.pin (D,o) (W2 _ aaP);have O:s'.heap.Ns C m:=O;have a2:upd H' D ob C=af:=by
  rw[aO (aaS a1)];exact I'.free
 obtain⟨f0,V,a3,f3,f4,f5⟩:=I2.fpOk hC (I2.hok.fresh hC);have fC:m8 X pins 2.206 C:=⟨a2,V,a3,f3,f4,f5⟩;obtain⟨oC,es,Z,gC,dC,k1,k2⟩:=O;have I4:=I3.pinned (fp:=[C]) (λb U=>by rw[aab.mp U];exact fC) λb U=>⟨oC,by rw[aab.mp U];exact gC,λv z=>by rw[dC]at z;cases z⟩;have ea:assignAll (.ref D) ((aa4 [.Name x pos'] X.env).map (·.2))=adk (.Name x pos') X.env (.ref D):=by
  unfold assignAll;simp[aa4]
 rw[ea];refine wpAny_assign_Name (nF I4 hN hi J (v:=.ref D) rfl (λa0 I5=>⟨m,?_,λh' sb=>?_⟩) Y)
 .exact⟨oC,es,Z,(I5.pin (C,oC) (W2 _ (W2 _ (iB (aab.mpr rfl) gC)))).1,dC,k1,k2⟩
 .exact⟨_,_,I5.unpinned.turned (t':=a0.toks) (λb o U e=>sb.extBut b o U e) a2 V f3 f4 f5,q⟩
def H9{i:Nat}{x:Str}(hx:X.xe=NoX)(hc:X.calm=ag)(z:X.N.Nodup)(hi:X.N[i]? =ac x)(Y:Loc X.env.scope x)(O:cJ X.env.scope X.N N' scope cap)(a3:PI X target iter wi)
  (hg:∀C a0 H fp,PG 2.207 target g) (U:∀C a0 H fp,PTs 2.207 ifs tt) (V:∀C a0 H fp,PE 2.207 elt te)
  (hw:abX 1.14 2.87 pos2.line X.env=pure ag:=by rfl) (hs:∀x,aba iter X.env x=pure x:=by intro _;rfl)
  (hf:X.fn x=ag∨X.env.scope.names.lookup x=ac .local:=by first|exact .inl rfl|exact .inr rfl|assumption):PS X (.Assign [.Name x pos'] 1.14 pos2) (Tj (Cz cap wi g tt te) (yw i)):=by
 intro pins s σ H Dn I h;rw[exec_Assign_arm];refine Mz (aec ?_);rw[show ace [.Name x pos'] 1.14 pos2.line X.env=pure ag from hw];refine Mz (Z3 ?_);rw[if_pos rfl,arm_evalThenUse_ListComp];refine Mz (Mz (aeB (use:=ac _) rfl hs (pL λy hy hk=>I.ok.has y.1 (O.free y hy hk)) O.kind O.nm (thn (a3 pins s σ H _ I h) λv Z h1=>thn h1 λa4 s2 h2=>?_)));obtain⟨it,fp,tn,J,H2,e,I2,T,a2,f2,cw⟩:=h2;subst e;refine wH (RR:=λacc C=>compPost 1.12 X.A X.xe (ac _) _ acc C) hc O I2 T a2 f2 (λC=>hg C _ _ _) (λC=>U C _ _ _) (λC=>V C _ _ _) cw ?_;intro D C s' H' ys its n F hD hC a1 I' rv q;obtain⟨hz,q⟩:=q;have nD:=(I'.pin (D,lobj its n) (W2 _ aaP)).2.1;refine thn (RG (ob:=.lst ys) (Dn:=Dn) (pos':=pos') I2 f2 hD hC a1 I' (λh' e=>⟨hz,its,n,rv,e⟩) z hi Y hf (q D nD)) λ_ a5 ⟨m,h1,h2⟩=>⟨m,h1,λh' sb=>Z3 (Z3 (h2 h' sb))⟩
end
def yQ:∀(more:List (Key×V)){kvs:List (Key×V)}{J O:List (Key×Value)},KV kvs J->KV more O->KV (putAll kvs more) (merged J O)
 |[],kvs,J,_,r,.nil=>r
 |p::m,kvs,J,_::O,r,.cons h q=>by
  have e1:putAll kvs (p::m)=putAll (putK kvs p.1 p.2) m:=rfl;rw[e1];have:=yQ m (r.put p.1 h.2) q;rw[h.1]at this;rw[h.1];exact this
mutual
noncomputable def pyD:Dt->PyData
 |.non=>.none
 |.bl b=>.bool b
 |.int i=>.int i
 |.str x=>.str x
 |.lst ds=>.list (pyL ds)
 |.tup ds=>.tuple (pyL ds)
noncomputable def pyL:List Dt->List PyData
 |[]=>[]
 |d::r=>pyD d::pyL r
end
mutual
def noDict:∀d:Dt,ab_ (pyD d)=ae
 |.non=>by simp[pyD,ab_]
 |.bl _=>by simp[pyD,ab_]
 |.int _=>by simp[pyD,ab_]
 |.str _=>by simp[pyD,ab_]
 |.lst ds=>by simp[pyD,ab_,BJ ds]
 |.tup ds=>by simp[pyD,ab_,BJ ds]
def BJ:∀ds:List Dt,aep (pyL ds)=ae
 |[]=>by simp[pyL,aep]
 |d::r=>by simp[pyL,aep,noDict d,BJ r]
end
mutual
def Ce{X:Cx}{pins:List (Addr×Obj)}{σ:L2.St}{H:Hp}{s:jl}(I:Inv X pins σ H s):∀(d:Dt)(x:V)(u:Value),Brs X.K H d x->RelV x u->∃as,Reads s.heap u (pyD d) as
 |.non,x,u,h,r=>by simp![Brs]at h;subst h;cases (show u=abr from r);exact⟨_,.none⟩
 |.bl b,x,u,h,r=>by simp![Brs]at h;subst h;cases (show u=aeq b from r);exact⟨_,.bool b⟩
 |.int i,x,u,h,r=>by simp![Brs]at h;subst h;obtain⟨t,rfl⟩:=(show ∃t,u=adw i t from r);exact⟨_,.int i t⟩
 |.str y,x,u,h,r=>by simp![Brs]at h;subst h;obtain⟨t,rfl⟩:=(show ∃t,u=adx y t from r);exact⟨_,.str y t⟩
 |.lst ds,x,u,h,r=>by
  simp![Brs]at h;obtain⟨a,xs,rfl,D,U⟩:=h;cases (show u=aaA a from r);obtain⟨its,q,p,_⟩:=I.list D;obtain⟨as,Y⟩:=tM I ds xs its U q;obtain⟨o,h1,h2,n,O⟩:=p.isList;exact⟨_,.list h1 h2 O Y⟩
 |.tup ds,x,u,h,r=>by
  simp![Brs]at h;obtain⟨a,xs,rfl,D,U⟩:=h;cases (show u=aaA a from r);obtain⟨its,q,p,_⟩:=I.tuple D;obtain⟨as,Y⟩:=tM I ds xs its U q;obtain⟨o,h1,h2,n,O⟩:=p;exact⟨_,.tuple h1 h2 O Y⟩
def tM{X:Cx}{pins:List (Addr×Obj)}{σ:L2.St}{H:Hp}{s:jl}(I:Inv X pins σ H s):∀(ds:List Dt)(xs:List V)(us:List Value),je X.K H ds xs->Vals xs us->∃as,ReadsAll s.heap us (pyL ds) as
 |[],xs,us,h,r=>by simp![je]at h;subst h;cases r;exact⟨_,.nil⟩
 |d::ds,xs,us,h,r=>by
  simp![je]at h;obtain⟨x,ys,rfl,h1,h2⟩:=h;cases r with
  |cons p q=>
   obtain⟨as,Y⟩:=Ce I d x _ h1 p;obtain⟨bs,U⟩:=tM I ds ys _ h2 q;exact⟨_,.cons Y U⟩
end
def T7(K:ZW)(A:aaK):List V->Hp->VK->Prop:=λxs H Q=>∃a d,xs=[.ref a]/\Brs K H d 2.184/\A.guards=ac []/\A.units+((pyD d).depth+1)<cLine/\(pyD d).showable=ag/\(pyD d).shown.length<=Z0/\Q (.str (pyD d).shown) H
def Ju:gk X (.builtin "repr") (T7 X.K X.A):=by
 intro pins s σ H xs us Q I r h;obtain⟨a,d,rfl,U,F,hu,D,O,q⟩:=h;obtain⟨u,rfl,J⟩:=vals1 r;cases J;obtain⟨as,Y⟩:=Ce I d 2.184 2.184 U rfl;exact repr_of_reads' Y D (λz=>by rw[noDict d]at z;cases z) F hu (λ_ _ e=>e) (λh' u tk Z=>⟨.str _,H,I.kept (t':=tk) Z,⟨_,rfl⟩,q⟩) O
end Jb
namespace PySem
open PySem.Builtin PySem.Builtin.SmallTypes
def Bq(id:String):Builtin:=λargs=>do
 let x ←slotArgs "__next__" 0 args
 match x with
 |(self,snd)=>do
  let seq ←field self 0
  let q:Unit->Sem afL:=λ_=>do
   let y ←field self 1
   match y with
   |adw i tok=>do
    let z ←seqItems? seq
    match z with
    |some xs=>
     match xs[i.toNat]? with
     |some v=>do
      setField self 1 (adl (i+1))
      ret v
     |none=>do
      rule (toString id++toString ".end")
      setField self 0 abr
      aei
    |_=>unsupported (toString "internal:"++toString id)
   |_=>unsupported (toString "internal:"++toString id)
  if(seq==abr)=ag then do
   rule (toString id++toString ".ended")
   let r ←aei
   q r
  else q ()
def um:Builtin.«tuple_iterator.__next__»=Bq "tuple_iterator.__next__":=rfl
section
variable{prog:Program}{w:World}{A:Around}{E:Value->Shared->Prop}{it t:Addr}{i:Nat}{items:Array Value}{h:Heap}{g:Array GenState}{d:Drawn}{tk:Nat}{os:OsState}
def qX{x:Value}{Q:Value->jl->Prop}(st:h.IsTupleIter it t i)(p:h.IsTuple t items)(J:items[i]? =ac x)
  (D:∀h',h'.IsTupleIter it t (i+1)->acb it h h'->Q x ⟨h',g,d,tk,os⟩):wpAny 2.15 A (ab7 2.73) Q E ⟨h,g,d,tk,os⟩:=by
 have Y:(⟨h,g,d,tk,os⟩:jl).TypeIs 2.73 "tuple_iterator":=st.typeIs;unfold ab7;refine Mz (abt Y abk ?_);obtain⟨o,z,O,hd⟩:=st;obtain⟨q,h1,h2,n,I⟩:=p
 repeat(any_goals(first|assumption|wp_step))
 refine adK abk.plain ad7 (abk.check _ _ _ _ _ _ _ _ Y (adV _) ?_);rw[um];unfold Bq
 repeat(any_goals(first|assumption|wp_step))
 rw[hd];refine Z3 (Z3 ?_);show wpAny _ _ (if(aaA t==abr)=ag then _ else _) _ _ _;rw[show(aaA t==abr)=ae from rfl,aag aav]
 repeat(any_goals(first|assumption|wp_step))
 rw[hd];refine Z3 (Z3 ?_);show wpAny _ _ (seqItems? (aaA t) >>=_) _ _ _;refine Mz (wpAny_seqItems h1 I ?_);dsimp only;have hi:(i:Int).toNat=i:=aa6 i;rw[hi,J];dsimp only;refine Mz (wpAny_setField z hd (by show 1<2;decide) ?_);refine Z3 ?_;dsimp only;refine Z3 (D _ ?_ ⟨Heap.size_update ..,λb U=>abl h _ (aaS U)⟩);refine⟨_,acA _ z (Obj.isFreed_of_fields (afM hd _)),(Obj.cls_mapFields ..).trans O,?_⟩;rw[afM hd];have e1:(((i+1:Nat)):Int)=(i:Int)+1:=by omega
 rw[e1];rfl
def Lz{α:Type}{Q:α->jl->Prop}(z:A.handled=af)
  (D:∀h' e,(∀b o,h.get? b=ac o->h'.get? b=ac o)->(∃o,h'.get? e=ac o/\o.cls= .type "StopIteration")->E (.ref e) ⟨h',g,d,tk,os⟩):wpAny 2.15 A (aei:Sem α) Q E ⟨h,g,d,tk,os⟩:=by
 unfold aei
 repeat(any_goals(first|assumption|wp_step))
 unfold raiseNew;refine Mz (wpAny_handled ?_);rw[z];dsimp only;exact wpAny_throw (D _ _ (λb o e=>ZS _ (ZS _ e)) ⟨_,Z_ _ rfl,rfl⟩)
def lK{Q:Value->jl->Prop}(z:A.handled=af)(st:h.IsTupleIter it t i)(p:h.IsTuple t items)(J:items[i]? =af)
  (D:∀h' e,Heap.ExtBut it h h'->(∃o,h'.get? e=ac o/\o.cls= .type "StopIteration")->E (.ref e) ⟨h',g,d,tk,os⟩):wpAny 2.15 A (ab7 2.73) Q E ⟨h,g,d,tk,os⟩:=by
 have Y:(⟨h,g,d,tk,os⟩:jl).TypeIs 2.73 "tuple_iterator":=st.typeIs;unfold ab7;refine Mz (abt Y abk ?_);obtain⟨o,ho,O,hd⟩:=st;obtain⟨q,h1,h2,n,I⟩:=p
 repeat(any_goals(first|assumption|wp_step))
 refine adK abk.plain ad7 (abk.check _ _ _ _ _ _ _ _ Y (adV _) ?_);rw[um];unfold Bq
 repeat(any_goals(first|assumption|wp_step))
 rw[hd];refine Z3 (Z3 ?_);show wpAny _ _ (if(aaA t==abr)=ag then _ else _) _ _ _;rw[show(aaA t==abr)=ae from rfl,aag aav]
 repeat(any_goals(first|assumption|wp_step))
 rw[hd];refine Z3 (Z3 ?_);show wpAny _ _ (seqItems? (aaA t) >>=_) _ _ _;refine Mz (wpAny_seqItems h1 I ?_);dsimp only;have hi:(i:Int).toNat=i:=aa6 i;rw[hi,J];dsimp only;refine Mz (aer ?_);refine Mz (wpAny_setField ho hd (by show 0<2;decide) ?_);refine Lz (show A.in1.handled=af from z) λh' e Z V=>?_;exact D h' e (λb ob U hg=>Z b ob ((abl h _ (aaS U)).trans hg)) V
def Draws.tuple(z:A.handled=af)(it t:Addr)(D:t≠it)(items:Array Value):Draws prog w A it [it,t] items.size (λi v=>items[i]? =ac v) λi h=>h.IsTupleIter it t i/\h.IsTuple t items where
 live:=λi h st=>let⟨o,ho,_⟩:=st.1;⟨o,ho⟩
 frame:=λi h h' st k=>⟨st.1.at λo e=>k it (by simp) o e,let⟨o,h1,h2⟩:=st.2;⟨o,k t (by simp) o h1,h2⟩⟩
 item:=λi s Q E hi st k=>by
  obtain⟨h,g,d,tk,os⟩:=s;refine qX st.1 st.2 (x:=items[i]) (by simp[hi]) λh' q Y=>k _ h' tk (by simp[hi]) ⟨q,?_⟩ Y;obtain⟨o,h1,h2⟩:=st.2;exact⟨o,(Y.2 t D).trans h1,h2⟩
 done:=λs Q E st k=>by
  obtain⟨h,g,d,tk,os⟩:=s;exact lK z st.1 st.2 (by simp) λh' e O V=>k h' e O V
def Draws.tupleEnd(z:A.handled=af)(it t:Addr)(i:Nat)(items:Array Value)(J:items[i]? =af):Draws prog w A it [it,t] i (λ_ _=>False) λj h=>j=i/\h.IsTupleIter it t i/\h.IsTuple t items where
 live:=λj h st=>let⟨o,ho,_⟩:=st.2.1;⟨o,ho⟩
 frame:=λj h h' st k=>⟨st.1,st.2.1.at λo e=>k it (by simp) o e,let⟨o,h1,h2⟩:=st.2.2;⟨o,k t (by simp) o h1,h2⟩⟩
 item:=λj s Q E U st k=>absurd st.1 (aam U)
 done:=λs Q E st k=>by
  obtain⟨h,g,d,tk,os⟩:=s;exact lK z st.2.1 st.2.2 J λh' e O V=>k h' e O V
def wO{Q:afL->jl->Prop}(V:h.IsTuple t items)
  (D:Q (.done (.ret (.ref (h.objs.size+1)))) ⟨(h.push {cls:=.type "tuple_iterator",data:=.fields #[.ref t,.int 0 0]}).push {cls:=.type "enumerate",data:=.fields #[.none,.bool ae,.ref h.objs.size,adl 0,.none,.none]},g,d,tk,os⟩) :
  wpAny 2.15 A (Builtin.«enumerate.__new__» ⟨[.type "enumerate",.ref t],[]⟩) Q E ⟨h,g,d,tk,os⟩:=by
 have z:=sub_enumerate
 repeat(any_goals(first|assumption|wp_step))
 refine wpAny_stack λst _ _ _=>?_;refine Z3 ?_;have q:wpAny 2.15 A (do let it ←aex (.ref t);let r ←agn (ach "enumerate") (afX++[it,adl 0,abr,abr]);ret r) Q E ⟨h,g,d,tk,os⟩:=by
  refine Mz (wpAny_pyIter_tuple V ?_)
  repeat(any_goals(first|assumption|wp_step))
  rw[abm];exact D
 dsimp only;split
 .split
  .refine Mz (ad2 (a:=(aaA t,af)) (by rfl) ?_)
   exact q
  .refine Mz (ad2 (a:=(aaA t,af)) (by rfl) ?_)
   exact q
 .rw[aag (by decide)]
  refine Mz (ad2 (a:=(aaA t,af)) (by rfl) ?_);exact q
theorem n_{Q:Value->jl->Prop}(V:h.IsTuple t items)
  (D:∀h',IsEnum h' (h.objs.size+1) h.objs.size 0 .none->h'.IsTupleIter h.objs.size t 0->h'.objs.size=h.objs.size+2->(∀b o,h.get? b=ac o->h'.get? b=ac o)->Q (.ref (h.objs.size+1)) ⟨h',g,d,tk,os⟩) :
  wpAny 2.15 A (call (.type "enumerate") [.ref t]) Q E ⟨h,g,d,tk,os⟩:=by
 have e1:((h.push {cls:=.type "tuple_iterator",data:=.fields #[.ref t,.int 0 0]}).push {cls:=.type "enumerate",data:=.fields #[.none,.bool ae,.ref h.objs.size,adl 0,.none,.none]}).get? (h.objs.size+1)=ac {cls:=.type "enumerate",data:=.fields #[.none,.bool ae,.ref h.objs.size,adl 0,.none,.none]}:=by
  rw[←abm h {cls:=.type "tuple_iterator",data:=.fields #[.ref t,.int 0 0]}];exact Z_ _ rfl
 refine callType_newIn F.called_enumerate (by decide) (F.typeCall_enumerate_1 _) (F.newCall_enumerate_1 _) (λobj=>afi _ _) F.entry_enumerate_new (S:=λY R s'=>s'=⟨h,g,d,tk,os⟩/\R (.ok (.ret (.ref (h.objs.size+1)))) ⟨(h.push {cls:=.type "tuple_iterator",data:=.fields #[.ref t,.int 0 0]}).push {cls:=.type "enumerate",data:=.fields #[.none,.bool ae,.ref h.objs.size,adl 0,.none,.none]},g,d,tk,os⟩) ?_ ⟨rfl,⟨⟨_,e1,rfl⟩,D _ e1 ⟨_,ZS _ (Z_ _ rfl),rfl,rfl⟩ (by rw[abm,abm]) λb o e=>ZS _ (ZS _ e)⟩⟩;rintro Y R s' ⟨rfl,Z⟩;exact wO V Z
end
end PySem
namespace Jb
open PySem PySem.Spec PyProof.Rows L2
def XX(K:ZW)(a:Addr):It:=
 ⟨λi H=>∃xs x,SqT K H a xs/\xs[i]? =ac x,λi H x H'=>∃p v,H p=af/\x= .ref p/\(∀xs,SqT K H a xs->xs[i]? =ac v)/\H'=upd H p (.tup [.int i,v]),λi H=>∃xs,SqT K H a xs/\xs.length<=i⟩
def Gs{K:ZW}{x1}(a e it:Addr)(a2:e≠it)(a7:e≠a)(b0:it≠a) :
  Turn P w K (.Tuple elts x1 pos) (XX K a) [e,it] e (λi h=>(∃a0,IsEnum h e it (i:Int) a0)/\h.IsTupleIter it a i)where
 mem:=by simp
 obj:=λi h st b U=>by
  obtain⟨⟨a0,V⟩,o,F,c,d⟩:=st;rcases Z2.mp U with z|z
  .subst z
   exact⟨_,V,λv z=>by cases z⟩
  .have z:b=it:=by simpa using z
   subst z;exact⟨o,F,λv z=>by rw[d]at z;cases z⟩
 keep:=λi h h' st k=>by
  obtain⟨⟨a0,V⟩,a1⟩:=st;exact⟨⟨a0,k e (by simp) _ V⟩,a1.at λo q=>k it (by simp) o q⟩
 item:=by
  intro X hP Z hK O i pins s σ H E I hf st hg;subst hP Z hK;obtain⟨xs,x,D,J⟩:=hg;obtain⟨its,rv,p,hz⟩:=I.tuple D;obtain⟨u,hu,ru⟩:=rv.get J;obtain⟨⟨a0,V⟩,a1⟩:=st;have a9:i<its.toArray.size:=by simp;exact(List.getElem?_eq_some_iff.mp hu).1
  have p':s.heap.IsTuple a its.toArray:=p;refine wpAny_pyNext_enum_itemD (Draws.tuple (show X.A.in1.handled=af from I.ok.hd O) it a (aaS b0) its.toArray) V ⟨a1,p'⟩ a9 a2 (λz=>by rcases Z2.mp z with q|q;exact a2 q;exact a7 (aab.mp q)) λy h1 tk hy a8 a5 b1 b4 k1=>?_;have ey:y=u:=by
   have:its[i]? =ac y:=by simpa using hy
   rw[hu]at this;exact(aaR this).symm
  subst ey;refine⟨.ref s.heap.objs.size,rfl,aeh a8 λh2 a6 a3=>?_⟩;have b2:e<s.heap.objs.size:=Z8 V;have a4:s.heap.objs.size≠e:=acy b2;have b3:h2.get? s.heap.objs.size=ac {cls:=.type "tuple",data:=.seq #[.int i tk,y]}:=a3.extBut _ _ a4 b1;have I2:Inv X pins σ (upd H s.heap.objs.size (.tup [.int i,x])) {s with heap:=h2,toks:=tk+1}:=by
   refine DX (fp:=[e,it]) (t':=tk+1) I hf (λb o U q=>?_) (ZZ _) ?_
   .have n1:b≠e:=λz=>U (by simp[z])
    have n2:b≠it:=λz=>U (by simp[z]);exact a3.extBut b o n1 (k1 b o n1 n2 q)
   .exact⟨by show 2<=Z0;decide,[.int i tk,y],.cons ⟨_,rfl⟩ (.cons ru .nil),_,b3,rfl,_,rfl,rfl⟩
  refine⟨.ref s.heap.objs.size,upd H s.heap.objs.size (.tup [.int i,x]),I2,rfl,⟨_,x,I.hok.fresh (ZZ _),rfl,λys hy=>by rw[I.tuple_inj hy D];exact J,rfl⟩,?_,λb U=>?_⟩
  .refine⟨⟨y,?_⟩,a5.1.extBut a3.extBut (aaS a2)⟩
   have e1:(((i+1:Nat)):Int)=(i:Int)+1:=by omega
   rw[e1];exact a6
  .rw[aO]
   .exact(hf b U).1
   .intro z
    rw[z]at U;rcases Z2.mp U with q|q
    .exact a4 q
    .have q:s.heap.objs.size=it:=by simpa using q
     obtain⟨o,F,_⟩:=a1;exact absurd (Z8 F) (by rw[q];exact aa7 _)
 done:=by
  intro X hP Z hK O i pins s σ H E I hf st hg;subst hP Z hK;obtain⟨xs,D,J⟩:=hg;obtain⟨its,rv,p,hz⟩:=I.tuple D;obtain⟨⟨a0,V⟩,a1⟩:=st;have Y:=rv.length;have p':s.heap.IsTuple a its.toArray:=p;refine wpAny_pyNext_enum_endD (Draws.tupleEnd (show X.A.in1.handled=af from I.ok.hd O) it a i its.toArray (by simp;omega)) V ⟨rfl,a1,p'⟩ λh1 eb=>⟨rfl,?_⟩;exact yF (fp:=[e,it]) (t':=s.toks) I hf λb o U q=>eb b o (λz=>U (by simp[z])) q
 self:=λA i s Q E st h=>by
  obtain⟨⟨a0,V⟩,_⟩:=st;exact adg V h
def Pk(K:ZW)(ta:TA):TI:=λσ H R=>ta σ H λJ H1=>∃a,J=[.ref a]/\(((∃xs,SqL K H1 a xs)/\R (Ite K a) H1)∨((∃xs,SqT K H1 a xs)/\R (XX K a) H1))
variable{X:Cx}{p:Pos}
def Nv{a:Expr}{ta:TA}{x1}(F:Gl X "enumerate")(hm:X.mg "enumerate"=af)(Y:PA X [a] ta)(hs:Z1 [a] X.env=[(ae,eval a X.env)]:=by rfl):PI X (.Tuple elts x1 tpos) (.Call (.Name "enumerate" p) [a] [] pos) (Pk X.K ta):=by
 intro pins s σ H R I h;refine Call_ (nZ I F hm boot_enumerate (abv (thn 2.62 λus Z ⟨J,H1,O,r1,q1⟩=>?_) hs rfl));obtain⟨l,e,q⟩:=q1;subst e;obtain⟨u,rfl,ru⟩:=vals1 r1;cases ru;have fin:∀b∈[Z.heap.objs.size+1,Z.heap.objs.size],m8 X pins H1 b:=λb U=>by
  have a2:Z.heap.objs.size<=b:=by
   rcases Z2.mp U with z|z
   .rw[z];exact ad0 _
   .have z:b=Z.heap.objs.size:=by simpa using z
    rw[z];exact ZZ _
  exact O.fpOk a2 (O.hok.fresh a2)
 rcases q with⟨⟨xs,D⟩,q⟩|⟨⟨xs,D⟩,q⟩
 .obtain⟨its,rv,pl,hz⟩:=O.list D
  refine call_enumerate_list pl.isList λh1 he a0 hsz k1=>?_;have I2:Inv X pins σ H1 {Z with heap:=h1}:=O.kept (t':=Z.toks) k1;refine adg he ?_;exact⟨Z.heap.objs.size+1,[Z.heap.objs.size+1,Z.heap.objs.size],_,_,H1,rfl,I2,Je l _ _ (agc _),⟨⟨_,he⟩,a0⟩,fin,q⟩
 .obtain⟨its,rv,pl,hz⟩:=O.tuple D
  have a1:Z.heap.IsTuple l its.toArray:=pl;have a3:l<Z.heap.objs.size:=let⟨_,h1,_⟩:=a1;Z8 h1;obtain⟨V,g,d,tk,os⟩:=Z;refine n_ a1 λh1 he a0 hsz k1=>?_;have I2:Inv X pins σ H1 {heap:=h1,gens:=g,drawn:=d,toks:=tk,os:=os}:=O.kept (t':=tk) k1;refine adg he ?_;exact⟨V.objs.size+1,[V.objs.size+1,V.objs.size],_,_,H1,rfl,I2,Gs l _ _ (agc _) (acy (acr a3)) (acy a3),⟨⟨_,he⟩,a0⟩,fin,q⟩
def Y8(K:ZW)(te:TE):TI:=λσ H R=>te σ H λx H1=>∃a,x= .ref a/\(((∃xs,SqL K H1 a xs)/\R (Itl K a) H1)∨((∃xs,SqT K H1 a xs)/\R (Itt K a) H1))
variable{te:TE}
def Wi(Y:PE X e te):PI X tg e (Y8 X.K te):=by
 intro pins s σ H R I h;refine thn 2.30 λv Z ⟨x,H1,O,z,q1⟩=>?_;obtain⟨a,ex,q⟩:=q1;subst ex;cases z;have fin:∀b∈[Z.heap.objs.size],m8 X pins H1 b:=λb U=>by
  rw[aab.mp U];exact O.fpOk (ZZ _) 2.139
 rcases q with⟨⟨xs,D⟩,q⟩|⟨⟨xs,D⟩,q⟩
 .obtain⟨its,rv,p,hz⟩:=O.list D
  refine adh p.isList ?_;exact⟨Z.heap.objs.size,[Z.heap.objs.size],_,_,H1,rfl,O.kept (t':=Z.toks) λb o e=>ZS _ e,JT a _,⟨_,Z_ _ rfl,rfl,rfl⟩,fin,q⟩
 .obtain⟨its,rv,p,hz⟩:=O.tuple D
  refine wpAny_pyIter_tuple (show Z.heap.IsTuple a its.toArray from p) ?_;exact⟨Z.heap.objs.size,[Z.heap.objs.size],_,_,H1,rfl,O.kept (t':=Z.toks) λb o e=>ZS _ e,FN a _,⟨_,Z_ _ rfl,rfl,rfl⟩,fin,q⟩
def w6:∀{us:List Value}{ns:List Str},StrsAre us ns->Vals (ns.map V.str) us
 |_,_,.nil=>.nil
 |_,_,.cons n t r=>.cons ⟨t,rfl⟩ (w6 r)
def vG:∀{ns:List Str}{us:List Value},Vals (ns.map V.str) us->StrsAre us ns
 |[],_,h=>by cases h;exact .nil
 |n::r,us,h=>by
  rw[ZX]at h;cases h with
  |cons p q=>
   obtain⟨t,rfl⟩:=p;exact .cons n t (vG q)
def DW(K:ZW):List V->Hp->VK->Prop:=λxs H Q=>∃a ns,xs=[.ref a]/\SqL K H a (aae V.str ns)/\acQ ns<64/\∀O,ac4 O ns->afY O=ag->∀p,H p=af->Q 2.49 (upd H p (.lst (O.map V.str)))
def zL:gk X (.builtin "sorted") (DW X.K):=by
 intro pins s σ H xs us Q I r h;obtain⟨a,ns,rfl,D,Y,q⟩:=h;obtain⟨u,rfl,Z⟩:=vals1 r;cases Z;obtain⟨its,U,pl,hz⟩:=I.list D;have z:=U.length;rw[Pr]at z;refine sorted_strs pl.isList (vG U) 1.10 λout O io pm pw=>?_;obtain⟨c,ec⟩:=sortedAll_at s.heap its out;have J:O.length=ns.length:=pm.length_eq;have F:64<=Z0:=by decide
 refine⟨.ref (s.heap.objs.size+1),upd H (s.heap.objs.size+1) (.lst (O.map V.str)),I.laid (t':=s.toks) (λb o e=>sortedAll_old e) (ad0 _) ?_,rfl,q O pm pw _ (I.hok.fresh (ad0 _))⟩;refine⟨by rw[Pr];omega,out.toList,c,w6 io,?_⟩;rw[ec]
inductive Mk where
 |own|frz|brw|bro|scr
 deriving DecidableEq
set_option genSizeOf true in
inductive D where
 |non|bl (b:Bool)|int (i:Int)|str (x:Str)|ty (n:String)
 |tup (ds:List D)
 |lst (m:Mk) (ds:List D)
 |dct (m:Mk) (ks:List Key) (ds:List D)
 |ins (m:Mk) (c:Str) (fs:List Str) (ds:List D)
structure Gc where
 K:ZW
 mg:Str->Option Value
structure Wn where
 n:Addr->Prop
 s:Addr->Prop
 o:Addr->Prop
def Wn.free(W:Wn)(a:Addr):Prop:=¬W.n a/\¬W.s a/\¬W.o a
def KO(K:ZW)(a:Addr)(o:HO):Prop:=∃xs,o= .lst xs/\∃(ob:Obj)(its:Array Value)(n:Nat),K.lookup a=ac ob/\ob.cls= .type "list"/\ob.dict=af/\ob.data= .seq its n/\its.size<=Z0/\Vals xs its.toList
def dH(D:Addr->HO->Prop)(H:Hp)(W:Wn)(a:Addr)(o:HO):Mk->List Addr->List Addr->Prop
 |.own,L,M=>H a=ac o/\L=a::M
 |.frz,L,M=>H a=ac o/\W.free a/\M=[]/\L=[]
 |.brw,L,M=>H a=ac o/\W.s a/\M=[]/\L=[]
 |.bro,L,M=>H a=ac o/\M=[]/\L=[]
 |.scr,L,M=>((Rd H a o/\W.free a)∨D a o)/\M=[]/\L=[]
variable{H:Hp}{W:Wn}{o:HO}{m:Mk}
def dH.sub{D:Addr->HO->Prop}(h:dH D H W a o m L M):abb M L:=by
 cases m with
 |own=>rw[h.2];exact List.sublist_cons_self a M
 |frz=>rw[h.2.2.1];exact adu L
 |brw=>rw[h.2.2.1];exact adu L
 |bro=>rw[h.2.1];exact adu L
 |scr=>rw[h.2.1];exact adu L
def dH.rx{D:Addr->HO->Prop}(h:dH D H W a o m L M):Rd H a o∨D a o:=by
 cases m with
 |own=>exact .inl (.inl h.1)
 |frz=>exact .inl (.inl h.1)
 |brw=>exact .inl (.inl h.1)
 |bro=>exact .inl (.inl h.1)
 |scr=>exact h.1.imp (λz=>z.1) id
variable{xs:List V}
def dH.sq{K:ZW}(h:dH (KO K) H W a 2.44 m L M):SqL K H a xs:=by
 rcases h.rx with z|⟨ys,e,z⟩
 .exact .inl z
 .cases e
  exact .inr z
variable{kvs:List (Key×V)}
def dH.rdD{K:ZW}(h:dH (KO K) H W a 2.20 m L M):Rd H a (.dK kvs):=by
 rcases h.rx with z|⟨ys,e,z⟩
 .exact z
 .cases e
def dH.at{D:Addr->HO->Prop}(h:dH D H W a o m L M)(J:m≠.scr):H a=ac o:=by
 cases m with
 |own=>exact h.1
 |frz=>exact h.1
 |brw=>exact h.1
 |bro=>exact h.1
 |scr=>exact absurd rfl J
mutual
noncomputable def Rep(G:Gc)(H:Hp)(W:Wn):D->V->List Addr->Prop
 |.non,v,L=>v= .non/\L=[]
 |.bl b,v,L=>v= .bl b/\L=[]
 |.int i,v,L=>v= .int i/\L=[]
 |.str x,v,L=>v= .str x/\L=[]
 |.ty n,v,L=>v= .ty n/\L=[]
 |.tup ds,v,L=>∃a xs,v= .ref a/\H a=ac (.tup xs)/\aJ G H W ds xs L
 |.lst m ds,v,L=>∃a xs M,v= .ref a/\aJ G H W ds xs M/\dH (KO G.K) H W a (.lst xs) m L M
 |.dct m ks ds,v,L=>∃a kvs M,v= .ref a/\(aae (·.1) kvs=ks/\ks.Nodup)/\aJ G H W ds (aae (·.2) kvs) M/\dH (KO G.K) H W a (.dK kvs) m L M
 |.ins m c fs ds,v,L=>∃a C dx kvs M,v= .ref a/\G.mg c=ac (.ref C)/\aae (·.1) kvs=fs/\aJ G H W ds (aae (·.2) kvs) M/\dH (KO G.K) H W a (.ins C dx kvs) m L M
noncomputable def aJ(G:Gc)(H:Hp)(W:Wn):List D->List V->List Addr->Prop
 |[],xs,L=>xs=[]/\L=[]
 |d::r,xs,L=>∃x ys M M',xs=x::ys/\L=M++M'/\Rep G H W d x M/\aJ G H W r ys M'
end
variable{G:Gc}
def aJ.nil:aJ G H W [] [] []:=by simp[aJ]
def aJ.cons{d:D}{r:List D}{x:V}{ys:List V}{M M':List Addr}(h:Rep G H W d x M)(t:aJ G H W r ys M'):aJ G H W (d::r) (x::ys) (M++M'):=by
 rw[aJ];exact⟨x,ys,M,M',rfl,rfl,h,t⟩
variable{d:D}
def aJ.one{x:V}(h:Rep G H W d x M):aJ G H W [d] [x] M:=by
 have:=aJ.cons h aJ.nil;rwa[List.append_nil]at this
def aJ.inv{r:List D}(h:aJ G H W (d::r) xs L):∃x ys M M',xs=x::ys/\L=M++M'/\Rep G H W d x M/\aJ G H W r ys M':=by
 rw[aJ]at h;exact h
def aJ.inv0(h:aJ G H W [] xs L):xs=[]/\L=[]:=by
 rw[aJ]at h;exact h
def aJ.length:∀{ds:List D}{xs:List V}{L:List Addr},aJ G H W ds xs L->ds.length=xs.length
 |[],xs,L,h=>by rw[h.inv0.1];rfl
 |d::r,xs,L,h=>by
  obtain⟨x,ys,M,M',rfl,_,_,h⟩:=h.inv;simp[aJ.length h]
def aJ.append:∀{ds es:List D}{xs ys:List V}{L M:List Addr},aJ G H W ds xs L->aJ G H W es ys M->aJ G H W (ds++es) (xs++ys) (L++M)
 |[],es,xs,ys,L,M,h,h'=>by obtain⟨rfl,rfl⟩:=h.inv0;exact h'
 |d::r,es,xs,ys,L,M,h,h'=>by
  obtain⟨x,zs,A,B,rfl,rfl,h1,h2⟩:=h.inv;rw[abP];exact .cons h1 (aJ.append h2 h')
def aJ.split:∀{ds es:List D}{xs:List V}{L:List Addr},aJ G H W (ds++es) xs L->∃ys zs A B,xs=ys++zs/\L=A++B/\aJ G H W ds ys A/\aJ G H W es zs B
 |[],es,xs,L,h=>⟨[],xs,[],L,rfl,rfl,.nil,h⟩
 |d::r,es,xs,L,h=>by
  obtain⟨x,zs,A,B,rfl,rfl,h1,h2⟩:=aJ.inv (r:=r++es) h;obtain⟨ys,q,Y,z,rfl,rfl,O,Z⟩:=aJ.split h2;exact⟨x::ys,q,A++Y,z,rfl,by rw[abP],.cons h1 O,Z⟩
variable{ds:List D}
def aJ.at(h:aJ G H W ds xs L)(e:ds[j]? =ac d) :
  ∃A B x ys zs I M J,ds=A++d::B/\A.length=j/\xs=ys++x::zs/\ys.length=j/\L=I++(M++J)/\aJ G H W A ys I/\Rep G H W d x M/\aJ G H W B zs J:=by
 have U:j<ds.length:=(List.getElem?_eq_some_iff.mp e).1;have hd:ds=ds.take j++d::ds.drop (j+1):=by
  have:ds[j]=d:=(List.getElem?_eq_some_iff.mp e).2;rw[←this,abo,acC]
 rw[hd]at h;obtain⟨ys,zs,A,B,rfl,rfl,h1,h2⟩:=aJ.split h;obtain⟨x,q,M,M',rfl,rfl,O,Z⟩:=h2.inv;have Y:(ds.take j).length=j:=by rw[aaD];omega
 exact⟨_,_,x,ys,q,A,M,M',hd,Y,rfl,by rw[←h1.length];exact Y,rfl,h1,O,Z⟩
def aJ.get(h:aJ G H W ds xs L)(e:ds[j]? =ac d):∃x M,xs[j]? =ac x/\Rep G H W d x M/\abb M L:=by
 obtain⟨A,B,x,ys,zs,I,M,J,_,_,rfl,Y,rfl,_,h,_⟩:=h.at e;exact⟨x,M,by rw[aa8 1.10,Y,abL];rfl,h,(aa2 M J).trans (aaI I _)⟩
def muO:HO->Bool
 |.lst _=>ag
 |.dK _=>ag
 |.ins _ _ _=>ag
 |_=>ae
def Mu(H:Hp)(a:Addr):Prop:=∃o,H a=ac o/\muO o=ag
mutual
noncomputable def aA:D->Bool
 |.tup ds=>aF ds
 |.lst m ds=>m != .brw&&aF ds
 |.dct m _ ds=>m != .brw&&aF ds
 |.ins m _ _ ds=>m != .brw&&aF ds
 |_=>ag
noncomputable def aF:List D->Bool
 |[]=>ag
 |d::r=>aA d&&aF r
end
mutual
noncomputable def az:D->Bool
 |.tup ds=>aD ds
 |.lst m ds=>m != .bro&&aD ds
 |.dct m _ ds=>m != .bro&&aD ds
 |.ins m _ _ ds=>m != .bro&&aD ds
 |_=>ag
noncomputable def aD:List D->Bool
 |[]=>ag
 |d::r=>az d&&aD r
end
def clean(d:D):Bool:=aA d&&az d
structure Evo(H H':Hp)(W W':Wn):Prop where
 k:∀b u,H b=ac u->W.free b->H' b=ac u/\W'.free b
 t:∀b xs,H b=ac 2.54->H' b=ac 2.54
def Mh(H H':Hp)(W W':Wn):Prop:=∀b u,H b=ac u->W.s b->H' b=ac u/\W'.s b
variable{H':Hp}{W':Wn}
def Evo.rd(e:Evo H H' W W')(h:Rd H a o)(f:W.free a):Rd H' a o/\W'.free a:=by
 rcases h with h|⟨u,h⟩
 .exact⟨.inl (e.k a _ h f).1,(e.k a _ h f).2⟩
 .exact⟨.inr ⟨u,(e.k a _ h f).1⟩,(e.k a _ h f).2⟩
theorem dH.mono{D:Addr->HO->Prop}(e:Evo H H' W W')(h:dH D H W a o m L M)(U:m≠.brw∨Mh H H' W W')(F:m≠.bro∨Same H H')(I:∀c∈L,∀u,H c=ac u->H' c=ac u):dH D H' W' a o m L M:=by
 cases m with
 |own=>exact⟨I a (by rw[h.2];simp) o h.1,h.2⟩
 |frz=>exact⟨(e.k a o h.1 h.2.1).1,(e.k a o h.1 h.2.1).2,h.2.2⟩
 |brw=>
  have q:=(U.resolve_left λz=>z rfl) a o h.1 h.2.1;exact⟨q.1,q.2,h.2.2⟩
 |bro=>exact⟨(F.resolve_left λz=>z rfl) a o h.1,h.2⟩
 |scr=>exact⟨h.1.imp (λz=>e.rd z.1 z.2) id,h.2⟩
def Same.rd(s:Same H H')(h:Rd H a o):Rd H' a o:=h.imp (s _ _) λ⟨u,z⟩=>⟨u,s _ _ z⟩
mutual
def Rep.mono(e:Evo H H' W W'):∀{d:D}{v:V}{L:List Addr},Rep G H W d v L->(aA d=ag∨Mh H H' W W')->(az d=ag∨Same H H')->(∀c∈L,∀u,H c=ac u->H' c=ac u)->Rep G H' W' d v L
 |.non,v,L,h,_,_,_=>by rw[Rep]at h⊢;exact h
 |.bl _,v,L,h,_,_,_=>by rw[Rep]at h⊢;exact h
 |.int _,v,L,h,_,_,_=>by rw[Rep]at h⊢;exact h
 |.str _,v,L,h,_,_,_=>by rw[Rep]at h⊢;exact h
 |.ty _,v,L,h,_,_,_=>by rw[Rep]at h⊢;exact h
 |.tup ds,v,L,h,b,o,hl=>by
  rw[Rep]at h⊢;obtain⟨a,xs,rfl,U,Z⟩:=h;exact⟨a,xs,rfl,e.t a xs U,aJ.mono e Z (by simpa[aA]using b) (by simpa[az]using o) hl⟩
 |.lst m ds,v,L,h,b,o,hl=>by
  rw[Rep]at h⊢;obtain⟨a,xs,M,rfl,Z,hs⟩:=h;exact⟨a,xs,M,rfl,aJ.mono e Z (b.imp (λz=>by simp[aA]at z;exact z.2) id) (o.imp (λz=>by simp[az]at z;exact z.2) id) λc O=>hl c 2.107,hs.mono e (b.imp (λz=>by simp[aA]at z;exact z.1) id) (o.imp (λz=>by simp[az]at z;exact z.1) id) hl⟩
 |.dct m ks ds,v,L,h,b,o,hl=>by
  rw[Rep]at h⊢;obtain⟨a,xs,M,rfl,I,Z,hs⟩:=h;exact⟨a,xs,M,rfl,I,aJ.mono e Z (b.imp (λz=>by simp[aA]at z;exact z.2) id) (o.imp (λz=>by simp[az]at z;exact z.2) id) λc O=>hl c 2.107,hs.mono e (b.imp (λz=>by simp[aA]at z;exact z.1) id) (o.imp (λz=>by simp[az]at z;exact z.1) id) hl⟩
 |.ins m c fs ds,v,L,h,b,o,hl=>by
  rw[Rep]at h⊢;obtain⟨a,C,dx,xs,M,rfl,F,I,Z,hs⟩:=h;exact⟨a,C,dx,xs,M,rfl,F,I,aJ.mono e Z (b.imp (λz=>by simp[aA]at z;exact z.2) id) (o.imp (λz=>by simp[az]at z;exact z.2) id) λc O=>hl c 2.107,hs.mono e (b.imp (λz=>by simp[aA]at z;exact z.1) id) (o.imp (λz=>by simp[az]at z;exact z.1) id) hl⟩
def aJ.mono(e:Evo H H' W W'):∀{ds:List D}{J:List V}{L:List Addr},aJ G H W ds J L->(aF ds=ag∨Mh H H' W W')->(aD ds=ag∨Same H H')->(∀c∈L,∀u,H c=ac u->H' c=ac u)->aJ G H' W' ds J L
 |[],J,L,h,_,_,_=>by rw[aJ]at h⊢;exact h
 |d::r,J,L,h,b,o,hl=>by
  obtain⟨x,ys,M,M',rfl,rfl,h1,h2⟩:=h.inv;exact .cons (Rep.mono e h1 (b.imp (λz=>by simp[aF]at z;exact z.1) id) (o.imp (λz=>by simp[aD]at z;exact z.1) id) λb U=>hl b (ZV _ U))
   (aJ.mono e h2 (b.imp (λz=>by simp[aF]at z;exact z.2) id) (o.imp (λz=>by simp[aD]at z;exact z.2) id) λb U=>hl b (W2 _ U))
end
structure Up(H H':Hp)(W W':Wn):Prop where
 s:Same H H'
 f:∀b u,H b=ac u->W.free b->W'.free b
 n:∀b u,H b=ac u->W.s b->W'.s b
def Up.evo(u:Up H H' W W'):Evo H H' W W':=⟨λb o h f=>⟨u.s b o h,u.f b o h f⟩,λb xs h=>u.s b _ h⟩
def Up.evoN(u:Up H H' W W'):Mh H H' W W':=λb o h f=>⟨u.s b o h,u.n b o h f⟩
def Up.refl:Up H H W W:=⟨Same.refl H,λ_ _ _ f=>f,λ_ _ _ f=>f⟩
variable{H2:Hp}
def Up.trans{I:Wn}(a:Up H H' W W')(b:Up H' H2 W' I):Up H H2 W I:=⟨a.s.trans b.s,λc u h f=>b.f c u (a.s c u h) (a.f c u h f),λc u h f=>b.n c u (a.s c u h) (a.n c u h f)⟩
variable{v:V}
def Rep.up(h:Rep G H W d v L)(u:Up H H' W W'):Rep G H' W' d v L:=h.mono u.evo (.inr u.evoN) (.inr u.s) λc _ o e=>u.s c o e
def aJ.up{d:List D}{v:List V}(h:aJ G H W d v L)(u:Up H H' W W'):aJ G H' W' d v L:=h.mono u.evo (.inr u.evoN) (.inr u.s) λc _ o e=>u.s c o e
def Wn.add(W:Wn)(L:List Addr):Wn:=⟨λa=>a∈L∨W.n a,W.s,W.o⟩
def Up.add(s:Same H H')(q:∀a∈L,H a=af):Up H H' W (W.add L):=⟨s,λb u h f=>⟨λz=>z.elim (λz=>by rw[q b z]at h;cases h) f.1,f.2⟩,λb u h f=>f⟩
def Up.same(s:Same H H'):Up H H' W W:=⟨s,λ_ _ _ f=>f,λ_ _ _ f=>f⟩
def mkV(ob:Bool):Mk->Mk
 |.own=>if ob then .bro else .brw
 |m=>m
def mkF:Mk->Mk
 |.scr=>.scr
 |_=>.frz
mutual
noncomputable def view(ob:Bool):D->D
 |.tup ds=>.tup (dW ob ds)
 |.lst m ds=>.lst (mkV ob m) (dW ob ds)
 |.dct m ks ds=>.dct (mkV ob m) ks (dW ob ds)
 |.ins m c fs ds=>.ins (mkV ob m) c fs (dW ob ds)
 |d=>d
noncomputable def dW(ob:Bool):List D->List D
 |[]=>[]
 |d::r=>view ob d::dW ob r
end
mutual
noncomputable def fz:D->D
 |.tup ds=>.tup (fzL ds)
 |.lst m ds=>.lst (mkF m) (fzL ds)
 |.dct m ks ds=>.dct (mkF m) ks (fzL ds)
 |.ins m c fs ds=>.ins (mkF m) c fs (fzL ds)
 |d=>d
noncomputable def fzL:List D->List D
 |[]=>[]
 |d::r=>fz d::fzL r
end
def fP(ob:Bool):∀ds:List D,dW ob ds=ds.map (view ob)
 |[]=>rfl
 |d::r=>by rw[dW,fP ob r];rfl
def gq:∀ds:List D,fzL ds=ds.map fz
 |[]=>rfl
 |d::r=>by rw[fzL,gq r];rfl
def dH.view{D:Addr->HO->Prop}{ob:Bool}(hn:ob=ae->∀c∈L,W.s c)(h:dH D H W a o m L M):dH D H W a o (mkV ob m) [] []:=by
 cases m with
 |own=>
  cases ob with
  |false=>exact⟨h.1,hn rfl a (by rw[h.2];simp),rfl,rfl⟩
  |true=>exact⟨h.1,rfl,rfl⟩
 |frz=>exact⟨h.1,h.2.1,rfl,rfl⟩
 |brw=>exact⟨h.1,h.2.1,rfl,rfl⟩
 |bro=>exact⟨h.1,rfl,rfl⟩
 |scr=>exact⟨h.1,rfl,rfl⟩
mutual
def Rep.view{ob:Bool}:∀{d:D}{v:V}{L:List Addr},Rep G H W d v L->(ob=ae->∀c∈L,W.s c)->Rep G H W (view ob d) v []
 |.non,v,L,h,_=>by rw[Rep]at h;simp[Jb.view,Rep,h]
 |.bl _,v,L,h,_=>by rw[Rep]at h;simp[Jb.view,Rep,h]
 |.int _,v,L,h,_=>by rw[Rep]at h;simp[Jb.view,Rep,h]
 |.str _,v,L,h,_=>by rw[Rep]at h;simp[Jb.view,Rep,h]
 |.ty _,v,L,h,_=>by rw[Rep]at h;simp[Jb.view,Rep,h]
 |.tup ds,v,L,h,hn=>by
  rw[Rep]at h;rw[Jb.view,Rep];obtain⟨a,xs,rfl,U,Z⟩:=h;exact⟨a,xs,rfl,U,aJ.view Z hn⟩
 |.lst m ds,v,L,h,hn=>by
  rw[Rep]at h;rw[Jb.view,Rep];obtain⟨a,xs,M,rfl,Z,hs⟩:=h;exact⟨a,xs,[],rfl,aJ.view Z λz c O=>hn z c 2.107,hs.view hn⟩
 |.dct m ks ds,v,L,h,hn=>by
  rw[Rep]at h;rw[Jb.view,Rep];obtain⟨a,xs,M,rfl,I,Z,hs⟩:=h;exact⟨a,xs,[],rfl,I,aJ.view Z λz c O=>hn z c 2.107,hs.view hn⟩
 |.ins m c fs ds,v,L,h,hn=>by
  rw[Rep]at h;rw[Jb.view,Rep];obtain⟨a,C,dx,xs,M,rfl,F,I,Z,hs⟩:=h;exact⟨a,C,dx,xs,[],rfl,F,I,aJ.view Z λz c O=>hn z c 2.107,hs.view hn⟩
def aJ.view{ob:Bool}:∀{ds:List D}{J:List V}{L:List Addr},aJ G H W ds J L->(ob=ae->∀c∈L,W.s c)->aJ G H W (dW ob ds) J []
 |[],J,L,h,_=>by obtain⟨rfl,_⟩:=h.inv0;rw[dW];exact .nil
 |d::r,J,L,h,hn=>by
  obtain⟨x,ys,M,M',rfl,rfl,h1,h2⟩:=h.inv;rw[dW];exact .cons (M:=[]) (M':=[]) (Rep.view h1 λz c O=>hn z c (ZV _ O)) (aJ.view h2 λz c O=>hn z c (W2 _ O))
end
structure Les(H:Hp)(W W':Wn)(L:List Addr):Prop where
 f:∀a,W.free a->W'.free a
 l:∀a∈L,W'.free a
def Les.sub(h:Les H W W' L)(s:∀a∈M,a∈L):Les H W W' M:=⟨h.f,λa Y=>h.l a (s a Y)⟩
def oF(W:Wn):Prop:=∀a,W.free a
def dH.fz{D:Addr->HO->Prop}(hs:Les H W W' L)(hn:(m≠.brw/\m≠.bro)∨oF W')(h:dH D H W a o m L M):dH D H W' a o (mkF m) [] []:=by
 cases m with
 |own=>exact⟨h.1,hs.l a (by rw[h.2];simp),rfl,rfl⟩
 |frz=>exact⟨h.1,hs.f a h.2.1,rfl,rfl⟩
 |brw=>exact⟨h.1,hn.elim (λz=>absurd rfl z.1) λz=>z a,rfl,rfl⟩
 |bro=>exact⟨h.1,hn.elim (λz=>absurd rfl z.2) λz=>z a,rfl,rfl⟩
 |scr=>exact⟨h.1.imp (λz=>⟨z.1,hs.f a z.2⟩) id,rfl,rfl⟩
mutual
def Rep.fz:∀{d:D}{v:V}{L:List Addr},Rep G H W d v L->Les H W W' L->(clean d=ag∨oF W')->Rep G H W' (fz d) v []
 |.non,v,L,h,_,_=>by rw[Rep]at h;simp[Jb.fz,Rep,h]
 |.bl _,v,L,h,_,_=>by rw[Rep]at h;simp[Jb.fz,Rep,h]
 |.int _,v,L,h,_,_=>by rw[Rep]at h;simp[Jb.fz,Rep,h]
 |.str _,v,L,h,_,_=>by rw[Rep]at h;simp[Jb.fz,Rep,h]
 |.ty _,v,L,h,_,_=>by rw[Rep]at h;simp[Jb.fz,Rep,h]
 |.tup ds,v,L,h,hs,c=>by
  rw[Rep]at h;rw[Jb.fz,Rep];obtain⟨a,xs,rfl,U,Z⟩:=h;exact⟨a,xs,rfl,U,aJ.fz Z hs (c.imp (λz=>by simpa[clean,aA,az]using z) id)⟩
 |.lst m ds,v,L,h,he,c=>by
  rw[Rep]at h;rw[Jb.fz,Rep];obtain⟨a,xs,M,rfl,Z,hs⟩:=h;exact⟨a,xs,[],rfl,aJ.fz Z (he.sub λc O=>hs.sub.subset O) (c.imp (λz=>by simp[clean,aA,az]at z;exact⟨z.1.2,z.2.2⟩) id),hs.fz he (c.imp (λz=>by simp[clean,aA,az]at z;exact⟨z.1.1,z.2.1⟩) id)⟩
 |.dct m ks ds,v,L,h,he,c=>by
  rw[Rep]at h;rw[Jb.fz,Rep];obtain⟨a,xs,M,rfl,I,Z,hs⟩:=h;exact⟨a,xs,[],rfl,I,aJ.fz Z (he.sub λc O=>hs.sub.subset O) (c.imp (λz=>by simp[clean,aA,az]at z;exact⟨z.1.2,z.2.2⟩) id),hs.fz he (c.imp (λz=>by simp[clean,aA,az]at z;exact⟨z.1.1,z.2.1⟩) id)⟩
 |.ins m c' fs ds,v,L,h,he,c=>by
  rw[Rep]at h;rw[Jb.fz,Rep];obtain⟨a,C,dx,xs,M,rfl,F,I,Z,hs⟩:=h;exact⟨a,C,dx,xs,[],rfl,F,I,aJ.fz Z (he.sub λc O=>hs.sub.subset O) (c.imp (λz=>by simp[clean,aA,az]at z;exact⟨z.1.2,z.2.2⟩) id),hs.fz he (c.imp (λz=>by simp[clean,aA,az]at z;exact⟨z.1.1,z.2.1⟩) id)⟩
def aJ.fz:∀{ds:List D}{J:List V}{L:List Addr},aJ G H W ds J L->Les H W W' L->((aF ds=ag/\aD ds=ag)∨oF W')->aJ G H W' (fzL ds) J []
 |[],J,L,h,_,_=>by obtain⟨rfl,_⟩:=h.inv0;rw[fzL];exact .nil
 |d::r,J,L,h,he,c=>by
  obtain⟨x,ys,M,M',rfl,rfl,h1,h2⟩:=h.inv;rw[fzL];exact .cons (M:=[]) (M':=[]) (Rep.fz h1 (he.sub λc O=>ZV _ O) (c.imp (λz=>by simp[clean,aF,aD]at z⊢;exact⟨z.1.1,z.2.1⟩) id))
   (aJ.fz h2 (he.sub λc O=>W2 _ O) (c.imp (λz=>by simp[clean,aF,aD]at z⊢;exact⟨z.1.2,z.2.2⟩) id))
end
mutual
def Es:∀d:D,aA (Jb.fz d)=ag
 |.non=>rfl|.bl _=>rfl|.int _=>rfl|.str _=>rfl|.ty _=>rfl
 |.tup ds=>by simp[Jb.fz,aA,iC ds]
 |.lst m ds=>by cases m<;>simp[Jb.fz,aA,iC ds,mkF]
 |.dct m _ ds=>by cases m<;>simp[Jb.fz,aA,iC ds,mkF]
 |.ins m _ _ ds=>by cases m<;>simp[Jb.fz,aA,iC ds,mkF]
def iC:∀ds:List D,aF (fzL ds)=ag
 |[]=>rfl
 |d::r=>by simp[fzL,aF,Es d,iC r]
end
mutual
def CV:∀d:D,az (Jb.fz d)=ag
 |.non=>rfl|.bl _=>rfl|.int _=>rfl|.str _=>rfl|.ty _=>rfl
 |.tup ds=>by simp[Jb.fz,az,iD ds]
 |.lst m ds=>by cases m<;>simp[Jb.fz,az,iD ds,mkF]
 |.dct m _ ds=>by cases m<;>simp[Jb.fz,az,iD ds,mkF]
 |.ins m _ _ ds=>by cases m<;>simp[Jb.fz,az,iD ds,mkF]
def iD:∀ds:List D,aD (fzL ds)=ag
 |[]=>rfl
 |d::r=>by simp[fzL,aD,CV d,iD r]
end
def Pn(d:D):clean (Jb.fz d)=ag:=by simp[clean,Es,CV]
mutual
def Rep.dom:∀{d:D}{v:V}{L:List Addr},Rep G H W d v L->∀a∈L,Mu H a
 |.non,v,L,h=>by rw[Rep]at h;rw[h.2];simp
 |.bl _,v,L,h=>by rw[Rep]at h;rw[h.2];simp
 |.int _,v,L,h=>by rw[Rep]at h;rw[h.2];simp
 |.str _,v,L,h=>by rw[Rep]at h;rw[h.2];simp
 |.ty _,v,L,h=>by rw[Rep]at h;rw[h.2];simp
 |.tup ds,v,L,h=>by
  rw[Rep]at h;obtain⟨a,xs,rfl,q,Z⟩:=h;exact aJ.dom Z
 |.lst m ds,v,L,h=>by
  rw[Rep]at h;obtain⟨a,xs,M,rfl,Z,hs⟩:=h;intro b U;cases m with
  |own=>
   rw[hs.2]at U;rcases Z2.mp U with z|z
   .rw[z];exact⟨_,hs.1,rfl⟩
   .exact aJ.dom Z b z
  |frz=>rw[hs.2.2.2]at U;cases U
  |brw=>rw[hs.2.2.2]at U;cases U
  |bro=>rw[hs.2.2]at U;cases U
  |scr=>rw[hs.2.2]at U;cases U
 |.dct m ks ds,v,L,h=>by
  rw[Rep]at h;obtain⟨a,xs,M,rfl,I,Z,hs⟩:=h;intro b U;cases m with
  |own=>
   rw[hs.2]at U;rcases Z2.mp U with z|z
   .rw[z];exact⟨_,hs.1,rfl⟩
   .exact aJ.dom Z b z
  |frz=>rw[hs.2.2.2]at U;cases U
  |brw=>rw[hs.2.2.2]at U;cases U
  |bro=>rw[hs.2.2]at U;cases U
  |scr=>rw[hs.2.2]at U;cases U
 |.ins m c fs ds,v,L,h=>by
  rw[Rep]at h;obtain⟨a,C,dx,xs,M,rfl,F,I,Z,hs⟩:=h;intro b U;cases m with
  |own=>
   rw[hs.2]at U;rcases Z2.mp U with z|z
   .rw[z];exact⟨_,hs.1,rfl⟩
   .exact aJ.dom Z b z
  |frz=>rw[hs.2.2.2]at U;cases U
  |brw=>rw[hs.2.2.2]at U;cases U
  |bro=>rw[hs.2.2]at U;cases U
  |scr=>rw[hs.2.2]at U;cases U
def aJ.dom:∀{ds:List D}{J:List V}{L:List Addr},aJ G H W ds J L->∀a∈L,Mu H a
 |[],J,L,h=>by rw[h.inv0.2];simp
 |d::r,J,L,h=>by
  obtain⟨x,ys,M,M',rfl,rfl,h1,h2⟩:=h.inv;intro a Y;rcases Ls.mp Y with z|z
  .exact Rep.dom h1 a z
  .exact aJ.dom h2 a z
end
abbrev En:=List (Option D)
abbrev Ad:=Nat->List Addr
def Rel(G:Gc)(H:Hp)(W:Wn)(ob:Nat->Bool)(ρ:En)(σ:L2.St):Prop:=∀(i:Nat)(d:D),ρ[i]? =ac (ac d)->∃v L,σ[i]? =ac (ac v)/\Rep G H W d v L/\(ob i=ae->∀c∈L,W.s c)
def WOk(H:Hp)(W:Wn):Prop:=∀a,W.n a∨W.s a∨W.o a->Mu H a
variable{ρ:En}{σ:L2.St}
def Rel.up(r:Rel G H W ob ρ σ)(u:Up H H' W W'):Rel G H' W' ob ρ σ:=λi d e=>let⟨v,L,h1,h2,h3⟩:=r i d e;⟨v,L,h1,h2.up u,λz c O=>let⟨o,ho,_⟩:=h2.dom c O;u.n c o ho (h3 z c O)⟩
def WOk.add(h:WOk H W)(s:Same H H')(q:∀a∈L,Mu H' a):WOk H' (W.add L):=λa Y=>by
 rcases Y with(z|z)|z
 .exact q a z
 .obtain⟨o,h1,h2⟩:=h a 2.29;exact⟨o,s a o h1,h2⟩
 .obtain⟨o,h1,h2⟩:=h a 2.42;exact⟨o,s a o h1,h2⟩
def wn(ob:Nat->Bool)(S:Ad)(Fr:Addr->Prop):Wn:=⟨Fr,λa=>∃i,ob i=ae/\a∈S i,λa=>∃i,ob i=ag/\a∈S i⟩
def inS(S:Ad)(a:Addr):Prop:=∃i,a∈S i
def inO(ob:Nat->Bool)(S:Ad)(a:Addr):Prop:=∃i,ob i=ag/\a∈S i
def plus(M:List Addr)(Fr:Addr->Prop):Addr->Prop:=λa=>a∈M∨Fr a
structure Sta(G:Gc)(H:Hp)(ob:Nat->Bool)(ρ:En)(σ:L2.St)(S:Ad)(Fr:Addr->Prop):Prop where
 len:ρ.length=σ.length
 sl:∀(i:Nat)(d:D),ρ[i]? =ac (ac d)->∃v,σ[i]? =ac (ac v)/\Rep G H 2.48 d v (S i)/\clean d=ag
 em:∀i,(∀d,ρ[i]?≠ac (ac d))->S i=[]
 nd:∀i,(S i).Nodup
 dj:∀i j a,a∈S i->a∈S j->i=j
 fdj:∀i a,Fr a->a∉S i
 fdm:∀a,Fr a->Mu H a
section
variable{G:Gc}{H H':Hp}{ob:Nat->Bool}{ρ:En}{σ:L2.St}{S S':Ad}{Fr Fr':Addr->Prop}
def Sta.mu(s:Sta G H ob ρ σ S Fr){i:Nat}{a:Addr}(h:a∈S i):Mu H a:=by
 by_cases e:∃d,ρ[i]? =ac (ac d)
 .obtain⟨d,e⟩:=e
  obtain⟨v,_,r,_⟩:=s.sl i d e;exact r.dom a h
 .rw[s.em i λd z=>e ⟨d,z⟩]at h
  cases h
def Sta.wok(s:Sta G H ob ρ σ S Fr):WOk H (wn ob S Fr):=λa Y=>by
 rcases Y with z|⟨i,_,z⟩|⟨i,_,z⟩
 .exact s.fdm a z
 .exact s.mu z
 .exact s.mu z
def Sta.rel(s:Sta G H ob ρ σ S Fr):Rel G H 2.48 ob ρ σ:=λi d e=>by
 obtain⟨v,h1,h2,_⟩:=s.sl i d e;exact⟨v,S i,h1,h2,λz c O=>⟨i,z,O⟩⟩
def Sta.grow(s:Sta G H ob ρ σ S Fr)(J:Same H H')(h1:∀a,Fr' a->Fr a∨(H a=af/\Mu H' a)):Sta G H' ob ρ σ S Fr' where
 len:=s.len
 sl:=λi d e=>by
  obtain⟨v,q1,q2,D⟩:=s.sl i d e;have O:aA d=ag/\az d=ag:=by simpa[clean]using D
  have F:Evo H H' 2.48 (wn ob S Fr'):=⟨λb u h f=>⟨J b u h,⟨λz=>(h1 b z).elim f.1 (λz=>by rw[z.1]at h;cases h),f.2⟩⟩,λb xs h=>J b _ h⟩;exact⟨v,q1,q2.mono F (.inl O.1) (.inl O.2) λc _ u e=>J c u e,D⟩
 em:=s.em
 nd:=s.nd
 dj:=s.dj
 fdj:=λi a h z=>by
  rcases h1 a h with q|q
  .exact s.fdj i a q z
  .obtain⟨o,ho,_⟩:=s.mu z
   rw[q.1]at ho;cases ho
 fdm:=λa h=>by
  rcases h1 a h with q|q
  .obtain⟨o,ho,hm⟩:=s.fdm a q
   exact⟨o,J a o ho,hm⟩
  .exact q.2
def Sta.lessF(s:Sta G H ob ρ σ S Fr)(h1:∀a,Fr' a->Fr a):Sta G H ob ρ σ S Fr':=s.grow 2.64 λa h=>.inl (h1 a h)
end
def RfE(G:Gc)(ob:Nat->Bool)(t:TE)(f:En->Option D):Prop:=∀(ρ:En)(d:D),f ρ=ac d->∀(σ:L2.St)(H:Hp)(W:Wn),Rel G H W ob ρ σ->WOk H W->∀Q:VK,
 (∀v H' L,Same H H'->Rep G H' 2.55 d v L->(∀a∈L,H a=af)->L.Nodup->Q v H')->t σ H Q
def RfT(G:Gc)(ob:Nat->Bool)(t:TT)(f:En->Option Bool):Prop:=∀(ρ:En)(b:Bool),f ρ=ac b->∀(σ:L2.St)(H:Hp)(W:Wn),Rel G H W ob ρ σ->WOk H W->∀Q:Bool->Hp->Prop,
 (∀H',Same H H'->Q b H')->t σ H Q
def RfA(G:Gc)(ob:Nat->Bool)(t:TA)(f:En->Option 2.79):Prop:=∀(ρ:En)(ds:List D),f ρ=ac ds->∀(σ:L2.St)(H:Hp)(W:Wn),Rel G H W ob ρ σ->WOk H W->∀Q:List V->Hp->Prop,
 (∀J H' L,Same H H'->aJ G H' 2.55 ds J L->(∀a∈L,H a=af)->L.Nodup->Q J H')->t σ H Q
structure Eff(ob:Nat->Bool)(H H':Hp)(S S':Ad)(M:List Addr):Prop where
 kp:∀b u,H b=ac u->¬inO ob S b->H' b=ac u
 sn:∀i,ob i=ae->S' i=S i
 gr:∀i a,ob i=ag->a∈S' i->inO ob S a∨H a=af
 fm:∀a∈M,inO ob S a∨H a=af
def l_(G:Gc)(ob:Nat->Bool)(t:TE)(f:En->Option (D×En)):Prop:=∀(ρ:En)(d:D)(ρ':En),f ρ=ac (d,ρ')->∀(σ:L2.St)(H:Hp)(S:Ad)(Fr:Addr->Prop),Sta G H ob ρ σ S Fr->∀Q:VK,
 (∀v H' M S',Sta G H' ob ρ' σ S' 2.16->Rep G H' 2.208 d v M->M.Nodup->Eff ob H H' S S' M->Q v H')->t σ H Q
def Dl(G:Gc)(ob:Nat->Bool)(t:TT)(f:En->Option (Bool×En)):Prop:=∀(ρ:En)(b:Bool)(ρ':En),f ρ=ac (b,ρ')->∀(σ:L2.St)(H:Hp)(S:Ad)(Fr:Addr->Prop),Sta G H ob ρ σ S Fr->∀Q:Bool->Hp->Prop,
 (∀H' S',Sta G H' ob ρ' σ S' Fr->Eff ob H H' S S' []->Q b H')->t σ H Q
def DY(G:Gc)(ob:Nat->Bool)(t:TA)(f:En->Option (List D×En)):Prop:=∀(ρ:En)(ds:List D)(ρ':En),f ρ=ac (ds,ρ')->∀(σ:L2.St)(H:Hp)(S:Ad)(Fr:Addr->Prop),Sta G H ob ρ σ S Fr->∀Q:List V->Hp->Prop,
 (∀J H' M S',Sta G H' ob ρ' σ S' 2.16->aJ G H' 2.208 ds J M->M.Nodup->Eff ob H H' S S' M->Q J H')->t σ H Q
inductive Fl where
 |nx (ρ:En)|ret (d:D) (ρ:En)|brk (ρ:En)|cnt (ρ:En)
def Ga(P:Nat->Bool)(σ F:L2.St):Prop:=∀i,P i=ag->F[i]? =σ[i]?
variable{P:Nat->Bool}
def Ga.refl:Ga P σ σ:=λ_ _=>rfl
def Ga.trans{V σ2:L2.St}(a:Ga P σ V)(b:Ga P V σ2):Ga P σ σ2:=λi h=>(b i h).trans (a i h)
structure Mv(P:Nat->Bool)(H H':Hp)(σ σ':L2.St)(S S':Ad)(M:List Addr):Prop where
 kp:∀b u,H b=ac u->¬inS S b->b∉M->H' b=ac u
 gr:∀i a,a∈S' i->inS S a∨a∈M∨H a=af
 pr:Ga P σ σ'
variable{S:Ad}
def Mv.trans{H1:Hp}{V σ2:L2.St}{S1 S2:Ad}(a:Mv P H H1 σ V S S1 M)(b:Mv P H1 H2 V σ2 S1 S2 []):Mv P H H2 σ σ2 S S2 M where
 kp:=λc u h n m=>b.kp c u (a.kp c u h n m) (λ⟨i,z⟩=>(a.gr i c z).elim n λz=>z.elim m λe=>by rw[h]at e;cases e) (by simp)
 gr:=λi c z=>by
  rcases b.gr i c z with⟨j,q⟩|q|q
  .exact a.gr j c q
  .cases q
  .by_cases h:inS S c
   .exact .inl h
   .by_cases hm:c∈M
    .exact .inr (.inl hm)
    .refine .inr (.inr ?_)
     cases e:H c with
     |none=>rfl
     |some u=>rw[a.kp c u e h hm]at q;cases q
 pr:=a.pr.trans b.pr
def Eff.mv{S':Ad}(e:Eff ob H H' S S' M):Mv P H H' σ σ S S' []where
 kp:=λb u h n _=>e.kp b u h λ⟨i,_,z⟩=>n ⟨i,z⟩
 gr:=λi a z=>by
  cases h:ob i with
  |false=>rw[e.sn i h]at z;exact .inl ⟨i,z⟩
  |true=>exact(e.gr i a h z).imp (λ⟨j,_,q⟩=>⟨j,q⟩) .inr
 pr:=.refl
def Aft(G:Gc)(ob P:Nat->Bool)(H:Hp)(σ:L2.St)(S:Ad)(Fr:Addr->Prop)(E:Ends):Fl->Prop
 |.nx ρ'=>∀F H' S',Sta G H' ob ρ' F S' Fr->Mv P H H' σ F S S' []->E.nx F H'
 |.brk ρ'=>∀F H' S',Sta G H' ob ρ' F S' Fr->Mv P H H' σ F S S' []->E.bk F H'
 |.cnt ρ'=>∀F H' S',Sta G H' ob ρ' F S' Fr->Mv P H H' σ F S S' []->E.ct F H'
 |.ret d ρ'=>∀v F H' M S',Sta G H' ob ρ' F S' (plus M Fr)->Rep G H' (wn ob S' (plus M Fr)) d v M->clean d=ag->M.Nodup->(∀a∈M,inS S a∨H a=af)->Mv P H H' σ F S S' []->E.rt v H'
def RfS(G:Gc)(ob P:Nat->Bool)(t:TS)(f:En->Option Fl):Prop:=∀(ρ:En)(r:Fl),f ρ=ac r->∀(σ:L2.St)(H:Hp)(S:Ad)(Fr:Addr->Prop),Sta G H ob ρ σ S Fr->∀E:Ends,Aft G ob P H σ S Fr E r->t E σ H
def RfG(G:Gc)(ob P:Nat->Bool)(g:TG)(f:D->En->Option En):Prop:=∀(d:D)(ρ ρ':En),f d ρ=ac ρ'->∀(v:V)(σ:L2.St)(H:Hp)(S:Ad)(M:List Addr)(Fr:Addr->Prop),Sta G H ob ρ σ S 2.16->Rep G H 2.185 d v M->M.Nodup->(∀a∈M,¬Fr a)->
 ∀Q:L2.St->Hp->Prop,(∀F H' S',Sta G H' ob ρ' F S' Fr->Mv P H H' σ F S S' M->Q F H')->g v σ H Q
def ZP(G:Gc)(ob P:Nat->Bool)(g:TGs)(f:List D->En->Option En):Prop:=∀(ds:List D)(ρ ρ':En),f ds ρ=ac ρ'->∀(J:List V)(σ:L2.St)(H:Hp)(S:Ad)(M:List Addr)(Fr:Addr->Prop),Sta G H ob ρ σ S 2.16->aJ G H 2.185 ds J M->M.Nodup->(∀a∈M,¬Fr a)->
 ∀Q:L2.St->Hp->Prop,(∀F H' S',Sta G H' ob ρ' F S' Fr->Mv P H H' σ F S S' M->Q F H')->g J σ H Q
structure PV{ι:Type}(X:ι->Cx)(G:Gc)(ob:Nat->Bool)(e:Expr)(f:En->Option D):Prop where
 mk::(ex:∃t,(∀c,PE (X c) e t)/\RfE G ob t f)
structure PVT{ι:Type}(X:ι->Cx)(G:Gc)(ob:Nat->Bool)(e:Expr)(f:En->Option Bool):Prop where
 mk::(ex:∃t,(∀c,PT (X c) e t)/\RfT G ob t f)
structure PVW{ι:Type}(X:ι->Cx)(G:Gc)(ob:Nat->Bool)(e:Expr)(f:En->Option Bool):Prop where
 mk::(ex:∃t,(∀c,PW (X c) e t)/\RfT G ob t f)
structure PVA{ι:Type}(X:ι->Cx)(G:Gc)(ob:Nat->Bool)(es:List Expr)(f:En->Option (List D)):Prop where
 mk::(ex:∃t,(∀c,PA (X c) es t)/\RfA G ob t f)
structure PVe{ι:Type}(X:ι->Cx)(G:Gc)(ob:Nat->Bool)(e:Expr)(f:En->Option (D×En)):Prop where
 mk::(ex:∃t,(∀c,PE (X c) e t)/\l_ G ob t f)
structure Gn{ι:Type}(X:ι->Cx)(G:Gc)(ob:Nat->Bool)(e:Expr)(f:En->Option (Bool×En)):Prop where
 mk::(ex:∃t,(∀c,PT (X c) e t)/\Dl G ob t f)
structure wu{ι:Type}(X:ι->Cx)(G:Gc)(ob:Nat->Bool)(es:List Expr)(f:En->Option (List D×En)):Prop where
 mk::(ex:∃t,(∀c,PA (X c) es t)/\DY G ob t f)
structure PVS{ι:Type}(X:ι->Cx)(G:Gc)(ob P:Nat->Bool)(st:Stmt)(f:En->Option Fl):Prop where
 mk::(ex:∃t,(∀c,PS (X c) st t)/\RfS G ob P t f)
structure o5{ι:Type}(X:ι->Cx)(G:Gc)(ob P:Nat->Bool)(st:List Stmt)(f:En->Option Fl):Prop where
 mk::(ex:∃t,(∀c,PSs (X c) st t)/\RfS G ob P t f)
structure PVG{ι:Type}(X:ι->Cx)(G:Gc)(ob P:Nat->Bool)(tg:Expr)(f:D->En->Option En):Prop where
 mk::(ex:∃t,(∀c,PG (X c) tg t)/\RfG G ob P t f)
def fD(h1:L.Nodup)(h2:M.Nodup)(O:∀a∈L,a∉M):(L++M).Nodup:=aaY.mpr ⟨h1,h2,λa Y b U e=>O a Y (e▸U)⟩
def Wn.drop(W:Wn)(L:List Addr):Wn:=⟨λa=>W.n a/\a∉L,W.s,W.o⟩
def Wn.tmp(W:Wn)(a:Addr):Prop:=W.n a/\¬W.s a/\¬W.o a
def WOk.tmp(w:WOk H W)(O:∀a∈L,H a=af):∀a∈L,(W.add L).tmp a:=λa Y=>by
 refine⟨.inl Y,λz=>?_,λz=>?_⟩
 .obtain⟨o,ho,_⟩:=w a 2.186;rw[O a Y]at ho;cases ho
 .obtain⟨o,ho,_⟩:=w a 2.187;rw[O a Y]at ho;cases ho
def Done(G:Gc)(H:Hp)(W:Wn)(I:List Addr)(d:D)(Q:VK):Prop:=∀v H' L,Same H H'->Rep G H' ((W.drop I).add L) d v L->(∀a∈L,a∈I∨H a=af)->L.Nodup->Q v H'
def OpV(G:Gc)(r:R2)(g:D->D->Option D):Prop:=∀(dx I d:D),g dx I=ac d->∀(x y:V)(H:Hp)(W:Wn)(O Y:List Addr),Rep G H W dx x O->Rep G H W I y Y->(O++Y).Nodup->(∀a∈O++Y,W.tmp a)->WOk H W->∀Q:VK,Done G H W (O++Y) d Q->r x y H Q
def UnV(G:Gc)(r:V->Hp->VK->Prop)(g:D->Option D):Prop:=∀(dx d:D),g dx=ac d->∀(x:V)(H:Hp)(W:Wn)(O:List Addr),Rep G H W dx x O->O.Nodup->(∀a∈O,W.tmp a)->WOk H W->∀Q:VK,Done G H W O d Q->r x H Q
def CaV(G:Gc)(r:List V->Hp->VK->Prop)(g:List D->Option D):Prop:=∀(ds:List D)(d:D),g ds=ac d->∀(xs:List V)(H:Hp)(W:Wn)(I:List Addr),aJ G H W ds xs I->I.Nodup->(∀a∈I,W.tmp a)->WOk H W->∀Q:VK,Done G H W I d Q->r xs H Q
def MtV(G:Gc)(r:V->List V->Hp->VK->Prop)(g:D->List D->Option D):Prop:=∀(dx:D)(ds:List D)(d:D),g dx ds=ac d->∀(x:V)(xs:List V)(H:Hp)(W:Wn)(O I:List Addr),Rep G H W dx x O->aJ G H W ds xs I->(O++I).Nodup->(∀a∈O++I,W.tmp a)->WOk H W->∀Q:VK,Done G H W (O++I) d Q->r x xs H Q
def WOk.new(w:WOk H W)(O:∀a∈L,H a=af)(h:W.n a):a∉L:=λz=>by
 obtain⟨o,F,_⟩:=w a (.inl h);rw[O a z]at F;cases F
variable{I:List Addr}{Q:VK}
def Done.scal(h:Done G H W I d Q)(r:∀W,Rep G H W d v []):Q v H:=h v H [] 2.64 (r _) (by simp) aaq
def _root_.L2.Same.none'(s:Same H H')(h:H' a=af):H a=af:=Same.free s h
variable{ta tb:TE}{fa fb:En->Option D}{R:V->V->Hp->Prop}
def RfE.two(Y:RfE G ob ta fa)(U:RfE G ob tb fb){dx dy:D}(e1:fa ρ=ac dx)(e2:fb ρ=ac dy)(r:Rel G H W ob ρ σ)(w:WOk H W)
  (h:∀x y H' L M,Same H H'->Rep G H' (W.add (L++M)) dx x L->Rep G H' (W.add (L++M)) dy y M->(∀a∈L++M,H a=af)->(L++M).Nodup->WOk H' (W.add (L++M))->R x y H'):ta σ H λx H1=>tb σ H1 λy H2=>R x y H2:=by
 refine Y ρ dx e1 σ H W r w _ λx H1 L Z rx fx nx=>?_;have O:Up H H1 W (W.add L):=.add Z fx;have w1:WOk H1 (W.add L):=w.add Z rx.dom;refine U ρ dy e2 σ H1 2.55 (r.up O) w1 _ λy H2 M I ry q ny=>?_;have J:∀a∈L,a∉M:=λa h1 h2=>by
  obtain⟨o,F,_⟩:=rx.dom a h1;rw[q a h2]at F;cases F
 have eW:∀a,((W.add L).add M).n a↔(W.add (L++M)).n a:=λa=>by
  show(a∈M∨a∈L∨W.n a)↔(a∈L++M∨W.n a);rw[Ls];constructor
  .rintro(z|z|z)
   .exact .inl 2.42
   .exact .inl 2.29
   .exact .inr z
  .rintro((z|z)|z)
   .exact .inr 2.29
   .exact .inl z
   .exact .inr 2.42
 have a0:(W.add L).add M=W.add (L++M):=by
  show Wn.mk _ _ _=Wn.mk _ _ _;congr 1;funext a;exact propext (eW a)
 have u2:Up H1 H2 2.55 (W.add (L++M)):=by rw[←a0];exact .add I q
 rw[a0]at ry;refine h x y H2 L M 2.143 (rx.up u2) ry (λa Y=>?_) (fD nx ny J) ?_
 .rcases Ls.mp Y with z|z
  .exact fx a z
  .exact Z.none' (q a z)
 .rw[←a0]
  exact w1.add I ry.dom
def ao(b:Bool)(i:Nat):En->Option D:=λρ=>match ρ[i]? with
 |some (ac d)=>ac (view b d)
 |_=>af
def eC(d:D):En->Option D:=λ_=>ac d
def ye(W:Wn):W.add []=W:=by
 cases W;simp[Wn.add]
def V8:RfE G ob (xW i) (ao (ob i) i):=λρ d e σ H W r w Q q=>by
 unfold ao at e;split at e
 .rename_i d0 e0
  cases e;obtain⟨v,L,h1,h2,O⟩:=r i d0 e0;refine⟨v,h1,q v H [] 2.64 ?_ (by simp) aaq⟩;rw[ye];exact h2.view O
 .cases e
variable{X:ι->Cx}
def ak(b:Bool)(i:Nat)(U:ob i=b:=by rfl)(z:∀c,(X c).N[i]? =ac x:=by intro _;rfl)(Z:∀c,Vis (X c).env.scope x:=by intro _;first|exact aa_ rfl|exact aaL (aa_ rfl)|exact aaL 2.205)(hd:(x==("__debug__":Str))=ae:=by decide)(O:(x==("__classdict__":Str))=ae:=by decide):PV X G ob 2.38 (ao b i):=⟨_,λc=>pv i (z c) (Z c) hd O,by rw[←U];exact V8⟩
def Gb(h:∀H W,Rep G H W d v []):RfE G ob (tC v) (eC d):=λρ d' e σ H W r w Q q=>by
 cases e;exact q v H [] 2.64 (h _ _) (by simp) aaq
def aH{i j pos}:PV X G ob (.Constant 2.72 j pos) (eC 2.72):=⟨_,λc=>Ob,Gb λ_ _=>by simp[Rep]⟩
def fX{b j pos}:PV X G ob (.Constant (.bool b) j pos) (eC (.bl b)):=⟨_,λc=>Xu,Gb λ_ _=>by simp[Rep]⟩
def Ox{j pos}:PV X G ob (.Constant .none j pos) (eC .non):=⟨_,λc=>Wh,Gb λ_ _=>by simp[Rep]⟩
def jx{x j pos}:PV X G ob (.Constant 2.89 j pos) (eC 2.89):=⟨_,λc=>Gv,Gb λ_ _=>by simp[Rep]⟩
def jG{n:String}(F:∀c,Gl (X c) x)(J:∀c,(X c).mg x=af)(Z:abx x=ac (.type n))(hn:x≠"__name__":=by decide)(hd:(x==("__debug__":Str))=ae:=by decide):PV X G ob 2.38 (eC (.ty n)):=⟨_,λc=>X6 (F c) (J c) Z hn hd,Gb λ_ _=>by simp[Rep]⟩
structure OpB{ι:Type}(X:ι->Cx)(G:Gc)(f:Value->Value->Sem Value)(g:D->D->Option D):Prop where
 ex:∃r,(∀c,OpR (X c) f r)/\OpV G r g
structure UnB{ι:Type}(X:ι->Cx)(G:Gc)(f:Value->Sem Value)(g:D->Option D):Prop where
 ex:∃r,(∀c,UnR (X c) f r)/\UnV G r g
structure IxB{ι:Type}(X:ι->Cx)(G:Gc)(g:D->D->Option D):Prop where
 ex:∃r,(∀c,IxR (X c) r)/\OpV G r g
structure CaB{ι:Type}(X:ι->Cx)(G:Gc)(f:Value)(g:List D->Option D):Prop where
 ex:∃r,(∀c,gk (X c) f r)/\CaV G r g
structure MtB{ι:Type}(X:ι->Cx)(G:Gc)(T id:String)(g:D->List D->Option D):Prop where
 ex:∃r,(∀c,MtR (X c) id r)/\MtV G r g/\∀dx ds d,g dx ds=ac d->∀(x:V)(H:Hp)(W:Wn)(Lx:List Addr),Rep G H W dx x Lx->tyV G.K T x H
def e2(g:D->D->Option D)(fa fb:En->Option D):En->Option D:=λρ=>(fa ρ).bind λx=>(fb ρ).bind λy=>g x y
def e1(g:D->Option D)(fa:En->Option D):En->Option D:=λρ=>(fa ρ).bind g
variable{g:D->D->Option D}
def Fb{r:R2}(F:OpV G r g)(Y:RfE G ob ta fa)(U:RfE G ob tb fb):RfE G ob (tOp r ta tb) (e2 g fa fb):=λρ d e σ H W J w Q q=>by
 unfold e2 at e;cases h1:fa ρ with
 |none=>rw[h1]at e;cases e
 |some dx=>
  rw[h1]at e;cases h2:fb ρ with
  |none=>simp[h2]at e
  |some V=>
   have e:g dx V=ac d:=by simpa[h2]using e
   refine RfE.two Y U h1 h2 J w λx y H' L M s rx ry O nd w'=>?_;refine F dx V d e x y H' _ L M rx ry nd (w.tmp O) w' Q λv H2 L2 I r2 f2 Z=>?_;refine q v H2 L2 (s.trans I) ?_ (λa Y=>(f2 a Y).elim (O a) λz=>s.none' z) Z;exact r2.up ⟨Same.refl _,λb u U f=>⟨λz=>z.elim (λz=>f.1 2.29) λz=>f.1 (.inr ⟨.inr z,WOk.new w O z⟩),f.2⟩,λ_ _ _ f=>f⟩
def YQ{r:V->Hp->VK->Prop}{g:D->Option D}(F:UnV G r g)(Y:RfE G ob ta fa):RfE G ob (tUn r ta) (e1 g fa):=λρ d e σ H W J w Q q=>by
 unfold e1 at e;cases h1:fa ρ with
 |none=>rw[h1]at e;cases e
 |some dx=>
  rw[h1]at e;have e:g dx=ac d:=by simpa using e
  refine Y ρ dx h1 σ H W J w _ λx H' L s rx O nd=>?_;refine F dx d e x H' _ L rx nd (w.tmp O) (w.add s rx.dom) Q λv H2 L2 I r2 f2 Z=>?_;refine q v H2 L2 (s.trans I) ?_ (λa Y=>(f2 a Y).elim (O a) λz=>s.none' z) Z;exact r2.up ⟨Same.refl _,λb u U f=>⟨λz=>z.elim (λz=>f.1 2.29) λz=>f.1 (.inr ⟨.inr z,WOk.new w O z⟩),f.2⟩,λ_ _ _ f=>f⟩
def au:En->Option (List D):=λ_=>ac []
def aj(fa:En->Option D)(O:En->Option 2.79):En->Option (List D):=λρ=>(fa ρ).bind λx=>(O ρ).bind λxs=>ac (x::xs)
def Fv:RfA G ob V0 au:=λρ ds e σ H W J w Q q=>by
 cases e;exact q [] H [] 2.64 .nil (by simp) aaq
variable{t:TA}{O:En->Option (List D)}
def Q7(Y:RfE G ob ta fa)(Z:RfA G ob t O):RfA G ob (H_ ta t) (aj fa O):=λρ ds e σ H W J w Q q=>by
 unfold aj at e;cases h1:fa ρ with
 |none=>rw[h1]at e;cases e
 |some dx=>
  rw[h1]at e;cases h2:O ρ with
  |none=>simp[h2]at e
  |some es=>
   have e:dx::es=ds:=by simpa[h2]using e
   subst e;refine Y ρ dx h1 σ H W J w _ λx H1 L V rx fx nx=>?_;have u1:Up H H1 W (W.add L):=.add V fx;have w1:WOk H1 (W.add L):=w.add V rx.dom;refine Z ρ es h2 σ H1 2.55 (J.up u1) w1 _ λys H2 M I ry fy ny=>?_;have a0:∀a∈L,a∉M:=λa h1 h2=>by
    obtain⟨o,F,_⟩:=rx.dom a h1;rw[fy a h2]at F;cases F
   have u2:Up H1 H2 2.55 (W.add (L++M)):=⟨I,λb u U f=>⟨λz=>z.elim (λz=>(Ls.mp z).elim (λz=>f.1 2.29) λz=>by rw[fy b z]at U;cases U) λz=>f.1 2.42,f.2⟩,λ_ _ _ f=>f⟩;refine q (x::ys) H2 (L++M) (V.trans I) (.cons (rx.up u2) (ry.up ⟨Same.refl _,λb u U f=>⟨λz=>?_,f.2⟩,λ_ _ _ f=>f⟩)) (λa Y=>?_) (fD nx ny a0)
   .rcases z with z|z
    .exact(Ls.mp z).elim (λz=>f.1 2.186) λz=>f.1 2.29
    .exact f.1 2.187
   .rcases Ls.mp Y with z|z
    .exact fx a z
    .exact V.none' (fy a z)
variable{r:List V->Hp->VK->Prop}{f:En->Option (List D)}
def wG{g:List D->Option D}(F:CaV G r g)(h:RfA G ob t f):RfE G ob (λσ H Q=>t σ H λJ H1=>r J H1 Q) (λρ=>(f ρ).bind g):=λρ d e σ H W rl w Q q=>by
 cases h1:f ρ with
 |none=>simp[h1]at e
 |some ds=>
  have e:g ds=ac d:=by simpa[h1]using e
  refine h ρ ds h1 σ H W rl w _ λxs H' L s rx O nd=>?_;refine F ds d e xs H' _ L rx nd (w.tmp O) (w.add s rx.dom) Q λv H2 L2 I r2 f2 Z=>?_;refine q v H2 L2 (s.trans I) ?_ (λa Y=>(f2 a Y).elim (O a) λz=>s.none' z) Z;exact r2.up ⟨Same.refl _,λb u U f=>⟨λz=>z.elim (λz=>f.1 2.29) λz=>f.1 (.inr ⟨.inr z,WOk.new w O z⟩),f.2⟩,λ_ _ _ f=>f⟩
def eAp(g:List D->Option D)(f:En->Option 2.79):En->Option D:=λρ=>(f ρ).bind g
def XH{r:V->List V->Hp->VK->Prop}{g:D->List D->Option D}{ty:V->Hp->Prop}{to:TE}{fo:En->Option D}(F:MtV G r g)(a1:∀dx ds d,g dx ds=ac d->∀(x:V)(H:Hp)(W:Wn)(O:List Addr),Rep G H W dx x O->ty x H)
  (h0:RfE G ob to fo) (h:RfA G ob t f):RfE G ob (λσ H Q=>to σ H λx H1=>ty x H1/\t σ H1 λxs H2=>r x xs H2 Q) (λρ=>(fo ρ).bind λx=>(f ρ).bind λds=>g x ds):=λρ d e σ H W rl w Q q=>by
 cases h1:fo ρ with
 |none=>simp[h1]at e
 |some dx=>
  cases h2:f ρ with
  |none=>simp[h1,h2]at e
  |some ds=>
   have e:g dx ds=ac d:=by simpa[h1,h2]using e
   refine h0 ρ dx h1 σ H W rl w _ λx H1 L Z rx fx nx=>⟨a1 dx ds d e x H1 _ L rx,?_⟩;have u1:Up H H1 W (W.add L):=.add Z fx;have w1:WOk H1 (W.add L):=w.add Z rx.dom;refine h ρ ds h2 σ H1 2.55 (rl.up u1) w1 _ λys H2 M I ry fy ny=>?_;have a0:∀a∈L,a∉M:=λa h1 h2=>by
    obtain⟨o,F,_⟩:=rx.dom a h1;rw[fy a h2]at F;cases F
   have u2:Up H1 H2 2.55 (W.add (L++M)):=⟨I,λb u U f=>⟨λz=>z.elim (λz=>(Ls.mp z).elim (λz=>f.1 2.29) λz=>by rw[fy b z]at U;cases U) λz=>f.1 2.42,f.2⟩,λ_ _ _ f=>f⟩;have u3:Up H2 H2 ((W.add L).add M) (W.add (L++M)):=⟨Same.refl _,λb u U f=>⟨λz=>by
    rcases z with z|z
    .exact(Ls.mp z).elim (λz=>f.1 2.186) λz=>f.1 2.29
    .exact f.1 2.187,f.2⟩,λ_ _ _ f=>f⟩
   have w2:WOk H2 (W.add (L++M)):=w.add 2.143 λa Y=>(Ls.mp Y).elim (λz=>let⟨o,h,m⟩:=rx.dom a z;⟨o,I a o h,m⟩) (ry.dom a);refine F dx ds d e x ys H2 (W.add (L++M)) L M (rx.up u2) (ry.up u3) (fD nx ny a0) (w.tmp λa Y=>(Ls.mp Y).elim (fx a) λz=>Z.none' (fy a z)) w2 Q λv H3 L3 J r3 f3 n3=>?_;refine q v H3 L3 ((Z.trans I).trans J) ?_ (λa Y=>(f3 a Y).elim (λz=>?_) λz=>(Z.trans I).none' z) n3
   .exact r3.up ⟨Same.refl _,λb u U f=>⟨λz=>z.elim (λz=>f.1 2.29) λz=>f.1 (.inr ⟨.inr z,WOk.new w (λa Y=>(Ls.mp Y).elim (fx a) λz=>Z.none' (fy a z)) z⟩),f.2⟩,λ_ _ _ f=>f⟩
   .rcases Ls.mp z with z|z
    .exact fx a z
    .exact Z.none' (fy a z)
variable{a b:Expr}
def bR{op:Operator}(o:OpB X G (abg op) g)(Y:PV X G ob a fa)(U:PV X G ob b fb):PV X G ob (.BinOp a op b pos) (e2 g fa fb):=let⟨r,o1,o2⟩:=o.ex;let⟨t,a1,a2⟩:=Y.ex;let⟨u,b1,b2⟩:=U.ex;⟨_,λc=>Ur (o1 c) (a1 c) (b1 c),Fb o2 a2 b2⟩
def nj(o:OpB X G (aar op) g)(Y:PV X G ob a fa)(U:PV X G ob b fb)(J:acN op b=ae:=by with_unfolding_all rfl):PV X G ob (.Compare a [op] [b] pos) (e2 g fa fb):=let⟨r,o1,o2⟩:=o.ex;let⟨t,a1,a2⟩:=Y.ex;let⟨u,b1,b2⟩:=U.ex;⟨_,λc=>Il (o1 c) (a1 c) (b1 c) J,Fb o2 a2 b2⟩
def lF{op:UnaryOp}{g:D->Option D}(o:UnB X G (unaryOp op) g)(Y:PV X G ob a fa):PV X G ob (.UnaryOp op a pos) (e1 g fa):=let⟨r,o1,o2⟩:=o.ex;let⟨t,a1,a2⟩:=Y.ex;⟨_,λc=>Xz (o1 c) (a1 c),YQ o2 a2⟩
def cT(o:IxB X G g)(Y:PV X G ob a fa)(U:PV X G ob b fb)(hs:oV b:=by exact λ_ _=>rfl):PV X G ob (.Subscript a b pos) (e2 g fa fb):=let⟨r,o1,o2⟩:=o.ex;let⟨t,a1,a2⟩:=Y.ex;let⟨u,b1,b2⟩:=U.ex;⟨_,λc=>Em (o1 c) (a1 c) (b1 c) hs,Fb o2 a2 b2⟩
def aq:PVA X G ob [] au:=⟨_,λc=>K3,Fv⟩
def aa{f:En->Option D}(Y:PV X G ob e f)(Z:PVA X G ob es O)(hs:∀c,Z1 (e::es) (X c).env=(ae,eval e (X c).env)::Z1 es (X c).env:=by intro _;rfl):PVA X G ob (e::es) (aj f O):=let⟨t,a1,a2⟩:=Y.ex;let⟨u,b1,b2⟩:=Z.ex;⟨_,λc=>vg (a1 c) (b1 c) (hs c),Q7 a2 b2⟩
def aL{id:String}{g:List D->Option D}(o:CaB X G 2.58 g)(F:∀c,Gl (X c) x)(J:∀c,(X c).mg x=af)(Z:abx x=ac 2.58)(Y:PVA X G ob (e::es) f)(hn:x≠"__name__":=by decide)(q:(x==("__debug__":Str))=ae:=by decide)(V:∀c,Z1 (e::es) (X c).env=(ae,eval e (X c).env)::Z1 es (X c).env:=by intro _;rfl)(U:∀c,(aa1 pos (Z1 es (X c).env)).any (·.1)=ae:=by intro _;rfl):PV X G ob (.Call 2.117 (e::es) [] pos) (eAp g f):=let⟨r,o1,o2⟩:=o.ex;let⟨t,a1,a2⟩:=Y.ex;⟨_,λc=>Qn (o1 c) (F c) (J c) Z (a1 c) hn q (V c) (U c),wG o2 a2⟩
def jA{g:List D->Option D}(o:CaB X G (.type T) g)(F:∀c,Gl (X c) x)(J:∀c,(X c).mg x=af)(Z:abx x=ac (.type T))(Y:PVA X G ob (e::es) f)(hn:x≠"__name__":=by decide)(q:(x==("__debug__":Str))=ae:=by decide)(V:∀c,Z1 (e::es) (X c).env=(ae,eval e (X c).env)::Z1 es (X c).env:=by intro _;rfl)(U:∀c,(aa1 pos (Z1 es (X c).env)).any (·.1)=ae:=by intro _;rfl):PV X G ob (.Call 2.117 (e::es) [] pos) (eAp g f):=let⟨r,o1,o2⟩:=o.ex;let⟨t,a1,a2⟩:=Y.ex;⟨_,λc=>zj (o1 c) (F c) (J c) Z (a1 c) hn q (V c) (U c),wG o2 a2⟩
def bx(ds:List D):Option D:=if ds.length<=1000 then ac 2.97 else af
def bA(ds:List D):Option D:=if ds.length<=1000 then ac 2.40 else af
def Dm(h:n<=1000):n<=Z0:=aaC h (by decide)
def HN:CaV G (λxs H Q=>xs.length<=Z0/\∀p,H p=af->Q 2.49 (upd H p 2.54)) bx:=λds d e xs H W I r nd hn w Q q=>by
 unfold bx at e;split at e
 .rename_i hl
  cases e;refine⟨Dm (by rw[←r.length];exact hl),λp V=>?_⟩;have J:Same H (upd H p 2.54):=Same.new V;refine q 2.49 _ I J ?_ (λa Y=>.inl Y) nd;rw[Rep];exact⟨p,xs,rfl,aR,r.up ⟨J,λb u U f=>⟨λz=>z.elim (λz=>f.1 (hn b z).1) λz=>f.1 z.1,f.2⟩,λ_ _ _ f=>f⟩⟩
 .cases e
def HB:CaV G (λxs H Q=>xs.length<=Z0/\∀p,H p=af->Q 2.49 (upd H p 2.44)) bA:=λds d e xs H W I r nd hn w Q q=>by
 unfold bA at e;split at e
 .rename_i hl
  cases e;refine⟨Dm (by rw[←r.length];exact hl),λp V=>?_⟩;have J:Same H (upd H p 2.44):=Same.new V;refine q 2.49 _ (p::I) J ?_ (λa Y=>(Z2.mp Y).elim (λz=>.inr (by rw[z];exact V)) .inl) (aah.mpr ⟨λz=>?_,nd⟩)
  .rw[Rep]
   exact⟨p,xs,I,rfl,r.up ⟨J,λb u U f=>⟨λz=>z.elim (λz=>(Z2.mp z).elim (λz=>by rw[z,V]at U;cases U) λz=>f.1 (hn b z).1) λz=>f.1 z.1,f.2⟩,λ_ _ _ f=>f⟩,aR,rfl⟩
  .obtain⟨o,ho,_⟩:=r.dom p z
   rw[V]at ho;cases ho
 .cases e
variable{k:Nat}
def eQ(h:PVA X G ob es f):PV X G ob 2.127 (eAp bx f):=let⟨t,a1,a2⟩:=h.ex;⟨_,λc=>KD (a1 c),wG HN a2⟩
def d_(h:PVA X G ob es f):PV X G ob (.List es pos) (eAp bA f):=let⟨t,a1,a2⟩:=h.ex;⟨_,λc=>PK (a1 c),wG HB a2⟩
section
variable{G:Gc}{ob:Nat->Bool}{H H1 H2:Hp}{S S1 S2:Ad}{L M:List Addr}{ρ ρ1:En}{σ:L2.St}{Fr:Addr->Prop}
def Eff.refl:Eff ob H H S S []:=⟨λ_ _ h _=>h,λ_ _=>rfl,λi a h z=>.inl ⟨i,h,z⟩,by simp⟩
def Eff.back(e:Eff ob H H1 S S1 L){a:Addr}(h:H1 a=af):inO ob S a∨H a=af:=by
 by_cases z:inO ob S a
 .exact .inl z
 .refine .inr ?_
  cases q:H a with
  |none=>rfl
  |some u=>rw[e.kp a u q z]at h;cases h
def Eff.inO(e:Eff ob H H1 S S1 L){a:Addr}(h:inO ob S1 a):inO ob S a∨H a=af:=let⟨i,h1,h2⟩:=h;e.gr i a h1 h2
def Eff.notO(e:Eff ob H H1 S S1 L){a:Addr}{u:HO}(h:H a=ac u)(n:¬Jb.inO ob S a):¬Jb.inO ob S1 a:=λz=>(e.inO z).elim n λz=>by rw[h]at z;cases z
def Eff.trans(a:Eff ob H H1 S S1 L)(b:Eff ob H1 H2 S1 S2 M):Eff ob H H2 S S2 (L++M)where
 kp:=λc u h n=>b.kp c u (a.kp c u h n) (a.notO h n)
 sn:=λi h=>(b.sn i h).trans (a.sn i h)
 gr:=λi c h z=>(b.gr i c h z).elim a.inO a.back
 fm:=λc O=>(Ls.mp O).elim (a.fm c) λz=>(b.fm c z).elim a.inO a.back
def Eff.same(a:Eff ob H H1 S S1 L)(s:Same H1 H2)(h:∀c∈M,c∈L∨H1 c=af):Eff ob H H2 S S1 M where
 kp:=λc u O n=>s c u (a.kp c u O n)
 sn:=a.sn
 gr:=a.gr
 fm:=λc O=>(h c O).elim (a.fm c) a.back
def Sta.notO(s:Sta G H ob ρ σ S Fr){a:Addr}(h:Fr a):¬inO ob S a:=λ⟨i,_,z⟩=>s.fdj i a h z
def Sta.tmp(s:Sta G H ob ρ σ S Fr){a:Addr}(h:Fr a):(wn ob S Fr).tmp a:=⟨h,λ⟨i,_,z⟩=>s.fdj i a h z,λ⟨i,_,z⟩=>s.fdj i a h z⟩
def Eff.evo(s:Sta G H ob ρ σ S Fr)(e:Eff ob H H1 S S1 M):Evo H H1 2.48 (wn ob S1 2.16)where
 k:=λb u h f=>⟨e.kp b u h f.2.2,λz=>z.elim (λz=>(e.fm b z).elim f.2.2 λq=>by rw[h]at q;cases q) f.1,λ⟨i,h1,h2⟩=>f.2.1 ⟨i,h1,by rw[←e.sn i h1];exact h2⟩,e.notO h f.2.2⟩
 t:=λb xs h=>by
  have D:∀u,H b=ac u->muO u=ae->H1 b=ac u:=λu hu m=>e.kp b u hu λ⟨i,_,z⟩=>by
   obtain⟨o,F,J⟩:=s.mu z;rw[hu]at F;cases F;rw[m]at J;cases J
  exact D _ h rfl
def Eff.evoN(s:Sta G H ob ρ σ S Fr)(e:Eff ob H H1 S S1 M):Mh H H1 2.48 (wn ob S1 2.16):=λb u h ⟨i,h1,h2⟩=>
 ⟨e.kp b u h (λ⟨j,q1,q2⟩=>by rw[s.dj i j b h2 q2,q1]at h1;cases h1),⟨i,h1,by rw[e.sn i h1];exact h2⟩⟩
def Eff.keepsF(s:Sta G H ob ρ σ S Fr)(e:Eff ob H H1 S S1 M){a:Addr}(h:Fr a):∀u,H a=ac u->H1 a=ac u:=λu hu=>e.kp a u hu (s.notO h)
def oN{L M:List Addr}:plus M 2.74=plus (L++M) Fr:=by
 funext a;simp![plus,Ls,eq_iff_iff];constructor
 .rintro(z|z|z)
  .exact .inl 2.42
  .exact .inl 2.29
  .exact .inr z
 .rintro((z|z)|z)
  .exact .inr 2.29
  .exact .inl z
  .exact .inr 2.42
def Uu{F:List Addr}{d:D}{v:V}(s:Sta G H1 ob ρ1 σ S1 2.74)(e:Eff ob H H1 S S1 L)(J:Same H1 H2)(r:Rep G H2 (((wn ob S1 2.74).drop L).add F) d v F)(f:∀a∈F,a∈L∨H1 a=af)(I:Sta G H ob ρ σ S Fr) :
  Sta G H2 ob ρ1 σ S1 (plus F Fr)/\Rep G H2 (wn ob S1 (plus F Fr)) d v F/\Eff ob H H2 S S1 F:=by
 refine⟨s.grow J λa h=>?_,r.up ⟨Same.refl _,λb u U q=>⟨λz=>?_,q.2⟩,λ_ _ _ q=>q⟩,e.same J f⟩
 .rcases h with h|h
  .exact(f a h).imp .inl λz=>⟨z,r.dom a h⟩
  .exact .inl (.inr h)
 .rcases z with z|z
  .exact q.1 2.29
  .refine q.1 (.inr ⟨.inr z,λh=>?_⟩)
   rcases e.fm b h with y|y
   .exact I.notO z y
   .obtain⟨o,ho,_⟩:=I.fdm b z
    rw[y]at ho;cases ho
end
def eUp(f:En->Option D):En->Option (D×En):=λρ=>(f ρ).map λd=>(d,ρ)
def Cm{f:En->Option D}(h:RfE G ob ta f):l_ G ob ta (eUp f):=λρ d ρ' e σ H S Fr s Q q=>by
 unfold eUp at e;cases h1:f ρ with
 |none=>rw[h1]at e;cases e
 |some d0=>
  rw[h1]at e;cases e;refine h ρ d h1 σ H _ s.rel s.wok Q λv H' L J r O nd=>?_;exact q v H' L S (s.grow J λa z=>z.elim (λz=>.inr ⟨O a z,r.dom a z⟩) .inl) r nd ⟨λb u U _=>J b u U,λ_ _=>rfl,λi a h z=>.inl ⟨i,h,z⟩,λa Y=>.inr (O a Y)⟩
def An(f:En->Option Bool):En->Option (Bool×En):=λρ=>(f ρ).map λd=>(d,ρ)
def OJ{t:TT}{f:En->Option Bool}(h:RfT G ob t f):Dl G ob t (An f):=λρ d ρ' e σ H S Fr s Q q=>by
 unfold An at e;cases h1:f ρ with
 |none=>rw[h1]at e;cases e
 |some d0=>
  rw[h1]at e;cases e;refine h ρ d h1 σ H _ s.rel s.wok Q λH' J=>?_;exact q H' S (s.grow J λa z=>.inl z) ⟨λb u U _=>J b u U,λ_ _=>rfl,λi a h z=>.inl ⟨i,h,z⟩,by simp⟩
def bF(f:En->Option 2.79):En->Option (List D×En):=λρ=>(f ρ).map λd=>(d,ρ)
def Pz(h:RfA G ob t f):DY G ob t (bF f):=λρ d ρ' e σ H S Fr s Q q=>by
 unfold bF at e;cases h1:f ρ with
 |none=>rw[h1]at e;cases e
 |some d0=>
  rw[h1]at e;cases e;refine h ρ d h1 σ H _ s.rel s.wok Q λv H' L J r O nd=>?_;exact q v H' L S (s.grow J λa z=>z.elim (λz=>.inr ⟨O a z,r.dom a z⟩) .inl) r nd ⟨λb u U _=>J b u U,λ_ _=>rfl,λi a h z=>.inl ⟨i,h,z⟩,λa Y=>.inr (O a Y)⟩
def dq{f:En->Option D}(h:PV X G ob e f):PVe X G ob e (eUp f):=let⟨t,a1,a2⟩:=h.ex;⟨t,a1,Cm a2⟩
def Rf{f:En->Option Bool}(h:PVT X G ob e f):Gn X G ob e (An f):=let⟨t,a1,a2⟩:=h.ex;⟨t,a1,OJ a2⟩
def aY{e:List Expr}(h:PVA X G ob e f):wu X G ob e (bF f):=let⟨t,a1,a2⟩:=h.ex;⟨t,a1,Pz a2⟩
variable{fa fb:En->Option (D×En)}
def l_.two(Y:l_ G ob ta fa)(U:l_ G ob tb fb){ρ1 ρ2:En}{dx dy:D}(e1:fa ρ=ac (dx,ρ1))(e2:fb ρ1=ac (dy,ρ2))(J:az dx=ag){Fr:Addr->Prop}(s:Sta G H ob ρ σ S Fr)
  (h:∀x y H' L M S',Sta G H' ob ρ2 σ S' (plus (L++M) Fr)->Rep G H' (wn ob S' (plus (L++M) Fr)) dx x L->Rep G H' (wn ob S' (plus (L++M) Fr)) dy y M->(L++M).Nodup->Eff ob H H' S S' (L++M)->R x y H'):ta σ H λx H1=>tb σ H1 λy H2=>R x y H2:=by
 refine Y ρ dx ρ1 e1 σ H S Fr s _ λx H1 L S1 Z rx nx f1=>?_;refine U ρ1 dy ρ2 e2 σ H1 S1 2.74 Z _ λy H2 M S2 I F ny q=>?_;have a0:=rx.mono (q.evo Z) (.inr (q.evoN Z)) (.inl J) λc O u hu=>q.keepsF Z (.inl O) u hu;rw[oN]at I F a0;refine h x y H2 L M S2 I a0 F (fD nx ny λa h1 h2=>?_) (f1.trans q);rcases q.fm a h2 with z|z
 .exact Z.notO (.inl h1) z
 .obtain⟨o,ho,_⟩:=rx.dom a h1
  rw[z]at ho;cases ho
def ee2(g:D->D->Option D)(fa fb:En->Option (D×En)):En->Option (D×En):=λρ=>(fa ρ).bind λp=>(fb p.2).bind λq=>if az p.1 then(g p.1 q.1).map λd=>(d,q.2)else af
def wU{r:R2}(F:OpV G r g)(Y:l_ G ob ta fa)(U:l_ G ob tb fb):l_ G ob (tOp r ta tb) (ee2 g fa fb):=λρ d ρ' e σ H S Fr s Q q=>by
 unfold ee2 at e;cases h1:fa ρ with
 |none=>simp[h1]at e
 |some p=>
  obtain⟨dx,ρ1⟩:=p;cases h2:fb ρ1 with
  |none=>simp[h1,h2]at e
  |some p=>
   obtain⟨I,ρ2⟩:=p;cases J:az dx with
   |false=>simp[h1,h2,J]at e
   |true=>
    cases O:g dx I with
    |none=>simp[h1,h2,J,O]at e
    |some d'=>
     obtain⟨rfl,rfl⟩:d'=d/\ρ2=ρ':=by simpa[h1,h2,J,O]using e
     refine l_.two Y U h1 h2 J s λx y H' L M S' s' rx ry nd ef=>?_;refine F dx I _ O x y H' _ L M rx ry nd (λa Y=>s'.tmp (.inl Y)) s'.wok Q λv z L3 V r3 Z n3=>?_;obtain⟨q1,q2,q3⟩:=Uu s' ef V r3 Z s;exact q v z L3 S' q1 q2 n3 q3
def ee1(g:D->Option D)(fa:En->Option (D×En)):En->Option (D×En):=λρ=>(fa ρ).bind λp=>(g p.1).map λd=>(d,p.2)
def bQ(fa:En->Option (D×En))(O:En->Option (List D×En)):En->Option (List D×En):=λρ=>(fa ρ).bind λp=>(O p.2).bind λq=>if az p.1 then ac (p.1::q.1,q.2)else af
def Nz{fr:En->Option (List D×En)}(Y:l_ G ob ta fa)(Z:DY G ob t fr):DY G ob (H_ ta t) (bQ fa fr):=λρ ds ρ' e σ H S Fr s Q q=>by
 unfold bQ at e;cases h1:fa ρ with
 |none=>simp[h1]at e
 |some p=>
  obtain⟨dx,ρ1⟩:=p;cases h2:fr ρ1 with
  |none=>simp[h1,h2]at e
  |some p=>
   obtain⟨es,ρ2⟩:=p;cases J:az dx with
   |false=>simp[h1,h2,J]at e
   |true=>
    obtain⟨rfl,rfl⟩:dx::es=ds/\ρ2=ρ':=by simpa[h1,h2,J]using e
    refine Y ρ dx ρ1 h1 σ H S Fr s _ λx H1 L S1 s1 rx nx V=>?_;refine Z ρ1 es _ h2 σ H1 S1 2.74 s1 _ λys H2 M S2 I F U f2=>?_;have a0:=rx.mono (f2.evo s1) (.inr (f2.evoN s1)) (.inl J) λc O u hu=>f2.keepsF s1 (.inl O) u hu;rw[oN]at I F a0;refine q (x::ys) H2 (L++M) S2 I (.cons a0 F) (fD nx U λa h1 h2=>?_) (V.trans f2);rcases f2.fm a h2 with z|z
    .exact s1.notO (.inl h1) z
    .obtain⟨o,ho,_⟩:=rx.dom a h1
     rw[z]at ho;cases ho
def mY(g:List D->Option D)(f:En->Option (List D×En)):En->Option (D×En):=λρ=>(f ρ).bind λp=>(g p.1).map λd=>(d,p.2)
variable{f:En->Option (List D×En)}
def Gf{g:List D->Option D}(F:CaV G r g)(h:DY G ob t f):l_ G ob (λσ H Q=>t σ H λJ H1=>r J H1 Q) (mY g f):=λρ d ρ' e σ H S Fr s Q q=>by
 unfold mY at e;cases h1:f ρ with
 |none=>simp[h1]at e
 |some p=>
  obtain⟨ds,ρ1⟩:=p;cases O:g ds with
  |none=>simp[h1,O]at e
  |some d'=>
   obtain⟨rfl,rfl⟩:d'=d/\ρ1=ρ':=by simpa[h1,O]using e
   refine h ρ ds _ h1 σ H S Fr s _ λxs H' L S' s' rx nd I=>?_;refine F ds _ O xs H' _ L rx nd (λa Y=>s'.tmp (.inl Y)) s'.wok Q λv z L3 s3 U Z n3=>?_;obtain⟨q1,q2,q3⟩:=Uu s' I s3 U Z s;exact q v z L3 S' q1 q2 n3 q3
def lO{op:Operator}(o:OpB X G (abg op) g)(Y:PVe X G ob a fa)(U:PVe X G ob b fb):PVe X G ob (.BinOp a op b pos) (ee2 g fa fb):=let⟨r,o1,o2⟩:=o.ex;let⟨t,a1,a2⟩:=Y.ex;let⟨u,b1,b2⟩:=U.ex;⟨_,λc=>Ur (o1 c) (a1 c) (b1 c),wU o2 a2 b2⟩
def Tc(o:OpB X G (aar op) g)(Y:PVe X G ob a fa)(U:PVe X G ob b fb)(J:acN op b=ae:=by with_unfolding_all rfl):PVe X G ob (.Compare a [op] [b] pos) (ee2 g fa fb):=let⟨r,o1,o2⟩:=o.ex;let⟨t,a1,a2⟩:=Y.ex;let⟨u,b1,b2⟩:=U.ex;⟨_,λc=>Il (o1 c) (a1 c) (b1 c) J,wU o2 a2 b2⟩
def m9(o:IxB X G g)(Y:PVe X G ob a fa)(U:PVe X G ob b fb)(hs:oV b:=by exact λ_ _=>rfl):PVe X G ob (.Subscript a b pos) (ee2 g fa fb):=let⟨r,o1,o2⟩:=o.ex;let⟨t,a1,a2⟩:=Y.ex;let⟨u,b1,b2⟩:=U.ex;⟨_,λc=>Em (o1 c) (a1 c) (b1 c) hs,wU o2 a2 b2⟩
def bU{f:En->Option (D×En)}{O:En->Option (List D×En)}(Y:PVe X G ob e f)(Z:wu X G ob es O)(hs:∀c,Z1 (e::es) (X c).env=(ae,eval e (X c).env)::Z1 es (X c).env:=by intro _;rfl):wu X G ob (e::es) (bQ f O):=let⟨t,a1,a2⟩:=Y.ex;let⟨u,b1,b2⟩:=Z.ex;⟨_,λc=>vg (a1 c) (b1 c) (hs c),Nz a2 b2⟩
def G8{g:List D->Option D}(o:CaB X G (.type T) g)(F:∀c,Gl (X c) x)(J:∀c,(X c).mg x=af)(Z:abx x=ac (.type T))(Y:wu X G ob (e::es) f)(hn:x≠"__name__":=by decide)(q:(x==("__debug__":Str))=ae:=by decide)(V:∀c,Z1 (e::es) (X c).env=(ae,eval e (X c).env)::Z1 es (X c).env:=by intro _;rfl)(U:∀c,(aa1 pos (Z1 es (X c).env)).any (·.1)=ae:=by intro _;rfl):PVe X G ob (.Call 2.117 (e::es) [] pos) (mY g f):=let⟨r,o1,o2⟩:=o.ex;let⟨t,a1,a2⟩:=Y.ex;⟨_,λc=>zj (o1 c) (F c) (J c) Z (a1 c) hn q (V c) (U c),Gf o2 a2⟩
def Hi(h:wu X G ob es f):PVe X G ob 2.127 (mY bx f):=let⟨t,a1,a2⟩:=h.ex;⟨_,λc=>KD (a1 c),Gf HN a2⟩
def R7(h:wu X G ob es f):PVe X G ob (.List es pos) (mY bA f):=let⟨t,a1,a2⟩:=h.ex;⟨_,λc=>PK (a1 c),Gf HB a2⟩
def truth:D->Option Bool
 |.non=>ac ae
 |.bl b=>ac b
 |.int i=>ac (i !=0)
 |.str y=>if y.length<=Z0 then ac ((y.length:Int)!=0)else af
 |.lst _ ds=>ac (!ds.isEmpty)
 |.tup ds=>ac (!ds.isEmpty)
 |.dct m _ ds=>if m= .scr then af else ac (!ds.isEmpty)
 |_=>af
def tG(r:aJ G H W ds xs L):ds.isEmpty=xs.isEmpty:=by
 have:=r.length;cases ds<;>cases xs<;>simp_all
def Dd{k:Bool}(r:Rep G H W d v L)(h:truth d=ac k):Nf G.K v H k:=by
 cases d with
 |non=>rw[Rep]at r;obtain⟨rfl,_⟩:=r;cases h;rfl
 |bl b=>rw[Rep]at r;obtain⟨rfl,_⟩:=r;cases h;rfl
 |int i=>rw[Rep]at r;obtain⟨rfl,_⟩:=r;cases h;rfl
 |str y=>
  rw[Rep]at r;obtain⟨rfl,_⟩:=r;simp![truth]at h;split at h
  .cases h;exact⟨‹_›,rfl⟩
  .cases h
 |ty n=>cases h
 |tup ds=>
  rw[Rep]at r;obtain⟨a,xs,rfl,U,Z⟩:=r;cases h;exact .inr (.inl ⟨xs,SqT.of U,by rw[tG Z]⟩)
 |lst m ds=>
  rw[Rep]at r;obtain⟨a,xs,M,rfl,Z,hs⟩:=r;cases h;exact .inl ⟨xs,hs.sq,by rw[tG Z]⟩
 |dct m ks ds=>
  rw[Rep]at r;obtain⟨a,kvs,M,rfl,I,Z,hs⟩:=r;simp![truth]at h;split at h
  .cases h
  .cases h
   refine .inr (.inr ⟨kvs,hs.at ‹_›,?_⟩);rw[tG Z];cases kvs<;>rfl
 |ins m c fs ds=>cases h
section
variable{ι:Type}{X:ι->Cx}{G:Gc}{ob:Nat->Bool}{a b:Expr}{pos:Pos}
def gQ(f:En->Option D):En->Option Bool:=λρ=>(f ρ).bind truth
def CN(f:En->Option (D×En)):En->Option (Bool×En):=λρ=>(f ρ).bind λp=>(truth p.1).map λb=>(b,p.2)
def U4{ta:TE}{f:En->Option D}(h:RfE G ob ta f):RfT G ob (λσ H Q=>ta σ H λx H'=>∃k,Nf G.K x H' k/\Q k H') (gQ f):=λρ k e σ H W J w Q q=>by
 unfold gQ at e;cases h1:f ρ with
 |none=>simp[h1]at e
 |some d=>
  have e:truth d=ac k:=by simpa[h1]using e
  exact h ρ d h1 σ H W J w _ λx H' L s r O nd=>⟨k,Dd r e,q H' s⟩
def QB{ta:TE}{f:En->Option (D×En)}(h:l_ G ob ta f):Dl G ob (λσ H Q=>ta σ H λx H'=>∃k,Nf G.K x H' k/\Q k H') (CN f):=λρ k ρ' e σ H S Fr s Q q=>by
 unfold CN at e;cases h1:f ρ with
 |none=>simp[h1]at e
 |some p=>
  obtain⟨d,ρ1⟩:=p;cases h2:truth d with
  |none=>simp[h1,h2]at e
  |some V=>
   obtain⟨rfl,rfl⟩:V=k/\ρ1=ρ':=by simpa[h1,h2]using e
   exact h ρ d _ h1 σ H S Fr s _ λx H' M S' s' r nd I=>⟨_,Dd r h2,q H' S' (s'.lessF λa z=>.inr z) (I.same (Same.refl _) (by simp))⟩
def eO{f:En->Option D}(h:PV X G ob a f)(V:∀c,∀q,aeW a (X c).env q=(do let v ←q;afV a.pos;adA [v] (truthy v)):=by intro _;intro _;rfl)(J:∀c,(X c).K=G.K:=by intro _;rfl):PVT X G ob a (gQ f):=let⟨t,a1,a2⟩:=h.ex;⟨_,λc=>(by have h:=Dr (a1 c) (V c);rw[J c]at h;exact h),U4 a2⟩
def K5{f:En->Option (D×En)}(h:PVe X G ob a f)(V:∀c,∀q,aeW a (X c).env q=(do let v ←q;afV a.pos;adA [v] (truthy v)):=by intro _;intro _;rfl)(J:∀c,(X c).K=G.K:=by intro _;rfl):Gn X G ob a (CN f):=let⟨t,a1,a2⟩:=h.ex;⟨_,λc=>(by have h:=Dr (a1 c) (V c);rw[J c]at h;exact h),QB a2⟩
def isB:D->Option Bool
 |.bl b=>ac b
 |_=>af
def eB(f:En->Option D):En->Option Bool:=λρ=>(f ρ).bind isB
def eeB(f:En->Option (D×En)):En->Option (Bool×En):=λρ=>(f ρ).bind λp=>(isB p.1).map λb=>(b,p.2)
def qT{d:D}{k:Bool}(h:isB d=ac k):d= .bl k:=by
 cases d<;>simp[isB]at h;rw[h]
def Y0{ta:TE}{f:En->Option D}(h:RfE G ob ta f):RfT G ob (Hy ta) (eB f):=λρ k e σ H W J w Q q=>by
 unfold eB at e;cases h1:f ρ with
 |none=>simp[h1]at e
 |some d=>
  have e:isB d=ac k:=by simpa[h1]using e
  have:=qT e;subst this;refine h ρ _ h1 σ H W J w _ λx H' L s r O nd=>⟨k,?_,q H' s⟩;rw[Rep]at r;exact r.1
def Yl{ta:TE}{f:En->Option (D×En)}(h:l_ G ob ta f):Dl G ob (Hy ta) (eeB f):=λρ k ρ' e σ H S Fr s Q q=>by
 unfold eeB at e;cases h1:f ρ with
 |none=>simp[h1]at e
 |some p=>
  obtain⟨d,ρ1⟩:=p;cases h2:isB d with
  |none=>simp[h1,h2]at e
  |some V=>
   obtain⟨rfl,rfl⟩:V=k/\ρ1=ρ':=by simpa[h1,h2]using e
   have:=qT h2;subst this;refine h ρ _ _ h1 σ H S Fr s _ λx H' M S' s' r nd I=>⟨V,?_,q H' S' (s'.lessF λa z=>.inr z) (I.same (Same.refl _) (by simp))⟩;rw[Rep]at r;exact r.1
def a_{fa fb:En->Option D}{op:CmpOp}{g:D->D->Option D}(o:OpB X G (aar op) g)(Y:PV X G ob a fa)(U:PV X G ob b fb)(J:acN op b=ae:=by with_unfolding_all rfl):PVT X G ob (.Compare a [op] [b] pos) (eB (e2 g fa fb)):=let⟨r,o1,o2⟩:=o.ex;let⟨t,a1,a2⟩:=Y.ex;let⟨u,b1,b2⟩:=U.ex;⟨_,λc=>Iw (o1 c) (a1 c) (b1 c) J,Y0 (Fb o2 a2 b2)⟩
def Ci{fa fb:En->Option (D×En)}{op:CmpOp}{g:D->D->Option D}(o:OpB X G (aar op) g)(Y:PVe X G ob a fa)(U:PVe X G ob b fb)(J:acN op b=ae:=by with_unfolding_all rfl):Gn X G ob (.Compare a [op] [b] pos) (eeB (ee2 g fa fb)):=let⟨r,o1,o2⟩:=o.ex;let⟨t,a1,a2⟩:=Y.ex;let⟨u,b1,b2⟩:=U.ex;⟨_,λc=>Iw (o1 c) (a1 c) (b1 c) J,Yl (wU o2 a2 b2)⟩
def jO(f g:En->Option Bool):En->Option Bool:=λρ=>(f ρ).bind λc=>if c then g ρ else ac ae
def eOr(f g:En->Option Bool):En->Option Bool:=λρ=>(f ρ).bind λc=>if c then ac ag else g ρ
def iz(f:En->Option Bool):En->Option Bool:=λρ=>(f ρ).map λc=>!c
def Y6(f g:En->Option (Bool×En)):En->Option (Bool×En):=λρ=>(f ρ).bind λp=>if p.1 then g p.2 else ac (ae,p.2)
def DN(f:En->Option (Bool×En)):En->Option (Bool×En):=λρ=>(f ρ).map λp=>(!p.1,p.2)
def Xb{t u:TT}{f g:En->Option Bool}(h:RfT G ob t f)(h':RfT G ob u g):RfT G ob (Za t u) (jO f g):=λρ k e σ H W J w Q q=>by
 unfold jO at e;cases h1:f ρ with
 |none=>simp[h1]at e
 |some c=>
  refine h ρ c h1 σ H W J w _ λH1 Z=>?_;cases c with
  |false=>
   have:ae=k:=by simpa[h1]using e
   subst this;exact Ax (q H1 Z)
  |true=>
   have e:g ρ=ac k:=by simpa[h1]using e
   exact uY (h' ρ k e σ H1 W (J.up (Up.same Z)) (λa Y=>let⟨o,z,m⟩:=w a Y;⟨o,Z a o z,m⟩) Q λH2 I=>q H2 2.143)
def Zn{t u:TT}{f g:En->Option Bool}(h:RfT G ob t f)(h':RfT G ob u g):RfT G ob (tOr t u) (eOr f g):=λρ k e σ H W J w Q q=>by
 unfold eOr at e;cases h1:f ρ with
 |none=>simp[h1]at e
 |some c=>
  refine h ρ c h1 σ H W J w _ λH1 Z=>?_;cases c with
  |true=>
   have:ag=k:=by simpa[h1]using e
   subst this;exact uY (q H1 Z)
  |false=>
   have e:g ρ=ac k:=by simpa[h1]using e
   exact Ax (h' ρ k e σ H1 W (J.up (Up.same Z)) (λa Y=>let⟨o,z,m⟩:=w a Y;⟨o,Z a o z,m⟩) Q λH2 I=>q H2 2.143)
def Vj{t:TT}{f:En->Option Bool}(h:RfT G ob t f):RfT G ob (Wz t) (iz f):=λρ k e σ H W J w Q q=>by
 unfold iz at e;cases h1:f ρ with
 |none=>simp[h1]at e
 |some c=>
  have:(!c)=k:=by simpa[h1]using e
  subst this;exact h ρ c h1 σ H W J w _ λH1 Z=>q H1 Z
def Rc{t:TT}{f:En->Option (Bool×En)}(h:Dl G ob t f):Dl G ob (Wz t) (DN f):=λρ k ρ' e σ H S Fr s Q q=>by
 unfold DN at e;cases h1:f ρ with
 |none=>simp[h1]at e
 |some p=>
  obtain⟨c,ρ1⟩:=p;obtain⟨rfl,rfl⟩:(!c)=k/\ρ1=ρ':=by simpa[h1]using e
  exact h ρ c ρ1 h1 σ H S Fr s _ λH1 S1 Z V=>q H1 S1 Z V
variable{rest:List Expr}{fa fb:En->Option Bool}{ga gb:En->Option (Bool×En)}
def lQ(Y:PVT X G ob a fa)(U:PVW X G ob (.BoolOp .And (b::rest) pos) fb):PVW X G ob (.BoolOp .And (a::b::rest) pos) (jO fa fb):=let⟨t,a1,a2⟩:=Y.ex;let⟨u,b1,b2⟩:=U.ex;⟨_,λc=>Vd (a1 c) (b1 c),Xb a2 b2⟩
def fY(Y:PVT X G ob a fa)(U:PVW X G ob (.BoolOp .Or (b::rest) pos) fb):PVW X G ob (.BoolOp .Or (a::b::rest) pos) (eOr fa fb):=let⟨t,a1,a2⟩:=Y.ex;let⟨u,b1,b2⟩:=U.ex;⟨_,λc=>Xn (a1 c) (b1 c),Zn a2 b2⟩
def j0(Y:PVT X G ob a fa):PVW X G ob (.BoolOp .And [a] pos) fa:=let⟨t,a1,a2⟩:=Y.ex;⟨_,λc=>RJ (a1 c),a2⟩
def f9(Y:PVT X G ob a fa):PVW X G ob (.BoolOp .Or [a] pos) fa:=let⟨t,a1,a2⟩:=Y.ex;⟨_,λc=>Ww (a1 c),a2⟩
def gZ(h:PVW X G ob a fa):PVT X G ob a fa:=let⟨t,a1,a2⟩:=h.ex;⟨_,λc=>PW.pt (a1 c),a2⟩
def dY(Y:PVT X G ob a fa):PVT X G ob 2.95 (iz fa):=let⟨t,a1,a2⟩:=Y.ex;⟨_,λc=>Qt (a1 c),Vj a2⟩
def Oa(Y:Gn X G ob a ga):Gn X G ob 2.95 (DN ga):=let⟨t,a1,a2⟩:=Y.ex;⟨_,λc=>Qt (a1 c),Rc a2⟩
def u_(f g:En->Option D):En->Option D:=λρ=>(f ρ).bind λx=>(isB x).bind λc=>if c then g ρ else ac (.bl ae)
def CG(x:D):Option D:=(isB x).map λc=>.bl !c
def dN(c:En->Option Bool)(f g:En->Option D):En->Option D:=λρ=>(c ρ).bind λb=>if b then f ρ else g ρ
def bW(c:En->Option (Bool×En))(f g:En->Option (D×En)):En->Option (D×En):=λρ=>(c ρ).bind λp=>if p.1 then f p.2 else g p.2
def WOk.up{H H':Hp}{W:Wn}(w:WOk H W)(s:Same H H'):WOk H' W:=λa Y=>let⟨o,z,m⟩:=w a Y;⟨o,s a o z,m⟩
def Pu{G:Gc}{H:Hp}{W:Wn}{b:Bool}:Rep G H W (.bl b) (.bl b) []:=by rw[Rep];exact⟨rfl,rfl⟩
def R9{ta tb:TE}{f g:En->Option D}(h:RfE G ob ta f)(h':RfE G ob tb g):RfE G ob (Uq ta tb) (u_ f g):=λρ d e σ H W J w Q q=>by
 unfold u_ at e;cases h1:f ρ with
 |none=>simp[h1]at e
 |some x=>
  cases h2:isB x with
  |none=>simp[h1,h2]at e
  |some c=>
   have:=qT h2;subst this;refine h ρ _ h1 σ H W J w _ λv H1 L Z r O nd=>?_;rw[Rep]at r;refine⟨c,r.1,?_⟩;cases c with
   |false=>
    have:D.bl ae=d:=by simpa[h1,isB]using e
    subst this;exact Ax (q _ H1 [] Z Pu (by simp) aaq)
   |true=>
    have e:g ρ=ac d:=by simpa[h1,isB]using e
    exact uY (h' ρ d e σ H1 W (J.up (Up.same Z)) (w.up Z) Q λv H2 L I r O nd=>q v H2 L 2.143 r (λa Y=>Z.none' (O a Y)) nd)
def Tg{ta:TE}{f:En->Option D}(h:RfE G ob ta f):RfE G ob (TV ta) (e1 CG f):=λρ d e σ H W J w Q q=>by
 unfold e1 at e;cases h1:f ρ with
 |none=>simp[h1]at e
 |some x=>
  cases h2:isB x with
  |none=>simp[h1,h2,CG]at e
  |some c=>
   have:=qT h2;subst this;have:D.bl (!c)=d:=by simpa[h1,CG,isB]using e
   subst this;refine h ρ _ h1 σ H W J w _ λv H1 L Z r O nd=>?_;rw[Rep]at r;exact⟨c,r.1,q _ H1 [] Z Pu (by simp) aaq⟩
section
variable{c:Expr}{fa fb:En->Option D}{fc:En->Option Bool}
def ou(Y:PV X G ob a fa)(U:PV X G ob (.BoolOp .And (b::rest) pos) fb):PV X G ob (.BoolOp .And (a::b::rest) pos) (u_ fa fb):=let⟨t,a1,a2⟩:=Y.ex;let⟨u,b1,b2⟩:=U.ex;⟨_,λc=>VM (a1 c) (b1 c),R9 a2 b2⟩
def tQ{op}(Y:PV X G ob a fa):PV X G ob (.BoolOp op [a] pos) fa:=let⟨t,a1,a2⟩:=Y.ex;⟨_,λc=>U7 (a1 c),a2⟩
def LR(Y:PV X G ob a fa):PV X G ob 2.95 (e1 CG fa):=let⟨t,a1,a2⟩:=Y.ex;⟨_,λc=>VN (a1 c),Tg a2⟩
end
end
section
variable{G:Gc}{ob P:Nat->Bool}{H H1 H2:Hp}{S S1 S2:Ad}{L M:List Addr}{ρ ρ1:En}{σ:L2.St}{Fr:Addr->Prop}
def h_(S:Ad)(i:Nat)(M:List Addr):Ad:=λj=>if j=i then M else S j
def fG{i:Nat}:h_ S i M i=M:=if_pos rfl
def fK{i j:Nat}(h:j≠i):h_ S i M j=S j:=aag h
def dO{i j:Nat}{a:Addr}(h:a∈h_ S i M j):(j=i/\a∈M)∨(j≠i/\a∈S j):=by
 by_cases e:j=i
 .rw[e,fG]at h;exact .inl ⟨e,h⟩
 .rw[fK e]at h;exact .inr ⟨e,h⟩
def Mv.refl:Mv P H H σ σ S S M:=⟨λ_ _ h _ _=>h,λi a z=>.inl ⟨i,z⟩,.refl⟩
def Sta.store{i:Nat}{d:D}{v:V}(s:Sta G H ob ρ σ S 2.16)(r:Rep G H 2.185 d v M)(O:clean d=ag)(nd:M.Nodup)(Z:∀a∈M,¬Fr a) :
  ∃S',Sta G H ob 2.223 2.222 S' Fr/\∀j a,a∈S' j->inS S a∨a∈M:=by
 by_cases hi:i<ρ.length
 .refine⟨h_ S i M,⟨by simp[s.len],λj e F=>?_,λj U=>?_,λj=>?_,λj k a h1 h2=>?_,λj a h1 h2=>?_,λa h=>s.fdm a (.inr h)⟩,λj a h=>?_⟩
  .have ev:Evo H H 2.185 (wn ob (h_ S i M) Fr):=⟨λb u h f=>⟨h,⟨λz=>f.1 2.42,λ⟨k,h1,h2⟩=>?_,λ⟨k,h1,h2⟩=>?_⟩⟩,λ_ _ h=>h⟩
   .by_cases e:j=i
    .subst e
     have:d=e:=by simpa[hi]using F
     have:d=e:=this;subst this;have Y:j<σ.length:=by rw[←s.len];exact hi
     refine⟨v,by simp[Y],?_,O⟩;rw[fG];have q:aA d=ag/\az d=ag:=by simpa[clean]using O
     exact r.mono ev (.inl q.1) (.inl q.2) λ_ _ _ h=>h
    .rw[List.getElem?_set_ne (aaS e)]at F
     obtain⟨v',h1,h2,J⟩:=s.sl j _ F;refine⟨v',by rw[List.getElem?_set_ne (aaS e)];exact h1,?_,J⟩;rw[fK e];have q:=(by simpa[clean]using J:aA _=ag/\az _=ag);exact h2.mono ev (.inl q.1) (.inl q.2) λ_ _ _ h=>h
   .rcases dO h2 with⟨_,z⟩|⟨_,z⟩
    .exact f.1 2.29
    .exact f.2.1 ⟨k,h1,z⟩
   .rcases dO h2 with⟨_,z⟩|⟨_,z⟩
    .exact f.1 2.29
    .exact f.2.2 ⟨k,h1,z⟩
  .by_cases e:j=i
   .subst e
    exact absurd (by simp[hi]) (U d)
   .rw[fK e]
    exact s.em j λd'=>by have:=U d';rwa[List.getElem?_set_ne (aaS e)]at this
  .by_cases e:j=i
   .rw[e,fG];exact nd
   .rw[fK e];exact s.nd j
  .rcases dO h1 with⟨e1,z1⟩|⟨e1,z1⟩<;>rcases dO h2 with⟨e2,I⟩|⟨e2,I⟩
   .rw[e1,e2]
   .exact absurd I (s.fdj k a (.inl z1))
   .exact absurd z1 (s.fdj j a (.inl I))
   .exact s.dj j k a z1 I
  .rcases dO h2 with⟨_,z⟩|⟨_,z⟩
   .exact Z a z h1
   .exact s.fdj j a (.inr h1) z
  .rcases dO h with⟨_,z⟩|⟨_,z⟩
   .exact .inr z
   .exact .inl ⟨j,z⟩
 .have h1:ρ.set i (ac d)=ρ:=aeC 1.10
  have h2:σ.set i (ac v)=σ:=aeC (by rw[←s.len];omega);rw[h1,h2];exact⟨S,s.lessF λa z=>.inr z,λj a h=>.inl ⟨j,h⟩⟩
end
section
variable{ι:Type}{X:ι->Cx}{G:Gc}{ob P:Nat->Bool}
def cL:En->Option Fl:=λρ=>ac (.nx ρ)
def aU(f g:En->Option Fl):En->Option Fl:=λρ=>match f ρ with
 |some (.nx ρ')=>g ρ'
 |r=>r
def Aft.from{G:Gc}{H H1:Hp}{σ V:L2.St}{S S1:Ad}{Fr:Addr->Prop}{E:Ends}(m:Mv P H H1 σ V S S1 []):∀{r:Fl},Aft G ob P H σ S Fr E r->Aft G ob P H1 V S1 Fr E r
 |.nx ρ',h=>λF H' S' s m'=>h F H' S' s (m.trans m')
 |.brk ρ',h=>λF H' S' s m'=>h F H' S' s (m.trans m')
 |.cnt ρ',h=>λF H' S' s m'=>h F H' S' s (m.trans m')
 |.ret d ρ',h=>λv F H' M S' s r c n f m'=>h v F H' M S' s r c n (λa Y=>by
  rcases f a Y with⟨i,z⟩|z
  .exact(m.gr i a z).elim .inl λz=>z.elim (λz=>by cases z) .inr
  .by_cases q:inS S a
   .exact .inl q
   .refine .inr ?_
    cases e:H a with
    |none=>rfl
    |some u=>rw[m.kp a u e q (by simp)]at z;cases z) (m.trans m')
def Rq:RfS G ob P Ul cL:=λρ r e σ H S Fr s E h=>by
 cases e;exact h σ H S s .refl
def QJ{t u:TS}{f g:En->Option Fl}(h1:RfS G ob P t f)(h2:RfS G ob P u g):RfS G ob P (Y4 t u) (aU f g):=λρ r e σ H S Fr s E h=>by
 unfold aU at e;cases O:f ρ with
 |none=>rw[O]at e;cases e
 |some fl=>
  rw[O]at e;refine h1 ρ fl O σ H S Fr s _ ?_;cases fl with
  |nx ρ'=>exact λF H' S' s' m=>h2 ρ' r e F H' S' Fr s' E (h.from m)
  |brk ρ'=>cases e;exact h
  |cnt ρ'=>cases e;exact h
  |ret d ρ'=>cases e;exact h
def bf:o5 X G ob P [] cL:=⟨_,λc=>Q_,Rq⟩
def aB{st:Stmt}{rest:List Stmt}{f g:En->Option Fl}(h1:PVS X G ob P st f)(h2:o5 X G ob P rest g):o5 X G ob P (st::rest) (aU f g):=let⟨t,a1,a2⟩:=h1.ex;let⟨u,b1,b2⟩:=h2.ex;⟨_,λc=>Nu (a1 c) (b1 c),QJ a2 b2⟩
def aG{st:Stmt}{f:En->Option Fl}(h1:PVS X G ob P st f):o5 X G ob P [st] f:=let⟨t,a1,a2⟩:=h1.ex;⟨_,λc=>SX (a1 c),a2⟩
def tgN(i:Nat):D->En->Option En:=λd ρ=>if clean d then ac 2.223 else af
def km{i:Nat}(I:P i=ae):RfG G ob P (yw i) (tgN i):=λd ρ ρ' e v σ H S M Fr s r nd V Q q=>by
 unfold tgN at e;split at e
 .rename_i hc
  cases e;obtain⟨S',s',h⟩:=s.store r hc nd V (i:=i);refine q _ H S' s' ⟨λb u h _ _=>h,λj a z=>(h j a z).imp id .inl,λj U=>?_⟩;have:j≠i:=λz=>by rw[z,I]at U;cases U
  rw[List.getElem?_set_ne (aaS this)]
 .cases e
def cg:List D->En->Option En:=λds ρ=>match ds with
 |[]=>ac ρ
 |_=>af
def aP(f:D->En->Option En)(g:List D->En->Option En):List D->En->Option En:=λds ρ=>match ds with
 |d::r=>(f d ρ).bind λρ1=>g r ρ1
 |[]=>af
def tgT(n:Nat)(g:List D->En->Option En):D->En->Option En:=λd ρ=>match d with
 |.tup ds=>if ds.length=n/\aD ds=ag/\aF ds=ag then g ds ρ else af
 |_=>af
def M8:ZP G ob P Th cg:=λds ρ ρ' e J σ H S M Fr s r nd V Q q=>by
 cases ds with
 |nil=>
  cases e;obtain⟨rfl,rfl⟩:=r.inv0;exact⟨rfl,q σ H S (s.lessF λa z=>.inr z) .refl⟩
 |cons d r=>cases e
def NP(G:Gc)(ob P:Nat->Bool)(g:TGs)(f:List D->En->Option En):Prop:=∀(ds:List D)(ρ ρ':En),aF ds=ag->aD ds=ag->f ds ρ=ac ρ'->∀(J:List V)(σ:L2.St)(H:Hp)(S:Ad)(M:List Addr)(Fr:Addr->Prop),Sta G H ob ρ σ S 2.16->aJ G H 2.185 ds J M->M.Nodup->(∀a∈M,¬Fr a)->
 ∀Q:L2.St->Hp->Prop,(∀F H' S',Sta G H' ob ρ' F S' Fr->Mv P H H' σ F S S' M->Q F H')->g J σ H Q
def CJ:NP G ob P Th cg:=λds ρ ρ' _ _ e=>M8 ds ρ ρ' e
def tX{t:TG}{u:TGs}{f:D->En->Option En}{g:List D->En->Option En}(h1:RfG G ob P t f)(h2:NP G ob P u g):NP G ob P (Oi t u) (aP f g):=λds ρ ρ' c1 c2 e J σ H S M Fr s r nd V Q q=>by
 cases ds with
 |nil=>cases e
 |cons d ds=>
  obtain⟨x,ys,M1,M2,rfl,rfl,hx,Z⟩:=r.inv;simp![aF,aD,aaa]at c1 c2;simp![aP]at e;cases h3:f d ρ with
  |none=>rw[h3]at e;cases e
  |some ρ1=>
   have e:g ds ρ1=ac ρ':=by simpa[h3]using e
   have a0:=List.nodup_append.mp nd;have a2:plus (M1++M2) Fr=plus M1 (plus M2 Fr):=by
    funext a;simp![plus,Ls,or_assoc]
   rw[a2]at s hx Z;refine⟨x,ys,rfl,h1 d ρ ρ1 h3 x σ H S M1 (plus M2 Fr) s hx a0.1 (λa Y z=>?_) _ λa1 H1 S1 s1 m1=>?_⟩
   .rcases z with z|z
    .exact a0.2.2 a Y a z rfl
    .exact V a (ZV _ Y) z
   .have ev:Evo H H1 (wn ob S (plus M1 (plus M2 Fr))) (wn ob S1 (plus M2 Fr)):=⟨λb u U f=>?_,λb xs h=>?_⟩
    .have hr1:aJ G H1 (wn ob S1 (plus M2 Fr)) ds ys M2:=Z.mono ev (.inl c1.2) (.inl c2.2) λc O u hu=>m1.kp c u hu (λ⟨i,z⟩=>s.fdj i c (.inr (.inl O)) z) λz=>a0.2.2 c z c O rfl
     refine h2 ds ρ1 ρ' c1.2 c2.2 e ys a1 H1 S1 M2 Fr s1 hr1 a0.2.1 (λa Y=>V a (W2 _ Y)) Q λσ2 H2 S2 I m2=>q σ2 H2 S2 I ⟨λb u U n1 n2=>?_,λi a z=>?_,m1.pr.trans m2.pr⟩
     .have n3:b∉M1:=λz=>n2 2.213
      exact m2.kp b u (m1.kp b u U n1 n3) (λ⟨i,z⟩=>(m1.gr i b z).elim n1 λz=>z.elim n3 λz=>by rw[U]at z;cases z) λz=>n2 (W2 _ z)
     .rcases m2.gr i a z with⟨j,z⟩|z|z
      .exact(m1.gr j a z).imp id λz=>z.imp (ZV _) id
      .exact .inr (.inl (W2 _ z))
      .by_cases q1:inS S a
       .exact .inl q1
       .by_cases q2:a∈M1
        .exact .inr (.inl (ZV _ q2))
        .refine .inr (.inr ?_)
         cases e:H a with
         |none=>rfl
         |some u=>rw[m1.kp a u e q1 q2]at z;cases z
    .have n1:¬inS S b:=λ⟨i,z⟩=>by
      cases F:ob i with
      |false=>exact f.2.1 ⟨i,F,z⟩
      |true=>exact f.2.2 ⟨i,F,z⟩
     have n2:b∉M1:=λz=>f.1 2.29;refine⟨m1.kp b u U n1 n2,λz=>f.1 2.42,λ⟨i,_,z⟩=>?_,λ⟨i,_,z⟩=>?_⟩
     .exact(m1.gr i b z).elim n1 λz=>z.elim n2 λz=>by rw[U]at z;cases z
     .exact(m1.gr i b z).elim n1 λz=>z.elim n2 λz=>by rw[U]at z;cases z
    .have no:∀u,H b=ac u->muO u=ae->H1 b=ac u:=λu hu m=>m1.kp b u hu (λ⟨i,z⟩=>by
       obtain⟨o,F,hm⟩:=s.mu z;rw[hu]at F;cases F;rw[m]at hm;cases hm) λz=>by
       obtain⟨o,F,hm⟩:=hx.dom b z;rw[hu]at F;cases F;rw[m]at hm;cases hm
     exact no _ h rfl
def S9{n:Nat}{t:TGs}{g:List D->En->Option En}(h:NP G ob P t g):RfG G ob P (Uv G.K n t) (tgT n g):=λd ρ ρ' e v σ H S M Fr s r nd V Q q=>by
 cases d with
 |tup ds=>
  simp![tgT]at e;split at e
  .rename_i hl
   rw[Rep]at r;obtain⟨a,xs,rfl,U,Z⟩:=r;exact⟨a,xs,rfl,SqT.of U,by rw[←Z.length];exact hl.1,h ds ρ ρ' hl.2.2 hl.2.1 e xs σ H S M Fr s Z nd V Q q⟩
  .cases e
 |_=>cases e
structure Rt{ι:Type}(X:ι->Cx)(G:Gc)(ob P:Nat->Bool)(tg:List Expr)(f:List D->En->Option En):Prop where
 mk::(ex:∃t,(∀c,PGs (X c) tg t)/\NP G ob P t f)
def aX(i:Nat){x:Str}{pos:Pos}(z:∀c,(X c).N.Nodup)(I:P i=ae:=by rfl)(hi:∀c,(X c).N[i]? =ac x:=by intro _;rfl)(J:∀c,Loc (X c).env.scope x:=by intro _;first|exact aa_ rfl|exact aaL rfl)(Y:∀c,(X c).fn x=ag∨(X c).env.scope.names.lookup x=ac .local:=by intro _;first|exact .inl rfl|exact .inr rfl):PVG X G ob P 2.38 (tgN i):=⟨_,λc=>B_ (z c) (hi c) (J c) (Y c),km I⟩
def fQ:Rt X G ob P [] cg:=⟨_,λc=>Im,CJ⟩
def bc{e:Expr}{es:List Expr}{f:D->En->Option En}{g:List D->En->Option En}(h1:PVG X G ob P e f)(h2:Rt X G ob P es g)(hs:∀c,(aa4 (e::es) (X c).env).map (·.2)=adk e (X c).env::(aa4 es (X c).env).map (·.2):=by intro _;rfl):Rt X G ob P (e::es) (aP f g):=let⟨t,a1,a2⟩:=h1.ex;let⟨u,b1,b2⟩:=h2.ex;⟨_,λc=>Cd (a1 c) (b1 c) (hs c),tX a2 b2⟩
def gU{es:List Expr}{k n:Nat}{pos:Pos}{g:List D->En->Option En}(O:∀c,(X c).calm=ag)(h:Rt X G ob P es g)(hn:∀c,(aa4 es (X c).env).length=n:=by intro _;rfl)(I:∀c,(aa4 es (X c).env).findIdx? (·.1)=af:=by intro _;rfl)(J:∀c,(X c).K=G.K:=by intro _;rfl):PVG X G ob P 2.127 (tgT n g):=let⟨t,a1,a2⟩:=h.ex;⟨_,λc=>(by rw[←J c];exact PB (O c) (a1 c) (hn c) (I c)),S9 a2⟩
def bO(f:En->Option D)(g:D->En->Option En):En->Option Fl:=λρ=>(f ρ).bind λd=>(g d ρ).map .nx
def dD(f:En->Option (D×En))(g:D->En->Option En):En->Option Fl:=λρ=>(f ρ).bind λp=>(g p.1 p.2).map .nx
def jV{Fr:Addr->Prop}:plus [] Fr=Fr:=by funext a;simp[plus]
def lu{te:TE}{t:TG}{f:En->Option (D×En)}{g:D->En->Option En}(h:l_ G ob te f)(hg:RfG G ob P t g):RfS G ob P (Tj te t) (dD f g):=λρ r e σ H S Fr s E q=>by
 unfold dD at e;cases h1:f ρ with
 |none=>simp[h1]at e
 |some p=>
  obtain⟨d,ρ1⟩:=p;cases h2:g d ρ1 with
  |none=>simp[h1,h2]at e
  |some ρ2=>
   have:Fl.nx ρ2=r:=by simpa[h1,h2]using e
   subst this;refine h ρ d ρ1 h1 σ H S Fr s _ λv H1 M S1 Z O nd V=>?_;have hF:∀a∈M,¬Fr a:=λa Y z=>by
    rcases V.fm a Y with q|q
    .exact s.notO z q
    .obtain⟨o,F,_⟩:=s.fdm a z
     rw[q]at F;cases F
   refine hg d ρ1 ρ2 h2 v σ H1 S1 M Fr Z O nd hF _ λJ H' S' s' m=>q J H' S' s' ⟨λb u U I n2=>?_,λi a z=>?_,m.pr⟩
   .have hno:¬inO ob S b:=λ⟨i,_,z⟩=>I ⟨i,z⟩
    refine m.kp b u (V.kp b u U hno) (λ⟨i,z⟩=>?_) λz=>(V.fm b z).elim hno λz=>by rw[U]at z;cases z
    cases F:ob i with
    |false=>rw[V.sn i F]at z;exact I ⟨i,z⟩
    |true=>exact(V.gr i b F z).elim hno λz=>by rw[U]at z;cases z
   .rcases m.gr i a z with⟨j,z⟩|z|z
    .cases F:ob j with
     |false=>rw[V.sn j F]at z;exact .inl ⟨j,z⟩
     |true=>exact(V.gr j a F z).imp (λ⟨k,_,z⟩=>⟨k,z⟩) .inr
    .exact(V.fm a z).imp (λ⟨k,_,z⟩=>⟨k,z⟩) .inr
    .exact(V.back z).imp (λ⟨k,_,z⟩=>⟨k,z⟩) .inr
def Gw{f:En->Option D}{g:D->En->Option En}:dD (eUp f) g=bO f g:=by
 funext ρ;unfold dD bO eUp;cases f ρ<;>rfl
section
variable{tg e:Expr}{pos:Pos}{g:D->En->Option En}
theorem mq{f:En->Option D}(V:PV X G ob e f)(F:PVG X G ob P tg g)(hs:∀c,ace [tg] e pos.line (X c).env=pure ae:=by intro _;rfl)(Z:∀c,acM [tg] e (X c).env=pure af:=by intro _;rfl)(h1:∀c,(aa4 [tg] (X c).env).map (·.2)=[adk tg (X c).env]:=by intro _;rfl):PVS X G ob P (.Assign [tg] e pos) (bO f g):=let⟨t,a1,a2⟩:=V.ex;let⟨u,b1,b2⟩:=F.ex;⟨_,λc=>KY (a1 c) (b1 c) (hs c) (Z c) (h1 c),by rw[←Gw];exact lu (Cm a2) b2⟩
theorem vY{f:En->Option (D×En)}(V:PVe X G ob e f)(F:PVG X G ob P tg g)(hs:∀c,ace [tg] e pos.line (X c).env=pure ae:=by intro _;rfl)(Z:∀c,acM [tg] e (X c).env=pure af:=by intro _;rfl)(h1:∀c,(aa4 [tg] (X c).env).map (·.2)=[adk tg (X c).env]:=by intro _;rfl):PVS X G ob P (.Assign [tg] e pos) (dD f g):=let⟨t,a1,a2⟩:=V.ex;let⟨u,b1,b2⟩:=F.ex;⟨_,λc=>KY (a1 c) (b1 c) (hs c) (Z c) (h1 c),lu a2 b2⟩
def bu(i:Nat){x:Str}{pos':Pos}{f:En->Option D}(z:∀c,(X c).N.Nodup)(V:PV X G ob e f)(I:P i=ae:=by rfl)(hi:∀c,(X c).N[i]? =ac x:=by intro _;rfl)(J:∀c,Loc (X c).env.scope x:=by intro _;first|exact aa_ rfl|exact aaL rfl)(hs:∀c,abX e 2.87 pos.line (X c).env=pure ae:=by intro _;rfl)(Y:∀c,(X c).fn x=ag∨(X c).env.scope.names.lookup x=ac .local:=by intro _;first|exact .inl rfl|exact .inr rfl):PVS X G ob P (.Assign [.Name x pos'] e pos) (bO f (tgN i)):=let⟨t,a1,a2⟩:=V.ex;⟨_,λc=>Lp (z c) (hi c) (J c) (a1 c) (hs c) (Y c),by rw[←Gw];exact lu (Cm a2) (km I)⟩
def dG(i:Nat){x:Str}{pos':Pos}{f:En->Option (D×En)}(z:∀c,(X c).N.Nodup)(V:PVe X G ob e f)(I:P i=ae:=by rfl)(hi:∀c,(X c).N[i]? =ac x:=by intro _;rfl)(J:∀c,Loc (X c).env.scope x:=by intro _;first|exact aa_ rfl|exact aaL rfl)(hs:∀c,abX e 2.87 pos.line (X c).env=pure ae:=by intro _;rfl)(Y:∀c,(X c).fn x=ag∨(X c).env.scope.names.lookup x=ac .local:=by intro _;first|exact .inl rfl|exact .inr rfl):PVS X G ob P (.Assign [.Name x pos'] e pos) (dD f (tgN i)):=let⟨t,a1,a2⟩:=V.ex;⟨_,λc=>Lp (z c) (hi c) (J c) (a1 c) (hs c) (Y c),lu a2 (km I)⟩
end
def lR(f:En->Option (List D×En))(g:List D->En->Option En):En->Option Fl:=λρ=>(f ρ).bind λp=>if aF p.1/\aD p.1 then(g p.1 p.2).map .nx else af
def bJ(f:En->Option 2.79)(g:List D->En->Option En):En->Option Fl:=λρ=>(f ρ).bind λp=>if aF p/\aD p then(g p ρ).map .nx else af
def QS{f:En->Option 2.79}{g:List D->En->Option En}:lR (bF f) g=bJ f g:=by
 funext ρ;unfold lR bJ bF;cases f ρ<;>rfl
def Eg{ta:TA}{i j:Nat}(hi:P i=ae)(hj:P j=ae){f:En->Option (List D×En)}(h:DY G ob ta f):RfS G ob P (Yp i j ta) (lR f 2.90):=λρ r e σ H S Fr s E q=>by
 unfold lR at e;cases h1:f ρ with
 |none=>simp[h1]at e
 |some p=>
  obtain⟨ds,ρ1⟩:=p;by_cases O:aF ds/\aD ds
  .cases h2:2.90 ds ρ1 with
   |none=>simp[h1,h2,O]at e
   |some ρ2=>
    have:Fl.nx ρ2=r:=by simpa[h1,h2,O]using e
    subst this;refine h ρ ds ρ1 h1 σ H S Fr s _ λJ H1 M S1 Z r1 nd V=>?_;have hF:∀a∈M,¬Fr a:=λa Y z=>by
     rcases V.fm a Y with q|q
     .exact s.notO z q
     .obtain⟨o,F,_⟩:=s.fdm a z
      rw[q]at F;cases F
    have a1:=tX (km (G:=G) (ob:=ob) hi) (tX (km hj) CJ) ds ρ1 ρ2 O.1 O.2 h2 J σ H1 S1 M Fr Z r1 nd hF (λa0 H'=>E.nx a0 H') λa0 H' S' s' m=>q a0 H' S' s' ⟨λb u U I n2=>?_,λi a z=>?_,m.pr⟩
    .obtain⟨v,rr,e1,v2,r2,e2,e3,k⟩:=a1
     subst e3;exact⟨v,v2,by rw[e1,e2],k⟩
    .have hno:¬inO ob S b:=λ⟨i,_,z⟩=>I ⟨i,z⟩
     refine m.kp b u (V.kp b u U hno) (λ⟨i,z⟩=>?_) λz=>(V.fm b z).elim hno λz=>by rw[U]at z;cases z
     cases F:ob i with
     |false=>rw[V.sn i F]at z;exact I ⟨i,z⟩
     |true=>exact(V.gr i b F z).elim hno λz=>by rw[U]at z;cases z
    .rcases m.gr i a z with⟨j,z⟩|z|z
     .cases F:ob j with
      |false=>rw[V.sn j F]at z;exact .inl ⟨j,z⟩
      |true=>exact(V.gr j a F z).imp (λ⟨k,_,z⟩=>⟨k,z⟩) .inr
     .exact(V.fm a z).imp (λ⟨k,_,z⟩=>⟨k,z⟩) .inr
     .exact(V.back z).imp (λ⟨k,_,z⟩=>⟨k,z⟩) .inr
  .simp[h1,O]at e
section
variable{x y:Str}{a b:Expr}{px py pt pos:Pos}{kt k2 pt2}
def Ma(i j:Nat){f:En->Option (List D×En)}(O:∀c,(X c).calm=ag)(z:∀c,(X c).N.Nodup)(Y:wu X G ob [a,b] f)(F:P i=ae:=by rfl)(I:P j=ae:=by rfl)(hi:∀c,(X c).N[i]? =ac x:=by intro _;rfl)(U:∀c,(X c).N[j]? =ac y:=by intro _;rfl)(q:i≠j:=by decide)(J:∀c,(X c).env.scope.names.lookup x=ac .local:=by intro _;rfl)(V:∀c,(X c).env.scope.names.lookup y=ac .local:=by intro _;rfl)(Z:∀c,acM [.Tuple [.Name x px,.Name y py] kt pt] (.Tuple [a,b] k2 pt2) (X c).env=pure (ac [x,y]):=by intro _;rfl)(hs:∀c,ace [.Tuple [.Name x px,.Name y py] kt pt] (.Tuple [a,b] k2 pt2) pos.line (X c).env=pure ae:=by intro _;rfl) :
 PVS X G ob P (.Assign [.Tuple [.Name x px,.Name y py] kt pt] (.Tuple [a,b] k2 pt2) pos) (lR f 2.90):=let⟨t,a1,a2⟩:=Y.ex;⟨_,λc=>Og (O c) (z c) (hi c) (U c) q (J c) (V c) (a1 c) (Z c) (hs c),Eg F I a2⟩
def S7(i j:Nat){f:En->Option 2.79}(O:∀c,(X c).calm=ag)(z:∀c,(X c).N.Nodup)(Y:PVA X G ob [a,b] f)(F:P i=ae:=by rfl)(I:P j=ae:=by rfl)(hi:∀c,(X c).N[i]? =ac x:=by intro _;rfl)(U:∀c,(X c).N[j]? =ac y:=by intro _;rfl)(q:i≠j:=by decide)(J:∀c,(X c).env.scope.names.lookup x=ac .local:=by intro _;rfl)(V:∀c,(X c).env.scope.names.lookup y=ac .local:=by intro _;rfl)(Z:∀c,acM [.Tuple [.Name x px,.Name y py] kt pt] (.Tuple [a,b] k2 pt2) (X c).env=pure (ac [x,y]):=by intro _;rfl)(hs:∀c,ace [.Tuple [.Name x px,.Name y py] kt pt] (.Tuple [a,b] k2 pt2) pos.line (X c).env=pure ae:=by intro _;rfl) :
 PVS X G ob P (.Assign [.Tuple [.Name x px,.Name y py] kt pt] (.Tuple [a,b] k2 pt2) pos) (bJ f 2.90):=let⟨t,a1,a2⟩:=Y.ex;⟨_,λc=>Og (O c) (z c) (hi c) (U c) q (J c) (V c) (a1 c) (Z c) (hs c),by rw[←QS];exact Eg F I (Pz a2)⟩
end
def sIf(c:En->Option Bool)(f g:En->Option Fl):En->Option Fl:=λρ=>(c ρ).bind λb=>if b then f ρ else g ρ
def uH(c:En->Option (Bool×En))(f g:En->Option Fl):En->Option Fl:=λρ=>(c ρ).bind λp=>if p.1 then f p.2 else g p.2
def Yq{c:En->Option Bool}{f g:En->Option Fl}:uH (An c) f g=sIf c f g:=by
 funext ρ;unfold uH sIf An;cases c ρ<;>rfl
def HQ{tc:TT}{t u:TS}{c:En->Option (Bool×En)}{f g:En->Option Fl}(O:Dl G ob tc c)(h1:RfS G ob P t f)(h2:RfS G ob P u g):RfS G ob P (Xq tc t u) (uH c f g):=λρ r e σ H S Fr s E q=>by
 unfold uH at e;cases z:c ρ with
 |none=>simp[z]at e
 |some p=>
  obtain⟨b,ρ1⟩:=p;refine O ρ b ρ1 z σ H S Fr s _ λH1 S1 Z V=>?_;have m:Mv P H H1 σ σ S S1 []:=V.mv;cases b with
  |true=>exact uY (h1 ρ1 r (by simpa[z]using e) σ H1 S1 Fr Z E (q.from m))
  |false=>exact Ax (h2 ρ1 r (by simpa[z]using e) σ H1 S1 Fr Z E (q.from m))
def bM{c:Expr}{a b:List Stmt}{pos:Pos}{fc:En->Option Bool}{f g:En->Option Fl}(O:PVT X G ob c fc)(Y:o5 X G ob P a f)(U:o5 X G ob P b g):PVS X G ob P (.If c a b pos) (sIf fc f g):=let⟨v,c1,c2⟩:=O.ex;let⟨t,a1,a2⟩:=Y.ex;let⟨u,b1,b2⟩:=U.ex;⟨_,λc=>TQ (c1 c) (a1 c) (b1 c),by rw[←Yq];exact HQ (OJ c2) a2 b2⟩
def BV{c:Expr}{a b:List Stmt}{pos:Pos}{fc:En->Option (Bool×En)}{f g:En->Option Fl}(O:Gn X G ob c fc)(Y:o5 X G ob P a f)(U:o5 X G ob P b g):PVS X G ob P (.If c a b pos) (uH fc f g):=let⟨v,c1,c2⟩:=O.ex;let⟨t,a1,a2⟩:=Y.ex;let⟨u,b1,b2⟩:=U.ex;⟨_,λc=>TQ (c1 c) (a1 c) (b1 c),HQ c2 a2 b2⟩
def sEx(f:En->Option (D×En)):En->Option Fl:=λρ=>(f ρ).map λp=>.nx p.2
def pP(f:En->Option (D×En)):En->Option Fl:=λρ=>(f ρ).bind λp=>if clean p.1 then ac (.ret p.1 p.2)else af
def b7(f:En->Option D):En->Option Fl:=λρ=>(f ρ).bind λd=>if clean d then ac (.ret d ρ)else af
def V5{f:En->Option D}:pP (eUp f)=b7 f:=by
 funext ρ;unfold pP b7 eUp;cases f ρ<;>rfl
def Ez{te:TE}{f:En->Option (D×En)}(h:l_ G ob te f):RfS G ob P (S_ te) (pP f):=λρ r e σ H S Fr s E q=>by
 unfold pP at e;cases h1:f ρ with
 |none=>simp[h1]at e
 |some p=>
  obtain⟨d,ρ1⟩:=p;cases O:clean d with
  |false=>simp[h1,O]at e
  |true=>
   have:Fl.ret d ρ1=r:=by simpa[h1,O]using e
   subst this;exact h ρ d ρ1 h1 σ H S Fr s _ λv H1 M S1 Z F nd V=>q v σ H1 M S1 Z F O nd (λa Y=>(V.fm a Y).imp (λ⟨i,_,z⟩=>⟨i,z⟩) id) V.mv
def aV{e:Expr}{pos:Pos}{f:En->Option D}(V:PV X G ob e f):PVS X G ob P (.Return (ac e) pos) (b7 f):=let⟨t,a1,a2⟩:=V.ex;⟨_,λc=>Bk (a1 c),by rw[←V5];exact Ez (Cm a2)⟩
def Ds{e:Expr}{pos:Pos}{f:En->Option (D×En)}(V:PVe X G ob e f):PVS X G ob P (.Return (ac e) pos) (pP f):=let⟨t,a1,a2⟩:=V.ex;⟨_,λc=>Bk (a1 c),Ez a2⟩
def Sta.move{G:Gc}{H:Hp}{ρ:En}{σ:L2.St}{S:Ad}{Fr:Addr->Prop}{i:Nat}{d:D}(s:Sta G H ob ρ σ S Fr)(e:ρ[i]? =ac (ac d)) :
  ∃v,σ[i]? =ac (ac v)/\clean d=ag/\Sta G H ob (ρ.set i af) σ (h_ S i []) (plus (S i) Fr)/\Rep G H (wn ob (h_ S i []) (plus (S i) Fr)) d v (S i):=by
 obtain⟨v,h1,h2,O⟩:=s.sl i d e;have F:Evo H H 2.48 (wn ob (h_ S i []) (plus (S i) Fr)):=⟨λb u h f=>⟨h,⟨λz=>z.elim (λz=>?_) f.1,λ⟨k,q1,q2⟩=>?_,λ⟨k,q1,q2⟩=>?_⟩⟩,λ_ _ h=>h⟩
 .have q:=(by simpa[clean]using O:aA d=ag/\az d=ag)
  refine⟨v,h1,O,⟨by simp[s.len],λj d' V=>?_,λj U=>?_,λj=>?_,λj k a q1 q2=>?_,λj a q1 q2=>?_,λa h=>?_⟩,h2.mono F (.inl q.1) (.inl q.2) λ_ _ _ h=>h⟩
  .by_cases e':j=i
   .subst e'
    rw[ab4]at V;split at V
    .split at V
     .simp at V
     .cases V
    .exact absurd rfl ‹_›
   .rw[List.getElem?_set_ne (aaS e')]at V
    obtain⟨v',q1,q2,I⟩:=s.sl j _ V;refine⟨v',q1,?_,I⟩;rw[fK e'];have q:=(by simpa[clean]using I:aA d'=ag/\az d'=ag);exact q2.mono F (.inl q.1) (.inl q.2) λ_ _ _ h=>h
  .by_cases e':j=i
   .rw[e',fG]
   .rw[fK e']
    exact s.em j λd'=>by have:=U d';rwa[List.getElem?_set_ne (aaS e')]at this
  .by_cases e':j=i
   .rw[e',fG];exact aaq
   .rw[fK e'];exact s.nd j
  .rcases dO q1 with⟨_,z⟩|⟨_,z⟩
   .cases z
   .rcases dO q2 with⟨_,z'⟩|⟨_,z'⟩
    .cases z'
    .exact s.dj j k a z z'
  .rcases dO q2 with⟨_,z⟩|⟨n,z⟩
   .cases z
   .rcases q1 with q1|q1
    .exact n (s.dj j i a z q1)
    .exact s.fdj j a q1 z
  .rcases h with h|h
   .exact s.mu h
   .exact s.fdm a h
 .cases ho:ob i with
  |false=>exact f.2.1 ⟨i,ho,z⟩
  |true=>exact f.2.2 ⟨i,ho,z⟩
 .rcases dO q2 with⟨_,z⟩|⟨_,z⟩
  .cases z
  .exact f.2.1 ⟨k,q1,z⟩
 .rcases dO q2 with⟨_,z⟩|⟨_,z⟩
  .cases z
  .exact f.2.2 ⟨k,q1,z⟩
def jf(i:Nat):En->Option Fl:=λρ=>match ρ[i]? with
 |some (ac d)=>ac (.ret d (ρ.set i af))
 |_=>af
def Mm{i:Nat}:RfS G ob P (S_ (xW i)) (jf i):=λρ r e σ H S Fr s E q=>by
 unfold jf at e;split at e
 .rename_i d h1
  cases e;obtain⟨v,h2,O,Z,V⟩:=s.move h1;exact⟨v,h2,q v σ H (S i) (h_ S i []) Z V O (s.nd i) (λa Y=>.inl ⟨i,Y⟩) ⟨λ_ _ h _ _=>h,λj a z=>(dO z).elim (λz=>by cases z.2) λz=>.inl ⟨j,z.2⟩,.refl⟩⟩
 .cases e
def iY(i:Nat){x:Str}{pos pos':Pos}(z:∀c,(X c).N[i]? =ac x:=by intro _;rfl)(Z:∀c,Vis (X c).env.scope x:=by intro _;first|exact aa_ rfl|exact aaL (aa_ rfl)|exact aaL 2.205)(hd:(x==("__debug__":Str))=ae:=by decide)(O:(x==("__classdict__":Str))=ae:=by decide):PVS X G ob P (.Return (ac 2.38) pos') (jf i):=⟨_,λc=>Bk 2.119,Mm⟩
end
def mkO:Mk->Mk
 |.own=>.frz
 |m=>m
mutual
noncomputable def fzo:D->D
 |.tup ds=>.tup (iV ds)
 |.lst m ds=>.lst (mkO m) (iV ds)
 |.dct m ks ds=>.dct (mkO m) ks (iV ds)
 |.ins m c fs ds=>.ins (mkO m) c fs (iV ds)
 |d=>d
noncomputable def iV:List D->List D
 |[]=>[]
 |d::r=>fzo d::iV r
end
def iT:∀ds:List D,iV ds=ds.map fzo
 |[]=>rfl
 |d::r=>by rw[iV,iT r];rfl
variable{a:Addr}
def dH.fzo{D:Addr->HO->Prop}(hs:Les H W W' L)(hn:∀a,W.s a->W'.s a)(h:dH D H W a o m L M):dH D H W' a o (mkO m) [] []:=by
 cases m with
 |own=>exact⟨h.1,hs.l a (by rw[h.2];simp),rfl,rfl⟩
 |frz=>exact⟨h.1,hs.f a h.2.1,rfl,rfl⟩
 |brw=>exact⟨h.1,hn a h.2.1,rfl,rfl⟩
 |bro=>exact⟨h.1,rfl,rfl⟩
 |scr=>exact⟨h.1.imp (λz=>⟨z.1,hs.f a z.2⟩) id,rfl,rfl⟩
mutual
def Rep.fzo(hn:∀a,W.s a->W'.s a):∀{d:D}{v:V}{L:List Addr},Rep G H W d v L->Les H W W' L->Rep G H W' (fzo d) v []
 |.non,v,L,h,_=>by rw[Rep]at h;simp[Jb.fzo,Rep,h]
 |.bl _,v,L,h,_=>by rw[Rep]at h;simp[Jb.fzo,Rep,h]
 |.int _,v,L,h,_=>by rw[Rep]at h;simp[Jb.fzo,Rep,h]
 |.str _,v,L,h,_=>by rw[Rep]at h;simp[Jb.fzo,Rep,h]
 |.ty _,v,L,h,_=>by rw[Rep]at h;simp[Jb.fzo,Rep,h]
 |.tup ds,v,L,h,hs=>by
  rw[Rep]at h;rw[Jb.fzo,Rep];obtain⟨a,xs,rfl,U,Z⟩:=h;exact⟨a,xs,rfl,U,aJ.fzo hn Z hs⟩
 |.lst m ds,v,L,h,he=>by
  rw[Rep]at h;rw[Jb.fzo,Rep];obtain⟨a,xs,M,rfl,Z,hs⟩:=h;exact⟨a,xs,[],rfl,aJ.fzo hn Z (he.sub λc O=>hs.sub.subset O),hs.fzo he hn⟩
 |.dct m ks ds,v,L,h,he=>by
  rw[Rep]at h;rw[Jb.fzo,Rep];obtain⟨a,xs,M,rfl,I,Z,hs⟩:=h;exact⟨a,xs,[],rfl,I,aJ.fzo hn Z (he.sub λc O=>hs.sub.subset O),hs.fzo he hn⟩
 |.ins m c' fs ds,v,L,h,he=>by
  rw[Rep]at h;rw[Jb.fzo,Rep];obtain⟨a,C,dx,xs,M,rfl,F,I,Z,hs⟩:=h;exact⟨a,C,dx,xs,[],rfl,F,I,aJ.fzo hn Z (he.sub λc O=>hs.sub.subset O),hs.fzo he hn⟩
def aJ.fzo(hn:∀a,W.s a->W'.s a):∀{ds:List D}{J:List V}{L:List Addr},aJ G H W ds J L->Les H W W' L->aJ G H W' (iV ds) J []
 |[],J,L,h,_=>by obtain⟨rfl,_⟩:=h.inv0;rw[iV];exact .nil
 |d::r,J,L,h,he=>by
  obtain⟨x,ys,M,M',rfl,rfl,h1,h2⟩:=h.inv;rw[iV];exact .cons (M:=[]) (M':=[]) (Rep.fzo hn h1 (he.sub λc O=>ZV _ O)) (aJ.fzo hn h2 (he.sub λc O=>W2 _ O))
end
mutual
def JN:∀{d:D},aA d=ag->aA (Jb.fzo d)=ag
 |.non,_=>rfl|.bl _,_=>rfl|.int _,_=>rfl|.str _,_=>rfl|.ty _,_=>rfl
 |.tup ds,h=>by simp[aA]at h;simp[Jb.fzo,aA,gK h]
 |.lst m ds,h=>by simp[aA]at h;cases m<;>simp[Jb.fzo,aA,gK h.2,mkO]<;>simp at h
 |.dct m _ ds,h=>by simp[aA]at h;cases m<;>simp[Jb.fzo,aA,gK h.2,mkO]<;>simp at h
 |.ins m _ _ ds,h=>by simp[aA]at h;cases m<;>simp[Jb.fzo,aA,gK h.2,mkO]<;>simp at h
def gK:∀{ds:List D},aF ds=ag->aF (iV ds)=ag
 |[],_=>rfl
 |d::r,h=>by simp[aF]at h;simp[iV,aF,JN h.1,gK h.2]
end
mutual
def JB:∀{d:D},az d=ag->az (Jb.fzo d)=ag
 |.non,_=>rfl|.bl _,_=>rfl|.int _,_=>rfl|.str _,_=>rfl|.ty _,_=>rfl
 |.tup ds,h=>by simp[az]at h;simp[Jb.fzo,az,gH h]
 |.lst m ds,h=>by simp[az]at h;cases m<;>simp[Jb.fzo,az,gH h.2,mkO]<;>simp at h
 |.dct m _ ds,h=>by simp[az]at h;cases m<;>simp[Jb.fzo,az,gH h.2,mkO]<;>simp at h
 |.ins m _ _ ds,h=>by simp[az]at h;cases m<;>simp[Jb.fzo,az,gH h.2,mkO]<;>simp at h
def gH:∀{ds:List D},aD ds=ag->aD (iV ds)=ag
 |[],_=>rfl
 |d::r,h=>by simp[aD]at h;simp[iV,aD,JB h.1,gH h.2]
end
structure Wk(G:Gc)(J:It)(Lt:Hp->Wn->Prop)(items:List D):Prop where
 go:∀(i:Nat)(d:D),items[i]? =ac d->∀H W,Lt H W->J.go i H
 yld:∀(i:Nat)(d:D),items[i]? =ac d->∀H W,Lt H W->∀x H',J.yld i H x H'->Same H H'/\Rep G H' W d x []
 stop:∀H W,Lt H W->J.stop items.length H
def LtB(b:Bool)(H:Hp)(W:Wn):Hp->Wn->Prop:=λH2 I=>if b=ag then Evo H H2 W I else Up H H2 W I
variable{b:Bool}
def LtB.up{I:Wn}(u:Up H H2 W I):LtB b H W H2 I:=by
 cases b with
 |true=>exact uY u.evo
 |false=>exact Ax u
def RfI(G:Gc)(ob:Nat->Bool)(wi:TI)(f:En->Option (Bool×List D)):Prop:=∀(ρ:En)(b:Bool)(items:List D),f ρ=ac (b,items)->∀(σ:L2.St)(H:Hp)(W:Wn),Rel G H W ob ρ σ->WOk H W->∀R:It->Hp->Prop,
 (∀J H',Same H H'->Wk G J (LtB b H' W) items->R J H')->wi σ H R
structure PVI{ι:Type}(X:ι->Cx)(G:Gc)(ob:Nat->Bool)(tg it:Expr)(f:En->Option (Bool×List D)):Prop where
 mk::(ex:∃t,(∀c,PI (X c) tg it t)/\RfI G ob t f)
def jd(lo:Int)(n:Nat):List D:=(aaG n).map λ(k:Nat)=>D.int (lo+(k:Int))
def pJ(f:En->Option 2.79):En->Option (Bool×List D):=λρ=>(f ρ).bind λds=>match ds with
 |[.int j]=>if -(2 ^ 62)<=j/\j<2 ^ 62 then ac (ag,jd 0 j.toNat)else af
 |_=>af
def PX{q:Hp->Wn->Prop}{lo:Int}:Wk G (Itr lo n) q (jd lo n)where
 go:=λi d e H W _=>by
  have:=(List.getElem?_eq_some_iff.mp e).1;show i<n;simpa[jd]using this
 yld:=λi d e H W _ x H' h=>by
  obtain⟨rfl,rfl⟩:=h;have:d= .int (lo+(i:Int)):=by
   unfold jd at e;rw[List.getElem?_map]at e;have hi:i<n:=by
    have:=(List.getElem?_eq_some_iff.mp (show(jd lo n)[i]? =ac d by unfold jd;rw[List.getElem?_map];exact e)).1;simpa[jd]using this
   rw[afv hi]at e;simpa using e.symm
  subst this;exact⟨Same.refl _,by rw[Rep];exact⟨rfl,rfl⟩⟩
 stop:=λH W _=>by
  show n<=(jd lo n).length;simp[jd]
variable{f:En->Option (List D)}
def Vh(h:RfA G ob t f):RfI G ob (MK t) (pJ f):=λρ b items e σ H W F w R q=>by
 unfold pJ at e;cases h1:f ρ with
 |none=>simp[h1]at e
 |some ds=>
  rw[h1]at e;simp![gD]at e;split at e
  .rename_i j
   split at e
   .rename_i hj
    cases e;refine h ρ _ h1 σ H W F w _ λJ H' L s r O nd=>?_;obtain⟨x,ys,M,M',rfl,_,z,V⟩:=r.inv;obtain⟨rfl,_⟩:=V.inv0;rw[Rep]at z;obtain⟨rfl,_⟩:=z;exact⟨j,rfl,hj.1,hj.2,q _ H' s PX⟩
   .cases e
  .cases e
def fj:D->Option (Bool×List D)
 |.lst m ds=>ac (clean (.lst m ds),iV ds)
 |.tup ds=>ac (clean (.tup ds),iV ds)
 |_=>af
def itS(f:En->Option D):En->Option (Bool×List D):=λρ=>(f ρ).bind fj
def JZ{D:Addr->HO->Prop}{W1 I:Wn}(h:dH D H W1 a o m L M)(V:Les H W1 W L)(hn:W1.s a->W.s a)(U:b=ag->m≠.brw/\m≠.bro)(l:LtB b H W H2 I):Rd H2 a o∨D a o:=by
 cases b with
 |false=>
  have u:Up H H2 W I:=(aag aav).mp l;exact h.rx.imp (Same.rd u.s) id
 |true=>
  have e:Evo H H2 W I:=(if_pos rfl).mp l;cases m with
  |own=>exact .inl (.inl (e.k a o h.1 (V.l a (by rw[h.2];simp))).1)
  |frz=>exact .inl (.inl (e.k a o h.1 (V.f a h.2.1)).1)
  |brw=>exact absurd rfl (U rfl).1
  |bro=>exact absurd rfl (U rfl).2
  |scr=>exact h.1.imp (λz=>(e.rd z.1 (V.f a z.2)).1) id
def Yo{K:ZW}(h:Rd H a 2.44∨KO K a 2.44):SqL K H a xs:=by
 rcases h with z|⟨ys,e,z⟩
 .exact .inl z
 .cases e
  exact .inr z
def LtB.rep{I:Wn}(l:LtB b H W H2 I)(U:b=ag->aA d=ag/\az d=ag)(r:Rep G H W d v []):Rep G H2 I d v []:=by
 cases b with
 |false=>exact r.up ((aag aav).mp l)
 |true=>exact r.mono ((if_pos rfl).mp l) (.inl (U rfl).1) (.inl (U rfl).2) (by simp)
def LtB.tup{H H2:Hp}{W I:Wn}{b:Bool}{K:ZW}{a:Addr}{xs:List V}(l:LtB b H W H2 I)(h:H a=ac 2.54):SqT K H2 a xs:=by
 cases b with
 |false=>exact SqT.of (((aag aav).mp l).s a _ h)
 |true=>exact SqT.of (((if_pos rfl).mp l).t a xs h)
def jt(h:aF ds=ag)(e:ds[i]? =ac d):aA d=ag:=by
 induction ds generalizing i with
 |nil=>simp at e
 |cons a r F=>
  simp![aF,aaa]at h;cases i with
  |zero=>
   have:a=d:=by simpa using e
   rw[←this];exact h.1
  |succ i=>exact F h.2 (by simpa using e)
def jz(h:aD ds=ag)(e:ds[i]? =ac d):az d=ag:=by
 induction ds generalizing i with
 |nil=>simp at e
 |cons a r F=>
  simp![aD,aaa]at h;cases i with
  |zero=>
   have:a=d:=by simpa using e
   rw[←this];exact h.1
  |succ i=>exact F h.2 (by simpa using e)
structure Parts(G:Gc)(H:Hp)(W:Wn)(b:Bool)(es:List D)(xs:List V):Prop where
 r:aJ G H W es xs []
 c:b=ag->aF es=ag/\aD es=ag
def Parts.at{G:Gc}{H H2:Hp}{W I:Wn}{b:Bool}{es:List D}{xs:List V}(p:Parts G H W b es xs)(l:LtB b H W H2 I){i:Nat}{d:D}{x:V}(e:es[i]? =ac d)(J:xs[i]? =ac x):Rep G H2 I d x []:=by
 obtain⟨y,M,h1,h2,O⟩:=p.r.get e;rw[J]at h1;cases h1;have:M=[]:=by simpa using O
 subst this;exact l.rep (λz=>⟨jt (p.c z).1 e,jz (p.c z).2 e⟩) h2
def I_{es:List D}(w:WOk H W)(s:Same H H')(r:Rep G H' 2.55 d v L)(q:∀a∈L,H a=af)(e:fj d=ac (b,es)) :
  ∃a xs,v= .ref a/\Parts G H' W b es xs/\((∀H2 I,LtB b H' W H2 I->SqL G.K H2 a xs)∨(∀H2 I,LtB b H' W H2 I->SqT G.K H2 a xs)):=by
 have free:∀a∈L,W.free a:=λa Y=>⟨λz=>?_,λz=>?_,λz=>?_⟩
 .have les:Les H' 2.55 W L:=⟨λa f=>⟨λz=>f.1 2.42,f.2⟩,free⟩
  cases d with
  |lst m ds=>
   simp![fj,adi,agw]at e;obtain⟨rfl,rfl⟩:=e;rw[Rep]at r;obtain⟨a,xs,M,rfl,Z,hs⟩:=r;refine⟨a,xs,rfl,⟨aJ.fzo (W:=W.add L) (W':=W) (λ_ z=>z) Z (les.sub λc O=>hs.sub.subset O),λz=>?_⟩,.inl λH2 I l=>Yo (JZ hs les (λz=>z) (λz=>?_) l)⟩
   .simp[clean,aA,az]at z
    exact⟨gK z.1.2,gH z.2.2⟩
   .simp[clean,aA,az]at z
    exact⟨z.1.1,z.2.1⟩
  |tup ds=>
   simp![fj,adi,agw]at e;obtain⟨rfl,rfl⟩:=e;rw[Rep]at r;obtain⟨a,xs,rfl,U,Z⟩:=r;refine⟨a,xs,rfl,⟨aJ.fzo (W:=W.add L) (W':=W) (λ_ z=>z) Z les,λz=>?_⟩,.inr λH2 I l=>l.tup U⟩;simp[clean,aA,az]at z;exact⟨gK z.1,gH z.2⟩
  |_=>simp[fj]at e
 .obtain⟨o,ho,_⟩:=w a 2.29;rw[q a Y]at ho;cases ho
 .obtain⟨o,ho,_⟩:=w a 2.186;rw[q a Y]at ho;cases ho
 .obtain⟨o,ho,_⟩:=w a 2.187;rw[q a Y]at ho;cases ho
def aJ.getV(h:aJ G H W ds xs L)(e:ds[i]? =ac d):∃x,xs[i]? =ac x:=let⟨x,_,h,_⟩:=h.get e;⟨x,h⟩
def Sy{f:En->Option D}(h:RfE G ob te f):RfI G ob (Y8 G.K te) (itS f):=λρ b items e σ H W J w R q=>by
 unfold itS at e;cases h1:f ρ with
 |none=>simp[h1]at e
 |some d=>
  have e:fj d=ac (b,items):=by simpa[h1]using e
  refine h ρ d h1 σ H W J w _ λv H' L s r O nd=>?_;obtain⟨a,xs,rfl,p,hs⟩:=I_ w s r O e;refine⟨a,rfl,?_⟩;rcases hs with hs|hs
  .refine .inl ⟨⟨xs,hs H' W 2.141⟩,q _ H' s ⟨λi d e H2 I l=>?_,λi d e H2 I l x Y y=>?_,λH2 I l=>?_⟩⟩
   .obtain⟨x,hx⟩:=p.r.getV e
    exact⟨xs,x,hs H2 I l,hx⟩
   .obtain⟨rfl,y⟩:=y
    exact⟨Same.refl _,p.at l e (y xs (hs _ I l))⟩
   .exact⟨xs,hs H2 I l,by rw[p.r.length];exact ZZ _⟩
  .refine .inr ⟨⟨xs,hs H' W 2.141⟩,q _ H' s ⟨λi d e H2 I l=>?_,λi d e H2 I l x Y y=>?_,λH2 I l=>?_⟩⟩
   .obtain⟨x,hx⟩:=p.r.getV e
    exact⟨xs,x,hs H2 I l,hx⟩
   .obtain⟨rfl,y⟩:=y
    exact⟨Same.refl _,p.at l e (y xs (hs _ I l))⟩
   .exact⟨xs,hs H2 I l,by rw[p.r.length];exact ZZ _⟩
def lL:Nat->List D->List D
 |_,[]=>[]
 |i,d::r=>.tup [.int (i:Int),d]::lL (i+1) r
def lg:∀(ds:List D)(k i:Nat),(lL k ds)[i]? =(ds[i]?).map λd=>.tup [.int ((k+i:Nat):Int),d]
 |[],k,i=>by simp[lL]
 |d::r,k,i=>by
  cases i with
  |zero=>simp[lL]
  |succ i=>
   simp![lL,Z6];rw[lg r (k+1) i,show k+1+i=k+(i+1)by omega]
def lD:∀(ds:List D)(k:Nat),(lL k ds).length=ds.length
 |[],k=>rfl
 |d::r,k=>by simp[lL,lD r (k+1)]
def itE(f:En->Option 2.79):En->Option (Bool×List D):=λρ=>(f ρ).bind λds=>match ds with
 |[d]=>(fj d).map λp=>(p.1,lL 0 p.2)
 |_=>af
def NK(h:RfA G ob t f):RfI G ob (Pk G.K t) (itE f):=λρ b items e σ H W rl w R q=>by
 unfold itE at e;cases h1:f ρ with
 |none=>simp[h1]at e
 |some ds=>
  rw[h1]at e;simp![gD]at e;split at e
  .rename_i d
   cases h2:fj d with
   |none=>simp[h2]at e
   |some p=>
    obtain⟨b',es⟩:=p;obtain⟨rfl,rfl⟩:b'=b/\lL 0 es=items:=by simpa[h2]using e
    refine h ρ _ h1 σ H W rl w _ λJ H' L s r fr nd=>?_;obtain⟨v,ys,M,M',rfl,rfl,Z,hy⟩:=r.inv;obtain⟨rfl,rfl⟩:=hy.inv0;rw[List.append_nil]at Z fr;obtain⟨a,xs,rfl,p,hs⟩:=I_ w s Z fr h2;have U:∀(i:Nat)(d':D)(z:Addr)(x:V)(H2:Hp)(I:Wn),(lL 0 es)[i]? =ac d'->LtB b' H' W H2 I->H2 z=af->xs[i]? =ac x->Same H2 (upd H2 z (.tup [.int i,x]))/\Rep G (upd H2 z (.tup [.int i,x])) I d' (.ref z) []:=λi d' z x H2 I e l hp hx=>by
     rw[lg]at e;cases O:es[i]? with
     |none=>rw[O]at e;cases e
     |some d0=>
      rw[O]at e;have e:D.tup [.int (i:Int),d0]=d':=by simpa using e
      subst e;have sm:Same H2 (upd H2 z (.tup [.int i,x])):=Same.new hp;refine⟨sm,?_⟩;rw[Rep];refine⟨z,_,rfl,aR,.cons (M:=[]) (M':=[]) (by rw[Rep];exact⟨rfl,rfl⟩) (.one ((p.at l O hx).up (Up.same sm)))⟩
    refine⟨a,rfl,?_⟩;have F:∀(i:Nat)(d':D),(lL 0 es)[i]? =ac d'->∃x,xs[i]? =ac x:=λi d' e=>by
     rw[lg]at e;cases O:es[i]? with
     |none=>rw[O]at e;cases e
     |some d0=>exact p.r.getV O
    rcases hs with hs|hs
    .refine .inl ⟨⟨xs,hs H' W 2.141⟩,q _ H' s ⟨λi d e H2 I l=>?_,λi d e H2 I l x Y y=>?_,λH2 I l=>?_⟩⟩
     .obtain⟨x,hx⟩:=F i d e
      exact⟨xs,x,hs H2 I l,hx⟩
     .obtain⟨z,v,hp,rfl,Z,rfl⟩:=y
      exact U i d z v H2 I e l hp (Z xs (hs _ I l))
     .exact⟨xs,hs H2 I l,by rw[lD,p.r.length];exact ZZ _⟩
    .refine .inr ⟨⟨xs,hs H' W 2.141⟩,q _ H' s ⟨λi d e H2 I l=>?_,λi d e H2 I l x Y y=>?_,λH2 I l=>?_⟩⟩
     .obtain⟨x,hx⟩:=F i d e
      exact⟨xs,x,hs H2 I l,hx⟩
     .obtain⟨z,v,hp,rfl,Z,rfl⟩:=y
      exact U i d z v H2 I e l hp (Z xs (hs _ I l))
     .exact⟨xs,hs H2 I l,by rw[lD,p.r.length];exact ZZ _⟩
  .cases e
variable{a:Expr}
def vK(F:∀c,Gl (X c) "range")(J:∀c,(X c).mg "range"=af)(Y:PVA X G ob [a] f)(hs:∀c,Z1 [a] (X c).env=[(ae,eval a (X c).env)]:=by intro _;rfl):PVI X G ob tg (.Call (.Name "range" p) [a] [] pos) (pJ f):=let⟨t,a1,a2⟩:=Y.ex;⟨_,λc=>yh (F c) (J c) (a1 c) (hs c),Vh a2⟩
def dJ{f:En->Option D}(Y:PV X G ob a f)(J:∀c,(X c).K=G.K:=by intro _;rfl):PVI X G ob tg a (itS f):=let⟨t,a1,a2⟩:=Y.ex;⟨_,λc=>(by rw[←J c];exact Wi (a1 c)),Sy a2⟩
def El(F:∀c,Gl (X c) "enumerate")(J:∀c,(X c).mg "enumerate"=af)(Y:PVA X G ob [a] f)(hs:∀c,Z1 [a] (X c).env=[(ae,eval a (X c).env)]:=by intro _;rfl)(q:∀c,(X c).K=G.K:=by intro _;rfl):PVI X G ob (.Tuple elts x1 tpos) (.Call (.Name "enumerate" p) [a] [] pos) (itE f):=let⟨t,a1,a2⟩:=Y.ex;⟨_,λc=>(by rw[←q c];exact Nv (F c) (J c) (a1 c) (hs c)),NK a2⟩
def forL(tg:D->En->Option En)(body:En->Option Fl):List D->En->Option Fl
 |[],ρ=>ac (.nx ρ)
 |d::r,ρ=>(tg d ρ).bind λρ1=>match body ρ1 with
  |some (.nx ρ2)=>forL tg body r ρ2
  |some (.cnt ρ2)=>forL tg body r ρ2
  |some (.brk ρ2)=>ac (.nx ρ2)
  |o=>o
def ie(it:En->Option (Bool×List D))(tg:D->En->Option En)(body:En->Option Fl):En->Option Fl:=λρ=>(it ρ).bind λp=>if p.1=ag then forL tg body p.2 ρ else af
def Gj{σ2:L2.St}{S2:Ad}{Fr:Addr->Prop}(s:Sta G H ob ρ σ S Fr)(m:Mv P H H2 σ σ2 S S2 []):Evo H H2 2.48 (wn ob S2 Fr)where
 k:=λb u U f=>by
  have I:¬inS S b:=λ⟨i,z⟩=>by
   cases F:ob i with
   |false=>exact f.2.1 ⟨i,F,z⟩
   |true=>exact f.2.2 ⟨i,F,z⟩
  have Z:¬inS S2 b:=λ⟨i,z⟩=>(m.gr i b z).elim I λz=>z.elim (λz=>by cases z) λz=>by rw[U]at z;cases z
  exact⟨m.kp b u U I (by simp),f.1,λ⟨i,_,z⟩=>Z ⟨i,z⟩,λ⟨i,_,z⟩=>Z ⟨i,z⟩⟩
 t:=λb xs h=>by
  have D:∀u,H b=ac u->muO u=ae->H2 b=ac u:=λu hu mu=>m.kp b u hu (λ⟨i,z⟩=>by
   obtain⟨o,F,J⟩:=s.mu z;rw[hu]at F;cases F;rw[mu]at J;cases J) (by simp)
  exact D _ h rfl
variable{tg:D->En->Option En}{tb:TS}{wi:TI}{it:En->Option (Bool×List D)}{body:En->Option Fl}
def Ib{g:TG}(hi:RfI G ob wi it)(hg:RfG G ob P g tg)(U:RfS G ob P tb body):RfS G ob P (QF wi g tb) (ie it tg body):=λρ r e σ H S Fr s E q=>by
 unfold ie at e;cases h1:it ρ with
 |none=>simp[h1]at e
 |some p=>
  obtain⟨b,items⟩:=p;cases b with
  |false=>simp[h1]at e
  |true=>
   have e:forL tg body items ρ=ac r:=by simpa[h1]using e
   refine hi ρ ag items h1 σ H _ s.rel s.wok _ λJ H1 sm wk=>?_;have Z:Sta G H1 ob ρ σ S Fr:=s.grow sm λa z=>.inl z;have m1:Mv P H H1 σ σ S S []:=⟨λb u h _ _=>sm b u h,λi a z=>.inl ⟨i,z⟩,.refl⟩;have q1:=q.from m1;have a0:∀{ρ2:En}{σ2:L2.St}{H2:Hp}{S2:Ad},Mv P H1 H2 σ σ2 S S2 []->LtB ag H1 2.48 H2 (wn ob S2 Fr):=λm=>uY (Gj Z m);refine⟨λi m σ2 H2=>i+m=items.length/\∃ρ2 S2,Sta G H2 ob ρ2 σ2 S2 Fr/\Mv P H1 H2 σ σ2 S S2 []/\forL tg body (items.drop i) ρ2=ac r,⟨items.length,by omega,ρ,S,Z,.refl,e⟩,?_⟩;rintro i m σ2 H2 ⟨a7,ρ2,S2,I,m2,e2⟩;by_cases a4:i<items.length
   .refine .inr ⟨wk.go i items[i] (by simp[a4]) H2 _ (a0 (ρ2:=ρ2) m2),λF H'=>(i+1)+(m-1)=items.length/\∃ρ2 S2,Sta G H' ob ρ2 F S2 Fr/\Mv P H1 H' σ F S S2 []/\forL tg body (items.drop (i+1)) ρ2=ac r,λF H' h=>⟨m-1,by omega,h⟩,λx Y V=>?_⟩
    obtain⟨s3,rx⟩:=wk.yld i items[i] (by simp[a4]) H2 _ (a0 (ρ2:=ρ2) m2) x Y V;rw[←abo a4,forL]at e2;cases O:tg items[i] ρ2 with
    |none=>simp[O]at e2
    |some a3=>
     rw[O]at e2;simp![gD]at e2;have a6:Sta G Y ob ρ2 σ2 S2 Fr:=I.grow s3 λa z=>.inl z;refine hg items[i] ρ2 a3 O x σ2 Y S2 [] Fr (by rw[jV];exact a6) (by rw[jV];exact rx) aaq (by simp) _ λa5 H4 S4 s4 m4=>?_;have a2:Mv P H1 H4 σ a5 S S4 []:=(m2.trans (S2:=S2) ⟨λb u h _ _=>s3 b u h,λi a z=>.inl ⟨i,z⟩,.refl⟩).trans m4;cases h5:body a3 with
     |none=>rw[h5]at e2;cases e2
     |some fl=>
      rw[h5]at e2;refine U a3 fl h5 a5 H4 S4 Fr s4 _ ?_;cases fl with
      |nx a1=>exact λF H' S' s' m'=>⟨by omega,a1,S',s',a2.trans m',e2⟩
      |cnt a1=>exact λF H' S' s' m'=>⟨by omega,a1,S',s',a2.trans m',e2⟩
      |brk a1=>cases e2;exact λF H' S' s' m'=>q1 F H' S' s' (a2.trans m')
      |ret d a1=>cases e2;exact q1.from a2
   .have hl:i=items.length:=by omega
    rw[hl,abC,forL]at e2;cases e2;subst hl;exact .inl ⟨wk.stop H2 _ (a0 (ρ2:=ρ2) m2),q1 σ2 H2 S2 I m2⟩
variable{f:En->Option Fl}
theorem gn{tg iter:Expr}{body:List Stmt}{g:D->En->Option En}(V:∀c,ad4 (model (X c).prog (X c).w) (X c).A (X c).env (X c).xe)(O:∀c,(X c).calm=ag)(hi:PVI X G ob tg iter it)(F:PVG X G ob P tg g)(U:o5 X G ob P body f)(hs:∀c,∀x,aba iter (X c).env x=pure x:=by intro _;intro _;rfl):PVS X G ob P (.For tg iter body [] pos) (ie it g f):=let⟨v,c1,c2⟩:=hi.ex;let⟨t,a1,a2⟩:=F.ex;let⟨u,b1,b2⟩:=U.ex;⟨_,λc=>F_ (V c) (O c) (c1 c) (a1 c) (b1 c) (hs c),Ib c2 a2 b2⟩
def kZ(c:En->Option (Bool×En))(body:En->Option Fl):Nat->En->Option Fl
 |0,_=>af
 |n+1,ρ=>(c ρ).bind λp=>if p.1=ag then(match body p.2 with
  |some (.nx ρ2)=>kZ c body n ρ2
  |some (.cnt ρ2)=>kZ c body n ρ2
  |some (.brk ρ2)=>ac (.nx ρ2)
  |o=>o)else ac (.nx p.2)
def JL{tc:TT}{c:En->Option (Bool×En)}(n:Nat)(O:Dl G ob tc c)(U:RfS G ob P tb body):RfS G ob P (KZ tc tb) (kZ c body n):=λρ r e σ H S Fr s E q=>by
 refine⟨λm σ2 H2=>∃ρ2 S2,Sta G H2 ob ρ2 σ2 S2 Fr/\Mv P H H2 σ σ2 S S2 []/\kZ c body m ρ2=ac r,⟨n,ρ,S,s,.refl,e⟩,?_⟩;rintro m σ2 H2 ⟨ρ2,S2,I,D,e2⟩;cases m with
 |zero=>cases e2
 |succ m=>
  rw[kZ]at e2;cases h1:c ρ2 with
  |none=>simp[h1]at e2
  |some p=>
   obtain⟨b,a0⟩:=p;rw[h1]at e2;simp![gD]at e2;refine O ρ2 b a0 h1 σ2 H2 S2 Fr I _ λY S3 J Z=>?_;have m3:Mv P H Y σ σ2 S S3 []:=D.trans Z.mv;cases b with
   |false=>
    simp![aa9,ab2]at e2;cases e2;exact Ax (q σ2 Y S3 J m3)
   |true=>
    simp![aal]at e2;refine uY ⟨λF H'=>∃ρ2 S2,Sta G H' ob ρ2 F S2 Fr/\Mv P H H' σ F S S2 []/\kZ c body m ρ2=ac r,λF H' h=>⟨m,adt m,h⟩,?_⟩;cases V:body a0 with
    |none=>rw[V]at e2;cases e2
    |some fl=>
     rw[V]at e2;refine U a0 fl V σ2 Y S3 Fr J _ ?_;cases fl with
     |nx z=>exact λF H' S' s' m'=>⟨z,S',s',m3.trans m',e2⟩
     |cnt z=>exact λF H' S' s' m'=>⟨z,S',s',m3.trans m',e2⟩
     |brk z=>cases e2;exact λF H' S' s' m'=>q F H' S' s' (m3.trans m')
     |ret d z=>cases e2;exact q.from m3
def J5(n:Nat){c:Expr}{body:List Stmt}{fc:En->Option (Bool×En)}(V:∀c,ad4 (model (X c).prog (X c).w) (X c).A (X c).env (X c).xe)(O:Gn X G ob c fc)(U:o5 X G ob P body f):PVS X G ob P (.While c body [] pos) (kZ fc f n):=let⟨v,c1,c2⟩:=O.ex;let⟨u,b1,b2⟩:=U.ex;⟨_,λc=>Lw (V c) (c1 c) (b1 c),JL n c2 b2⟩
def g8(i:Nat)(ρ:En):Option En:=match ρ[i]? with
 |some (ac d)=>ac (ρ.set i (ac (fz d)))
 |_=>af
theorem Sta.freeze{ρ':En}{Fr:Addr->Prop}(s:Sta G H ob ρ σ S Fr)(e:g8 i ρ=ac ρ'):Sta G H ob ρ' σ (h_ S i []) Fr:=by
 unfold g8 at e;split at e
 .rename_i d h1
  cases e;obtain⟨v,h2,O,Z,F⟩:=s.move h1;have q:Sta G H ob (ρ.set i af) σ (h_ S i []) Fr:=Z.lessF λa z=>.inr z;have J:i<ρ.length:=(List.getElem?_eq_some_iff.mp h1).1;have D:Rep G H (wn ob (h_ S i []) Fr) (fz d) v []:=by
   refine F.fz ⟨λa f=>⟨λz=>f.1 2.42,f.2⟩,λa Y=>⟨λz=>s.fdj i a z Y,λ⟨j,q1,q2⟩=>?_,λ⟨j,q1,q2⟩=>?_⟩⟩ (.inl O)
   .rcases dO q2 with⟨_,z⟩|⟨n,z⟩
    .cases z
    .exact n (s.dj j i a z Y)
   .rcases dO q2 with⟨_,z⟩|⟨n,z⟩
    .cases z
    .exact n (s.dj j i a z Y)
  refine⟨by simp[s.len],λj d' V=>?_,λj U=>?_,q.nd,q.dj,q.fdj,q.fdm⟩
  .by_cases e':j=i
   .subst e'
    have:fz d=d':=by simpa[J]using V
    subst this;exact⟨v,h2,by rw[fG];exact D,Pn d⟩
   .rw[List.getElem?_set_ne (aaS e')]at V
    exact q.sl j d' (by rw[List.getElem?_set_ne (aaS e')];exact V)
  .by_cases e':j=i
   .rw[e',fG]
   .exact q.em j λd'=>by have:=U d';rw[List.getElem?_set_ne (aaS e')]at this⊢;exact this
 .cases e
def sFz(i:Nat)(f:En->Option Fl):En->Option Fl:=λρ=>(g8 i ρ).bind f
def Xd{t:TS}(h:RfS G ob P t f):RfS G ob P t (sFz i f):=λρ r e σ H S Fr s E q=>by
 unfold sFz at e;cases h1:g8 i ρ with
 |none=>simp[h1]at e
 |some ρ1=>
  have e:f ρ1=ac r:=by simpa[h1]using e
  have m:Mv P H H σ σ S (h_ S i []) []:=⟨λ_ _ h _ _=>h,λj a z=>(dO z).elim (λz=>by cases z.2) λz=>.inl ⟨j,z.2⟩,.refl⟩;exact h ρ1 r e σ H (h_ S i []) Fr (s.freeze h1) E (q.from m)
def jP(i:Nat){st:Stmt}(h:PVS X G ob P st f):PVS X G ob P st (sFz i f):=let⟨t,a1,a2⟩:=h.ex;⟨t,a1,Xd a2⟩
mutual
noncomputable def cQ:D->Bool
 |.tup ds=>bI ds
 |.lst m ds=>m== .own&&bI ds
 |.dct m _ ds=>m== .own&&bI ds
 |.ins m _ _ ds=>m== .own&&bI ds
 |_=>ag
noncomputable def bI:List D->Bool
 |[]=>ag
 |d::r=>cQ d&&bI r
end
mutual
def Rep.own:∀{d:D}{v:V}{L:List Addr},Rep G H W d v L->cQ d=ag->Rep G H W' d v L
 |.non,v,L,h,_=>by rw[Rep]at h⊢;exact h
 |.bl _,v,L,h,_=>by rw[Rep]at h⊢;exact h
 |.int _,v,L,h,_=>by rw[Rep]at h⊢;exact h
 |.str _,v,L,h,_=>by rw[Rep]at h⊢;exact h
 |.ty _,v,L,h,_=>by rw[Rep]at h⊢;exact h
 |.tup ds,v,L,h,o=>by
  rw[Rep]at h⊢;obtain⟨a,xs,rfl,U,Z⟩:=h;exact⟨a,xs,rfl,U,aJ.own Z (by simpa[cQ]using o)⟩
 |.lst m ds,v,L,h,o=>by
  rw[Rep]at h⊢;obtain⟨a,xs,M,rfl,Z,hs⟩:=h;simp[cQ]at o;obtain⟨rfl,o⟩:=o;exact⟨a,xs,M,rfl,aJ.own Z o,hs⟩
 |.dct m ks ds,v,L,h,o=>by
  rw[Rep]at h⊢;obtain⟨a,xs,M,rfl,I,Z,hs⟩:=h;simp[cQ]at o;obtain⟨rfl,o⟩:=o;exact⟨a,xs,M,rfl,I,aJ.own Z o,hs⟩
 |.ins m c fs ds,v,L,h,o=>by
  rw[Rep]at h⊢;obtain⟨a,C,dx,xs,M,rfl,F,I,Z,hs⟩:=h;simp[cQ]at o;obtain⟨rfl,o⟩:=o;exact⟨a,C,dx,xs,M,rfl,F,I,aJ.own Z o,hs⟩
def aJ.own:∀{ds:List D}{J:List V}{L:List Addr},aJ G H W ds J L->bI ds=ag->aJ G H W' ds J L
 |[],J,L,h,_=>by rw[aJ]at h⊢;exact h
 |d::r,J,L,h,o=>by
  obtain⟨x,ys,M,M',rfl,rfl,h1,h2⟩:=h.inv;simp[bI]at o;exact .cons (Rep.own h1 o.1) (aJ.own h2 o.2)
end
def W1(Fr:Addr->Prop):Wn:=⟨Fr,λ_=>False,λ_=>False⟩
def spP(G:Gc)(F:List D->Option D):Sp:=λJ H Q _=>∃(ds:List D)(Fr:Addr->Prop),aJ G H (W1 Fr) ds J []/\aF ds=ag/\aD ds=ag/\(∀a,Fr a->Mu H a)/\∃d,F ds=ac d/\
 ∀v H' L,Same H H'->Rep G H' (W1 2.74) d v L->(∀a∈L,H a=af)->L.Nodup->clean d=ag->Q v H'
def en0(n:Nat)(ds:List D):En:=ds.map ac++aaN (n-ds.length) af
def fnP(O n:Nat)(body:En->Option Fl):List D->Option D:=λds=>if ds.length=O then(body (en0 n ds)).bind λr=>match r with
 |.ret d _=>ac d
 |.nx _=>ac .non
 |_=>af else af
def Iu(h:(en0 n ds)[i]? =ac (ac d)):ds[i]? =ac d:=by
 unfold en0 at h;by_cases hi:i<ds.length
 .rw[abq (by simpa using hi)]at h
  simpa using h
 .rw[aa8 (by simpa using Nat.le_of_not_lt hi)]at h
  rw[aeG]at h;split at h
  .simp at h
  .cases h
variable{J:List V}
def Zy{Fr:Addr->Prop}(r:aJ G H (W1 Fr) ds J [])(q:aF ds=ag)(F:aD ds=ag)(fm:∀a,Fr a->Mu H a):Sta G H ob 2.224 2.225 (λ_=>[]) Fr where
 len:=by simp[en0,L2.start,r.length]
 sl:=λi d e=>by
  have e:=Iu e;obtain⟨x,M,h1,h2,O⟩:=r.get e;have:M=[]:=by simpa using O
  subst this;refine⟨x,?_,h2.up ⟨Same.refl _,λb u U f=>⟨f.1,λ⟨j,_,z⟩=>(by cases z),λ⟨j,_,z⟩=>(by cases z)⟩,λb u U f=>f.elim⟩,by simp[clean,jt q e,jz F e]⟩;unfold L2.start;have hi:i<J.length:=(List.getElem?_eq_some_iff.mp h1).1;rw[abq (by simpa using hi)];simp[h1]
 em:=λ_ _=>rfl
 nd:=λ_=>aaq
 dj:=λi j a h=>by cases h
 fdj:=λi a _ h=>by cases h
 fdm:=fm
section
variable{P:Program}{w:World}{K:PySem.W.Frag}{mg:Str->Option Value}{base:Heap}
def Vs{a:Addr}:¬inS (λ_=>[]) a:=λ⟨_,z⟩=>by cases z
theorem okP{x qual:Str}{st:Stmt}{f:Addr}{fd:aap}{N ps:List Str}{k:Nat}{ob I:Nat->Bool}{body:En->Option Fl}(F:Fun K x qual st f fd)(S:bh N ps (aK st))
  (U:∀(cdv:Value)(A:aaK)(outer:List Env)(s:jl)(H:Hp)(E:XK),jM k 2.26->o5 (λ_:Unit=>(xV CX0 P w K mg base N qual (aK st) f cdv A outer s H E).nox) ⟨K,mg⟩ ob I (iM st) body) :
  dZ P w K mg base CX0 (k+1) f fd ps (spP ⟨K,mg⟩ (fnP ps.length N.length body)):=by
 refine F.ok S (λJ H Q E h=>?_) (λcdv A outer s H J Q E Z h=>?_)
 .obtain⟨ds,Fr,r,_,_,_,d,e,_⟩:=h
  unfold fnP at e;split at e
  .rename_i hl
   rw[←r.length];exact hl
  .cases e
 .obtain⟨ds,Fr,r,c1,c2,fm,d,e,q⟩:=h
  obtain⟨t,O,a2⟩:=(U cdv A outer s H E Z).ex;refine⟨t,O (),?_⟩;unfold fnP at e;split at e
  .cases h1:body 2.224 with
   |none=>simp[h1]at e
   |some fl=>
    rw[h1]at e;simp![gD]at e;refine a2 _ fl h1 2.225 H (λ_=>[]) Fr (Zy (ob:=ob) r c1 c2 fm) _ ?_;have D:∀{S':Ad}{M:List Addr}{b:Addr},(wn ob S' 2.16).free b->(W1 2.16).free b:=λz=>⟨z.1,id,id⟩;cases fl with
    |nx ρ'=>
     cases e;exact λa0 H' S' s' m=>q .non H' [] (λb o h=>m.kp b o h Vs (by simp)) (by rw[Rep];exact⟨rfl,rfl⟩) (by simp) aaq rfl
    |ret d' ρ'=>
     cases e;exact λv a0 H' M S' s' r' c n f m=>q v H' M (λb o h=>m.kp b o h Vs (by simp)) (by
      have V:=(by simpa[clean]using c:aA d=ag/\az d=ag);have ev:Evo H' H' 2.208 (W1 2.16):=⟨λb u h z=>⟨h,D z⟩,λ_ _ h=>h⟩;exact r'.mono ev (.inl V.1) (.inl V.2) λ_ _ _ h=>h) (λa Y=>(f a Y).resolve_left Vs) n c
    |brk ρ'=>cases e
    |cnt ρ'=>cases e
  .cases e
end
def aZ(F:List D->Option D)(ds:List D):Option D:=(F (fzL ds)).bind λd=>if(aF ds&&aD ds)||cQ d then ac d else af
variable{F:List D->Option D}
def Nt{E:XK}:CaV G (λJ H Q=>spP G F (J++[]) H Q E) (aZ F):=λds d e xs H W I r nd hn w Q q=>by
 unfold aZ at e;cases h1:F (fzL ds)with
 |none=>simp[h1]at e
 |some d'=>
  rw[h1]at e;simp![gD]at e;split at e
  .rename_i hc
   cases e;rw[List.append_nil];by_cases U:aF ds=ag/\aD ds=ag
   .refine⟨fzL ds,λa=>(W.n a∨W.s a∨W.o a)/\a∉I,r.fz ⟨λa f=>⟨λz=>z.1.elim f.1 λz=>z.elim f.2.1 f.2.2,id,id⟩,λa Y=>⟨λz=>z.2 Y,id,id⟩⟩ (.inl U),iC ds,iD ds,λa h=>w a h.1,d,h1,λv H' L s Z O n c=>?_⟩
    refine q v H' L s ?_ (λa Y=>.inr (O a Y)) n;have V:=(by simpa[clean]using c:aA d=ag/\az d=ag);have hL:∀a∈L,a∉I:=λa Y z=>by
     obtain⟨o,ho,_⟩:=r.dom a z;rw[O a Y]at ho;cases ho
    have ev:Evo H' H' (W1 (plus L λa=>(W.n a∨W.s a∨W.o a)/\a∉I)) ((W.drop I).add L):=⟨λb u h f=>⟨h,⟨λz=>z.elim (λz=>f.1 2.29) λz=>f.1 (.inr ⟨.inl z.1,z.2⟩),λz=>f.1 (.inr ⟨.inr 2.29,λy=>?_⟩),λz=>f.1 (.inr ⟨.inr 2.42,λy=>?_⟩)⟩⟩,λ_ _ h=>h⟩
    .exact Z.mono ev (.inl V.1) (.inl V.2) λ_ _ _ h=>h
    .exact(hn b y).2.1 z
    .exact(hn b y).2.2 z
   .have ho:cQ d=ag:=by
     simp![adL,aaa]at hc;exact hc.resolve_left U
    refine⟨fzL ds,λ_=>False,r.fz ⟨λa f=>⟨id,id,id⟩,λa Y=>⟨id,id,id⟩⟩ (.inr λa=>⟨id,id,id⟩),iC ds,iD ds,λa h=>h.elim,d,h1,λv H' L s Z O n c=>?_⟩;exact q v H' L s (Z.own ho) (λa Y=>.inr (O a Y)) n
  .cases e
def cZ{f:En->Option 2.79}(C:∀c,Cal (X c).prog (X c).w (X c).K (X c).mg (X c).base k x ps (spP G F))(Z:∀c,jM k (X c).A)(Y:PVA X G ob (e::es) f)(z:∀c,Gl (X c) x:=by intro _;rfl)(q:(x==("__debug__":Str))=ae:=by decide)(V:∀c,Z1 (e::es) (X c).env=(ae,eval e (X c).env)::Z1 es (X c).env:=by intro _;rfl)(U:∀c,(aa1 pos (Z1 es (X c).env)).any (·.1)=ae:=by intro _;rfl) :
 PV X G ob (.Call 2.117 (e::es) [] pos) (eAp (aZ F) f):=let⟨t,a1,a2⟩:=Y.ex;⟨_,λc=>O6 (C c) (Z c) (z c) (a1 c) q (V c) (U c),wG Nt a2⟩
variable{a:Addr}
theorem dH.fz2{D:Addr->HO->Prop}(hs:Les H W W' L)(U:m≠.brw∨∀a,W.s a->W'.free a)(F:m≠.bro∨oF W')(h:dH D H W a o m L M):dH D H W' a o (mkF m) [] []:=by
 cases m with
 |own=>exact⟨h.1,hs.l a (by rw[h.2];simp),rfl,rfl⟩
 |frz=>exact⟨h.1,hs.f a h.2.1,rfl,rfl⟩
 |brw=>exact⟨h.1,U.elim (λz=>absurd rfl z) λz=>z a h.2.1,rfl,rfl⟩
 |bro=>exact⟨h.1,F.elim (λz=>absurd rfl z) λz=>z a,rfl,rfl⟩
 |scr=>exact⟨h.1.imp (λz=>⟨z.1,hs.f a z.2⟩) id,rfl,rfl⟩
mutual
def Rep.fz2:∀{d:D}{v:V}{L:List Addr},Rep G H W d v L->Les H W W' L->(aA d=ag∨∀a,W.s a->W'.free a)->(az d=ag∨oF W')->Rep G H W' (fz d) v []
 |.non,v,L,h,_,_,_=>by rw[Rep]at h;simp[Jb.fz,Rep,h]
 |.bl _,v,L,h,_,_,_=>by rw[Rep]at h;simp[Jb.fz,Rep,h]
 |.int _,v,L,h,_,_,_=>by rw[Rep]at h;simp[Jb.fz,Rep,h]
 |.str _,v,L,h,_,_,_=>by rw[Rep]at h;simp[Jb.fz,Rep,h]
 |.ty _,v,L,h,_,_,_=>by rw[Rep]at h;simp[Jb.fz,Rep,h]
 |.tup ds,v,L,h,hs,c,o=>by
  rw[Rep]at h;rw[Jb.fz,Rep];obtain⟨a,xs,rfl,U,Z⟩:=h;exact⟨a,xs,rfl,U,aJ.fz2 Z hs (by simpa[aA]using c) (by simpa[az]using o)⟩
 |.lst m ds,v,L,h,he,c,o=>by
  rw[Rep]at h;rw[Jb.fz,Rep];obtain⟨a,xs,M,rfl,Z,hs⟩:=h;exact⟨a,xs,[],rfl,aJ.fz2 Z (he.sub λc O=>hs.sub.subset O) (c.imp (λz=>by simp[aA]at z;exact z.2) id) (o.imp (λz=>by simp[az]at z;exact z.2) id),hs.fz2 he (c.imp (λz=>by simp[aA]at z;exact z.1) id) (o.imp (λz=>by simp[az]at z;exact z.1) id)⟩
 |.dct m ks ds,v,L,h,he,c,o=>by
  rw[Rep]at h;rw[Jb.fz,Rep];obtain⟨a,xs,M,rfl,I,Z,hs⟩:=h;exact⟨a,xs,[],rfl,I,aJ.fz2 Z (he.sub λc O=>hs.sub.subset O) (c.imp (λz=>by simp[aA]at z;exact z.2) id) (o.imp (λz=>by simp[az]at z;exact z.2) id),hs.fz2 he (c.imp (λz=>by simp[aA]at z;exact z.1) id) (o.imp (λz=>by simp[az]at z;exact z.1) id)⟩
 |.ins m c' fs ds,v,L,h,he,c,o=>by
  rw[Rep]at h;rw[Jb.fz,Rep];obtain⟨a,C,dx,xs,M,rfl,F,I,Z,hs⟩:=h;exact⟨a,C,dx,xs,[],rfl,F,I,aJ.fz2 Z (he.sub λc O=>hs.sub.subset O) (c.imp (λz=>by simp[aA]at z;exact z.2) id) (o.imp (λz=>by simp[az]at z;exact z.2) id),hs.fz2 he (c.imp (λz=>by simp[aA]at z;exact z.1) id) (o.imp (λz=>by simp[az]at z;exact z.1) id)⟩
def aJ.fz2:∀{ds:List D}{J:List V}{L:List Addr},aJ G H W ds J L->Les H W W' L->(aF ds=ag∨∀a,W.s a->W'.free a)->(aD ds=ag∨oF W')->aJ G H W' (fzL ds) J []
 |[],J,L,h,_,_,_=>by obtain⟨rfl,_⟩:=h.inv0;rw[fzL];exact .nil
 |d::r,J,L,h,he,c,o=>by
  obtain⟨x,ys,M,M',rfl,rfl,h1,h2⟩:=h.inv;rw[fzL];exact .cons (M:=[]) (M':=[]) (Rep.fz2 h1 (he.sub λc O=>ZV _ O) (c.imp (λz=>by simp[aF]at z;exact z.1) id) (o.imp (λz=>by simp[aD]at z;exact z.1) id))
   (aJ.fz2 h2 (he.sub λc O=>W2 _ O) (c.imp (λz=>by simp[aF]at z;exact z.2) id) (o.imp (λz=>by simp[aD]at z;exact z.2) id))
end
def spI(G:Gc)(ob pr:Nat->Bool)(F:List D->Option (D×List D)):Sp:=λJ H Q _=>∃(ds:List D)(S:Ad)(Fr:Addr->Prop),Sta G H ob (ds.map ac) (J.map ac) S Fr/\(∀i,pr i=ae->S i=[])/\∃d O,F ds=ac (d,O)/\
 ∀v H' M S',Sta G H' ob (O.map ac) (J.map ac) S' 2.16->Rep G H' 2.208 d v M->clean d=ag->M.Nodup->(∀a∈M,inS S a∨H a=af)->Mv (λ_=>ae) H H' [] [] S S' []->Q v H'
def outs(pr:Nat->Bool)(ρ:En):Nat->List D->Option 2.79
 |_,[]=>ac []
 |i,d::r=>(if pr i=ag then(match ρ[i]? with
  |some (ac e)=>ac e
  |_=>af)else ac d).bind λe=>(outs pr ρ (i+1) r).map λt=>e::t
def fnI(pr:Nat->Bool)(O n:Nat)(body:En->Option Fl):List D->Option (D×List D):=λds=>if ds.length=O then(body (en0 n ds)).bind λr=>match r with
 |.ret d ρ=>(outs pr ρ 0 ds).map λo=>(d,o)
 |.nx ρ=>(outs pr ρ 0 ds).map λo=>(.non,o)
 |_=>af else af
def Hh{pr:Nat->Bool}{ρ:En}:∀{ds O:List D}{k:Nat},outs pr ρ k ds=ac O->O.length=ds.length/\∀i d,O[i]? =ac d->(pr (k+i)=ag/\ρ[k+i]? =ac (ac d))∨(pr (k+i)=ae/\ds[i]? =ac d)
 |[],O,k,e=>by
  cases e;exact⟨rfl,λi d h=>by simp at h⟩
 |d0::r,O,k,e=>by
  rw[outs]at e;cases h2:outs pr ρ (k+1) r with
  |none=>
   rw[h2]at e;simp at e
  |some t=>
   rw[h2]at e;obtain⟨J,V⟩:=Hh h2;have q:∃F,O=F::t/\((pr k=ag/\ρ[k]? =ac (ac F))∨(pr k=ae/\d0=F)):=by
    split at e
    .rename_i hp
     split at e
     .rename_i F h0
      exact⟨F,by simpa using e.symm,.inl ⟨hp,h0⟩⟩
     .simp at e
    .rename_i hp
     exact⟨d0,by simpa using e.symm,.inr ⟨by simpa using hp,rfl⟩⟩
   obtain⟨F,rfl,I⟩:=q;refine⟨by simp[J],λi d h=>?_⟩;cases i with
   |zero=>
    have:F=d:=by simpa using h
    subst this;exact I.imp id λz=>⟨z.1,by simp[z.2]⟩
   |succ i=>
    have:=V i d (by simpa using h);rw[show k+1+i=k+(i+1)by omega]at this;simpa using this
def rJ{xs:List α}{x:α}(h:(xs.map ac)[i]? =ac (ac x)):xs[i]? =ac x:=by
 rw[List.getElem?_map]at h;cases e:xs[i]? with
 |none=>rw[e]at h;cases h
 |some y=>rw[e]at h;simpa using h
def jQ{xs:List α}{x:α}(h:xs[i]? =ac x):(xs.map ac)[i]? =ac (ac x):=by rw[List.getElem?_map,h];rfl
def Zv{Fr:Addr->Prop}(s:Sta G H ob (ds.map ac) (J.map ac) S Fr):Sta G H ob 2.224 2.225 S Fr where
 len:=by have:=s.len;simp at this;simp[en0,L2.start,this]
 sl:=λi d e=>by
  obtain⟨v,h1,h2,O⟩:=s.sl i d (jQ (Iu e));refine⟨v,?_,h2,O⟩;unfold L2.start;have hi:i<(J.map ac).length:=(List.getElem?_eq_some_iff.mp h1).1;rw[abq hi];exact h1
 em:=λi h=>s.em i λd e=>h d (by
  unfold en0;have hi:i<(ds.map ac).length:=(List.getElem?_eq_some_iff.mp e).1;rw[abq hi];exact e)
 nd:=s.nd
 dj:=s.dj
 fdj:=s.fdj
 fdm:=s.fdm
section
variable{P:Program}{w:World}{K:PySem.W.Frag}{mg:Str->Option Value}{base:Heap}
def Du{G:Gc}{H H':Hp}{ob pr:Nat->Bool}{ds O:List D}{J:List V}{N:List Str}{S S1:Ad}{Fr:Addr->Prop}{ρ:En}{σ:L2.St}{M:List Addr}(s:Sta G H ob (ds.map ac) (J.map ac) S Fr)(hp:∀i,pr i=ae->S i=[])(Z:Sta G H' ob ρ σ S1 2.16)
  (m:Mv pr H H' 2.225 σ S S1 []) (hM:∀a∈M,inS S a∨H a=af) (e:outs pr ρ 0 ds=ac O) :
  Sta G H' ob (O.map ac) (J.map ac) (λi=>if pr i=ag/\i<ds.length then S1 i else[]) (plus M Fr):=by
 obtain⟨Y,F⟩:=Hh e;have lv:ds.length=J.length:=by have:=s.len;simpa using this
 have sub:∀{i a},a∈(if pr i=ag/\i<ds.length then S1 i else[])->a∈S1 i:=λ{i a} z=>by
  split at z
  .exact z
  .cases z
 refine⟨by simp[Y,lv],λi d h=>?_,λi h=>?_,λi=>?_,λi j a h1 h2=>Z.dj i j a (sub h1) (sub h2),λi a h z=>Z.fdj i a h (sub z),Z.fdm⟩
 .have h:=rJ h
  have hi:i<ds.length:=by rw[←Y];exact(List.getElem?_eq_some_iff.mp h).1
  rcases F i d h with⟨h1,h2⟩|⟨h1,h2⟩
  .rw[abz]at h1 h2
   obtain⟨v,q1,q2,q3⟩:=Z.sl i d h2;have e1:=m.pr i h1;rw[q1]at e1;refine⟨v,?_,?_,q3⟩
   .unfold L2.start at e1
    rw[abq (by simp;omega)]at e1;exact e1.symm
   .rw[if_pos ⟨h1,hi⟩]
    have q:=(by simpa[clean]using q3:aA d=ag/\az d=ag);have ev:Evo H' H' (wn ob S1 2.16) (wn ob (λi=>if pr i=ag/\i<ds.length then S1 i else[]) 2.16):=⟨λb u U f=>⟨U,⟨f.1,λ⟨j,z1,I⟩=>f.2.1 ⟨j,z1,sub I⟩,λ⟨j,z1,I⟩=>f.2.2 ⟨j,z1,sub I⟩⟩⟩,λ_ _ h=>h⟩;exact q2.mono ev (.inl q.1) (.inl q.2) λ_ _ _ h=>h
  .rw[abz]at h1
   obtain⟨v,q1,q2,q3⟩:=s.sl i d (jQ h2);refine⟨v,q1,?_,q3⟩;rw[aag λz=>by rw[h1]at z;cases z.1];rw[hp i h1]at q2;have q:=(by simpa[clean]using q3:aA d=ag/\az d=ag);have a0:=Gj s (σ2:=σ) (H2:=H') (S2:=S1) (P:=λ_=>ae) ⟨m.kp,m.gr,λi h=>by cases h⟩;have ev:Evo H H' 2.48 (wn ob (λi=>if pr i=ag/\i<ds.length then S1 i else[]) 2.16):=⟨λb u U f=>?_,a0.t⟩
   .exact q2.mono ev (.inl q.1) (.inl q.2) (by simp)
   .obtain⟨k1,k2⟩:=a0.k b u U f
    refine⟨k1,λz=>z.elim (λz=>?_) f.1,λ⟨j,z1,I⟩=>k2.2.1 ⟨j,z1,sub I⟩,λ⟨j,z1,I⟩=>k2.2.2 ⟨j,z1,sub I⟩⟩;rcases hM b z with⟨j,y⟩|y
    .cases ho:ob j with
     |false=>exact f.2.1 ⟨j,ho,y⟩
     |true=>exact f.2.2 ⟨j,ho,y⟩
    .rw[U]at y;cases y
 .split
  .rename_i z
   exfalso;have hi:i<O.length:=by rw[Y];exact z.2
   exact h O[i] (jQ (by simp[hi]))
  .rfl
 .show(if pr i=ag/\i<ds.length then S1 i else[]).Nodup
  split
  .exact Z.nd i
  .exact aaq
theorem okI{x qual:Str}{st:Stmt}{f:Addr}{fd:aap}{N ps:List Str}{k:Nat}{ob pr:Nat->Bool}{body:En->Option Fl}(F:Fun K x qual st f fd)(S:bh N ps (aK st))
  (U:∀(cdv:Value)(A:aaK)(outer:List Env)(s:jl)(H:Hp)(E:XK),jM k 2.26->o5 (λ_:Unit=>(xV CX0 P w K mg base N qual (aK st) f cdv A outer s H E).nox) ⟨K,mg⟩ ob pr (iM st) body) :
  dZ P w K mg base CX0 (k+1) f fd ps (spI ⟨K,mg⟩ ob pr (fnI pr ps.length N.length body)):=by
 refine F.ok S (λJ H Q E h=>?_) (λcdv A outer s H J Q E Z h=>?_)
 .obtain⟨ds,S,Fr,st,_,d,ds',e,_⟩:=h
  unfold fnI at e;split at e
  .rename_i hl
   have:=st.len;simp at this;rw[←this];exact hl
  .cases e
 .obtain⟨ds,S0,Fr,st,hp,d,ds',e,q⟩:=h
  obtain⟨t,a1,a2⟩:=(U cdv A outer s H E Z).ex;refine⟨t,a1 (),?_⟩;unfold fnI at e;split at e
  .cases h1:body 2.224 with
   |none=>simp[h1]at e
   |some fl=>
    rw[h1]at e;simp![gD]at e;refine a2 _ fl h1 2.225 H S0 Fr (Zv st) _ ?_;have sub:∀{S1:Ad}{i a},a∈(if pr i=ag/\i<ds.length then S1 i else[])->a∈S1 i:=λ{S1 i a} z=>by
     split at z
     .exact z
     .cases z
    cases fl with
    |nx ρ'=>
     cases h2:outs pr ρ' 0 ds with
     |none=>simp[h2]at e
     |some o=>
      obtain⟨rfl,rfl⟩:D.non=d/\o=ds':=by simpa[h2]using e
      refine λa0 H' S1 Y m=>q .non H' [] _ (Du st hp (M:=[]) (by rw[jV];exact Y) m (by simp) h2) (by rw[Rep];exact⟨rfl,rfl⟩) rfl aaq (by simp) ⟨m.kp,λi a z=>m.gr i a (sub z),λi h=>by cases h⟩
    |ret d' ρ'=>
     cases h2:outs pr ρ' 0 ds with
     |none=>simp[h2]at e
     |some o=>
      obtain⟨rfl,rfl⟩:d'=d/\o=ds':=by simpa[h2]using e
      refine λv a0 H' M S1 Y r c n f m=>q v H' M _ (Du st hp Y m f h2) ?_ c n f ⟨m.kp,λi a z=>m.gr i a (sub z),λi h=>by cases h⟩;have V:=(by simpa[clean]using c:aA d'=ag/\az d'=ag);have ev:Evo H' H' (wn ob S1 2.16) (wn ob (λi=>if pr i=ag/\i<ds.length then S1 i else[]) 2.16):=⟨λb u U f=>⟨U,⟨f.1,λ⟨j,O,I⟩=>f.2.1 ⟨j,O,sub I⟩,λ⟨j,O,I⟩=>f.2.2 ⟨j,O,sub I⟩⟩⟩,λ_ _ h=>h⟩;exact r.mono ev (.inl V.1) (.inl V.2) λ_ _ _ h=>h
    |brk ρ'=>cases e
    |cnt ρ'=>cases e
  .cases e
end
def RfM(G:Gc)(ob:Nat->Bool)(t:TA)(js:List Nat)(f:En->Option (List D×En)):Prop:=∀(ρ:En)(ds:List D)(ρ':En),f ρ=ac (ds,ρ')->∀(σ:L2.St)(H:Hp)(S:Ad)(Fr:Addr->Prop),Sta G H ob ρ σ S Fr->
 ∀us:List V,js.map (λj=>σ[j]?)=us.map (λu=>ac (ac u))->∀Q:List V->Hp->Prop,
 (∀J H' M S',Sta G H' ob ρ' σ S' 2.16->aJ G H' 2.208 ds J M->M.Nodup->Eff ob H H' S S' M->Q (us++J) H')->t σ H Q
structure PVM{ι:Type}(X:ι->Cx)(G:Gc)(ob:Nat->Bool)(es:List Expr)(js:List Nat)(f:En->Option (List D×En)):Prop where
 mk::(ex:∃t,(∀c,PA (X c) es t)/\RfM G ob t js f)
variable{f:En->Option (List D×En)}
def Rh(h:wu X G ob es f):PVM X G ob es [] f:=by
 obtain⟨t,O,F⟩:=h.ex;refine⟨t,O,λρ ds ρ' e σ H S Fr s us hu Q q=>?_⟩;have:us=[]:=by simpa using hu
 subst this;exact F ρ ds ρ' e σ H S Fr s Q q
def R0(i:Nat)(h:PVM X G ob es js f)(z:∀c,(X c).N[i]? =ac x:=by intro _;rfl)(Z:∀c,Vis (X c).env.scope x:=by intro _;first|exact aa_ rfl|exact aaL (aa_ rfl)|exact aaL 2.205)(hd:(x==("__debug__":Str))=ae:=by decide)(O:(x==("__classdict__":Str))=ae:=by decide)(hs:∀c,Z1 (.Name x pos::es) (X c).env=(ae,eval 2.38 (X c).env)::Z1 es (X c).env:=by intro _;rfl):PVM X G ob (.Name x pos::es) (i::js) f:=by
 obtain⟨t,U,F⟩:=h.ex;refine⟨_,λc=>vg 2.119 (U c) (hs c),λρ ds ρ' e σ H S Fr s us hu Q q=>?_⟩;cases us with
 |nil=>simp at hu
 |cons u us=>
  rw[ZX,ZX]at hu;injection hu with h1 h2;exact⟨u,h1,F ρ ds ρ' e σ H S Fr s us h2 _ λJ H' M S' s' r n I=>q J H' M S' s' r n I⟩
def objs(js:List Nat)(ρ:En):Option (List D):=js.mapM λj=>ρ[j]?.bind id
def mK:List Nat->List D->En->En
 |j::js,d::ds,ρ=>mK js ds (ρ.set j (ac d))
 |_,_,ρ=>ρ
def eIo(F:List D->Option (D×List D))(js:List Nat)(f:En->Option (List D×En)):En->Option (D×En):=λρ=>if(objs js ρ).isSome=ag then(f ρ).bind λp=>(objs js p.2).bind λos=>if aD p.1=ag then(F (os++fzL p.1)).bind λq=>
 if aF p.1=ag∨(cQ q.1=ag/\bI (q.2.take js.length)=ag)then ac (q.1,mK js q.2 p.2)else af else af else af
def Cu:∀{js:List Nat}{ds:List D}{ρ:En}{j:Nat},j∉js->(mK js ds ρ)[j]? =ρ[j]?
 |[],ds,ρ,j,_=>by cases ds<;>rfl
 |_::_,[],ρ,j,_=>rfl
 |i::js,d::ds,ρ,j,h=>by
  rw[mK,Cu (λz=>h (aai _ z)),List.getElem?_set_ne λz=>h (by rw[z];exact aaP)]
def kids:D->List D
 |.tup ds=>ds
 |.lst _ ds=>ds
 |.dct _ _ ds=>ds
 |.ins _ _ _ ds=>ds
 |_=>[]
def uR:D->List D->D
 |.tup _,es=>.tup es
 |.lst m _,es=>.lst m es
 |.dct m ks _,es=>.dct m ks es
 |.ins m c fs _,es=>.ins m c fs es
 |d,_=>d
def fJ:List Nat->D->Option D
 |[],d=>ac d
 |j::p,d=>((kids d)[j]?).bind (fJ p)
def dU:List Nat->D->D->D
 |[],e,_=>e
 |j::p,e,d=>match(kids d)[j]? with
  |some c=>uR d ((kids d).set j (dU p e c))
  |none=>d
def Evo.trans{H1:Hp}{W1 I:Wn}(a:Evo H H1 W W1)(b:Evo H1 H2 W1 I):Evo H H2 W I:=⟨λc u h f=>let⟨h1,f1⟩:=a.k c u h f;b.k c u h1 f1,λc xs h=>b.t c xs (a.t c xs h)⟩
structure Foc(G:Gc)(H:Hp)(W:Wn)(d0:D)(v0:V)(L:List Addr)(p:List Nat)(d:D)(v:V)(M:List Addr):Prop where
 r:Rep G H W d v M
 b:∃A B,L=A++(M++B)/\∀H' W' d' M',Evo H H' W W'->(∀c∈A++B,∀u,H c=ac u->H' c=ac u)->Rep G H' W' d' v M'->Rep G H' W' (dU p d' d0) v0 (A++(M'++B))
def Foc.nil(r:Rep G H W d v L):Foc G H W d v L [] d v L:=⟨r,[],[],by simp,λH' W' d' M' _ _ h=>by simpa[dU]using h⟩
variable{p:List Nat}{d0:D}
def Foc.mono{H1:Hp}{W1:Wn}{J:V}(f:Foc G H W d0 J L p d v M)(O:clean d=ag∨Up H H1 W W1)(e:Evo H H1 W W1)(k:∀c∈L,∀u,H c=ac u->H1 c=ac u):Foc G H1 W1 d0 J L p d v M:=by
 obtain⟨A,B,q,U⟩:=f.b;refine⟨?_,A,B,q,λH' W' d' M' e' F Z=>U H' W' d' M' (e.trans e') (λc O u hu=>F c O u (k c ?_ u hu)) Z⟩
 .rcases O with O|O
  .have hcc:=(by simpa[clean]using O:aA d=ag/\az d=ag)
   exact f.r.mono e (.inl hcc.1) (.inl hcc.2) λc O u hu=>k c (by rw[q];simp[O]) u hu
  .exact f.r.up O
 .rw[q]
  simp![Ls]at O⊢;rcases O with z|z<;>simp[z]
def Qd(p:List Nat)(j:Nat)(e:D):∀(d0:D){d:D},fJ p d0=ac d->(kids d)[j]?≠af->dU (p++[j]) e d0=dU p (dU [j] e d) d0:=by
 induction p with
 |nil=>intro d0 d h _;cases h;rfl
 |cons k p F=>
  intro d0 d h hn;simp![fJ]at h;cases h1:(kids d0)[k]? with
  |none=>simp[h1]at h
  |some c=>
   have h:fJ p c=ac d:=by simpa[h1]using h
   rw[aaj,dU,dU,h1];simp only;rw[F c h hn]
def Pj(p:List Nat)(j:Nat):∀(d0:D){d:D},fJ p d0=ac d->fJ (p++[j]) d0=(kids d)[j]?:=by
 induction p with
 |nil=>
  intro d0 d h;cases h;simp![List.nil_append,fJ];cases (kids d0)[j]?<;>rfl
 |cons k p F=>
  intro d0 d h;simp![fJ]at h;cases h1:(kids d0)[k]? with
  |none=>simp[h1]at h
  |some c=>
   have h:fJ p c=ac d:=by simpa[h1]using h
   rw[aaj,fJ,h1];exact F c h
def jC(h:clean 2.144=ag):aF ds=ag/\aD ds=ag:=by simp[clean,aA,az]at h;exact⟨h.1.2,h.2.2⟩
def jw{a b:List D}:aF (a++b)=(aF a&&aF b):=by
 induction a with
 |nil=>rfl
 |cons d r F=>rw[aaj,aF,aF,F,ago]
def jy{a b:List D}:aD (a++b)=(aD a&&aD b):=by
 induction a with
 |nil=>rfl
 |cons d r F=>rw[aaj,aD,aD,F,ago]
variable{c:D}
def aJ.kid(Z:aJ G H W ds xs L)(U:aF ds=ag)(F:aD ds=ag)(e:ds[j]? =ac c) :
  ∃x A M B,xs[j]? =ac x/\L=A++(M++B)/\Rep G H W c x M/\∀H' W' d' M',Evo H H' W W'->(∀b∈A++B,∀u,H b=ac u->H' b=ac u)->Rep G H' W' d' x M'->aJ G H' W' (ds.set j d') xs (A++(M'++B)):=by
 obtain⟨P,Q,x,ys,zs,I,q,J,rfl,z,rfl,Y,rfl,h1,h2,O⟩:=Z.at e;simp![jw,jy,aF,aD,aaa]at U F;refine⟨x,I,q,J,by rw[aa8 1.10,Y,abL];rfl,rfl,h2,λH' W' d' M' ev kp r'=>?_⟩;rw[←z,acD _ _ (ZZ _),abL];exact aJ.append (h1.mono ev (.inl U.1) (.inl F.1) λb U u hu=>kp b (ZV _ U) u hu) (aJ.cons r' (O.mono ev (.inl U.2.2) (.inl F.2.2) λb U u hu=>kp b (W2 _ U) u hu))
def Foc.lst{ds:List D}(r:Rep G H W 2.40 v L)(O:clean 2.40=ag)(e:ds[j]? =ac c):∃a xs x M,v= .ref a/\H a=ac 2.44/\xs.length=ds.length/\xs[j]? =ac x/\Foc G H W 2.40 v L [j] c x M:=by
 rw[Rep]at r;obtain⟨a,xs,N,rfl,Z,Y,rfl⟩:=r;obtain⟨h1,h2⟩:=jC O;obtain⟨x,A,M,B,J,rfl,rx,U⟩:=Z.kid h1 h2 e;refine⟨a,xs,x,M,rfl,Y,Z.length.symm,J,rx,a::A,B,by simp,λH' W' d' M' F kp q=>?_⟩;have I:dU [j] d' 2.40= .lst .own (ds.set j d'):=by simp![dU,kids,e,uR]
 rw[I,Rep];exact⟨a,xs,A++(M'++B),rfl,U H' W' d' M' F (λb U u hu=>kp b (aai _ U) u hu) q,kp a (by simp) _ Y,by simp⟩
theorem Foc.tup{ds:List D}(r:Rep G H W 2.97 v L)(O:clean 2.97=ag)(e:ds[j]? =ac c):∃a xs x M,v= .ref a/\H a=ac 2.54/\xs.length=ds.length/\xs[j]? =ac x/\Foc G H W 2.97 v L [j] c x M:=by
 rw[Rep]at r;obtain⟨a,xs,rfl,Y,Z⟩:=r;have q:aF ds=ag/\aD ds=ag:=by simpa[clean,aA,az]using O
 obtain⟨x,A,M,B,J,rfl,rx,U⟩:=Z.kid q.1 q.2 e;refine⟨a,xs,x,M,rfl,Y,Z.length.symm,J,rx,A,B,rfl,λH' W' d' M' F kp z=>?_⟩;have I:dU [j] d' 2.97= .tup (ds.set j d'):=by simp![dU,kids,e,uR]
 rw[I,Rep];exact⟨a,xs,rfl,F.t a xs Y,U H' W' d' M' F kp z⟩
variable{ks:List Key}
def Foc.dct(r:Rep G H W 2.108 v L)(O:clean 2.108=ag)(e:ds[j]? =ac c):∃a kvs x M,v= .ref a/\H a=ac 2.20/\(kvs.map (·.1)=ks/\ks.Nodup)/\(kvs.map (·.2))[j]? =ac x/\Foc G H W 2.108 v L [j] c x M:=by
 rw[Rep]at r;obtain⟨a,kvs,N,rfl,I,Z,Y,rfl⟩:=r;have q:aF ds=ag/\aD ds=ag:=by simp[clean,aA,az]at O;exact O
 obtain⟨x,A,M,B,J,rfl,rx,U⟩:=Z.kid q.1 q.2 e;refine⟨a,kvs,x,M,rfl,Y,I,J,rx,a::A,B,by simp,λH' W' d' M' F kp V=>?_⟩;have z:dU [j] d' 2.108= .dct .own ks (ds.set j d'):=by simp![dU,kids,e,uR]
 rw[z,Rep];exact⟨a,kvs,A++(M'++B),rfl,I,U H' W' d' M' F (λb U u hu=>kp b (aai _ U) u hu) V,kp a (by simp) _ Y,by simp⟩
def Foc.trans{J x:V}(f:Foc G H W d0 J I p d v L)(g:Foc G H W d v L [j] c x M)(hp:fJ p d0=ac d)(hj:(kids d)[j]?≠af):Foc G H W d0 J I (p++[j]) c x M:=by
 obtain⟨A,B,q,U⟩:=f.b;obtain⟨Y,B',a0,O⟩:=g.b;refine⟨g.r,A++Y,B'++B,by rw[q,a0];simp,λH' W' d' M' F kp Z=>?_⟩;rw[Qd p j d' d0 hp hj];have:=U H' W' (dU [j] d' d) (Y++(M'++B')) F (λb U u hu=>kp b ?_ u hu) (O H' W' d' M' F (λb U u hu=>kp b ?_ u hu) Z)
 .simpa using this
 .simp![Ls]at U⊢
  rcases U with z|z<;>simp[z]
 .simp![Ls]at U⊢
  rcases U with z|z<;>simp[z]
def RfP(G:Gc)(ob:Nat->Bool)(t:TE)(i:Nat)(pf:En->Option 2.114):Prop:=∀(ρ:En)(p:List Nat),pf ρ=ac p->∀(σ:L2.St)(H:Hp)(S:Ad)(Fr:Addr->Prop),Sta G H ob ρ σ S Fr->∃d0 d,ρ[i]? =ac (ac d0)/\fJ p d0=ac d/\∀Q:VK,
 (∀v J H' M,Same H H'->σ[i]? =ac (ac J)->Foc G H' 2.48 d0 J (S i) p d v M->Q v H')->t σ H Q
structure PVP{ι:Type}(X:ι->Cx)(G:Gc)(ob:Nat->Bool)(e:Expr)(i:Nat)(pf:En->Option (List Nat)):Prop where
 mk::(ex:∃t,(∀c,PE (X c) e t)/\RfP G ob t i pf)
def ig(i:Nat):En->Option (List Nat):=λρ=>match ρ[i]? with
 |some (ac _)=>ac []
 |_=>af
def gY(i:Nat)(z:∀c,(X c).N[i]? =ac x:=by intro _;rfl)(Z:∀c,Vis (X c).env.scope x:=by intro _;first|exact aa_ rfl|exact aaL (aa_ rfl)|exact aaL 2.205)(hd:(x==("__debug__":Str))=ae:=by decide)
  (D:(x==("__classdict__":Str))=ae:=by decide):PVP X G ob 2.38 i (ig i):=by
 refine⟨_,λc=>pv i (z c) (Z c) hd D,λρ p e σ H S Fr s=>?_⟩;unfold ig at e;split at e
 .rename_i d h1
  cases e;obtain⟨v,h2,O,F⟩:=s.sl i d h1;exact⟨d,d,h1,rfl,λQ q=>⟨v,h2,q v v H _ 2.64 h2 (.nil O)⟩⟩
 .cases e
def lq:∀{p:List Nat}{d:D},clean d0=ag->fJ p d0=ac d->clean d=ag:=by
 intro p
 induction p generalizing d0 with
 |nil=>intro d h e;cases e;exact h
 |cons j p F=>
  intro d h e;simp![fJ]at e;cases h1:(kids d0)[j]? with
  |none=>simp[h1]at e
  |some c=>
   have e:fJ p c=ac d:=by simpa[h1]using e
   refine F ?_ e;have I:aF (kids d0)=ag/\aD (kids d0)=ag:=by
    cases d0<;>simp[kids,clean,aA,az,aF,aD]at h h1⊢<;>(try exact h)<;>exact⟨h.1.2,h.2.2⟩
   simp[clean,jt I.1 h1,jz I.2 h1]
def dm:D->Option Key
 |.int i=>ac (.inl i)
 |.str x=>ac (.inr x)
 |_=>af
def c7(ks:List Key)(k:Key):Option Nat:=ks.findIdx? λx=>decide (x=k)
def ixP:D->D->Option Nat
 |.lst .own ds,.int i=>ixN ds.length i
 |.tup ds,.int i=>ixN ds.length i
 |.dct .own ks ds,k=>(dm k).bind λk=>(c7 ks k).bind λj=>if j<ds.length then ac j else af
 |_,_=>af
def xJ(i:Nat)(pf:En->Option 2.114)(V:En->Option D):En->Option (List Nat):=λρ=>(pf ρ).bind λp=>(V ρ).bind λk=>match ρ[i]? with
 |some (ac d0)=>(fJ p d0).bind λd=>(ixP d k).bind λj=>if j<(kids d).length then ac (p++[j])else af
 |_=>af
def Jg:R2:=λx y H Q=>∃a v,x= .ref a/\nT H a y (ac v)/\Q v H
variable{Y:Cx}
def Te(hu:Y.A.units+1<cLine):IxR Y Jg:=by
 intro V U pins s σ H x y v u Q I rx Z h hs;obtain⟨a,z,rfl,g,q⟩:=h;cases rx;exact afe (Dz I g) PySem.F.slot_dict_getitem.lookup (Ji hu I g Z λw' J D O=>⟨z,H,D,O,q⟩) hs
def zN(hu:Y.A.units+1<cLine):IxR Y (λx y H Q=>rIx Y.K x y H Q∨Jg x y H Q):=VB.or (Te hu)
def gB:∀{kvs:List (Key×V)}{k:Key}{j:Nat},c7 (kvs.map (·.1)) k=ac j->jc kvs k=(kvs.map (·.2))[j]?
 |[],k,j,h=>by simp[c7]at h
 |(k0,v)::r,k,j,h=>by
  simp![ZX,c7,ac5]at h;by_cases e:k0=k
  .subst e
   simp at h;subst h;simp[jc]
  .rw[aac e]at h
   simp![aa9,ab2]at h;cases h1:(r.map (·.1)).findIdx? (λx=>decide (x=k))with
   |none=>rw[h1]at h;cases h
   |some i=>
    rw[h1]at h;have:i+1=j:=by simpa using h
    subst this;have F:=gB (kvs:=r) (k:=k) (j:=i) h1;simp![jc,abK,aac e,ZX,Z6];exact F
def jn:∀{kvs:List (Key×V)}{k:Key},c7 (kvs.map (·.1)) k=af->jc kvs k=af
 |[],k,h=>rfl
 |(k0,v)::r,k,h=>by
  simp![ZX,c7,ac5]at h;by_cases e:k0=k
  .subst e
   simp at h
  .rw[aac e]at h
   simp![aa9,ab2]at h;have h1:(r.map (·.1)).findIdx? (λx=>decide (x=k))=af:=by
    cases h1:(r.map (·.1)).findIdx? (λx=>decide (x=k))with
    |none=>rfl
    |some i=>rw[h1]at h;cases h
   have F:=jn (kvs:=r) (k:=k) h1;simp![jc,abK,aac e];exact F
def i_{k:Key}(r:Rep G H W d v L)(h:dm d=ac k):v=kV k:=by
 cases d<;>simp[dm]at h<;>subst h<;>rw[Rep]at r<;>exact r.1
variable{pf:En->Option (List Nat)}
def RD{to ti:TE}{i0:Nat}{fk:En->Option D}(F:RfP G ob to i0 pf)(hi:RfE G ob ti fk):RfP G ob (tOp (λx y H Q=>rIx G.K x y H Q∨Jg x y H Q) to ti) i0 (xJ i0 pf fk):=λρ p e σ H S Fr s=>by
 unfold xJ at e;cases h1:pf ρ with
 |none=>simp[h1]at e
 |some p0=>
  cases h2:fk ρ with
  |none=>simp[h1,h2]at e
  |some k=>
   rw[h1,h2]at e;simp![gD]at e;split at e
   .rename_i d0 h3
    cases h4:fJ p0 d0 with
    |none=>simp[h4]at e
    |some d=>
     cases V:ixP d k with
     |none=>simp[h4,V]at e
     |some j=>
      by_cases h6:j<(kids d).length
      .obtain rfl:p0++[j]=p:=by simpa[h4,V,h6]using e
       obtain⟨a6,d',g1,g2,g3⟩:=F ρ p0 h1 σ H S Fr s;rw[h3]at g1;cases g1;rw[h4]at g2;cases g2;have O:clean d=ag:=lq (let⟨_,_,_,h⟩:=s.sl i0 d0 h3;h) h4;refine⟨d0,(kids d)[j],h3,by rw[Pj p0 j d0 h4,List.getElem?_eq_getElem h6],λQ q=>?_⟩;refine g3 _ λv v0 H1 M Z a3 a5=>?_;have a1:Sta G H1 ob ρ σ S Fr:=s.grow Z λa z=>.inl z;refine hi ρ k h2 σ H1 _ a1.rel a1.wok _ λy H2 L2 s2 ry fy ny=>?_;have up:Up H1 H2 2.48 (wn ob S Fr):=Up.same s2;have a0:=a5.mono (.inr up) up.evo λc _ u hu=>s2 c u hu;have U:(kids d)[j]? =ac (kids d)[j]:=List.getElem?_eq_getElem h6;have fin:∀x M',Foc G H2 2.48 d v M [j] (kids d)[j] x M'->Q x H2:=λx M' f=>q x v0 H2 M' (Z.trans s2) a3 (a0.trans f h4 (by rw[U];simp));cases d with
       |lst m ds=>
        cases m<;>(try(simp[ixP]at V));cases k<;>(try(simp[ixP]at V));rename_i n;rw[Rep]at ry;obtain⟨a,xs,x,M',rfl,Y,hl,J,f⟩:=Foc.lst a0.r O U;refine .inl (.inl ⟨a,xs,n,x,rfl,ry.1,SqL.of Y,?_,fin x M' f⟩);unfold atI;rw[hl,V];exact J
       |tup ds=>
        cases k<;>(try(simp[ixP]at V));rename_i n;rw[Rep]at ry;obtain⟨a,xs,x,M',rfl,Y,hl,J,f⟩:=Foc.tup a0.r O U;refine .inl (.inr (.inl ⟨a,xs,n,x,rfl,ry.1,SqT.of Y,?_,fin x M' f⟩));unfold atI;rw[hl,V];exact J
       |dct m ks ds=>
        cases m<;>(try(simp[ixP]at V));cases I:dm k with
        |none=>simp[I]at V
        |some kk=>
         cases J:c7 ks kk with
         |none=>simp[I,J]at V
         |some j'=>
          have:j'=j:=by
           have:=V;simp[I,J]at this;exact this.2
          subst this;obtain⟨a,kvs,x,M',rfl,Y,a2,a4,f⟩:=Foc.dct a0.r O U;refine .inr ⟨a,x,rfl,?_,fin x M' f⟩;have:=i_ ry I;subst this;have hv:=gB (kvs:=kvs) (k:=kk) (j:=j') (by rw[a2.1];exact J);rw[a4]at hv;rw[←hv];exact nT.k Y
       |_=>simp[ixP]at V
      .simp[h4,V,h6]at e
   .cases e
theorem BK{o i:Expr}{q:Nat}{V:En->Option D}(hu:∀c,(X c).A.units+1<cLine)(F:PVP X G ob o q pf)(hi:PV X G ob i V)(hs:oV i:=by exact λ_ _=>rfl)(J:∀c,(X c).K=G.K:=by intro _;rfl):PVP X G ob (.Subscript o i pos) q (xJ q pf V):=let⟨t,a1,a2⟩:=F.ex;let⟨u,b1,b2⟩:=hi.ex;⟨_,λc=>(by rw[←J c];exact Em (zN (hu c)) (a1 c) (b1 c) hs),RD a2 b2⟩
def MuV(G:Gc)(r:V->List V->Hp->VK->Prop)(op:D->List D->Option (D×D)):Prop:=∀(d:D)(es:List D)(d' res:D),op d es=ac (d',res)->∀(v:V)(xs:List V)(H:Hp)(W:Wn)(M N:List Addr),Rep G H W d v M->aJ G H W es xs N->(M++N).Nodup->(∀a∈M,¬W.free a)->
 clean d=ag->aF es=ag->aD es=ag->∀Q:VK,(∀x H' M' R,(∀b u,H b=ac u->b∉M->H' b=ac u)->(∀W',Evo H H' W W'->Rep G H' W' d' v M'/\Rep G H' W' res x R)->(M'++R).Nodup->(∀a∈M'++R,a∈M∨a∈N∨H a=af)->clean d'=ag->clean res=ag->Q x H')->r v xs H Q
def Ha{e:D}:∀{p:List Nat},clean d0=ag->clean e=ag->clean (dU p e d0)=ag:=by
 intro p
 induction p generalizing d0 with
 |nil=>intro _ h;exact h
 |cons j p F=>
  intro h V;simp![dU];cases h1:(kids d0)[j]? with
  |none=>exact h
  |some c=>
   have O:clean c=ag:=lq (p:=[j]) h (by simp[fJ,h1]);have:=F (d0:=c) O V;have I:∀{ds:List D}{j:Nat}{x:D},aF ds=ag->aD ds=ag->clean x=ag->aF (ds.set j x)=ag/\aD (ds.set j x)=ag:=λ{ds}=>by
    induction ds with
    |nil=>intro j x a b _;simp[a,b]
    |cons y r z=>
     intro j x a b q;simp![aF,aD,aaa]at a b;have J:=(by simpa[clean]using q:aA x=ag/\az x=ag);cases j with
     |zero=>simp[aF,aD,J,a,b]
     |succ j=>simp![aaF,aF,aD,aaa];exact⟨⟨a.1,(z a.2 b.2 q).1⟩,⟨b.1,(z a.2 b.2 q).2⟩⟩
   cases d0<;>simp![kids,List.getElem?_nil]at h1<;>(try cases h1)<;>simp![uR,kids]<;>simp[clean,aA,az]at h⊢
   .exact⟨(I h.1 h.2 this).1,(I h.1 h.2 this).2⟩
   .exact⟨⟨h.1.1,(I h.1.2 h.2.2 this).1⟩,h.2.1,(I h.1.2 h.2.2 this).2⟩
   .exact⟨⟨h.1.1,(I h.1.2 h.2.2 this).1⟩,h.2.1,(I h.1.2 h.2.2 this).2⟩
   .exact⟨⟨h.1.1,(I h.1.2 h.2.2 this).1⟩,h.2.1,(I h.1.2 h.2.2 this).2⟩
variable{res:D}
def Sta.mut{Fr:Addr->Prop}{d':D}{v0 x:V}{N M' R:List Addr}(s:Sta G H ob ρ σ S (plus N Fr))(e:ρ[i]? =ac (ac d0))(I:σ[i]? =ac (ac v0))(b3:Foc G H 2.65 d0 v0 (S i) p d v M)
  (hF:∀a∈N,¬Fr a) (kp:∀b u,H b=ac u->b∉M->H' b=ac u) (Z:∀W',Evo H H' 2.65 W'->Rep G H' W' d' v M'/\Rep G H' W' res x R) (nd:(M'++R).Nodup) (gr:∀a∈M'++R,a∈M∨a∈N∨H a=af) (O:clean d'=ag) :
  ∃S',Sta G H' ob 2.137 σ S' 2.120/\Rep G H' (wn ob S' 2.120) res x R/\(∀j,j≠i->S' j=S j)/\(∀a∈S' i,a∈S i∨a∈N∨H a=af)/\(∀a∈R,a∈S i∨a∈N∨H a=af)/\(∀b u,H b=ac u->b∉S i->H' b=ac u):=by
 obtain⟨A,B,hL,U⟩:=b3.b;have a9:i<ρ.length:=(List.getElem?_eq_some_iff.mp e).1;have a1:∀a∈M,a∈S i:=λa Y=>by rw[hL];simp[Y]
 have a2:∀a∈A++B,a∈S i/\a∉M:=λa Y=>by
  have hn:=s.nd i;rw[hL]at hn;have h1:=List.nodup_append.mp hn;have h2:=List.nodup_append.mp h1.2.1;rcases Ls.mp Y with z|z
  .exact⟨by rw[hL];simp[z],λy=>h1.2.2 a z a (by simp[y]) rfl⟩
  .exact⟨by rw[hL];simp[z],λy=>h2.2.2 a y a z rfl⟩
 have a8:∀a∈M'++R,∀j,j≠i->a∉S j:=λa Y j hj z=>by
  rcases gr a Y with y|y|y
  .exact hj (s.dj j i a z (a1 a y))
  .exact s.fdj j a (.inl y) z
  .obtain⟨o,F,_⟩:=s.mu z;rw[y]at F;cases F
 have b2:∀a∈M'++R,¬Fr a:=λa Y z=>by
  rcases gr a Y with y|y|y
  .exact s.fdj i a 2.42 (a1 a y)
  .exact hF a y z
  .obtain⟨o,F,_⟩:=s.fdm a 2.42;rw[y]at F;cases F
 have a3:∀a∈M'++R,a∉A++B:=λa Y z=>by
  obtain⟨z1,z2⟩:=a2 a z;rcases gr a Y with y|y|y
  .exact z2 y
  .exact s.fdj i a (.inl y) z1
  .obtain⟨o,F,_⟩:=s.mu z1;rw[y]at F;cases F
 let S':=h_ S i (A++(M'++B))
 have a5:∀a∈S' i,a∈S i∨a∈N∨H a=af:=λa Y=>by
  have Y:a∈h_ S i (A++(M'++B)) i:=Y;rw[fG]at Y;simp![Ls]at Y;rcases Y with z|z|z
  .exact .inl (a2 a 2.213).1
  .exact(gr a 2.213).imp (a1 a) id
  .exact .inl (a2 a (W2 _ z)).1
 have a6:∀b u,H b=ac u->(wn ob S (plus N Fr)).free b->H' b=ac u/\(wn ob S' 2.120).free b:=λb u U f=>by
  have nS:∀j,b∉S j:=λj z=>by
   cases F:ob j with
   |false=>exact f.2.1 ⟨j,F,z⟩
   |true=>exact f.2.2 ⟨j,F,z⟩
  have a7:∀j,b∉S' j:=λj z=>by
   by_cases hj:j=i
   .subst hj
    rcases a5 b z with y|y|y
    .exact nS j y
    .exact f.1 (.inl y)
    .rw[U]at y;cases y
   .have z:b∈h_ S i (A++(M'++B)) j:=z
    rw[fK hj]at z;exact nS j z
  refine⟨kp b u U λz=>nS i (a1 b z),λz=>?_,λ⟨j,_,z⟩=>a7 j z,λ⟨j,_,z⟩=>a7 j z⟩;rcases z with z|z
  .rcases gr b (W2 _ z)with y|y|y
   .exact nS i (a1 b y)
   .exact f.1 (.inl y)
   .rw[U]at y;cases y
  .exact f.1 2.42
 have ev:Evo H H' 2.65 (wn ob S' 2.120):=⟨a6,λb xs h=>by
  have no:∀u,H b=ac u->muO u=ae->H' b=ac u:=λu hu mu=>kp b u hu λz=>by
   obtain⟨o,F,J⟩:=s.mu (a1 b z);rw[hu]at F;cases F;rw[mu]at J;cases J
  exact no _ h rfl⟩
 obtain⟨r1,r2⟩:=Z _ ev;have b0:=List.nodup_append.mp nd;refine⟨S',⟨by simp[s.len],λj dj hj=>?_,λj hj=>?_,λj=>?_,λj k a h1 h2=>?_,λj a h1 h2=>?_,λa Y=>?_⟩,r2,λj hj=>fK hj,a5,λa Y=>(gr a (W2 _ Y)).imp (a1 a) id,λb u U n=>kp b u U λz=>n (a1 b z)⟩
 .by_cases a0:j=i
  .subst a0
   have:dU p d' d0=dj:=by simpa[a9]using hj
   subst this;have b1:clean d0=ag:=let⟨_,_,_,h⟩:=s.sl j d0 e;h;refine⟨v0,I,?_,Ha b1 O⟩;show Rep G H' _ _ v0 (h_ S j (A++(M'++B)) j);rw[fG];exact U H' _ d' M' ev (λc O u hu=>kp c u hu (a2 c O).2) r1
  .rw[List.getElem?_set_ne (aaS a0)]at hj
   obtain⟨w,q1,q2,q3⟩:=s.sl j dj hj;have q:=(by simpa[clean]using q3:aA dj=ag/\az dj=ag);refine⟨w,q1,?_,q3⟩;show Rep G H' _ dj w (h_ S i (A++(M'++B)) j);rw[fK a0];exact q2.mono ev (.inl q.1) (.inl q.2) λc O u hu=>kp c u hu λz=>a0 (s.dj j i c O (a1 c z))
 .by_cases a0:j=i
  .subst a0
   exact absurd (by simp[a9]) (hj (dU p d' d0))
  .show h_ S i (A++(M'++B)) j=[]
   rw[fK a0];exact s.em j λd1=>by have:=hj d1;rwa[List.getElem?_set_ne (aaS a0)]at this
 .by_cases a0:j=i
  .subst a0
   show(h_ S j (A++(M'++B)) j).Nodup;rw[fG];have hn:=s.nd j;rw[hL]at hn;have h1:=List.nodup_append.mp hn;have h2:=List.nodup_append.mp h1.2.1;refine fD h1.1 (fD b0.1 h2.2.1 λa Y z=>a3 a (ZV _ Y) (W2 _ z)) λa Y z=>?_;rcases Ls.mp z with z|z
   .exact a3 a 2.213 (ZV _ Y)
   .exact h1.2.2 a Y a (by simp[z]) rfl
  .show(h_ S i (A++(M'++B)) j).Nodup
   rw[fK a0];exact s.nd j
 .have key:∀{j:Nat}{a:Addr},j≠i->a∈S j->a∈S' i->False:=λ{j a} hj z1 z2=>by
   have z2:a∈h_ S i (A++(M'++B)) i:=z2;rw[fG]at z2;simp![Ls]at z2;rcases z2 with z|z|z
   .exact hj (s.dj j i a z1 (a2 a 2.213).1)
   .exact a8 a 2.213 j hj z1
   .exact hj (s.dj j i a z1 (a2 a (W2 _ z)).1)
  by_cases a0:j=i<;>by_cases a4:k=i
  .rw[a0,a4]
  .subst a0
   have h2:a∈h_ S j (A++(M'++B)) k:=h2;rw[fK a4]at h2;exact(key a4 h2 h1).elim
  .subst a4
   have h1:a∈h_ S k (A++(M'++B)) j:=h1;rw[fK a0]at h1;exact(key a0 h1 h2).elim
  .have h1:a∈h_ S i (A++(M'++B)) j:=h1
   have h2:a∈h_ S i (A++(M'++B)) k:=h2;rw[fK a0]at h1;rw[fK a4]at h2;exact s.dj j k a h1 h2
 .by_cases a0:j=i
  .subst a0
   have h2:a∈h_ S j (A++(M'++B)) j:=h2;rw[fG]at h2;simp![Ls]at h2;rcases h1 with h1|h1
   .rcases h2 with z|z|z
    .exact a3 a (W2 _ h1) 2.213
    .exact b0.2.2 a z a h1 rfl
    .exact a3 a (W2 _ h1) (W2 _ z)
   .rcases h2 with z|z|z
    .exact s.fdj j a (.inr h1) (a2 a 2.213).1
    .exact b2 a 2.213 h1
    .exact s.fdj j a (.inr h1) (a2 a (W2 _ z)).1
  .have h2:a∈h_ S i (A++(M'++B)) j:=h2
   rw[fK a0]at h2;rcases h1 with h1|h1
   .exact a8 a (W2 _ h1) j a0 h2
   .exact s.fdj j a (.inr h1) h2
 .rcases Y with Y|Y
  .exact r2.dom a Y
  .obtain⟨o,F,J⟩:=s.fdm a (.inr Y)
   exact⟨o,kp a o F λz=>s.fdj i a (.inr Y) (a1 a z),J⟩
section
variable{ι:Type}{X:ι->Cx}{G:Gc}{ob P:Nat->Bool}
def nq{G:Gc}{r:V->List V->Hp->VK->Prop}{op:D->List D->Option (D×D)}{H:Hp}{ρ:En}{σ:L2.St}{S:Ad}{Fr:Addr->Prop}{i:Nat}{p:List Nat}{d0 d d' res:D}{v v0:V}{M N:List Addr}{es:List D}{xs:List V}(J:MuV G r op)(s:Sta G H ob ρ σ S (plus N Fr))(e:ρ[i]? =ac (ac d0))(I:σ[i]? =ac (ac v0))(hp:fJ p d0=ac d)
  (z:Foc G H 2.65 d0 v0 (S i) p d v M) (re:aJ G H 2.65 es xs N) (nd:N.Nodup) (hF:∀a∈N,¬Fr a) (U:aF es=ag) (c2:aD es=ag) (h:op d es=ac (d',res)) {Q:VK}
  (q:∀x H' R S',Sta G H' ob 2.137 σ S' 2.120->Rep G H' (wn ob S' 2.120) res x R->R.Nodup->clean res=ag->(∀j,j≠i->S' j=S j)->(∀a∈S' i,a∈S i∨a∈N∨H a=af)->(∀a∈R,a∈S i∨a∈N∨H a=af)->(∀b u,H b=ac u->b∉S i->H' b=ac u)->Q x H'):r v xs H Q:=by
 have O:abb M (S i):=by
  obtain⟨A,B,hL,_⟩:=z.b;rw[hL];exact(aa2 M B).trans (aaI A _)
 have a0:clean d0=ag:=let⟨_,_,_,h⟩:=s.sl i d0 e;h;refine J d es d' res h v xs H _ M N z.r re (fD (O.nodup (s.nd i)) nd λa h1 h2=>s.fdj i a (.inl h2) (O.subset h1)) (λa Y f=>?_) (lq a0 hp) U c2 Q λx H' M' R kp Z F gr a1 a2=>?_
 .cases ho:ob i with
  |false=>exact f.2.1 ⟨i,ho,O.subset Y⟩
  |true=>exact f.2.2 ⟨i,ho,O.subset Y⟩
 .obtain⟨S',q1,q2,q3,q4,q5,q6⟩:=s.mut e I z hF kp Z F gr a1
  exact q x H' R S' q1 q2 (List.nodup_append.mp F).2.1 a2 q3 q4 q5 q6
def upS(op:D->List D->Option (D×D))(i:Nat)(p:List Nat)(es:List D)(ρ:En):Option (D×En):=match ρ[i]? with
 |some (ac d0)=>(fJ p d0).bind λd=>if aF es=ag/\aD es=ag then(op d es).map λq=>(q.2,ρ.set i (ac (dU p q.1 d0)))else af
 |_=>af
def zJ{op:D->List D->Option (D×D)}{i:Nat}{p:List Nat}{es:List D}{ρ ρ':En}{res:D}(h:upS op i p es ρ=ac (res,ρ')):∃d0 d d',ρ[i]? =ac (ac d0)/\fJ p d0=ac d/\aF es=ag/\aD es=ag/\op d es=ac (d',res)/\ρ'=ρ.set i (ac (dU p d' d0)):=by
 unfold upS at h;split at h
 .rename_i d0 h1
  cases h2:fJ p d0 with
  |none=>simp[h2]at h
  |some d=>
   by_cases O:aF es=ag/\aD es=ag
   .cases h3:op d es with
    |none=>simp[h2,O,h3]at h
    |some q=>
     obtain⟨d',Z⟩:=q;obtain⟨rfl,rfl⟩:Z=res/\ρ.set i (ac (dU p d' d0))=ρ':=by simpa[h2,O,h3]using h
     exact⟨d0,d,d',h1,h2,O.1,O.2,h3,rfl⟩
   .simp[h2,O]at h
 .cases h
def zQ(op:D->List D->Option (D×D))(i:Nat)(pf:En->Option 2.114)(f:En->Option 2.79):En->Option (D×En):=λρ=>(pf ρ).bind λp=>(f ρ).bind λes=>upS op i p es ρ
def pq(op:D->List D->Option (D×D))(i:Nat)(pf:En->Option 2.114)(f:En->Option 2.79):En->Option Fl:=λρ=>(zQ op i pf f ρ).map λq=>.nx q.2
def v9(op:D->List D->Option (D×D))(i:Nat)(pf:En->Option 2.114)(f:En->Option (List D×En)):En->Option Fl:=λρ=>(pf ρ).bind λp=>(f ρ).bind λq=>(upS op i p q.1 q.2).map λq=>.nx q.2
def Jz(G:Gc)(T:String)(op:D->List D->Option (D×D)):Prop:=∀d es q,op d es=ac q->∀(v:V)(H:Hp)(W:Wn)(L:List Addr),Rep G H W d v L->tyV G.K T v H
def W7{T:String}{r:V->List V->Hp->VK->Prop}{op:D->List D->Option (D×D)}{to:TE}{t:TA}{i:Nat}{pf:En->Option 2.114}{f:En->Option 2.79}(J:MuV G r op)(ht:Jz G T op)(F:RfP G ob to i pf)(Y:RfA G ob t f){ρ ρ':En}{res:D}(e:zQ op i pf f ρ=ac (res,ρ'))
  {σ:L2.St} {H:Hp} {S:Ad} {Fr:Addr->Prop} (s:Sta G H ob ρ σ S Fr) {Q:VK}
  (q:∀x H' R S',Sta G H' ob ρ' σ S' 2.120->Rep G H' (wn ob S' 2.120) res x R->R.Nodup->clean res=ag->(∀j,j≠i->S' j=S j)->(∀a∈S' i,a∈S i∨H a=af)->(∀a∈R,a∈S i∨H a=af)->(∀b u,H b=ac u->b∉S i->H' b=ac u)->Q x H'):tBM G.K T r to t σ H Q:=by
 unfold zQ at e;cases h1:pf ρ with
 |none=>simp[h1]at e
 |some p=>
  cases h2:f ρ with
  |none=>simp[h1,h2]at e
  |some es=>
   have e:upS op i p es ρ=ac (res,ρ'):=by simpa[h1,h2]using e
   obtain⟨d0,d,d',g1,g2,c1,c2,g3,rfl⟩:=zJ e;obtain⟨a5,dd,k1,k2,k3⟩:=F ρ p h1 σ H S Fr s;rw[g1]at k1;cases k1;rw[g2]at k2;cases k2;refine k3 _ λv v0 H1 M Z a3 a2=>⟨ht d es _ g3 v H1 _ M a2.r,?_⟩;have a0:Sta G H1 ob ρ σ S Fr:=s.grow Z λa z=>.inl z;refine Y ρ es h2 σ H1 _ a0.rel a0.wok _ λxs H2 N I re O nd=>?_;have a4:Sta G H2 ob ρ σ S (plus N Fr):=a0.grow I λa z=>z.elim (λz=>.inr ⟨O a z,re.dom a z⟩) .inl;have up:Up H1 H2 2.48 (wn ob S (plus N Fr)):=Up.add I O;have a1:=a2.mono (.inr up) up.evo λc _ u hu=>I c u hu;have hF:∀a∈N,¬Fr a:=λa Y z=>by
    obtain⟨o,F,_⟩:=a0.fdm a z;rw[O a Y]at F;cases F
   have nf:∀{a},a∈S i∨a∈N∨H2 a=af->a∈S i∨H a=af:=λ{a} z=>z.imp id λz=>z.elim (λz=>Z.none' (O a z)) λz=>(Z.trans I).none' z;exact nq J a4 g1 a3 g2 a1 re nd hF c1 c2 g3 λx H' R S' q1 q2 q3 q4 q5 q6 q7 q8=>q x H' R S' q1 q2 q3 q4 q5 (λa Y=>nf (q6 a Y)) (λa Y=>nf (q7 a Y)) λb u U n=>q8 b u (2.143 b u U) n
def HW{T:String}{r:V->List V->Hp->VK->Prop}{op:D->List D->Option (D×D)}{to:TE}{t:TA}{i:Nat}{pf:En->Option 2.114}{f:En->Option 2.79}(J:MuV G r op)(ht:Jz G T op)(F:RfP G ob to i pf)(Y:RfA G ob t f):RfS G ob P (Eh (tBM G.K T r to t)) (pq op i pf f):=λρ r e σ H S Fr s E q=>by
 unfold pq at e;cases h1:zQ op i pf f ρ with
 |none=>simp[h1]at e
 |some p=>
  obtain⟨res,ρ'⟩:=p;have:Fl.nx ρ'=r:=by simpa[h1]using e
  subst this;refine W7 J ht F Y h1 s λx H' R S' q1 q2 q3 Z O q6 I q8=>q σ H' S' (q1.lessF λa z=>.inr z) ⟨λb u U n _=>q8 b u U λz=>n ⟨i,z⟩,λj a z=>?_,.refl⟩;by_cases hj:j=i
  .subst hj;exact(q6 a z).imp (λz=>⟨j,z⟩) .inr
  .rw[O j hj]at z;exact .inl ⟨j,z⟩
def M_{T:String}{r:V->List V->Hp->VK->Prop}{op:D->List D->Option (D×D)}{to:TE}{t:TA}{i:Nat}{pf:En->Option 2.114}{f:En->Option (List D×En)}(a4:ob i=ae)(J:MuV G r op)(ht:Jz G T op)(F:RfP G ob to i pf)(Y:DY G ob t f)(a1:∀ρ q,f ρ=ac q->q.2[i]? =ρ[i]?):RfS G ob P (Eh (tBM G.K T r to t)) (v9 op i pf f):=λρ r e σ H S Fr s E q=>by
 unfold v9 at e;cases h1:pf ρ with
 |none=>simp[h1]at e
 |some p=>
  cases h2:f ρ with
  |none=>simp[h1,h2]at e
  |some w=>
   obtain⟨es,ρ1⟩:=w;cases h3:upS op i p es ρ1 with
   |none=>simp[h1,h2,h3]at e
   |some w=>
    obtain⟨res,ρ'⟩:=w;have:Fl.nx ρ'=r:=by simpa[h1,h2,h3]using e
    subst this;obtain⟨d0,d,d',g1,g2,c1,c2,g3,rfl⟩:=zJ h3;have hs:=a1 ρ _ h2;simp only at hs;obtain⟨b0,dd,k1,k2,k3⟩:=F ρ p h1 σ H S Fr s;rw[←hs,g1]at k1;cases k1;rw[g2]at k2;cases k2;have a9:clean d0=ag:=let⟨_,_,_,h⟩:=s.sl i d0 (by rw[←hs];exact g1);h;refine k3 _ λv v0 H1 M Z a7 a6=>⟨ht d es _ g3 v H1 _ M a6.r,?_⟩;have I:Sta G H1 ob ρ σ S Fr:=s.grow Z λa z=>.inl z;refine Y ρ es ρ1 h2 σ H1 S Fr I _ λxs H2 N S2 a8 re nd ef=>?_;have a0:=a6.mono (.inl (lq a9 g2)) (ef.evo I) λc O u hu=>ef.kp c u hu λ⟨j,hj,z⟩=>by rw[←I.dj i j c O z,a4]at hj;cases hj
    have a3:S2 i=S i:=ef.sn i a4;rw[←a3]at a0;have hF:∀a∈N,¬Fr a:=λa Y z=>by
     rcases ef.fm a Y with y|y
     .exact I.notO z y
     .obtain⟨o,F,_⟩:=I.fdm a z
      rw[y]at F;cases F
    have a2:∀{a},inO ob S a∨H1 a=af->inS S a∨H a=af:=λ{a} z=>z.imp (λ⟨k,_,z⟩=>⟨k,z⟩) λz=>Z.none' z;refine nq J a8 g1 a7 g2 a0 re nd hF c1 c2 g3 λx H' R S' q1 q2 q3 q4 q5 q6 q7 q8=>q σ H' S' (q1.lessF λa z=>.inr z) ⟨λb u U n _=>?_,λj a z=>?_,.refl⟩
    .exact q8 b u (ef.kp b u (Z b u U) λ⟨k,_,z⟩=>n ⟨k,z⟩) λz=>n ⟨i,by rw[←a3];exact z⟩
    .by_cases hj:j=i
     .subst hj
      rcases q6 a z with y|y|y
      .rw[a3]at y;exact .inl ⟨j,y⟩
      .exact(a2 (ef.fm a y)).imp id .inr
      .exact(a2 (ef.back y)).imp id .inr
     .rw[q5 j hj]at z
      cases a5:ob j with
      |false=>rw[ef.sn j a5]at z;exact .inl ⟨j,z⟩
      |true=>exact(a2 (ef.gr j a a5 z)).imp id .inr
structure MuB{ι:Type}(X:ι->Cx)(G:Gc)(T id:String)(op:D->List D->Option (D×D)):Prop where
 ex:∃r,(∀c,MtR (X c) id r)/\MuV G r op/\Jz G T op
section
variable{T name id:String}{op:D->List D->Option (D×D)}{o e:Expr}{es:List Expr}{apos cpos pos:Pos}{i:Nat}{pf:En->Option (List Nat)}
theorem sE{Z:Str}(m:MuB X G T id op)(pa:adI T)(slot:Slot T Z id)(I:ae3 2.58=pure (.type "method_descriptor")){f:En->Option 2.79}(F:PVP X G ob o i pf)(Y:PVA X G ob (e::es) f)(O:∀c,abX (.Call 2.66 (e::es) [] cpos) af pos.line (X c).env=pure ae:=by intro _;rfl)(U:∀c,abj o Z (X c).env (eval o (X c).env)=eval o (X c).env:=by intro _;rfl)(q:∀c,((aa1 cpos (Z1 (e::es) (X c).env)).all (λx=>!x.1)&&(ac1 cpos (ab9 [] (X c).env)).all (λx=>x.1.isSome)
  &&decide ((e::es).length+([]:List abE).length+(if([]:List abE).isEmpty then 0 else 1)<30))=ag:=by intro _;rfl) (V:(apos.endLine==cpos.line)=ag:=by rfl) (hs:∀c,Z1 (e::es) (X c).env=(ae,eval e (X c).env)::Z1 es (X c).env:=by intro _;rfl) (z:∀c,(aa1 cpos (Z1 es (X c).env)).any (·.1)=ae:=by intro _;rfl) (J:∀c,(X c).K=G.K:=by intro _;rfl) :
 PVS X G ob P (.Expr (.Call 2.66 (e::es) [] cpos) pos) (pq op i pf f):=let⟨r,m1,m2,m3⟩:=m.ex;let⟨t,a1,a2⟩:=F.ex;let⟨u,b1,b2⟩:=Y.ex;⟨_,λc=>(by rw[←J c];exact rZ (zc pa slot I (m1 c) (a1 c) (b1 c) (U c) (q c) V (hs c) (z c)) (O c)),HW m2 m3 a2 b2⟩
theorem Ea{Z:Str}(m:MuB X G T id op)(pa:adI T)(slot:Slot T Z id)(I:ae3 2.58=pure (.type "method_descriptor")){f:En->Option (List D×En)}(F:PVP X G ob o i pf)(Y:wu X G ob (e::es) f)(a0:∀ρ q,f ρ=ac q->q.2[i]? =ρ[i]?)(O:ob i=ae:=by rfl)(a4:∀c,abX (.Call 2.66 (e::es) [] cpos) af pos.line (X c).env=pure ae:=by intro _;rfl)(U:∀c,abj o Z (X c).env (eval o (X c).env)=eval o (X c).env:=by intro _;rfl)(a3:∀c,((aa1 cpos (Z1 (e::es) (X c).env)).all (λx=>!x.1)&&(ac1 cpos (ab9 [] (X c).env)).all (λx=>x.1.isSome)
  &&decide ((e::es).length+([]:List abE).length+(if([]:List abE).isEmpty then 0 else 1)<30))=ag:=by intro _;rfl) (V:(apos.endLine==cpos.line)=ag:=by rfl) (hs:∀c,Z1 (e::es) (X c).env=(ae,eval e (X c).env)::Z1 es (X c).env:=by intro _;rfl) (z:∀c,(aa1 cpos (Z1 es (X c).env)).any (·.1)=ae:=by intro _;rfl) (J:∀c,(X c).K=G.K:=by intro _;rfl) :
 PVS X G ob P (.Expr (.Call 2.66 (e::es) [] cpos) pos) (v9 op i pf f):=let⟨r,m1,m2,m3⟩:=m.ex;let⟨t,a1,a2⟩:=F.ex;let⟨u,b1,b2⟩:=Y.ex;⟨_,λc=>(by rw[←J c];exact rZ (zc pa slot I (m1 c) (a1 c) (b1 c) (U c) (a3 c) V (hs c) (z c)) (a4 c)),M_ O m2 m3 a2 b2 a0⟩
theorem NB{Z:Str}(m:MuB X G T id op)(z:adI T)(slot:Slot T Z id)(I:ae3 2.58=pure (.type "method_descriptor"))(F:PVP X G ob o i pf)(O:∀c,abX (.Call 2.66 [] [] cpos) af pos.line (X c).env=pure ae:=by intro _;rfl)(U:∀c,abj o Z (X c).env (eval o (X c).env)=eval o (X c).env:=by intro _;rfl)(V:(apos.endLine==cpos.line)=ag:=by rfl)(J:∀c,(X c).K=G.K:=by intro _;rfl) :
 PVS X G ob P (.Expr (.Call 2.66 [] [] cpos) pos) (pq op i pf au):=let⟨r,m1,m2,m3⟩:=m.ex;let⟨t,a1,a2⟩:=F.ex;⟨_,λc=>(by rw[←J c];exact rZ (P0 z slot I (m1 c) (a1 c) (U c) V) (O c)),HW m2 m3 a2 Fv⟩
end
structure MuT{ι:Type}(X:ι->Cx)(G:Gc)(op:D->List D->Option (D×D)):Prop where
 ex:∃t:J3,(∀c,Rn (X c) t)/\MuV G (λo xs H Q=>∃i v,xs=[i,v]/\t o i v H λH'=>Q .non H') op
def jg(op:D->List D->Option (D×D))(i:Nat)(pf:En->Option 2.114)(V:En->Option D):D->En->Option En:=λd ρ=>(pf ρ).bind λp=>(V ρ).bind λk=>(upS op i p [k,d] ρ).map λq=>q.2
def QK{t:J3}{op:D->List D->Option (D×D)}{to ti:TE}{i:Nat}{pf:En->Option 2.114}{fk:En->Option D}(J:MuV G (λo xs H Q=>∃i v,xs=[i,v]/\t o i v H λH'=>Q .non H') op)(F:RfP G ob to i pf)(hi:RfE G ob ti fk):RfG G ob P (jb to ti t) (jg op i pf fk):=λd ρ ρ' e v σ H S M Fr s r nd V Q q=>by
 unfold jg at e;cases h1:pf ρ with
 |none=>simp[h1]at e
 |some p=>
  cases h2:fk ρ with
  |none=>simp[h1,h2]at e
  |some k=>
   cases O:upS op i p [k,d] ρ with
   |none=>simp[h1,h2,O]at e
   |some w=>
    obtain⟨res,ρ1⟩:=w;obtain rfl:ρ1=ρ':=by simpa[h1,h2,O]using e
    obtain⟨d0,dd,d',g1,g2,c1,c2,g3,rfl⟩:=zJ O;obtain⟨b0,b1,k1,k2,k3⟩:=F ρ p h1 σ H S 2.16 s;rw[g1]at k1;cases k1;rw[g2]at k2;cases k2;refine k3 _ λo v0 H1 M1 Z a2 a9=>?_;have a0:Sta G H1 ob ρ σ S (plus M Fr):=s.grow Z λa z=>.inl z;refine hi ρ k h2 σ H1 _ a0.rel a0.wok _ λy H2 N I ry fr nN=>?_;have a5:Sta G H2 ob ρ σ S (plus (N++M) Fr):=a0.grow I λa z=>z.elim (λz=>(Ls.mp z).elim (λz=>.inr ⟨fr a z,ry.dom a z⟩) λz=>.inl 2.29) λz=>.inl 2.42;have up:Up H1 H2 2.185 (wn ob S (plus (N++M) Fr)):=⟨I,λb u U f=>⟨λz=>z.elim (λz=>(Ls.mp z).elim (λz=>by rw[fr b z]at U;cases U) λz=>f.1 2.29) λz=>f.1 2.42,f.2⟩,λ_ _ _ f=>f⟩;have a4:Up H H2 2.185 (wn ob S (plus (N++M) Fr)):=(Up.same Z).trans up;have a1:=a9.mono (.inr up) up.evo λc _ u hu=>I c u hu;have a8:(wn ob S 2.16).add N=wn ob S (plus (N++M) Fr):=by
     show Wn.mk _ _ _=Wn.mk _ _ _;congr 1;funext a;simp![plus,Ls,eq_iff_iff,or_assoc];constructor
     .rintro(z|z)
      .exact .inl z
      .exact .inr z
     .rintro(z|z)
      .exact .inl z
      .exact .inr z
    rw[a8]at ry;have a7:∀a∈N,a∉M:=λa h1 h2=>by
     obtain⟨o,F,_⟩:=r.dom a h2;rw[Z.none' (fr a h1)]at F;cases F
    have re:aJ G H2 (wn ob S (plus (N++M) Fr)) [k,d] [y,v] (N++M):=.cons ry (.one (r.up a4));have a6:∀a∈N++M,¬Fr a:=λa Y z=>by
     rcases Ls.mp Y with y|y
     .obtain⟨o,F,_⟩:=a0.fdm a 2.42
      rw[fr a y]at F;cases F
     .exact V a y z
    have a3:=nq J a5 g1 a2 g2 a1 re (fD nN nd a7) a6 c1 c2 g3 (Q:=λ_ H'=>Q σ H') λx H' R S' q1 q2 q3 q4 q5 q6 q7 q8=>q σ H' S' (q1.lessF λa z=>.inr z) ⟨λb u U n m=>?_,λj a z=>?_,.refl⟩
    .obtain⟨i1,v1,e1,k⟩:=a3
     cases e1;exact k
    .exact q8 b u (2.143 b u U) λz=>n ⟨i,z⟩
    .by_cases hj:j=i
     .subst hj
      rcases q6 a z with y|y|y
      .exact .inl ⟨j,y⟩
      .exact(Ls.mp y).elim (λy=>.inr (.inr (Z.none' (fr a y)))) λy=>.inr (.inl y)
      .exact .inr (.inr ((Z.trans I).none' y))
     .rw[q5 j hj]at z;exact .inl ⟨j,z⟩
theorem qY{op:D->List D->Option (D×D)}{o k:Expr}{pos:Pos}{i:Nat}{pf:En->Option 2.114}{V:En->Option D}(m:MuT X G op)(F:PVP X G ob o i pf)(I:PV X G ob k V)(Y:∀c,∀v,adk (.Subscript o k pos) (X c).env v=(do
 let ov ←adA [v] (eval o (X c).env)
 let iv ←adA [v,ov] (eval k (X c).env)
 afV pos
 adA [v,ov,iv] (setItem ov iv v)
 release [v,ov,iv] []):=by intro _;intro _;rfl):PVG X G ob P (.Subscript o k pos) (jg op i pf V):=let⟨t,m1,m2⟩:=m.ex;let⟨_,a1,a2⟩:=F.ex;let⟨_,b1,b2⟩:=I.ex;⟨_,λc=>Wf (a1 c) (b1 c) (m1 c) (Y c),QK m2 a2 b2⟩
def mz{G:Gc}{H:Hp}{W:Wn}:Rep G H W .non .non []:=by rw[Rep];exact⟨rfl,rfl⟩
def uc{ds:List D}(h1:aF ds=ag)(h2:aD ds=ag):clean 2.40=ag:=by simp[clean,aA,az,h1,h2]
def Hk{G:Gc}{H:Hp}{W W':Wn}{a:Addr}{xs:List V}{ds:List D}{M:List Addr}{ys:List V}(Z:aJ G H W ds xs M)(q:aF ds=ag)(I:aD ds=ag)(hn:a∉M)(F:Evo H (upd H a 2.129) W W'):aJ G (upd H a 2.129) W' ds xs M:=
 Z.mono F (.inl q) (.inl I) λc O u hu=>by rw[aO (show c≠a from λz=>hn (z▸O))];exact hu
def bT:D->List D->Option (D×D)
 |.lst .own ds,[e]=>if ds.length<1000000 then ac (.lst .own (ds++[e]),.non)else af
 |_,_=>af
def vP{n:Nat}(h:n<1000000):n<Z0:=Z9 h (by decide)
def qO{G:Gc}:MuV G sO bT:=λd es d' res h v xs H W M N r re nd hM O c1 V Q q=>by
 unfold bT at h;split at h
 .rename_i ds e
  split at h
  .rename_i hl
   cases h;rw[Rep]at r;obtain⟨a,ys,M0,rfl,Z,Y,rfl⟩:=r;obtain⟨x,zs,N1,N2,rfl,rfl,J,hz⟩:=re.inv;obtain⟨rfl,rfl⟩:=hz.inv0;rw[List.append_nil]at nd re;obtain⟨D,I⟩:=jC O;have a0:=List.nodup_append.mp nd;have hn:=aah.mp a0.1;have a1:a∉N1:=λz=>a0.2.2 a (by simp) a z rfl;simp![aF,aD,aaa]at c1 V;refine⟨a,ys,x,rfl,rfl,Y,vP (by rw[←Z.length];exact hl),q .non _ (a::(M0++N1)) [] (λb u U n=>by rw[aO (show b≠a from λz=>n (by rw[z];simp))];exact U) (λW' F=>⟨?_,mz⟩) ?_ (λb U=>?_) (uc (by rw[jw];simp[D,aF,c1]) (by rw[jy];simp[I,aD,V])) rfl⟩
   .rw[Rep]
    refine⟨a,ys++[x],M0++N1,rfl,(Hk Z D I hn.1 F).append (.one (J.mono F (.inl c1.1) (.inl V.1) λc O u hu=>?_)),aR,rfl⟩;rw[aO (show c≠a from λz=>a1 (z▸O))];exact hu
   .rw[List.append_nil]
    exact nd
   .rw[List.append_nil]at U
    rcases Z2.mp U with z|z
    .exact .inl (by simp[z])
    .rcases Ls.mp z with z|z
     .exact .inl (by simp[z])
     .exact .inr (.inl (by simp[z]))
  .cases h
 .cases h
def wW{T:String}{op:D->List D->Option (D×D)}(Y:T="list")(h:∀d es q,op d es=ac q->∃m ds,d= .lst m ds):Jz G T op:=λd es q e v H W L r=>by
 obtain⟨m,ds,rfl⟩:=h d es q e;rw[Rep]at r;obtain⟨a,xs,M,rfl,Z,hs⟩:=r;exact .inl ⟨Y,xs,hs.sq⟩
def qu:MuB X G "list" "list.append" bT:=⟨_,λc=>tR,qO,wW rfl λd es q e=>by
 unfold bT at e;split at e
 .exact⟨_,_,rfl⟩
 .cases e⟩
def iI(ks:List Key)(ds:List D)(k:Key)(v:D):List Key×List D:=match c7 ks k with
 |some j=>(ks,ds.set j v)
 |none=>(ks++[k],ds++[v])
def gj:D->List D->Option (D×D)
 |.lst .own ds,[.int k,v]=>(ixN ds.length k).map λj=>(.lst .own (ds.set j v),.non)
 |.dct .own ks ds,[k,v]=>(dm k).bind λk=>if ks.length<1000000 then ac (.dct .own (iI ks ds k v).1 (iI ks ds k v).2,.non)else af
 |_,_=>af
def TF:J3:=λo i v H Q=>Uk o i v H Q∨∃a H',o= .ref a/\Nj H a i v H'/\Q H'
def QL{Y:Cx}(hu:Y.A.units+1<cLine):Rn Y TF:=by
 intro pins s σ H o i v J D u Q I F z U h;rcases h with h|⟨a,H',rfl,g,q⟩
 .exact set_list pins s σ H o i v J D u Q I F z U h
 .cases F
  exact J2 hu I g z U λO V=>⟨H',V,q⟩
def aJ.set{G:Gc}{H:Hp}{W:Wn}{ds:List D}{xs:List V}{L:List Addr}{j:Nat}{c d':D}{y:V}{M':List Addr}(Z:aJ G H W ds xs L)(e:ds[j]? =ac c)(F:Rep G H W d' y M'):∃A M B,L=A++(M++B)/\aJ G H W (ds.set j d') (xs.set j y) (A++(M'++B)):=by
 obtain⟨P,Q,x,ys,zs,I,q,J,rfl,z,rfl,Y,rfl,h1,h2,O⟩:=Z.at e;refine⟨I,q,J,rfl,?_⟩;rw[←z,acD _ _ (ZZ _),abL];rw[show P.length=ys.length by omega,acD _ _ (ZZ _),abL];exact aJ.append h1 (aJ.cons F O)
def wJ{ds:List D}{j:Nat}{x:D}(h:aF ds=ag)(J:aA x=ag):aF (ds.set j x)=ag:=by
 induction ds generalizing j with
 |nil=>simpa using h
 |cons y r F=>
  simp![aF,aaa]at h;cases j with
  |zero=>simp[aF,J,h]
  |succ j=>simp![aaF,aF,aaa];exact⟨h.1,F h.2⟩
def wg{ds:List D}{j:Nat}{x:D}(h:aD ds=ag)(J:az x=ag):aD (ds.set j x)=ag:=by
 induction ds generalizing j with
 |nil=>simpa using h
 |cons y r F=>
  simp![aD,aaa]at h;cases j with
  |zero=>simp[aD,J,h]
  |succ j=>simp![aaF,aD,aaa];exact⟨h.1,F h.2⟩
def Uy{n:Nat}{k:Int}{j:Nat}(h:ixN n k=ac j):j<n:=by
 unfold ixN at h;split at h
 .split at h
  .cases h;omega
  .cases h
 .split at h
  .cases h;omega
  .cases h
def Aa{ks:List Key}{k:Key}{j:Nat}(h:c7 ks k=ac j):j<ks.length:=(aas.mp h).1
def DG:∀{kvs:List (Key×V)}{k:Key}{j:Nat}{v:V},c7 (kvs.map (·.1)) k=ac j->(kvs.map (·.1)).Nodup->(putK kvs k v).map (·.1)=kvs.map (·.1)/\(putK kvs k v).map (·.2)=(kvs.map (·.2)).set j v:=by
 intro kvs k j v h n;have U:=aas.mp h;obtain⟨Y,I,_⟩:=U;have F:j<kvs.length:=by simpa using Y
 have Z:kvs[j].1=k:=by simpa using I
 have O:(kvs.any λkv=>decide (kv.1=k))=ag:=abD.mpr ⟨kvs[j],abh _,by simpa using Z⟩;unfold putK;rw[if_pos O];constructor
 .rw[Z5]
  apply aak;intro p _;simp![abR];split<;>rfl
 .apply acs
  intro i;rw[Z5,List.getElem?_map];by_cases q:j=i
  .subst q
   rw[aa0 (by simpa using F)];simp[F,Z]
  .rw[List.getElem?_set_ne q,List.getElem?_map]
   cases e:kvs[i]? with
   |none=>rfl
   |some p=>
    have J:i<kvs.length:=(List.getElem?_eq_some_iff.mp e).1;have a0:kvs[i]=p:=(List.getElem?_eq_some_iff.mp e).2;have D:p.1≠k:=λz=>by
     have e1:(kvs.map (·.1))[i]? =(kvs.map (·.1))[j]?:=by
      rw[List.getElem?_map,List.getElem?_map,e,List.getElem?_eq_getElem F];simp[z,Z]
     exact q ((List.getElem?_inj (by simpa using J) n).mp e1).symm
    simp[D]
def lz{kvs:List (Key×V)}{k:Key}{v:V}(h:c7 (kvs.map (·.1)) k=af):putK kvs k v=kvs++[(k,v)]:=by
 unfold putK;rw[aag];intro z;obtain⟨p,q,e⟩:=abD.mp z;have:=aay.mp h p.1 (aa3.mpr ⟨p,q,rfl⟩);simp at this e;exact this e
def xf{ks:List Key}{k:Key}(h:c7 ks k=af):k∉ks:=λz=>by
 have:=aay.mp h k z;simp at this
def vQ{α:Type}(j:Option Nat)(l:List α)(y:α):List α:=match j with
 |some j=>l.set j y
 |none=>l++[y]
def Bl{G:Gc}{H:Hp}{W:Wn}{ds:List D}{xs:List V}{a:Addr}{M0 N:List Addr}{e:D}{x:V}{o:HO}{j:Option Nat}(Z:aJ G H W ds xs M0)(J:Rep G H W e x N)(nd:(a::M0++N).Nodup)(k1:aF ds=ag)(k2:aD ds=ag)(c1:aA e=ag)(c2:az e=ag)(hj:∀i,j=ac i->i<ds.length) :
  ∃M',(a::M').Nodup/\(∀b∈a::M',b∈a::M0∨b∈N)/\(∀W',Evo H 2.220 W W'->aJ G 2.220 W' (vQ j ds e) (vQ j xs x) M')/\aF (vQ j ds e)=ag/\aD (vQ j ds e)=ag:=by
 have a0:=List.nodup_append.mp nd;have hn:=aah.mp a0.1;have a1:a∉N:=λz=>a0.2.2 a (by simp) a z rfl;have kp:∀{L:List Addr},a∉L->∀c∈L,∀u,H c=ac u->upd H a o c=ac u:=λh c O u hu=>by rw[aO (show c≠a from λz=>h (z▸O))];exact hu
 cases j with
 |none=>
  refine⟨M0++N,by simpa using nd,λb U=>by simpa[or_assoc]using U,λW' F=>?_,by simp[vQ,jw,aF,k1,c1],by simp[vQ,jy,aD,k2,c2]⟩;exact(Z.mono F (.inl k1) (.inl k2) (kp hn.1)).append (.one (J.mono F (.inl c1) (.inl c2) (kp a1)))
 |some j=>
  obtain⟨A,M1,B,a4,I⟩:=Z.set (List.getElem?_eq_getElem (hj j rfl)) J;have q:abb (A++B) M0:=by rw[a4];exact(ab5 A).append (aaI M1 B)
  have n3:=List.nodup_append.mp (q.nodup hn.2);have a3:∀z∈N,z∉A++B:=λz h1 h2=>a0.2.2 z (aai _ (q.subset h2)) z h1 rfl;have a2:∀b∈A++(N++B),b∈M0∨b∈N:=λb U=>by
   simp![Ls]at U;rcases U with y|y|y
   .exact .inl (q.subset (by simp[y]))
   .exact .inr y
   .exact .inl (q.subset (by simp[y]))
  have Y:a∉A++(N++B):=λz=>(a2 a z).elim hn.1 a1;refine⟨A++(N++B),aah.mpr ⟨Y,fD n3.1 (fD a0.2.1 n3.2.1 λz h1 h2=>a3 z h1 (by simp[h2])) λz h1 h2=>?_⟩,λb U=>(Z2.mp U).elim (λz=>.inl (by simp[z])) λz=>(a2 b z).imp (aai _) id,λW' F=>I.mono F (.inl (wJ k1 c1)) (.inl (wg k2 c2)) (kp Y),wJ k1 c1,wg k2 c2⟩;rcases Ls.mp h2 with y|y
  .exact a3 z y (by simp[h1])
  .exact n3.2.2 z h1 z y rfl
def Hl{G:Gc}:MuV G (λo xs H Q=>∃i v,xs=[i,v]/\TF o i v H λH'=>Q .non H') gj:=λd es d' res h v xs H W M N r re nd hM O c1 c2 Q q=>by
 have kp:∀{a:Addr}{L:List Addr}{o:HO}(b:Addr)(u:HO),H b=ac u->b∉a::L->upd H a o b=ac u:=λb u U n=>by rw[aO (show b≠_ from λz=>n (by rw[z];simp))];exact U
 unfold gj at h;split at h
 .rename_i ds k e
  cases hj:ixN ds.length k with
  |none=>simp[hj]at h
  |some j=>
   obtain⟨rfl,rfl⟩:D.lst .own (ds.set j e)=d'/\D.non=res:=by simpa[hj]using h
   rw[Rep]at r;obtain⟨a,ys,M0,rfl,Z,Y,rfl⟩:=r;obtain⟨x1,zs,N1,N2,rfl,rfl,a0,hz⟩:=re.inv;obtain⟨x,zs,N3,N4,rfl,rfl,J,hz⟩:=hz.inv;obtain⟨rfl,rfl⟩:=hz.inv0;rw[Rep]at a0;obtain⟨rfl,rfl⟩:=a0;rw[List.append_nil,List.nil_append]at nd re;obtain⟨k1,k2⟩:=jC O;simp![aF,aD,aaa]at c1 c2;obtain⟨M',n1,n2,n3,n4,n5⟩:=Bl (o:=.lst (ys.set j x)) (j:=ac j) Z J nd k1 k2 c1.2.1 c2.2.1 λi hi=>by cases hi;exact Uy hj
   refine⟨_,_,rfl,.inl ⟨a,ys,k,j,rfl,rfl,Y,by rw[←Z.length];exact hj,q .non _ (a::M') [] kp (λW' F=>⟨?_,mz⟩) (by simpa using n1) (λb U=>(n2 b (by simpa using U)).imp id λz=>.inl (by simpa using z)) (uc n4 n5) rfl⟩⟩;rw[Rep];exact⟨a,_,M',rfl,n3 W' F,aR,rfl⟩
 .rename_i ks ds k0 e
  cases I:dm k0 with
  |none=>simp[I]at h
  |some k=>
   rw[I]at h;simp![gD]at h;split at h
   .rename_i hl
    cases h;rw[Rep]at r;obtain⟨a,kvs,M0,rfl,⟨rfl,a1⟩,Z,Y,rfl⟩:=r;obtain⟨x1,zs,N1,N2,rfl,rfl,a0,hz⟩:=re.inv;obtain⟨x,zs,N3,N4,rfl,rfl,J,hz⟩:=hz.inv;obtain⟨rfl,rfl⟩:=hz.inv0;have a2:=i_ a0 I;subst a2;have a3:N1=[]:=by
     cases k0<;>simp[dm]at I<;>rw[Rep]at a0<;>exact a0.2
    subst a3;rw[List.append_nil,List.nil_append]at nd re;have k1:aF ds=ag/\aD ds=ag:=by simp[clean,aA,az]at O;exact O
    simp![aF,aD,aaa]at c1 c2;obtain⟨M',n1,n2,n3,n4,n5⟩:=Bl (o:=.dK (putK kvs k x)) (j:=c7 (kvs.map (·.1)) k) Z J nd k1.1 k1.2 c1.2.1 c2.2.1 λi hi=>by rw[Z.length];simpa using Aa hi
    have pe:(putK kvs k x).map (·.1)=(iI (kvs.map (·.1)) ds k e).1/\(putK kvs k x).map (·.2)=vQ (c7 (kvs.map (·.1)) k) (kvs.map (·.2)) x/\vQ (c7 (kvs.map (·.1)) k) ds e=(iI (kvs.map (·.1)) ds k e).2/\(iI (kvs.map (·.1)) ds k e).1.Nodup:=by
     cases hj:c7 (kvs.map (·.1)) k with
     |some j=>
      obtain⟨p1,p2⟩:=DG (v:=x) hj a1;simp![iI,hj];exact⟨p1,p2,rfl,a1⟩
     |none=>
      rw[lz hj];simp![iI,hj];refine⟨by simp,by simp[vQ],rfl,aaY.mpr ⟨a1,by simp,λy V z hz=>?_⟩⟩;obtain rfl:z=k:=by simpa using hz
      exact λe=>xf hj (e▸V)
    refine⟨_,_,rfl,.inr ⟨a,_,rfl,Nj.k (k:=k) Y (vP (by simpa using hl)),q .non _ (a::M') [] kp (λW' F=>⟨?_,mz⟩) (by simpa using n1) (λb U=>(n2 b (by simpa using U)).imp id λz=>.inl (by simpa using z)) ?_ rfl⟩⟩
    .rw[Rep]
     exact⟨a,_,M',rfl,⟨pe.1,pe.2.2.2⟩,by rw[←pe.2.2.1,pe.2.1];exact n3 W' F,aR,rfl⟩
    .rw[←pe.2.2.1]
     simp[clean,aA,az,n4,n5]
   .cases h
 .cases h
def rO(hu:∀c,(X c).A.units+1<cLine):MuT X G gj:=⟨_,λc=>QL (hu c),Hl⟩
end
noncomputable abbrev InX(X:ι->Cx)(N':List Str)(scope:Scope):ι×(Addr×jl×Hp×List Addr)->Cx:=λp=>fu (X p.1) N' scope p.2.1 p.2.2.1 p.2.2.2.1 p.2.2.2.2
def fZ(cap:List 2.12)(ρ:En):En:=cap.map λo=>o.bind λj=>(ρ[j]?).bind id
def obC(cap:List 2.12)(ob:Nat->Bool):Nat->Bool:=λi=>match cap[i]? with
 |some (ac j)=>ob j
 |_=>ae
variable{x:α}{l:List (Option α)}
def sJ{α:Type}{cap:List 2.12}{l:List (Option α)}{x:α}(h:(cap.map λo=>o.bind λj=>(l[j]?).bind id)[i]? =ac (ac x)):∃j,cap[i]? =ac (ac j)/\l[j]? =ac (ac x):=by
 rw[List.getElem?_map]at h;cases e:cap[i]? with
 |none=>rw[e]at h;cases h
 |some o=>
  rw[e]at h;cases o with
  |none=>simp at h
  |some j=>
   refine⟨j,rfl,?_⟩;have h:(l[j]?).bind id=ac x:=by simpa using h
   cases e2:l[j]? with
   |none=>rw[e2]at h;cases h
   |some o=>rw[e2]at h;simpa using h
def Av{α:Type}{cap:List 2.12}{l:List (Option α)}{x:α}(h:cap[i]? =ac (ac j))(h2:l[j]? =ac (ac x)):(cap.map λo=>o.bind λj=>(l[j]?).bind id)[i]? =ac (ac x):=by
 rw[List.getElem?_map,h];simp[h2]
def Rel.cap{cap:List 2.12}(r:Rel G H W ob ρ σ):Rel G H W 2.13 2.94 (ji cap σ):=λi d e=>by
 obtain⟨j,h1,h2⟩:=sJ e;obtain⟨v,L,q1,q2,D⟩:=r j d h2;refine⟨v,L,Av h1 q1,q2,λz=>D ?_⟩;unfold obC at z;rw[h1]at z;exact z
def JF(G:Gc)(ob own:Nat->Bool)(g:TG)(f:D->En->Option En):Prop:=∀(d:D)(ρ ρ':En),f d ρ=ac ρ'->∀(x:V)(σ:L2.St)(H:Hp)(W:Wn),Rep G H W d x []->Rel G H W ob ρ σ->σ.length=ρ.length->∀Q:L2.St->Hp->Prop,
 (∀F,Rel G H W ob ρ' F->F.length=ρ'.length->(∀j,own j=ae->F[j]? =σ[j]?)->Q F H)->g x σ H Q
def Dh(G:Gc)(ob own:Nat->Bool)(g:TGs)(f:List D->En->Option En):Prop:=∀(ds:List D)(ρ ρ':En),f ds ρ=ac ρ'->∀(xs:List V)(σ:L2.St)(H:Hp)(W:Wn),aJ G H W ds xs []->Rel G H W ob ρ σ->σ.length=ρ.length->∀Q:L2.St->Hp->Prop,
 (∀F,Rel G H W ob ρ' F->F.length=ρ'.length->(∀j,own j=ae->F[j]? =σ[j]?)->Q F H)->g xs σ H Q
structure JK{ι:Type}(X:ι->Cx)(G:Gc)(ob own:Nat->Bool)(tg:Expr)(f:D->En->Option En):Prop where
 mk::(ex:∃t,(∀c,PG (X c) tg t)/\JF G ob own t f)
structure IV{ι:Type}(X:ι->Cx)(G:Gc)(ob own:Nat->Bool)(tg:List Expr)(f:List D->En->Option En):Prop where
 mk::(ex:∃t,(∀c,PGs (X c) tg t)/\Dh G ob own t f)
def tpN(i:Nat):D->En->Option En:=λd ρ=>ac 2.223
def tpT(n:Nat)(g:List D->En->Option En):D->En->Option En:=λd ρ=>match d with
 |.tup ds=>if ds.length=n then g ds ρ else af
 |_=>af
def J4{own:Nat->Bool}(F:own i=ag):JF G ob own (yw i) (tpN i):=λd ρ ρ' e x σ H W r J Y Q q=>by
 cases e;refine q _ (λj d' U=>?_) (by simp[Y]) λj U=>?_
 .by_cases e:i=j
  .subst e
   rw[ab4]at U;split at U
   .split at U
    .rename_i h2
     have:d=d':=by simpa using U
     subst this;exact⟨x,[],by simp[Y,h2],r,λ_ c O=>by cases O⟩
    .cases U
   .exact absurd rfl ‹_›
  .rw[List.getElem?_set_ne e]at U
   obtain⟨v,L,h1,h2,D⟩:=J j d' U;exact⟨v,L,by rw[List.getElem?_set_ne e];exact h1,h2,D⟩
 .have:i≠j:=λz=>by rw[←z,F]at U;cases U
  rw[List.getElem?_set_ne this]
def Jm{own:Nat->Bool}:Dh G ob own Th cg:=λds ρ ρ' e xs σ H W r J Y Q q=>by
 cases ds with
 |nil=>
  cases e;obtain⟨rfl,_⟩:=r.inv0;exact⟨rfl,q σ J Y λ_ _=>rfl⟩
 |cons d r=>cases e
variable{g:List D->En->Option En}
def Gm{own:Nat->Bool}{t:TG}{u:TGs}{f:D->En->Option En}(h1:JF G ob own t f)(h2:Dh G ob own u g):Dh G ob own (Oi t u) (aP f g):=λds ρ ρ' e xs σ H W r rl Y Q q=>by
 cases ds with
 |nil=>cases e
 |cons d ds=>
  obtain⟨x,ys,M1,F,rfl,hL,J,Z⟩:=r.inv;obtain⟨rfl,rfl⟩:M1=[]/\F=[]:=by simpa using hL.symm
  simp![aP]at e;cases O:f d ρ with
  |none=>rw[O]at e;cases e
  |some ρ1=>
   have e:g ds ρ1=ac ρ':=by simpa[O]using e
   exact⟨x,ys,rfl,h1 d ρ ρ1 O x σ H W J rl Y _ λV a1 a2 k1=>h2 ds ρ1 ρ' e ys V H W Z a1 a2 Q λσ2 a0 z I=>q σ2 a0 z λj U=>(I j U).trans (k1 j U)⟩
def Ng{own:Nat->Bool}{t:TGs}(h:Dh G ob own t g):JF G ob own (Uv G.K n t) (tpT n g):=λd ρ ρ' e x σ H W r J Y Q q=>by
 cases d with
 |tup ds=>
  simp![tpT]at e;split at e
  .rename_i hn
   rw[Rep]at r;obtain⟨a,xs,rfl,U,Z⟩:=r;exact⟨a,xs,rfl,SqT.of U,by rw[←Z.length];exact hn,h ds ρ ρ' e xs σ H W Z J Y Q q⟩
  .cases e
 |_=>cases e
section
variable{ι:Type}{X:ι->Cx}{G:Gc}{ob own:Nat->Bool}
def b8(i:Nat){x:Str}{pos:Pos}(z:∀c,(X c).N.Nodup)(F:own i=ag:=by rfl)(hi:∀c,(X c).N[i]? =ac x:=by intro _;rfl)(J:∀c,Loc (X c).env.scope x:=by intro _;first|exact aa_ rfl|exact aaL rfl)(Y:∀c,(X c).fn x=ag∨(X c).env.scope.names.lookup x=ac .local:=by intro _;first|exact .inl rfl|exact .inr rfl):JK X G ob own 2.38 (tpN i):=⟨_,λc=>B_ (z c) (hi c) (J c) (Y c),J4 F⟩
def ud:IV X G ob own [] cg:=⟨_,λc=>Im,Jm⟩
def iy{e:Expr}{es:List Expr}{f:D->En->Option En}{g:List D->En->Option En}(h1:JK X G ob own e f)(h2:IV X G ob own es g)(hs:∀c,(aa4 (e::es) (X c).env).map (·.2)=adk e (X c).env::(aa4 es (X c).env).map (·.2):=by intro _;rfl):IV X G ob own (e::es) (aP f g):=
 let⟨t,a1,a2⟩:=h1.ex;let⟨u,b1,b2⟩:=h2.ex;⟨_,λc=>Cd (a1 c) (b1 c) (hs c),Gm a2 b2⟩
def wB{es:List Expr}{k n:Nat}{pos:Pos}{g:List D->En->Option En}(O:∀c,(X c).calm=ag)(h:IV X G ob own es g)(hn:∀c,(aa4 es (X c).env).length=n:=by intro _;rfl)(I:∀c,(aa4 es (X c).env).findIdx? (·.1)=af:=by intro _;rfl)(J:∀c,(X c).K=G.K:=by intro _;rfl):JK X G ob own 2.127 (tpT n g):=
 let⟨t,a1,a2⟩:=h.ex;⟨_,λc=>(by rw[←J c];exact PB (O c) (a1 c) (hn c) (I c)),Ng a2⟩
structure Kc{ι:Type}(X:ι->Cx)(G:Gc)(ob:Nat->Bool)(ifs:List Expr)(f:En->Option Bool):Prop where
 mk::(ex:∃t,(∀c,PTs (X c) ifs t)/\RfT G ob t f)
def eTT:En->Option Bool:=λ_=>ac ag
def e_:Kc X G ob [] eTT:=⟨_,λc=>Ra,λρ b e σ H W J w Q q=>by cases e;exact q H 2.64⟩
def Ek{c:Expr}{f:En->Option Bool}(h:PVT X G ob c f):Kc X G ob [c] f:=let⟨t,a1,a2⟩:=h.ex;⟨t,λc=>SN (a1 c),a2⟩
def gP(tg:D->En->Option En)(c:En->Option Bool)(e:En->Option D)(ρ0:En):List D->Option 2.79
 |[]=>ac []
 |d::r=>(tg d ρ0).bind λρ1=>(c ρ1).bind λb=>if b=ag then(e ρ1).bind λx=>(gP tg c e ρ0 r).map λt=>x::t else gP tg c e ρ0 r
def bH(cap:List 2.12)(it:En->Option (Bool×List D))(tg:D->En->Option En)(c:En->Option Bool)(e:En->Option D):En->Option D:=λρ=>(it ρ).bind λp=>if p.2.length<=1000000 then(gP tg c e 2.94 p.2).map λys=>.lst .own ys else af
def six{n:Nat}(h:n<=1000000):n<Z0:=Nat.lt_of_le_of_lt h (by decide)
def O7{cap:List 2.12}{σ q:L2.St}(O:∀i:Nat,own i=ag->cap[i]?≠af->cap[i]? =ac af)(h:∀j,own j=ae->q[j]? =(ji cap σ)[j]?):Kp (ji cap σ) q:=λi v e=>by
 cases F:own i with
 |false=>rw[h i F];exact e
 |true=>
  obtain⟨j,h1,_⟩:=sJ e;rw[O i F (by rw[h1];simp)]at h1;cases h1
def Bx{cap:List 2.12}{wi:TI}{g:TG}{tt:TT}{te:TE}{it:En->Option (Bool×List D)}{tg:D->En->Option En}{c:En->Option Bool}{e:En->Option D}(b0:∀i:Nat,own i=ag->cap[i]?≠af->cap[i]? =ac af)(hi:RfI G ob wi it)(hg:JF G 2.13 own g tg)(ht:RfT G 2.13 tt c)(he:RfE G 2.13 te e):RfE G ob (Cz cap wi g tt te) (bH cap it tg c e):=λρ d ee σ H W rl w Q q=>by
 unfold bH at ee;cases h1:it ρ with
 |none=>simp[h1]at ee
 |some p=>
  obtain⟨b,items⟩:=p;rw[h1]at ee;simp![gD]at ee;split at ee
  .rename_i hlen
   cases h2:gP tg c e 2.94 items with
   |none=>simp[h2]at ee
   |some a5=>
    obtain rfl:D.lst .own a5=d:=by simpa[h2]using ee
    refine hi ρ b items h1 σ H W rl w _ λJ H1 Z wk=>?_;refine⟨λi m ys H2=>i+m=items.length/\ys.length<=i/\∃acc L rest,Same H1 H2/\aJ G H2 2.55 acc ys L/\(∀a∈L,H1 a=af)/\L.Nodup/\WOk H2 2.55/\gP tg c e 2.94 (items.drop i)=ac rest/\acc++rest=a5,⟨items.length,by omega,by simp,[],[],a5,Same.refl _,.nil,by simp,aaq,?_,h2,rfl⟩,?_⟩
    .rw[ye];exact w.up Z
    rintro i m ys H2 ⟨b4,b5,acc,L,rest,I,ra,fa,na,wa,a0,a1⟩;have a3:Up H1 H2 W (W.add L):=Up.add I fa
    .by_cases hil:i<items.length
     .have hdr:=(abo hil).symm
      rw[hdr,gP]at a0;refine .inr ⟨wk.go i items[i] (by simp[hil]) H2 _ (LtB.up a3),by have:=six hlen;omega,λa6 H'=>(i+1)+(m-1)=items.length/\a6.length<=i+1/\∃acc L rest,Same H1 H'/\aJ G H' 2.55 acc a6 L/\(∀a∈L,H1 a=af)/\L.Nodup/\WOk H' 2.55/\gP tg c e 2.94 (items.drop (i+1))=ac rest/\acc++rest=a5,λa6 H' h=>⟨m-1,by omega,h⟩,λx H3 hy=>?_⟩;obtain⟨s3,rx⟩:=wk.yld i items[i] (by simp[hil]) H2 _ (LtB.up a3) x H3 hy;cases O:tg items[i] 2.94 with
      |none=>simp[O]at a0
      |some ρ1=>
       rw[O]at a0;simp![gD]at a0;have b2:Rel G H3 2.55 2.13 2.94 (ji cap σ):=(rl.cap).up ((Up.same Z).trans (a3.trans (Up.same s3)));have a4:=ra.up (Up.same s3 (W:=W.add L));have a8:WOk H3 (W.add L):=wa.up s3;refine hg items[i] _ ρ1 O x _ H3 2.55 rx b2 (by simp[fZ,ji]) _ λσ2 a9 b6 k4=>⟨O7 b0 k4,?_⟩;cases h4:c ρ1 with
       |none=>simp[h4]at a0
       |some bb=>
        rw[h4]at a0;simp![gD]at a0;refine ht ρ1 bb h4 σ2 H3 2.55 a9 a8 _ λH4 s4=>?_;have b3:=a9.up (Up.same s4);have a7:=a8.up s4;cases bb with
        |false=>
         simp![aa9,ab2]at a0;exact Ax ⟨by omega,by omega,acc,L,rest,((I.trans s3).trans s4),a4.up (Up.same s4),fa,na,a7,a0,a1⟩
        |true=>
         simp![aal]at a0;cases h5:e ρ1 with
         |none=>simp[h5]at a0
         |some y=>
          cases h6:gP tg c e 2.94 (items.drop (i+1))with
          |none=>simp[h5,h6]at a0
          |some a2=>
           obtain rfl:y::a2=rest:=by simpa[h5,h6]using a0
           refine uY (he ρ1 y h5 σ2 H4 2.55 b3 a7 _ λv H5 M s5 ry fy ny=>?_);have fM:∀a∈M,H1 a=af:=λa Y=>(((I.trans s3).trans s4)).none' (fy a Y);have b1:∀a∈L,a∉M:=λa h1 h2=>by
            obtain⟨o,F,_⟩:=(a4.up (Up.same s4 (W:=W.add L))).dom a h1;rw[fy a h2]at F;cases F
           have u5:Up H4 H5 2.55 (W.add (L++M)):=⟨s5,λb u U f=>⟨λz=>z.elim (λz=>(Ls.mp z).elim (λz=>f.1 2.29) λz=>by rw[fy b z]at U;cases U) λz=>f.1 2.42,f.2⟩,λ_ _ _ f=>f⟩;have u6:Up H5 H5 ((W.add L).add M) (W.add (L++M)):=⟨Same.refl _,λb u U f=>⟨λz=>by
            rcases z with z|z
            .exact(Ls.mp z).elim (λz=>f.1 2.186) λz=>f.1 2.29
            .exact f.1 2.187,f.2⟩,λ_ _ _ f=>f⟩
           refine⟨by omega,by simp;omega,acc++[y],L++M,a2,((I.trans s3).trans s4).trans s5,((a4.up (Up.same s4)).up u5).append (.one (ry.up u6)),λa Y=>(Ls.mp Y).elim (fa a) (fM a),fD na ny b1,?_,rfl,by rw[←a1];simp⟩;exact w.add (((Z.trans I).trans s3).trans s4 |>.trans s5) λa Y=>(Ls.mp Y).elim (λz=>let⟨o,h,m⟩:=(a4.up (Up.same s4 (W:=W.add L))).dom a z;⟨o,s5 a o h,m⟩) (ry.dom a)
     .have hl:i=items.length:=by omega
      subst hl;rw[abC,gP]at a0;cases a0;refine .inl ⟨wk.stop H2 _ (LtB.up a3),aca (six 1.10),λp V=>?_⟩;have sm:Same H2 (upd H2 p 2.129):=Same.new V;rw[List.append_nil]at a1;subst a1;refine q 2.49 _ (p::L) ((Z.trans I).trans sm) ?_ (λa Y=>(Z2.mp Y).elim (λz=>by rw[z];exact(Z.trans I).none' V) λz=>Z.none' (fa a z)) (aah.mpr ⟨λz=>?_,na⟩)
      .rw[Rep]
       exact⟨p,ys,L,rfl,ra.up ⟨sm,λb u U f=>⟨λz=>z.elim (λz=>(Z2.mp z).elim (λz=>by rw[z,V]at U;cases U) λz=>f.1 2.29) λz=>f.1 2.42,f.2⟩,λ_ _ _ f=>f⟩,aR,rfl⟩
      .obtain⟨o,F,_⟩:=ra.dom p z
       rw[V]at F;cases F
  .cases ee
end
def qC(cap:List 2.12):Prop:=∀(i k j:Nat),cap[i]? =ac (ac j)->cap[k]? =ac (ac j)->i=k
def mj(cap:List 2.12)(S:Ad):Ad:=λi=>match cap[i]? with
 |some (ac j)=>S j
 |_=>[]
def ue(cap:List 2.12)(S:Ad)(Fr:Addr->Prop):Addr->Prop:=λa=>Fr a∨∃j:Nat,(∀i:Nat,cap[i]?≠ac (ac j))/\a∈S j
def jJ{cap:List 2.12}(h:a∈mj cap S i):∃j,cap[i]? =ac (ac j)/\a∈S j:=by
 unfold mj at h;split at h
 .rename_i j e;exact⟨j,e,h⟩
 .cases h
def Ca{cap:List 2.12}(h:cap[i]? =ac (ac j)):mj cap S i=S j:=by unfold mj;rw[h]
def G3{cap:List 2.12}(h:cap[i]? =ac (ac j)):obC cap ob i=ob j:=by unfold obC;rw[h]
section
variable{G:Gc}{ob own:Nat->Bool}{cap:List (Option Nat)}
def Am{S:Ad}{Fr:Addr->Prop}{a:Addr}:(wn ob S Fr).free a↔(wn 2.13 (mj cap S) 2.84).free a:=by
 constructor
 .intro f
  have q:∀j,a∉S j:=λj z=>by
   cases F:ob j with
   |false=>exact f.2.1 ⟨j,F,z⟩
   |true=>exact f.2.2 ⟨j,F,z⟩
  refine⟨λz=>z.elim f.1 λ⟨j,_,z⟩=>q j z,λ⟨i,_,z⟩=>?_,λ⟨i,_,z⟩=>?_⟩
  .obtain⟨j,_,z⟩:=jJ z;exact q j z
  .obtain⟨j,_,z⟩:=jJ z;exact q j z
 .intro f
  have q:∀j,a∉S j:=λj z=>by
   by_cases O:∃i:Nat,cap[i]? =ac (ac j)
   .obtain⟨i,hi⟩:=O
    have D:a∈mj cap S i:=by rw[Ca hi];exact z
    cases F:obC cap ob i with
    |false=>exact f.2.1 ⟨i,F,D⟩
    |true=>exact f.2.2 ⟨i,F,D⟩
   .exact f.1 (.inr ⟨j,λi hi=>O ⟨i,hi⟩,z⟩)
  exact⟨λz=>f.1 2.29,λ⟨j,_,z⟩=>q j z,λ⟨j,_,z⟩=>q j z⟩
def Vv{H:Hp}{S:Ad}{Fr:Addr->Prop}{d:D}{v:V}{L:List Addr}(O:clean d=ag):Rep G H 2.48 d v L↔Rep G H (wn 2.13 (mj cap S) 2.84) d v L:=by
 have q:=(by simpa[clean]using O:aA d=ag/\az d=ag);constructor
 .intro r
  have F:Evo H H 2.48 (wn 2.13 (mj cap S) 2.84):=⟨λb u U f=>⟨U,Am.mp f⟩,λ_ _ h=>h⟩;exact r.mono F (.inl q.1) (.inl q.2) λ_ _ _ h=>h
 .intro r
  have F:Evo H H (wn 2.13 (mj cap S) 2.84) (wn ob S Fr):=⟨λb u U f=>⟨U,Am.mpr f⟩,λ_ _ h=>h⟩;exact r.mono F (.inl q.1) (.inl q.2) λ_ _ _ h=>h
def Sta.inn{H:Hp}{ρ:En}{σ:L2.St}{S:Ad}{Fr:Addr->Prop}(U:qC cap)(s:Sta G H ob ρ σ S Fr):Sta G H 2.13 2.94 (ji cap σ) (mj cap S) 2.84 where
 len:=by simp[fZ,ji]
 sl:=λi d e=>by
  obtain⟨j,h1,h2⟩:=sJ e;obtain⟨v,q1,q2,D⟩:=s.sl j d h2;exact⟨v,Av h1 q1,by rw[Ca h1];exact(Vv D).mp q2,D⟩
 em:=λi h=>by
  unfold mj;split
  .rename_i j e
   exact s.em j λd hd=>h d (Av e hd)
  .rfl
 nd:=λi=>by
  unfold mj;split
  .exact s.nd _
  .exact aaq
 dj:=λi k a h1 h2=>by
  obtain⟨F,e1,O⟩:=jJ h1;obtain⟨q,e2,J⟩:=jJ h2;have:=s.dj F q a O J;subst this;exact U i k F e1 e2
 fdj:=λi a h z=>by
  obtain⟨j,e,z⟩:=jJ z;rcases h with h|⟨k,I,h⟩
  .exact s.fdj j a h z
  .have:=s.dj j k a z h
   subst this;exact I i e
 fdm:=λa h=>by
  rcases h with h|⟨k,_,h⟩
  .exact s.fdm a h
  .exact s.mu h
def jh:List 2.12->En->En->En
 |some j::cs,d::ds,ρ=>jh cs ds (ρ.set j d)
 |none::cs,_::ds,ρ=>jh cs ds ρ
 |_,_,ρ=>ρ
def oY:∀(cap:List 2.12)(ds ρ:En),(jh cap ds ρ).length=ρ.length
 |[],ds,ρ=>by cases ds<;>rfl
 |some j::cs,[],ρ=>rfl
 |none::cs,[],ρ=>rfl
 |some j::cs,d::ds,ρ=>by rw[jh,oY cs ds];simp
 |none::cs,d::ds,ρ=>by rw[jh,oY cs ds]
def nH:∀{cap:List 2.12}{ds ρ:En}{j:Nat},(∀i:Nat,cap[i]?≠ac (ac j))->(jh cap ds ρ)[j]? =ρ[j]?
 |[],ds,ρ,j,_=>by cases ds<;>rfl
 |some k::cs,[],ρ,j,_=>rfl
 |none::cs,[],ρ,j,_=>rfl
 |some k::cs,d::ds,ρ,j,h=>by
  rw[jh,nH λi e=>h (i+1) (by simpa using e),List.getElem?_set_ne λz=>h 0 (by simp[z])]
 |none::cs,d::ds,ρ,j,h=>by rw[jh,nH λi e=>h (i+1) (by simpa using e)]
def rD:∀{cap:List 2.12}{ds ρ:En}{i j:Nat}{x:Option D},qC cap->cap[i]? =ac (ac j)->ds[i]? =ac x->j<ρ.length->(jh cap ds ρ)[j]? =ac x
 |[],ds,ρ,i,j,x,_,h,_,_=>by simp at h
 |some k::cs,[],ρ,i,j,x,_,_,h,_=>by simp at h
 |none::cs,[],ρ,i,j,x,_,_,h,_=>by simp at h
 |some k::cs,d::ds,ρ,i,j,x,hj,h1,h2,hl=>by
  rw[jh];cases i with
  |zero=>
   have e1:k=j:=by simpa using h1
   have e2:d=x:=by simpa using h2
   subst e1 e2;rw[nH λi e=>?_]
   .simp[hl]
   .have:=hj 0 (i+1) k (by simp) (by simpa using e)
    omega
  |succ i=>exact rD (λa b c h1 h2=>by have:=hj (a+1) (b+1) c (by simpa using h1) (by simpa using h2);omega) (by simpa using h1) (by simpa using h2) (by simpa using hl)
 |none::cs,d::ds,ρ,i,j,x,hj,h1,h2,hl=>by
  rw[jh];cases i with
  |zero=>simp at h1
  |succ i=>exact rD (λa b c h1 h2=>by have:=hj (a+1) (b+1) c (by simpa using h1) (by simpa using h2);omega) (by simpa using h1) (by simpa using h2) hl
def uJ(cap:List 2.12)(q S:Ad):Ad:=λj=>match cap.findIdx? (λo=>o==ac j)with
 |some i=>q i
 |none=>S j
def iR{q S:Ad}{i j:Nat}(U:qC cap)(h:cap[i]? =ac (ac j)):uJ cap q S j=q i:=by
 unfold uJ;split
 .rename_i k e
  obtain⟨h1,h2,_⟩:=aas.mp e;have:cap[k]=ac j:=by simpa using h2
  rw[U i k j h (by rw[List.getElem?_eq_getElem h1,this])]
 .rename_i e
  have:=aay.mp e (ac j) (aau h);simp at this
def iG{q S:Ad}{j:Nat}(h:∀i:Nat,cap[i]?≠ac (ac j)):uJ cap q S j=S j:=by
 unfold uJ;split
 .rename_i k e
  obtain⟨h1,h2,_⟩:=aas.mp e;have:cap[k]=ac j:=by simpa using h2
  exact absurd (by rw[List.getElem?_eq_getElem h1,this]) (h k)
 .rfl
def gW(cap:List 2.12)(j:Nat):(∃i:Nat,cap[i]? =ac (ac j))∨(∀i:Nat,cap[i]?≠ac (ac j)):=by
 by_cases h:∃i:Nat,cap[i]? =ac (ac j)
 .exact .inl h
 .exact .inr λi z=>h ⟨i,z⟩
def Sta.out{H H':Hp}{ρ a5:En}{σ a7:L2.St}{S Si:Ad}{Fr:Addr->Prop}{M:List Addr}(hj:qC cap)(s:Sta G H ob ρ σ S Fr)(F:∀i:Nat,cap[i]? =ac af->True)(I:∀i j:Nat,cap[i]? =ac (ac j)->a7[i]? =(ji cap σ)[i]?)
  (si:Sta G H' 2.13 a5 a7 Si (plus M 2.84)) (ef:Eff 2.13 H H' (mj cap S) Si M):Sta G H' ob (jh cap a5 ρ) σ 2.130 2.16/\Eff ob H H' S 2.130 M/\
   (∀d v L,clean d=ag->Rep G H' 2.197 d v L->Rep G H' (wn ob 2.130 2.16) d v L):=by
 have a0:∀{a},inO 2.13 (mj cap S) a->inO ob S a:=λ{a}⟨i,h1,h2⟩=>by
  obtain⟨j,e,z⟩:=jJ h2;exact⟨j,by rw[←G3 (ob:=ob) e];exact h1,z⟩
 have b1:Eff ob H H' S 2.130 M:=by
  refine⟨λb u U n=>ef.kp b u U λz=>n (a0 z),λj a4=>?_,λj a a4 z=>?_,λa Y=>(ef.fm a Y).imp a0 id⟩
  .rcases gW cap j with⟨i,hi⟩|hn
   .rw[iR hj hi,ef.sn i (by rw[G3 hi];exact a4),Ca hi]
   .exact iG hn
  .rcases gW cap j with⟨i,hi⟩|hn
   .rw[iR hj hi]at z
    exact(ef.gr i a (by rw[G3 hi];exact a4) z).imp a0 id
   .rw[iG hn]at z;exact .inl ⟨j,a4,z⟩
 have a8:∀a,(wn 2.13 Si (plus M 2.84)).free a->(wn ob 2.130 2.16).free a:=λa f=>by
  have nS:∀j,a∉uJ cap Si S j:=λj z=>by
   rcases gW cap j with⟨i,hi⟩|hn
   .rw[iR hj hi]at z
    cases a9:obC cap ob i with
    |false=>exact f.2.1 ⟨i,a9,z⟩
    |true=>exact f.2.2 ⟨i,a9,z⟩
   .rw[iG hn]at z
    exact f.1 (.inr (.inr ⟨j,hn,z⟩))
  exact⟨λz=>z.elim (λz=>f.1 2.29) λz=>f.1 2.186,λ⟨j,_,z⟩=>nS j z,λ⟨j,_,z⟩=>nS j z⟩
 have conv:∀d v L,clean d=ag->Rep G H' 2.197 d v L->Rep G H' (wn ob 2.130 2.16) d v L:=λd v L O r=>by
  have q:=(by simpa[clean]using O:aA d=ag/\az d=ag);have ev:Evo H' H' 2.197 (wn ob 2.130 2.16):=⟨λb u U f=>⟨U,a8 b f⟩,λ_ _ h=>h⟩;exact r.mono ev (.inl q.1) (.inl q.2) λ_ _ _ h=>h
 have a1:∀{j a},(∀i:Nat,cap[i]?≠ac (ac j))->a∈S j->∀i,a∉Si i:=λ{j a} hn z i y=>si.fdj i a (.inr (.inr ⟨j,hn,z⟩)) y;refine⟨⟨by rw[oY];exact s.len,λj d hd=>?_,λj hd=>?_,λj=>?_,λj k a h1 h2=>?_,λj a h z=>?_,λa h=>?_⟩,b1,conv⟩
 .rcases gW cap j with⟨i,hi⟩|hn
  .have a3:j<ρ.length:=by
    have:=(List.getElem?_eq_some_iff.mp hd).1;rwa[oY]at this
   cases J:a5[i]? with
   |none=>
    have h1:a5.length<=i:=acW.mp J;have h2:a7.length<=i:=by rw[←si.len];exact h1
    have h3:=I i j hi;rw[acW.mpr h2]at h3;have Z:(ji cap σ).length<=i:=acW.mp h3.symm;have V:i<cap.length:=(List.getElem?_eq_some_iff.mp hi).1;simp[ji]at Z;omega
   |some x=>
    rw[rD hj hi J a3]at hd;cases hd;obtain⟨v,q1,q2,D⟩:=si.sl i d J;rw[I i j hi]at q1;obtain⟨j',e1,e2⟩:=sJ q1;rw[hi]at e1;cases e1;exact⟨v,e2,by rw[iR hj hi];exact conv _ _ _ D q2,D⟩
  .rw[nH hn]at hd
   obtain⟨v,q1,q2,D⟩:=s.sl j d hd;refine⟨v,q1,?_,D⟩;rw[iG hn];have q:=(by simpa[clean]using D:aA d=ag/\az d=ag);refine q2.mono (b1.evo s) (.inl q.1) (.inl q.2) λc O u hu=>?_;exact ef.kp c u hu λ⟨i,_,z⟩=>by
    obtain⟨k,e,z⟩:=jJ z;have:=s.dj j k c O z;subst this;exact hn i e
 .rcases gW cap j with⟨i,hi⟩|hn
  .rw[iR hj hi]
   refine si.em i λd b0=>?_;by_cases a3:j<ρ.length
   .exact hd d (rD hj hi b0 a3)
   .
    obtain⟨v,q1,_⟩:=si.sl i d b0;rw[I i j hi]at q1;obtain⟨j',e1,e2⟩:=sJ q1;rw[hi]at e1;cases e1;have:=(List.getElem?_eq_some_iff.mp e2).1;rw[←s.len]at this;exact a3 this
  .rw[iG hn]
   exact s.em j λd=>by have:=hd d;rwa[nH hn]at this
 .rcases gW cap j with⟨i,hi⟩|hn
  .rw[iR hj hi];exact si.nd i
  .rw[iG hn];exact s.nd j
 .rcases gW cap j with⟨i,hi⟩|hn<;>rcases gW cap k with⟨i',a2⟩|a6
  .rw[iR hj hi]at h1
   rw[iR hj a2]at h2;have:=si.dj i i' a h1 h2;subst this;rw[hi]at a2;cases a2;rfl
  .rw[iR hj hi]at h1
   rw[iG a6]at h2;exact absurd h1 (a1 a6 h2 i)
  .rw[iG hn]at h1
   rw[iR hj a2]at h2;exact absurd h2 (a1 hn h1 i')
  .rw[iG hn]at h1
   rw[iG a6]at h2;exact s.dj j k a h1 h2
 .rcases gW cap j with⟨i,hi⟩|hn
  .rw[iR hj hi]at z
   exact si.fdj i a (h.imp id .inl) z
  .rw[iG hn]at z
   rcases h with h|h
   .rcases ef.fm a h with y|y
    .obtain⟨k,_,y⟩:=a0 y
     have:=s.dj j k a z y;subst this;obtain⟨i,hi,y'⟩:∃i,obC cap ob i=ag/\a∈mj cap S i:=by assumption
     obtain⟨k',e,y'⟩:=jJ y';have:=s.dj j k' a z y';subst this;exact hn i e
    .obtain⟨o,F,_⟩:=s.mu z
     rw[y]at F;cases F
   .exact s.fdj j a h z
 .rcases h with h|h
  .exact si.fdm a (.inl h)
  .exact si.fdm a (.inr (.inl h))
end
section
variable{ι:Type}{X:ι->Cx}{G:Gc}{ob own:Nat->Bool}
def VL(G:Gc)(ob own:Nat->Bool)(g:TG)(f:D->En->Option En):Prop:=∀(d:D)(ρ ρ':En),f d ρ=ac ρ'->∀(x:V)(σ:L2.St)(H:Hp)(S:Ad)(Fr:Addr->Prop),Sta G H ob ρ σ S Fr->(∀i,own i=ag->S i=[])->Rep G H 2.48 d x []->∀Q:L2.St->Hp->Prop,
 (∀F,Sta G H ob ρ' F S Fr->(∀j,own j=ae->F[j]? =σ[j]?)->Q F H)->g x σ H Q
def J9{i:Nat}(F:own i=ag):VL G ob own (yw i) (tgN i):=λd ρ ρ' e x σ H S Fr s D r Q q=>by
 unfold tgN at e;split at e
 .rename_i hc
  cases e;refine q _ ⟨by simp[s.len],λj d' U=>?_,λj U=>?_,s.nd,s.dj,s.fdj,s.fdm⟩ λj U=>?_
  .by_cases ej:i=j
   .subst ej
    rw[ab4]at U;split at U
    .split at U
     .rename_i h2
      have:d=d':=by simpa using U
      subst this;exact⟨x,by simp[←s.len,h2],by rw[D i F];exact r,hc⟩
     .cases U
    .exact absurd rfl ‹_›
   .rw[List.getElem?_set_ne ej]at U
    obtain⟨v,h1,h2,O⟩:=s.sl j d' U;exact⟨v,by rw[List.getElem?_set_ne ej];exact h1,h2,O⟩
  .by_cases ej:i=j
   .subst ej;exact D i F
   .exact s.em j λd'=>by have:=U d';rwa[List.getElem?_set_ne ej]at this
  .have:i≠j:=λz=>by rw[←z,F]at U;cases U
   rw[List.getElem?_set_ne this]
 .cases e
structure Y7{ι:Type}(X:ι->Cx)(G:Gc)(ob own:Nat->Bool)(tg:Expr)(f:D->En->Option En):Prop where
 mk::(ex:∃t,(∀c,PG (X c) tg t)/\VL G ob own t f)
def JS(i:Nat){x:Str}{pos:Pos}(z:∀c,(X c).N.Nodup)(F:own i=ag:=by rfl)(hi:∀c,(X c).N[i]? =ac x:=by intro _;rfl)(J:∀c,Loc (X c).env.scope x:=by intro _;first|exact aa_ rfl|exact aaL rfl)(Y:∀c,(X c).fn x=ag∨(X c).env.scope.names.lookup x=ac .local:=by intro _;first|exact .inl rfl|exact .inr rfl):Y7 X G ob own 2.38 (tgN i):=⟨_,λc=>B_ (z c) (hi c) (J c) (Y c),J9 F⟩
def jT(cap:List 2.12)(tg:D->En->Option En)(c:En->Option Bool)(e:En->Option (D×En)):List D->En->Option (List D×En)
 |[],ρ=>ac ([],ρ)
 |d::r,ρ=>(tg d (fZ cap ρ)).bind λρ1=>(c ρ1).bind λb=>if b=ag then(e ρ1).bind λp=>if clean p.1=ag then(jT cap tg c e r (jh cap p.2 ρ)).map λt=>(p.1::t.1,t.2)else af else jT cap tg c e r ρ
def ql(cap:List 2.12)(it:En->Option (Bool×List D))(tg:D->En->Option En)(c:En->Option Bool)(e:En->Option (D×En)):En->Option (D×En):=λρ=>(it ρ).bind λp=>if p.1=ag/\p.2.length<=1000000 then(jT cap tg c e p.2 ρ).map λt=>(.lst .own t.1,t.2)else af
def N7{cap:List 2.12}{wi:TI}{g:TG}{tt:TT}{te:TE}{it:En->Option (Bool×List D)}{tg:D->En->Option En}{c:En->Option Bool}{e:En->Option (D×En)}(hj:qC cap)(a5:∀i:Nat,own i=ag->cap[i]?≠af->cap[i]? =ac af)(hi:RfI G ob wi it)(hg:VL G 2.13 own g tg)(ht:RfT G 2.13 tt c)(he:l_ G 2.13 te e) :
  l_ G ob (Cz cap wi g tt te) (ql cap it tg c e):=λρ d ρ' ee σ H S Fr s Q q=>by
 unfold ql at ee;cases h1:it ρ with
 |none=>simp[h1]at ee
 |some p=>
  obtain⟨b,items⟩:=p;rw[h1]at ee;simp![gD]at ee;split at ee
  .rename_i a1
   obtain⟨U,a1⟩:=a1;change b=ag at U;change items.length<=1000000 at a1;subst U;cases h2:jT cap tg c e items ρ with
   |none=>simp[h2]at ee
   |some w=>
    obtain⟨a8,a6⟩:=w;obtain⟨rfl,rfl⟩:D.lst .own a8=d/\a6=ρ':=by simpa[h2]using ee
    refine hi ρ ag items h1 σ H _ s.rel s.wok _ λJ H1 sm wk=>?_;have s1:Sta G H1 ob ρ σ S Fr:=s.grow sm λa z=>.inl z;have e1:Eff ob H H1 S S []:=⟨λb u h _=>sm b u h,λ_ _=>rfl,λi a h z=>.inl ⟨i,h,z⟩,by simp⟩;refine⟨λi m ys H2=>i+m=items.length/\ys.length<=i/\∃ρ2 S2 acc L rest,Sta G H2 ob ρ2 σ S2 2.74/\aJ G H2 (wn ob S2 2.74) acc ys L/\L.Nodup/\aF acc=ag/\aD acc=ag/\Eff ob H1 H2 S S2 L/\jT cap tg c e (items.drop i) ρ2=ac (rest,a6)/\acc++rest=a8,
     ⟨items.length,by omega,by simp,ρ,S,[],[],a8,by rw[jV];exact s1,.nil,aaq,rfl,rfl,.refl,h2,rfl⟩,?_⟩
    rintro i m ys H2 ⟨d1,d2,ρ2,S2,acc,L,rest,s2,ra,na,b4,b1,ef,Y,a0⟩;have lt:LtB ag H1 2.48 H2 (wn 2.13 (mj cap S2) (ue cap S2 2.74)):=uY ⟨λb u U f=>let⟨h1,h2⟩:=(ef.evo s1).k b u U f;⟨h1,Am.mp h2⟩,(ef.evo s1).t⟩;by_cases b5:i<items.length
    .have hdr:=(abo b5).symm
     rw[hdr,jT]at Y;refine .inr ⟨wk.go i items[i] (by simp[b5]) H2 _ lt,by have:=six a1;omega,λb2 H'=>(i+1)+(m-1)=items.length/\b2.length<=i+1/\∃ρ2 S2 acc L rest,Sta G H' ob ρ2 σ S2 2.74/\aJ G H' (wn ob S2 2.74) acc b2 L/\L.Nodup/\aF acc=ag/\aD acc=ag/\Eff ob H1 H' S S2 L/\jT cap tg c e (items.drop (i+1)) ρ2=ac (rest,a6)/\acc++rest=a8,λb2 H' h=>⟨m-1,by omega,h⟩,λx H3 hy=>?_⟩;obtain⟨s3,rx⟩:=wk.yld i items[i] (by simp[b5]) H2 _ lt x H3 hy;have b7:Sta G H3 ob ρ2 σ S2 (plus L Fr):=s2.grow s3 λa z=>.inl z;have c7:Eff ob H1 H3 S S2 L:=ef.same s3 λc O=>.inl O;have c9:aJ G H3 (wn ob S2 2.74) acc ys L:=ra.up (Up.same s3);have si:=b7.inn (cap:=cap) hj;cases h3:tg items[i] (fZ cap ρ2)with
     |none=>simp[h3]at Y
     |some a2=>
      rw[h3]at Y;simp![gD]at Y;have c6:∀k,own k=ag->mj cap S2 k=[]:=λk I=>by
       unfold mj;split
       .rename_i j e
        rw[a5 k I (by rw[e];simp)]at e;cases e
       .rfl
      refine hg items[i] _ a2 h3 x _ H3 _ (ue cap S2 2.74) si c6 rx _ λa7 s4 c0=>⟨O7 a5 c0,?_⟩;cases h4:c a2 with
      |none=>simp[h4]at Y
      |some bb=>
       rw[h4]at Y;simp![gD]at Y;refine ht a2 bb h4 a7 H3 _ s4.rel s4.wok _ λH4 a9=>?_;have a4:Sta G H4 ob ρ2 σ S2 (plus L Fr):=b7.grow a9 λa z=>.inl z;have c5:Sta G H4 2.13 a2 a7 (mj cap S2) (ue cap S2 2.74):=s4.grow a9 λa z=>.inl z;have b8:Eff ob H1 H4 S S2 L:=c7.same a9 λc O=>.inl O;have b0:aJ G H4 (wn ob S2 2.74) acc ys L:=c9.up (Up.same a9);cases bb with
       |false=>
        simp![aa9,ab2]at Y;exact Ax ⟨by omega,by omega,ρ2,S2,acc,L,rest,a4,b0,na,b4,b1,b8,Y,a0⟩
       |true=>
        simp![aal]at Y;cases h5:e a2 with
        |none=>simp[h5]at Y
        |some w=>
         obtain⟨y,b6⟩:=w;rw[h5]at Y;simp![gD]at Y;split at Y
         .rename_i hcy
          cases h6:jT cap tg c e (items.drop (i+1)) (jh cap b6 ρ2)with
          |none=>simp[h6]at Y
          |some w=>
           obtain⟨a3,c2⟩:=w;obtain⟨rfl,rfl⟩:y::a3=rest/\c2=a6:=by simpa[h6]using Y
           refine uY (he a2 y b6 h5 a7 H4 _ _ c5 _ λv H5 M S5 s5 ry ny c8=>?_);have d0:∀i j:Nat,cap[i]? =ac (ac j)->a7[i]? =(ji cap σ)[i]?:=λi j hi=>c0 i (by
            cases F:own i with
            |false=>rfl
            |true=>rw[a5 i F (by rw[hi];simp)]at hi;cases hi)
           obtain⟨o1,o2,o3⟩:=a4.out hj (λ_ _=>trivial) d0 s5 c8;have c1:=(by simpa[clean]using hcy:aA y=ag/\az y=ag);have c3:=b0.mono (o2.evo a4) (.inl b4) (.inl b1) λc O u hu=>o2.keepsF a4 (.inl O) u hu;rw[oN]at o1 c3;have b9:=o3 y v M hcy ry;rw[oN]at b9;have c4:∀a∈L,a∉M:=λa z1 z2=>by
            rcases o2.fm a z2 with y|y
            .exact a4.notO (.inl z1) y
            .obtain⟨o,F,_⟩:=b0.dom a z1
             rw[y]at F;cases F
           exact⟨by omega,by simp;omega,jh cap b6 ρ2,_,acc++[y],L++M,a3,o1,c3.append (.one b9),fD na ny c4,by rw[jw];simp[b4,aF,c1],by rw[jy];simp[b1,aD,c1],b8.trans o2,h6,by rw[←a0];simp⟩
         .cases Y
    .have hl:i=items.length:=by omega
     subst hl;rw[abC,jT]at Y;obtain⟨rfl,rfl⟩:[]=rest/\ρ2=a6:=by simpa using Y
     refine .inl ⟨wk.stop H2 _ lt,aca (six 1.10),λp V=>?_⟩;have b3:Same H2 (upd H2 p 2.129):=Same.new V;rw[List.append_nil]at a0;subst a0;have np:p∉L:=λz=>by obtain⟨o,F,_⟩:=ra.dom p z;rw[V]at F;cases F
     have Z:Rep G (upd H2 p 2.129) (wn ob S2 (plus (p::L) Fr)) (.lst .own acc) 2.49 (p::L):=by
      rw[Rep];exact⟨p,ys,L,rfl,ra.up ⟨b3,λb u U f=>⟨λz=>z.elim (λz=>(Z2.mp z).elim (λz=>by rw[z,V]at U;cases U) λz=>f.1 2.29) λz=>f.1 2.42,f.2⟩,λ_ _ _ f=>f⟩,aR,rfl⟩
     refine q 2.49 _ (p::L) S2 (s2.grow b3 λa z=>?_) Z (aah.mpr ⟨np,na⟩) ?_
     .rcases z with z|z
      .rcases Z2.mp z with z|z
       .exact .inr ⟨by rw[z];exact V,Z.dom a (by simp[z])⟩
       .exact .inl 2.29
      .exact .inl 2.42
     .exact(e1.trans ef).same b3 λc O=>(Z2.mp O).elim (λz=>.inr (by rw[z];exact V)) λz=>.inl (by simpa using z)
  .cases ee
section
variable{elt target iter:Expr}{ifs:List Expr}{scope:Scope}{pos pos' pos2:Pos}{N':List Str}{it:En->Option (Bool×List D)}{tg:D->En->Option En}{fc:En->Option Bool}
theorem iJ(cap:List 2.12)(own:Nat->Bool){fe:En->Option D}(J:∀c,(X c).xe=NoX)(z:∀c,(X c).calm=ag)(O:∀c,cJ (X c).env.scope (X c).N N' scope cap)(q:∀i:Nat,own i=ag->cap[i]?≠af->cap[i]? =ac af)(hi:PVI X G ob target iter it)(F:JK 2.47 G 2.13 own target tg)(U:Kc 2.47 G 2.13 ifs fc)(V:PV 2.47 G 2.13 elt fe)
  (hs:∀c,∀x,aba iter (X c).env x=pure x:=by intro _ _;rfl):PV X G ob 1.14 (bH cap it tg fc fe):=
 let⟨_,i1,i2⟩:=hi.ex;let⟨_,g1,g2⟩:=F.ex;let⟨_,t1,t2⟩:=U.ex;let⟨_,e1,e2⟩:=V.ex
 ⟨_,λc=>Ho (J c) (z c) (O c) (i1 c) (λC s H fp=>g1 (c,C,s,H,fp)) (λC s H fp=>t1 (c,C,s,H,fp)) (λC s H fp=>e1 (c,C,s,H,fp)) (hs c),Bx q i2 g2 t2 e2⟩
variable{P:Nat->Bool}{x:Str}
theorem rW(i:Nat)(cap:List 2.12)(own:Nat->Bool){fe:En->Option D}(z:∀c,(X c).N.Nodup)(J:∀c,(X c).xe=NoX)(hc:∀c,(X c).calm=ag)(O:∀c,cJ (X c).env.scope (X c).N N' scope cap)(q:∀i:Nat,own i=ag->cap[i]?≠af->cap[i]? =ac af)(hi:PVI X G ob target iter it)(F:JK 2.47 G 2.13 own target tg)(U:Kc 2.47 G 2.13 ifs fc)(V:PV 2.47 G 2.13 elt fe)
  (I:P i=ae:=by rfl) (a0:∀c,(X c).N[i]? =ac x:=by intro _;rfl) (Y:∀c,Loc (X c).env.scope x:=by intro _;first|exact aa_ rfl|exact aaL rfl) (Z:∀c,abX 1.14 2.87 pos2.line (X c).env=pure ag:=by intro _;rfl) (hs:∀c,∀x,aba iter (X c).env x=pure x:=by intro _ _;rfl)
  (hf:∀c,(X c).fn x=ag∨(X c).env.scope.names.lookup x=ac .local:=by intro _;first|exact .inl rfl|exact .inr rfl):PVS X G ob P (.Assign [.Name x pos'] 1.14 pos2) (bO (bH cap it tg fc fe) (tgN i)):=
 let⟨_,i1,i2⟩:=hi.ex;let⟨_,g1,g2⟩:=F.ex;let⟨_,t1,t2⟩:=U.ex;let⟨_,e1,e2⟩:=V.ex
 ⟨_,λc=>H9 (J c) (hc c) (z c) (a0 c) (Y c) (O c) (i1 c) (λC s H fp=>g1 (c,C,s,H,fp)) (λC s H fp=>t1 (c,C,s,H,fp)) (λC s H fp=>e1 (c,C,s,H,fp)) (Z c) (hs c) (hf c),by rw[←Gw];exact lu (Cm (Bx q i2 g2 t2 e2)) (km I)⟩
theorem Kd(i:Nat)(cap:List 2.12)(own:Nat->Bool){fe:En->Option (D×En)}(z:∀c,(X c).N.Nodup)(J:∀c,(X c).xe=NoX)(hc:∀c,(X c).calm=ag)(O:∀c,cJ (X c).env.scope (X c).N N' scope cap)(U:qC cap)(q:∀i:Nat,own i=ag->cap[i]?≠af->cap[i]? =ac af)(hi:PVI X G ob target iter it)(F:Y7 2.47 G 2.13 own target tg)(ht:Kc 2.47 G 2.13 ifs fc)(V:PVe 2.47 G 2.13 elt fe)
  (I:P i=ae:=by rfl) (a0:∀c,(X c).N[i]? =ac x:=by intro _;rfl) (Y:∀c,Loc (X c).env.scope x:=by intro _;first|exact aa_ rfl|exact aaL rfl) (Z:∀c,abX 1.14 2.87 pos2.line (X c).env=pure ag:=by intro _;rfl) (hs:∀c,∀x,aba iter (X c).env x=pure x:=by intro _ _;rfl)
  (hf:∀c,(X c).fn x=ag∨(X c).env.scope.names.lookup x=ac .local:=by intro _;first|exact .inl rfl|exact .inr rfl):PVS X G ob P (.Assign [.Name x pos'] 1.14 pos2) (dD (ql cap it tg fc fe) (tgN i)):=
 let⟨_,i1,i2⟩:=hi.ex;let⟨_,g1,g2⟩:=F.ex;let⟨_,t1,t2⟩:=ht.ex;let⟨_,e1,e2⟩:=V.ex
 ⟨_,λc=>H9 (J c) (hc c) (z c) (a0 c) (Y c) (O c) (i1 c) (λC s H fp=>g1 (c,C,s,H,fp)) (λC s H fp=>t1 (c,C,s,H,fp)) (λC s H fp=>e1 (c,C,s,H,fp)) (Z c) (hs c) (hf c),lu (N7 U q i2 g2 t2 e2) (km I)⟩
end
end
inductive Sc:Dt->Dt->Prop
 |bl (a b:Bool):Sc (.bl a) (.bl b)
 |int (a b:Int):Sc (.int a) (.int b)
 |str (a b:Str):Sc (.str a) (.str b)
 |non:Sc .non .non
 |ns (b:Str):Sc .non (.str b)
 |ni (b:Int):Sc .non (.int b)
def Flt(d e:Dt):Prop:=∃a b,d= .tup a/\e= .tup b/\∀p∈a.zip b,Sc p.1 p.2
def Zm(d e:Dt):Prop:=∃a b,d= .lst a/\e= .lst b/\∀p∈a.zip b,Sc p.1 p.2
inductive Alk:Dt->Dt->Prop
 |sc {d e:Dt}:Sc d e->Alk d e
 |lst {a b:List Dt}:(∀p∈a.zip b,Sc p.1 p.2)->Alk (.lst a) (.lst b)
 |tup {a b:List Dt}:(∀p∈a.zip b,Sc p.1 p.2)->Alk (.tup a) (.tup b)
 |deep {a b:List Dt}:(∀p∈a.zip b,Flt p.1 p.2)->Alk (.lst a) (.lst b)
 |deepL {a b:List Dt}:(∀p∈a.zip b,Zm p.1 p.2)->Alk (.lst a) (.lst b)
 |deepT {a b:List Dt}:(∀p∈a.zip b,Flt p.1 p.2)->Alk (.tup a) (.tup b)
section
variable{X:Cx}{pins:List (Addr×Obj)}{σ:L2.St}{H:Hp}{s:Shared}{A:Around}
open PySem.SeqAt
def Ip{d e:Dt}{v u:V}{v' u':Value}(h:Sc d e)(h1:Brs X.K H d v)(h2:Brs X.K H e u)(z:RelV v v')(q:RelV u u'):EqAt A s v' u' (eqD d e)/\RcAt A s v' u' (eqD d e)/\RcNeAt A s v' u' (!eqD d e):=by
 cases h<;>simp![Brs]at h1 h2<;>subst h1 h2
 case bl a b=>cases z;cases q;exact⟨EqAt.bool_bool a b,RcAt.bool_bool a b,RcNeAt.bool_bool a b⟩
 case int a b=>obtain⟨t,rfl⟩:=z;obtain⟨t',rfl⟩:=q;exact⟨EqAt.int_int a t b t',RcAt.int_int a t b t',RcNeAt.int_int a t b t'⟩
 case non=>cases z;cases q;exact⟨agt _,RcAt.none_none,RcNeAt.none_none⟩
 case ns b=>cases z;obtain⟨t',rfl⟩:=q;exact⟨EqAt.none_str b t',RcAt.none_str b t',RcNeAt.none_str b t'⟩
 case ni b=>cases z;obtain⟨t',rfl⟩:=q;exact⟨EqAt.none_int b t',RcAt.none_int b t',RcNeAt.none_int b t'⟩
 case str a b=>obtain⟨t,rfl⟩:=z;obtain⟨t',rfl⟩:=q;exact⟨EqAt.str_str a t b t',RcAt.str_str a t b t',RcNeAt.str_str a t b t'⟩
def vR{R:Dt->Dt->Prop}(hR:∀{d e:Dt}{v u:V}{v' u':Value},R d e->Brs X.K H d v->Brs X.K H e u->RelV v v'->RelV u u'->EqAt A s v' u' (eqD d e)):∀{ds es:List Dt}{ys xs:List V}{q its:List Value},(∀p∈ds.zip es,R p.1 p.2)->je X.K H ds ys->je X.K H es xs->Vals ys q->Vals xs its->
  ∀j (h1:j<q.toArray.size)(h2:j<its.toArray.size),EqAt A s q.toArray[j] its.toArray[j] (eqJ ds es j)
 |[],es,ys,xs,q,its,_,h,h',r,r',j,h1,h2=>by
  simp![je]at h;subst h;cases r;simp at h1
 |d::ds,[],ys,xs,q,its,_,h,h',r,r',j,h1,h2=>by
  simp![je]at h';subst h';cases r';simp at h2
 |d::ds,e::es,ys,xs,q,its,ha,h,h',r,r',j,h1,h2=>by
  simp![je]at h h';obtain⟨y,J,rfl,hd,Z⟩:=h;obtain⟨x,U,rfl,O,D⟩:=h';cases r with
  |cons z Y=>
   cases r' with
   |cons F I=>
    cases j with
    |zero=>exact hR (ha (d,e) (by simp)) hd O z F
    |succ j=>exact vR hR (λp hp=>ha p (by simp[hp])) Z D Y I j (by simpa using h1) (by simpa using h2)
def zx(I:Inv X pins σ H s){R:Dt->Dt->Prop}(Z:∀{d e:Dt}{v u:V}{v' u':Value},R d e->Brs X.K H d v->Brs X.K H e u->RelV v v'->RelV u u'->EqAt A.in1 s v' u' (eqD d e)){ds es:List Dt}{v u:V}{v' u':Value}(h:∀p∈ds.zip es,R p.1 p.2)(h1:Brs X.K H (.lst ds) v)(h2:Brs X.K H (.lst es) u)(z:RelV v v')(q:RelV u u')(hz:A.units<cLine):RcAt A s v' u' (eqD (.lst ds) (.lst es))/\RcNeAt A s v' u' (!eqD (.lst ds) (.lst es)):=by
 simp![Brs]at h1 h2;obtain⟨O,a7,rfl,a6,U⟩:=h1;obtain⟨F,a8,rfl,a5,a4⟩:=h2;cases z;cases q;obtain⟨J,a0,p1,_⟩:=I.list a6;obtain⟨D,a3,p2,_⟩:=I.list a5;have l1:=U.length;have l2:=a4.length;have l3:=a0.length;have l4:=a3.length;rw[show eqD (.lst ds) (.lst es)=eqL ds es by simp[eqD]];by_cases Y:ds.length=es.length
 .have e1:J.toArray.size=D.toArray.size:=by rw[List.size_toArray,List.size_toArray];omega
  have e2:ds.length=J.toArray.size:=by rw[List.size_toArray];omega
  rw[←Bp Y,e2];exact⟨RcAt.lists p1.isList p2.isList e1 hz 2.145,RcNeAt.lists p1.isList p2.isList e1 hz 2.145⟩
 .have e1:(J.toArray.size !=D.toArray.size)=ag:=by rw[List.size_toArray,List.size_toArray];exact bne_iff_ne.mpr 1.10
  rw[Al Y];exact⟨RcAt.lists_lengths p1.isList p2.isList e1 hz,RcNeAt.lists_lengths p1.isList p2.isList e1 hz⟩
def Hf(I:Inv X pins σ H s){R:Dt->Dt->Prop}(Z:∀{d e:Dt}{v u:V}{v' u':Value},R d e->Brs X.K H d v->Brs X.K H e u->RelV v v'->RelV u u'->EqAt A.in1 s v' u' (eqD d e)){ds es:List Dt}{v u:V}{v' u':Value}(h:∀p∈ds.zip es,R p.1 p.2)(h1:Brs X.K H 2.97 v)(h2:Brs X.K H (.tup es) u)(z:RelV v v')(q:RelV u u')(hz:A.units<cLine):RcAt A s v' u' (eqD 2.97 (.tup es))/\RcNeAt A s v' u' (!eqD 2.97 (.tup es)):=by
 simp![Brs]at h1 h2;obtain⟨O,a7,rfl,a6,U⟩:=h1;obtain⟨F,a8,rfl,a5,a4⟩:=h2;cases z;cases q;obtain⟨J,a0,p1,_⟩:=I.tuple a6;obtain⟨D,a3,p2,_⟩:=I.tuple a5;have l1:=U.length;have l2:=a4.length;have l3:=a0.length;have l4:=a3.length;have e:eqD 2.97 (.tup es)=((aaG (min J.toArray.size D.toArray.size)).all (eqJ ds es)&&J.toArray.size==D.toArray.size):=by
  rw[show eqD 2.97 (.tup es)=eqL ds es by simp[eqD],List.size_toArray,List.size_toArray];by_cases Y:ds.length=es.length
  .rw[show min J.length D.length=ds.length by omega,Bp Y,show(J.length==D.length)=ag by simp;omega,aej]
  .rw[Al Y,show(J.length==D.length)=ae by simp;omega,Bool.and_false]
 rw[e];exact⟨RcAt.tuples p1 p2 hz 2.145,RcNeAt.tuples p1 p2 hz 2.145⟩
def Ld(I:Inv X pins σ H s){ds es:List Dt}{v u:V}{v' u':Value}(h:∀p∈ds.zip es,Sc p.1 p.2)(h1:Brs X.K H 2.97 v)(h2:Brs X.K H (.tup es) u)(z:RelV v v')(q:RelV u u')(hz:A.units<cLine):RcAt A s v' u' (eqD 2.97 (.tup es))/\RcNeAt A s v' u' (!eqD 2.97 (.tup es)):=
 Hf I (λh a b c d=>(Ip h a b c d).1) h h1 h2 z q hz
def zT{K:ZW}:∀{ds es:List Dt}{xs:List V},(∀p∈ds.zip es,Sc p.1 p.2)->je K H ds xs->je K H es xs->eqL ds es=ag
 |[],[],_,_,_,_=>by simp[eqL]
 |[],_::_,_,_,h,h'=>by simp![je]at h;subst h;simp[je]at h'
 |_::_,[],_,_,h,h'=>by simp![je]at h';subst h';simp[je]at h
 |d::r,e::q,_,ha,h,h'=>by
  simp![je]at h h';obtain⟨x,ys,rfl,hd,Z⟩:=h;obtain⟨_,_,e1,O,D⟩:=h';cases e1;rw[eqL,zT (λp z=>ha p (by simp[z])) Z D,aej];have hs:=ha (d,e) (by simp);dsimp only at hs;cases hs<;>simp![Brs]at hd O<;>rw[hd]at O<;>first|(cases O;done)|(cases O;simp[eqD];done)|simp[eqD]
def Gg(I:Inv X pins σ H s)(hz:A.units<cLine){d e:Dt}{v u:V}{v' u':Value}(h:Flt d e)(h1:Brs X.K H d v)(h2:Brs X.K H e u)(z:RelV v v')(q:RelV u u'):EqAt A s v' u' (eqD d e):=by
 obtain⟨a,b,rfl,rfl,h⟩:=h;have D:=(Ld I h h1 h2 z q hz).1;simp![Brs]at h1 h2;obtain⟨O,a4,rfl,J,U⟩:=h1;obtain⟨F,a3,rfl,Z,Y⟩:=h2;cases z;cases q;by_cases a0:O=F
 .subst a0
  obtain rfl:=I.tuple_inj J Z;rw[show eqD (.tup a) (.tup b)=ag by rw[eqD];exact zT h U Y];exact agt _
 .exact EqAt.of_refs a0 D
def RX(I:Inv X pins σ H s)(hz:A.units<cLine){d e:Dt}{v u:V}{v' u':Value}(h:Zm d e)(h1:Brs X.K H d v)(h2:Brs X.K H e u)(z:RelV v v')(q:RelV u u'):EqAt A s v' u' (eqD d e):=by
 obtain⟨a,b,rfl,rfl,h⟩:=h;have D:=(zx I (λh a b c d=>(Ip h a b c d).1) h h1 h2 z q hz).1;simp![Brs]at h1 h2;obtain⟨O,a4,rfl,J,U⟩:=h1;obtain⟨F,a3,rfl,Z,Y⟩:=h2;cases z;cases q;by_cases a0:O=F
 .subst a0
  obtain rfl:=I.list_inj J Z;rw[show eqD (.lst a) (.lst b)=ag by rw[eqD];exact zT h U Y];exact agt _
 .exact EqAt.of_refs a0 D
def MP(I:Inv X pins σ H s){d e:Dt}{v u:V}{v' u':Value}(h:Alk d e)(h1:Brs X.K H d v)(h2:Brs X.K H e u)(z:RelV v v')(q:RelV u u')(hz:A.units+1<cLine):RcAt A s v' u' (eqD d e)/\RcNeAt A s v' u' (!eqD d e):=by
 cases h with
 |sc h=>exact(Ip h h1 h2 z q).2
 |lst h=>exact zx I (λh a b c d=>(Ip h a b c d).1) h h1 h2 z q 1.10
 |tup h=>exact Ld I h h1 h2 z q 1.10
 |deepL h=>exact zx I (λh a b c d=>RX I (show A.units+1<cLine from hz) h a b c d) h h1 h2 z q 1.10
 |deepT h=>exact Hf I (λh a b c d=>Gg I (show A.units+1<cLine from hz) h a b c d) h h1 h2 z q 1.10
 |deep h=>exact zx I (λh a b c d=>Gg I (show A.units+1<cLine from hz) h a b c d) h h1 h2 z q 1.10
def XQ(K:ZW)(A:aaK):R2:=λx y H Q=>∃d e,Alk d e/\Brs K H d x/\Brs K H e y/\A.units+1<cLine/\Q (.bl (eqD d e)) H
def Zj(K:ZW)(A:aaK):R2:=λx y H Q=>∃d e,Alk d e/\Brs K H d x/\Brs K H e y/\A.units+1<cLine/\Q (.bl (!eqD d e)) H
def UT:OpR X (aar .Eq) (XQ X.K X.A):=by
 intro pins s σ H x y v u Q I rx F ⟨d,e,h,h1,h2,hu,q⟩;exact(MP I h h1 h2 rx F hu).1 _ _ _ _ ⟨.bl (eqD d e),H,I,rfl,q⟩
def Wl:OpR X (aar .NotEq) (Zj X.K X.A):=by
 intro pins s σ H x y v u Q I rx F ⟨d,e,h,h1,h2,hu,q⟩;exact(MP I h h1 h2 rx F hu).2 _ _ _ _ ⟨.bl (!eqD d e),H,I,rfl,q⟩
end
def OpR.or{f:Value->Value->Sem Value}{r Z:R2}(h:OpR Y f r)(h':OpR Y f Z):OpR Y f (λx y H Q=>r x y H Q∨Z x y H Q):=λpins s σ H x y v u Q I rx F q=>q.elim (h pins s σ H x y v u Q I rx F) (h' pins s σ H x y v u Q I rx F)
def gk.or{f:Value}{Z:List V->Hp->VK->Prop}(h:gk Y f r)(h':gk Y f Z):gk Y f (λxs H Q=>r xs H Q∨Z xs H Q):=λpins s σ H xs us Q I U q=>q.elim (h pins s σ H xs us Q I U) (h' pins s σ H xs us Q I U)
variable{i:Int}
def dX:Rep G H W 2.72 2.72 []:=by rw[Rep];exact⟨rfl,rfl⟩
def vo{i:Str}:Rep G H W (.str i) (.str i) []:=by rw[Rep];exact⟨rfl,rfl⟩
def fL{i:Bool}:Rep G H W (.bl i) (.bl i) []:=by rw[Rep];exact⟨rfl,rfl⟩
def aW(r:Rep G H W 2.72 v L):v= .int i/\L=[]:=by rw[Rep]at r;exact r
def cM{i:Str}(r:Rep G H W (.str i) v L):v= .str i/\L=[]:=by rw[Rep]at r;exact r
def mG{i:Bool}(r:Rep G H W (.bl i) v L):v= .bl i/\L=[]:=by rw[Rep]at r;exact r
variable{g:Int->Int->V}{z:D->D->Option D}
def Ht(h:∀dx I d,z dx I=ac d->∃i j,dx= .int i/\I= .int j/\C i j/\∀H W,Rep G H W d (g i j) []):OpV G (rI C g) z:=λdx I d e x y H W J Y rx F nd hn w Q q=>by
 obtain⟨i,j,rfl,rfl,O,Z⟩:=h dx I d e;obtain⟨rfl,rfl⟩:=aW rx;obtain⟨rfl,rfl⟩:=aW F;exact⟨i,j,rfl,rfl,O,q.scal (λW=>Z H W)⟩
def zM(h:∀dx I d,z dx I=ac d->∃i j,dx= .int i/\I= .int j/\∀H W,Rep G H W d (g i j) []):OpV G (rI0 g) z:=λdx I d e x y H W O Y rx F nd hn w Q q=>by
 obtain⟨i,j,rfl,rfl,Z⟩:=h dx I d e;obtain⟨rfl,rfl⟩:=aW rx;obtain⟨rfl,rfl⟩:=aW F;exact⟨i,j,rfl,rfl,q.scal (λW=>Z H W)⟩
def jb:D->D->Option D
 |.int a,.int b=>ac (.int (a-b))
 |_,_=>af
def lr:D->D->Option D
 |.int a,.int b=>if(-(2 ^ 64)<a/\a<2 ^ 64)∨(-(2 ^ 64)<b/\b<2 ^ 64)then ac (.int (a*b))else af
 |_,_=>af
def vD:D->D->Option D
 |.int a,.int b=>if 0<b/\b<18446744073709551616 then ac (.int (a / b))else af
 |_,_=>af
def mV:D->D->Option D
 |.int a,.int b=>if 0<b then ac (.int (a % b))else af
 |_,_=>af
def E_:D->D->Option D
 |.int a,.int b=>if 0<=b/\b<=1000000/\a.natAbs<2 ^ 64 then ac (.int (a ^ b.toNat))else af
 |_,_=>af
def m6:OpB X G (abg .Sub) jb:=⟨_,λc=>WT,zM λdx I d e=>by
 unfold jb at e;split at e
 .cases e;exact⟨_,_,rfl,rfl,λ_ _=>dX⟩
 .cases e⟩
def lW:OpB X G (abg .Mult) lr:=⟨_,λc=>U_,Ht λdx I d e=>by
 unfold lr at e;split at e
 .split at e
  .cases e;exact⟨_,_,rfl,rfl,‹_›,λ_ _=>dX⟩
  .cases e
 .cases e⟩
def Rz:OpB X G (abg .FloorDiv) vD:=⟨_,λc=>Lb,Ht λdx I d e=>by
 unfold vD at e;split at e
 .split at e
  .cases e;exact⟨_,_,rfl,rfl,‹_›,λ_ _=>dX⟩
  .cases e
 .cases e⟩
def qN:OpB X G (abg .Mod) mV:=⟨_,λc=>Vw,Ht λdx I d e=>by
 unfold mV at e;split at e
 .split at e
  .cases e;exact⟨_,_,rfl,rfl,‹_›,λ_ _=>dX⟩
  .cases e
 .cases e⟩
def W0:OpB X G (abg .Pow) E_:=⟨_,λc=>WK,Ht λdx I d e=>by
 unfold E_ at e;split at e
 .split at e
  .cases e;exact⟨_,_,rfl,rfl,‹_›,λ_ _=>dX⟩
  .cases e
 .cases e⟩
def gh:D->Option D
 |.int a=>ac (.int (-a))
 |_=>af
def jq:UnB X G (unaryOp .USub) gh:=⟨_,λc=>Xc,λdx d e x H W O rx nd hn w Q q=>by
 unfold gh at e;split at e
 .cases e
  obtain⟨rfl,rfl⟩:=aW rx;exact⟨_,rfl,q.scal λW=>dX⟩
 .cases e⟩
def cR:D->D->Option D
 |.int a,.int b=>ac (.int (a+b))
 |.str a,.str b=>if a.length+b.length<=Z0 then ac (.str (a++b))else af
 |.lst m a,.lst n b=>if m≠.scr/\n≠.scr/\a.length+b.length<=1000000 then ac (.lst .own (a++b))else af
 |.tup a,.tup b=>if a.length+b.length<=1000000 then ac (.tup (a++b))else af
 |_,_=>af
def yJ{dx I:List D}{ys:List V}{O Y F Z:List Addr}(J:aJ G H W dx xs F)(hy:aJ G H W I ys Z)(sx:abb F O)(sy:abb Z Y)(hn:∀a∈O++Y,W.tmp a)(s:Same H H')(q:List Addr)(he:∀a∈q,H a=af):aJ G H' ((W.drop (O++Y)).add (q++(F++Z))) (dx++I) (xs++ys) (F++Z):=by
 refine(J.append hy).up ⟨s,λb u U f=>⟨λz=>z.elim (λz=>?_) λz=>f.1 z.1,f.2⟩,λ_ _ _ f=>f⟩;rcases Ls.mp z with z|z
 .rw[he b z]at U;cases U
 .rcases Ls.mp z with z|z
  .exact f.1 (hn b (ZV _ (sx.subset z))).1
  .exact f.1 (hn b (W2 _ (sy.subset z))).1
def X4(K:ZW):R2:=λx y H Q=>((rI0 (λi j=>.int (i+j)) x y H Q∨(∃i j,x= .str i/\y= .str j/\i.length+j.length<=Z0/\Q (.str (i++j)) H))∨YD x y H Q)∨PP K x y H Q
def Tu:OpV G (X4 G.K) cR:=λdx I d e x y H W Lx Y rx ry nd hn w Q q=>by
 unfold cR at e;split at e
 .cases e
  obtain⟨rfl,rfl⟩:=aW rx;obtain⟨rfl,rfl⟩:=aW ry;exact .inl (.inl (.inl ⟨_,_,rfl,rfl,q.scal λ_=>dX⟩))
 .split at e
  .cases e
   obtain⟨rfl,rfl⟩:=cM rx;obtain⟨rfl,rfl⟩:=cM ry;exact .inl (.inl (.inr ⟨_,_,rfl,rfl,‹_›,q.scal λ_=>vo⟩))
  .cases e
 .rename_i m a n b
  split at e
  .rename_i O
   cases e;rw[Rep]at rx ry;obtain⟨p,xs,Mx,rfl,J,sx⟩:=rx;obtain⟨p',ys,My,rfl,hy,sy⟩:=ry;refine .inl (.inr ⟨p,p',xs,ys,rfl,rfl,sx.at O.1,sy.at O.2.1,by rw[←J.length,←hy.length];exact aca (six O.2.2),λr Z=>?_⟩);have sm:Same H (upd H r (.lst (xs++ys))):=Same.new Z;have nr:r∉Mx++My:=λz=>by
    obtain⟨o,F,_⟩:=(J.append hy).dom r z;rw[Z]at F;cases F
   have a0:(Mx++My).Nodup:=(sx.sub.append sy.sub).nodup nd;refine q (.ref r) _ (r::(Mx++My)) sm ?_ (λc O=>?_) (aah.mpr ⟨nr,a0⟩)
   .rw[Rep]
    exact⟨r,xs++ys,Mx++My,rfl,yJ J hy sx.sub sy.sub hn sm [r] (by simpa using Z),aR,rfl⟩
   .rcases Z2.mp O with z|z
    .exact .inr (by rw[z];exact Z)
    .exact .inl ((sx.sub.append sy.sub).subset z)
  .cases e
 .rename_i a b
  split at e
  .rename_i O
   cases e;rw[Rep]at rx ry;obtain⟨p,xs,rfl,V,J⟩:=rx;obtain⟨p',ys,rfl,U,hy⟩:=ry;have base:∀H' p2,Same H H'->H' p2=ac (.tup (xs++ys))->Q (.ref p2) H':=λH' p2 sm D=>by
    refine q (.ref p2) H' (Lx++Y) sm ?_ (λc O=>.inl O) nd;rw[Rep];exact⟨p2,xs++ys,rfl,D,yJ J hy (ab5 _) (ab5 _) hn sm [] (by simp)⟩
   refine .inr ⟨p,p',xs,ys,rfl,rfl,SqT.of V,SqT.of U,by rw[←J.length,←hy.length];exact aca (six O),λz=>base H p' 2.64 (by rw[z];exact U),λ_ z=>base H p 2.64 (by rw[z,List.append_nil];exact V),λ_ _ r Z=>base _ r (Same.new Z) aR⟩
  .cases e
 .cases e
def cu(J:∀c,(X c).K=G.K:=by intro _;rfl):OpB X G (abg .Add) cR:=⟨_,λc=>by rw[←J c];exact OpR.or (OpR.or (OpR.or V9 G7) W5) Lq,Tu⟩
def gLt:D->D->Option D
 |.int a,.int b=>ac (.bl (decide (a<b)))
 |.str a,.str b=>ac (.bl (decide (a.cps.toList<b.cps.toList)))
 |_,_=>af
def gLe:D->D->Option D
 |.int a,.int b=>ac (.bl (decide (a<=b)))
 |_,_=>af
def gGt:D->D->Option D
 |.int a,.int b=>ac (.bl (decide (b<a)))
 |_,_=>af
def gGe:D->D->Option D
 |.int a,.int b=>ac (.bl (decide (b<=a)))
 |_,_=>af
def CW:OpB X G (aar .Lt) gLt:=⟨_,λc=>OpR.or Yj JR,λdx I d e x y H W O Y rx F nd hn w Q q=>by
 unfold gLt at e;split at e
 .cases e
  obtain⟨rfl,rfl⟩:=aW rx;obtain⟨rfl,rfl⟩:=aW F;exact .inl ⟨_,_,rfl,rfl,q.scal λ_=>fL⟩
 .cases e
  obtain⟨rfl,rfl⟩:=cM rx;obtain⟨rfl,rfl⟩:=cM F;exact .inr ⟨_,_,rfl,rfl,q.scal λ_=>fL⟩
 .cases e⟩
def Ig:OpB X G (aar .LtE) gLe:=⟨_,λc=>YF,zM λdx I d e=>by
 unfold gLe at e;split at e
 .cases e;exact⟨_,_,rfl,rfl,λ_ _=>fL⟩
 .cases e⟩
def Lj:OpB X G (aar .Gt) gGt:=⟨_,λc=>YB,zM λdx I d e=>by
 unfold gGt at e;split at e
 .cases e;exact⟨_,_,rfl,rfl,λ_ _=>fL⟩
 .cases e⟩
def TY:OpB X G (aar .GtE) gGe:=⟨_,λc=>Xr,zM λdx I d e=>by
 unfold gGe at e;split at e
 .cases e;exact⟨_,_,rfl,rfl,λ_ _=>fL⟩
 .cases e⟩
def Hs:D->Bool
 |.non=>ag
 |_=>ae
def gIs:D->D->Option D
 |x,.non=>ac (.bl (Hs x))
 |_,_=>af
mutual
noncomputable def dt:D->Dt
 |.non=>.non
 |.bl b=>.bl b
 |.int i=>.int i
 |.str x=>.str x
 |.tup ds=>.tup (dtL ds)
 |.lst _ ds=>.lst (dtL ds)
 |_=>.non
noncomputable def dtL:List D->List Dt
 |[]=>[]
 |d::r=>dt d::dtL r
end
mutual
noncomputable def g_:D->Bool
 |.ty _=>ae
 |.dct _ _ _=>ae
 |.ins _ _ _ _=>ae
 |.tup ds=>gw ds
 |.lst _ ds=>gw ds
 |_=>ag
noncomputable def gw:List D->Bool
 |[]=>ag
 |d::r=>g_ d&&gw r
end
mutual
def Rep.brs{H:Hp}{W:Wn}:∀{d:D}{v:V}{L:List Addr},Rep G H W d v L->g_ d=ag->Brs G.K H (dt d) v
 |.non,v,L,r,_=>by rw[Rep]at r;simp[dt,Brs,r]
 |.bl _,v,L,r,_=>by rw[Rep]at r;simp[dt,Brs,r]
 |.int _,v,L,r,_=>by rw[Rep]at r;simp[dt,Brs,r]
 |.str _,v,L,r,_=>by rw[Rep]at r;simp[dt,Brs,r]
 |.ty _,v,L,r,h=>by cases h
 |.dct _ _ _,v,L,r,h=>by cases h
 |.ins _ _ _ _,v,L,r,h=>by cases h
 |.tup ds,v,L,r,h=>by
  rw[Rep]at r;obtain⟨a,xs,rfl,U,Z⟩:=r;rw[dt,Brs];exact⟨a,xs,rfl,SqT.of U,aJ.brs Z h⟩
 |.lst m ds,v,L,r,h=>by
  rw[Rep]at r;obtain⟨a,xs,M,rfl,Z,hs⟩:=r;rw[dt,Brs];exact⟨a,xs,rfl,hs.sq,aJ.brs Z h⟩
def aJ.brs{H:Hp}{W:Wn}:∀{ds:List D}{J:List V}{L:List Addr},aJ G H W ds J L->gw ds=ag->je G.K H (dtL ds) J
 |[],J,L,r,_=>by obtain⟨rfl,_⟩:=r.inv0;simp[dtL,je]
 |d::r,J,L,hr,h=>by
  obtain⟨x,ys,M,M',rfl,rfl,h1,h2⟩:=hr.inv;rw[gw,aaa]at h;rw[dtL,je];exact⟨x,ys,rfl,Rep.brs h1 h.1,aJ.brs h2 h.2⟩
end
open Classical in
def gEq:D->D->Option D:=λx y=>if g_ x=ag/\g_ y=ag/\Alk (dt x) (dt y)then ac (.bl (eqD (dt x) (dt y)))else af
open Classical in
def gNe:D->D->Option D:=λx y=>if g_ x=ag/\g_ y=ag/\Alk (dt x) (dt y)then ac (.bl (!eqD (dt x) (dt y)))else af
theorem cb_eq(A:aaK)(D:∀c,(X c).A=A)(hu:A.units+64<cLine)(J:∀c,(X c).K=G.K:=by intro _;rfl):OpB X G (aar .Eq) gEq:=⟨XQ G.K A,λc=>by rw[←J c,←D c];exact UT,λdx I d e x y H W O Y rx F nd hn w Q q=>by
 unfold gEq at e;split at e
 .rename_i hc
  cases e;exact⟨_,_,hc.2.2,rx.brs hc.1,F.brs hc.2.1,by omega,q.scal λ_=>fL⟩
 .cases e⟩
theorem kh(A:aaK)(D:∀c,(X c).A=A)(hu:A.units+64<cLine)(J:∀c,(X c).K=G.K:=by intro _;rfl):OpB X G (aar .NotEq) gNe:=⟨Zj G.K A,λc=>by rw[←J c,←D c];exact Wl,λdx I d e x y H W O Y rx F nd hn w Q q=>by
 unfold gNe at e;split at e
 .rename_i hc
  cases e;exact⟨_,_,hc.2.2,rx.brs hc.1,F.brs hc.2.1,by omega,q.scal λ_=>fL⟩
 .cases e⟩
def gIx:D->D->Option D
 |.lst _ ds,.int i=>atI ds i
 |.tup ds,.int i=>atI ds i
 |.str z,.int i=>if z.length<=Z0 then(atI z.cps.toList i).map λc=>.str ⟨#[c]⟩else af
 |.dct _ ks ds,k=>(dm k).bind λk=>(c7 ks k).bind λj=>ds[j]?
 |_,_=>af
def Nq(Z:aJ G H W ds xs L)(e:atI ds i=ac d):∃j:Nat,ds[j]? =ac d/\∀x,xs[j]? =ac x->atI xs i=ac x:=by
 unfold atI at e⊢;rw[←Z.length];cases h:ixN ds.length i with
 |none=>simp[h]at e
 |some j=>
  refine⟨j,by simpa[h]using e,λx J=>by simpa using J⟩
variable{x:V}
def tH{O F:List Addr}(r:Rep G H W d x M)(s:abb M O)(nd:(O++F).Nodup)(hn:∀a∈O++F,W.tmp a)(q:Done G H W (O++F) d Q):Q x H:=by
 refine q x H M 2.64 (r.up ⟨Same.refl H,λb u U f=>⟨λz=>z.elim (λz=>f.1 (hn b (ZV _ (s.subset z))).1) λz=>f.1 z.1,f.2⟩,λ_ _ _ f=>f⟩) (λa Y=>.inl (ZV _ (s.subset Y))) (s.nodup (List.nodup_append.mp nd).1)
def U0:OpV G (λx y H Q=>rIx G.K x y H Q∨Jg x y H Q) gIx:=λdx dy d e x y H W Lx Y rx F nd hn w Q q=>by
 unfold gIx at e;split at e
 .rename_i m ds i
  obtain⟨rfl,rfl⟩:=aW F;rw[Rep]at rx;obtain⟨a,xs,M,rfl,Z,hs⟩:=rx;obtain⟨j,h1,h2⟩:=Nq Z e;obtain⟨z,J,O,h4,V⟩:=Z.get h1;exact .inl (.inl ⟨a,xs,i,z,rfl,rfl,hs.sq,h2 z O,tH h4 (V.trans hs.sub) nd hn q⟩)
 .rename_i ds i
  obtain⟨rfl,rfl⟩:=aW F;rw[Rep]at rx;obtain⟨a,xs,rfl,ht,Z⟩:=rx;obtain⟨j,h1,h2⟩:=Nq Z e;obtain⟨z,J,O,h4,V⟩:=Z.get h1;exact .inl (.inr (.inl ⟨a,xs,i,z,rfl,rfl,SqT.of ht,h2 z O,tH h4 V nd hn q⟩))
 .rename_i z i
  obtain⟨rfl,rfl⟩:=aW F;obtain⟨rfl,rfl⟩:=cM rx;split at e
  .rename_i hl
   cases h1:atI z.cps.toList i with
   |none=>simp[h1]at e
   |some c=>
    obtain rfl:D.str ⟨#[c]⟩=d:=by simpa[h1]using e
    exact .inl (.inr (.inr ⟨z,i,c,rfl,rfl,hl,h1,q.scal λ_=>vo⟩))
  .cases e
 .rename_i m ks ds
  cases I:dm dy with
  |none=>simp[I]at e
  |some k=>
   cases U:c7 ks k with
   |none=>simp[I,U]at e
   |some j=>
    have e':ds[j]? =ac d:=by simpa[I,U]using e
    rw[Rep]at rx;obtain⟨a,kvs,M,rfl,⟨rfl,a0⟩,Z,hs⟩:=rx;obtain⟨z,J,O,h4,V⟩:=Z.get e';have hv:=gB U;rw[O]at hv;refine .inr ⟨a,z,rfl,.inl ⟨kvs,k,hs.rdD,i_ F I,hv.symm⟩,tH h4 (V.trans hs.sub) nd hn q⟩
 .cases e
def ixb(hu:∀c,(X c).A.units+1<cLine)(J:∀c,(X c).K=G.K:=by intro _;rfl):IxB X G gIx:=⟨_,λc=>by rw[←J c];exact zN (hu c),U0⟩
def scV:D->Option V
 |.non=>ac .non
 |.bl b=>ac (.bl b)
 |.int i=>ac (.int i)
 |.str x=>ac (.str x)
 |_=>af
def xx:List D->Option (List V)
 |[]=>ac []
 |d::r=>(scV d).bind λv=>(xx r).map λt=>v::t
def Be{u:V}(r:Rep G H W d v L)(h:scV d=ac u):v=u/\mO u=ag:=by
 cases d<;>simp[scV]at h<;>subst h<;>rw[Rep]at r<;>exact⟨r.1,rfl⟩
def xr:∀{ds:List D}{J us:List V}{L:List Addr},aJ G H W ds J L->xx ds=ac us->J=us/\us.all mO=ag
 |[],J,us,L,r,h=>by
  cases h;exact⟨r.inv0.1,rfl⟩
 |d::t,J,us,L,r,h=>by
  obtain⟨x,ys,M,M',rfl,rfl,h1,h2⟩:=r.inv;rw[xx]at h;cases e1:scV d with
  |none=>simp[e1]at h
  |some v=>
   cases e2:xx t with
   |none=>simp[e1,e2]at h
   |some w=>
    obtain rfl:v::w=us:=by simpa[e1,e2]using h
    obtain⟨rfl,z⟩:=Be h1 e1;obtain⟨rfl,q⟩:=xr h2 e2;exact⟨rfl,by simp[z,q]⟩
def yj(x y:Str):Bool:=!(aaM y x 0 y.length 1).isEmpty
def pX:D->D->Option Bool
 |x,.lst _ ds=>(scV x).bind λv=>(xx ds).map λJ=>inV v J
 |x,.tup ds=>(scV x).bind λv=>(xx ds).map λJ=>inV v J
 |.str x,.str y=>ac (yj x y)
 |x,.dct _ ks _=>(dm x).map λk=>(c7 ks k).isSome
 |_,_=>af
def gIn(x y:D):Option D:=(pX x y).map .bl
def di(x y:D):Option D:=(pX x y).map λb=>.bl !b
def Fx(hu:Y.A.units+1<cLine):OpR Y (aar .In) (λx y H Q=>∃a o,y= .ref a/\nT H a x o/\Q (.bl o.isSome) H):=λpins s σ H x y v u Q I rx F h=>by
 obtain⟨a,o,rfl,g,q⟩:=h;cases F;exact ZJ hu I g rx λJ D=>⟨.bl o.isSome,H,D,rfl,q⟩
def xN(hu:Y.A.units+1<cLine):OpR Y (aar .NotIn) (λx y H Q=>∃a o,y= .ref a/\nT H a x o/\Q (.bl (!o.isSome)) H):=λpins s σ H x y v u Q I rx F h=>by
 obtain⟨a,o,rfl,g,q⟩:=h;cases F;exact Sq hu I g rx λJ D=>⟨.bl (!o.isSome),H,D,rfl,q⟩
def M6{dx I:D}{y:V}{O Y:List Addr}(e:pX dx I=ac b)(rx:Rep G H W dx x O)(F:Rep G H W I y Y) :
  (∃p xs,y= .ref p/\(SqL G.K H p xs∨SqT G.K H p xs)/\mO x=ag/\xs.all mO=ag/\b=inV x xs)∨(∃i j,x= .str i/\y= .str j/\b=yj i j)∨(∃a o,y= .ref a/\nT H a x o/\b=o.isSome):=by
 unfold pX at e;split at e
 .rename_i m ds
  cases e1:scV dx with
  |none=>simp[e1]at e
  |some v=>
   cases e2:xx ds with
   |none=>simp[e1,e2]at e
   |some J=>
    obtain rfl:inV v J=b:=by simpa[e1,e2]using e
    rw[Rep]at F;obtain⟨a,xs,M,rfl,Z,hs⟩:=F;obtain⟨rfl,z⟩:=Be rx e1;obtain⟨rfl,q⟩:=xr Z e2;exact .inl ⟨a,_,rfl,.inl hs.sq,z,q,rfl⟩
 .rename_i ds
  cases e1:scV dx with
  |none=>simp[e1]at e
  |some v=>
   cases e2:xx ds with
   |none=>simp[e1,e2]at e
   |some J=>
    obtain rfl:inV v J=b:=by simpa[e1,e2]using e
    rw[Rep]at F;obtain⟨a,xs,rfl,ht,Z⟩:=F;obtain⟨rfl,z⟩:=Be rx e1;obtain⟨rfl,q⟩:=xr Z e2;exact .inl ⟨a,_,rfl,.inr (SqT.of ht),z,q,rfl⟩
 .cases e
  obtain⟨rfl,_⟩:=cM rx;obtain⟨rfl,_⟩:=cM F;exact .inr (.inl ⟨_,_,rfl,rfl,rfl⟩)
 .rename_i m ks ds
  cases e1:dm dx with
  |none=>simp[e1]at e
  |some k=>
   have e':(c7 ks k).isSome=b:=by simpa[e1]using e
   rw[Rep]at F;obtain⟨a,kvs,M,rfl,⟨rfl,a0⟩,Z,hs⟩:=F;refine .inr (.inr ⟨a,jc kvs k,rfl,.inl ⟨kvs,k,hs.rdD,i_ rx e1,rfl⟩,?_⟩);rw[←e'];cases U:c7 (kvs.map (·.1)) k with
   |none=>rw[jn U];rfl
   |some j=>
    rw[gB U,List.getElem?_eq_getElem (by simpa using Aa U)];rfl
 .cases e
def ZG(K:ZW):R2:=λx y H Q=>(rIn K ae x y H Q∨(∃i j,x= .str i/\y= .str j/\Q (.bl (!(aaM j i 0 j.length 1).isEmpty)) H))∨∃a o,y= .ref a/\nT H a x o/\Q (.bl o.isSome) H
def RW(K:ZW):R2:=λx y H Q=>(rIn K ag x y H Q∨(∃i j,x= .str i/\y= .str j/\Q (.bl (!(!(aaM j i 0 j.length 1).isEmpty))) H))∨∃a o,y= .ref a/\nT H a x o/\Q (.bl (!o.isSome)) H
def vA(hu:∀c,(X c).A.units+1<cLine)(J:∀c,(X c).K=G.K:=by intro _;rfl):OpB X G (aar .In) gIn:=⟨ZG G.K,λc=>by rw[←J c];exact OpR.or (OpR.or Kh J8) (Fx (hu c)),λdx I d e x y H W U Y rx F nd hn w Q q=>by
 unfold gIn at e;cases h1:pX dx I with
 |none=>simp[h1]at e
 |some b=>
  obtain rfl:D.bl b=d:=by simpa[h1]using e
  have z:Q (.bl b) H:=q.scal λ_=>fL;rcases M6 h1 rx F with⟨p,xs,rfl,h2,O,Z,rfl⟩|⟨i,j,rfl,rfl,rfl⟩|⟨a,o,rfl,h2,rfl⟩
  .exact .inl (.inl ⟨p,xs,rfl,h2,O,Z,z⟩)
  .exact .inl (.inr ⟨i,j,rfl,rfl,z⟩)
  .exact .inr ⟨a,o,rfl,h2,z⟩⟩
def lE(hu:∀c,(X c).A.units+1<cLine)(J:∀c,(X c).K=G.K:=by intro _;rfl):OpB X G (aar .NotIn) di:=⟨RW G.K,λc=>by rw[←J c];exact OpR.or (OpR.or Bu Aq) (xN (hu c)),λdx I d e x y H W U Y rx F nd hn w Q q=>by
 unfold di at e;cases h1:pX dx I with
 |none=>simp[h1]at e
 |some b=>
  obtain rfl:D.bl (!b)=d:=by simpa[h1]using e
  have z:Q (.bl (!b)) H:=q.scal λ_=>fL;rcases M6 h1 rx F with⟨p,xs,rfl,h2,O,Z,rfl⟩|⟨i,j,rfl,rfl,rfl⟩|⟨a,o,rfl,h2,rfl⟩
  .exact .inl (.inl ⟨p,xs,rfl,h2,O,Z,z⟩)
  .exact .inl (.inr ⟨i,j,rfl,rfl,z⟩)
  .exact .inr ⟨a,o,rfl,h2,z⟩⟩
def aJ.inv1(r:aJ G H W [d] xs L):∃x,xs=[x]/\Rep G H W d x L:=by
 obtain⟨x,ys,M,M',rfl,rfl,h1,h2⟩:=r.inv;obtain⟨rfl,rfl⟩:=h2.inv0;exact⟨x,rfl,by rw[List.append_nil];exact h1⟩
def aJ.inv2{e:D}(r:aJ G H W [d,e] xs L):∃x y M N,xs=[x,y]/\L=M++N/\Rep G H W d x M/\Rep G H W e y N:=by
 obtain⟨x,ys,M,M',rfl,rfl,h1,h2⟩:=r.inv;obtain⟨y,rfl,O⟩:=h2.inv1;exact⟨x,y,M,M',rfl,rfl,h1,O⟩
def bz:List D->Option D
 |[.lst _ ds]=>ac (.int ds.length)
 |[.tup ds]=>ac (.int ds.length)
 |[.str z]=>if z.length<=Z0 then ac (.int z.length)else af
 |[.dct m _ ds]=>if m= .scr then af else ac (.int ds.length)
 |_=>af
def bw(J:∀c,(X c).K=G.K:=by intro _;rfl):CaB X G (.builtin "len") bz:=⟨λxs H Q=>((∃p ys,xs=[.ref p]/\(SqL G.K H p ys∨SqT G.K H p ys)/\Q (.int ys.length) H)∨∃z,xs=[.str z]/\z.length<=Z0/\Q (.int z.length) H)∨∃a kvs,xs=[V.ref a]/\H a=ac 2.20/\Q (.int kvs.length) H,λc=>by rw[←J c];exact gk.or (gk.or Ak Ai) Jf,λds d e xs H W D r nd hn w Q q=>by
 unfold bz at e;split at e
 .cases e
  obtain⟨x,rfl,rx⟩:=r.inv1;rw[Rep]at rx;obtain⟨a,ys,M,rfl,Z,hs⟩:=rx;exact .inl (.inl ⟨a,ys,rfl,.inl hs.sq,by rw[←Z.length];exact q.scal λ_=>dX⟩)
 .cases e
  obtain⟨x,rfl,rx⟩:=r.inv1;rw[Rep]at rx;obtain⟨a,ys,rfl,U,Z⟩:=rx;exact .inl (.inl ⟨a,ys,rfl,.inr (SqT.of U),by rw[←Z.length];exact q.scal λ_=>dX⟩)
 .split at e
  .cases e
   obtain⟨x,rfl,rx⟩:=r.inv1;obtain⟨rfl,rfl⟩:=cM rx;exact .inl (.inr ⟨_,rfl,‹_›,q.scal λ_=>dX⟩)
  .cases e
 .split at e
  .cases e
  .cases e
   obtain⟨x,rfl,rx⟩:=r.inv1;rw[Rep]at rx;obtain⟨a,kvs,M,rfl,I,Z,hs⟩:=rx;exact .inr ⟨a,kvs,rfl,hs.at ‹_›,by have:=Z.length;simp at this;rw[←this];exact q.scal λ_=>dX⟩
 .cases e⟩
def xG:List D->Option D
 |[.int i]=>ac (.int (if i<0 then -i else i))
 |_=>af
def Td:CaB X G (.builtin "abs") xG:=⟨_,λc=>N_,λds d e xs H W I r nd hn w Q q=>by
 unfold xG at e;split at e
 .cases e
  obtain⟨x,rfl,rx⟩:=r.inv1;obtain⟨rfl,rfl⟩:=aW rx;exact⟨_,rfl,q.scal λ_=>dX⟩
 .cases e⟩
def Fy:List D->Option D
 |[.int i]=>ac (.int i)
 |[.bl k]=>ac (.int (if k then 1 else 0))
 |_=>af
def Ry:CaB X G (.type "int") Fy:=⟨_,λc=>Jl,λds d e xs H W I r nd hn w Q q=>by
 unfold Fy at e;split at e
 .cases e
  obtain⟨x,rfl,rx⟩:=r.inv1;obtain⟨rfl,rfl⟩:=aW rx;exact .inl ⟨_,rfl,q.scal λ_=>dX⟩
 .cases e
  obtain⟨x,rfl,rx⟩:=r.inv1;obtain⟨rfl,rfl⟩:=mG rx;exact .inr ⟨_,rfl,q.scal λ_=>dX⟩
 .cases e⟩
def ul:List D->Option D
 |[.int i,.int j]=>ac (.int (if j<i then j else i))
 |_=>af
def Mi(O:∀c,(X c).calm=ag):CaB X G (.builtin "min") ul:=⟨_,λc=>Kf (O c),λds d e xs H W I r nd hn w Q q=>by
 unfold ul at e;split at e
 .cases e
  obtain⟨x,y,M,N,rfl,rfl,rx,F⟩:=r.inv2;obtain⟨rfl,rfl⟩:=aW rx;obtain⟨rfl,rfl⟩:=aW F;exact⟨_,_,rfl,q.scal λ_=>dX⟩
 .cases e⟩
def vz:List D->Option D
 |[.int i,.int j]=>if 0<j/\j<1073741824 then ac (.tup [.int (i / j),.int (i % j)])else af
 |_=>af
def G4:CaB X G (.builtin "divmod") vz:=⟨_,λc=>Eu,λds d e xs H W I r nd hn w Q q=>by
 unfold vz at e;split at e
 .split at e
  .cases e
   obtain⟨x,y,M,N,rfl,rfl,rx,F⟩:=r.inv2;obtain⟨rfl,rfl⟩:=aW rx;obtain⟨rfl,rfl⟩:=aW F;refine⟨_,_,rfl,‹_›,λp V=>q 2.49 _ [] (Same.new V) ?_ (by simp) aaq⟩;rw[Rep];exact⟨p,_,rfl,aR,.cons (M:=[]) (M':=[]) dX (.one dX)⟩
  .cases e
 .cases e⟩
variable{p:Addr}
def tY(Z:aJ G H W ds xs M)(s:abb M I)(nd:I.Nodup)(hn:∀a∈I,W.tmp a)(hp:H p=af)(q:Done G H W I 2.40 Q):Q 2.49 (upd H p 2.44):=by
 have J:Same H (upd H p 2.44):=Same.new hp;have O:p∉M:=λz=>by obtain⟨o,F,_⟩:=Z.dom p z;rw[hp]at F;cases F
 refine q 2.49 _ (p::M) J ?_ (λa Y=>(Z2.mp Y).elim (λz=>.inr (by rw[z];exact hp)) λz=>.inl (s.subset z)) (aah.mpr ⟨O,s.nodup nd⟩);rw[Rep];exact⟨p,xs,M,rfl,Z.up ⟨J,λb u U f=>⟨λz=>z.elim (λz=>(Z2.mp z).elim (λz=>by rw[z,hp]at U;cases U) λz=>f.1 (hn b (s.subset z)).1) λz=>f.1 z.1,f.2⟩,λ_ _ _ f=>f⟩,aR,rfl⟩
def yI(Z:aJ G H W ds xs M)(s:abb M I)(nd:I.Nodup)(hn:∀a∈I,W.tmp a)(F:H p=af)(q:Done G H W I 2.97 Q):Q 2.49 (upd H p 2.54):=by
 have J:Same H (upd H p 2.54):=Same.new F;refine q 2.49 _ M J ?_ (λa Y=>.inl (s.subset Y)) (s.nodup nd);rw[Rep];exact⟨p,xs,rfl,aR,Z.up ⟨J,λb u U f=>⟨λz=>z.elim (λz=>f.1 (hn b (s.subset z)).1) λz=>f.1 z.1,f.2⟩,λ_ _ _ f=>f⟩⟩
def gG(Z:Rep G H W d x M)(s:abb M I)(nd:I.Nodup)(hn:∀a∈I,W.tmp a)(q:Done G H W I d Q):Q x H:=by
 refine q x H M 2.64 (Z.up ⟨Same.refl H,λb u U f=>⟨λz=>z.elim (λz=>f.1 (hn b (s.subset z)).1) λz=>f.1 z.1,f.2⟩,λ_ _ _ f=>f⟩) (λa Y=>.inl (s.subset Y)) (s.nodup nd)
def ux:List D->Option D
 |[.lst _ ds]=>ac (.lst .own ds)
 |[.tup ds]=>ac (.lst .own ds)
 |_=>af
def jk:List D->Option D
 |[.lst _ ds]=>ac (.tup ds)
 |[.tup ds]=>ac (.tup ds)
 |_=>af
def ww(J:∀c,(X c).K=G.K:=by intro _;rfl):CaB X G (.type "list") ux:=⟨λxs H Q=>∃p ys,xs=[.ref p]/\(SqL G.K H p ys∨SqT G.K H p ys)/\∀l,H l=af->Q (.ref l) (upd H l 2.129),λc=>by rw[←J c];exact Bt,λds d e xs H W I r nd hn w Q q=>by
 unfold ux at e;split at e
 .cases e
  obtain⟨x,rfl,rx⟩:=r.inv1;rw[Rep]at rx;obtain⟨a,ys,M,rfl,Z,hs⟩:=rx;exact⟨a,ys,rfl,.inl hs.sq,λp V=>tY Z hs.sub nd hn V q⟩
 .cases e
  obtain⟨x,rfl,rx⟩:=r.inv1;rw[Rep]at rx;obtain⟨a,ys,rfl,U,Z⟩:=rx;exact⟨a,ys,rfl,.inr (SqT.of U),λp V=>tY Z (ab5 _) nd hn V q⟩
 .cases e⟩
def oR(J:∀c,(X c).K=G.K:=by intro _;rfl):CaB X G (.type "tuple") jk:=⟨λxs H Q=>∃p ys,xs=[.ref p]/\((SqL G.K H p ys/\∀l,H l=af->Q (.ref l) (upd H l (.tup ys)))∨(SqT G.K H p ys/\Q 2.49 H)),λc=>by rw[←J c];exact xK,λds d e xs H W I r nd hn w Q q=>by
 unfold jk at e;split at e
 .cases e
  obtain⟨x,rfl,rx⟩:=r.inv1;rw[Rep]at rx;obtain⟨a,ys,M,rfl,Z,hs⟩:=rx;exact⟨a,ys,rfl,.inl ⟨hs.sq,λp V=>yI Z hs.sub nd hn V q⟩⟩
 .cases e
  obtain⟨x,rfl,rx⟩:=r.inv1;have F:=rx;rw[Rep]at rx;obtain⟨a,ys,rfl,U,Z⟩:=rx;exact⟨a,ys,rfl,.inr ⟨SqT.of U,gG F (ab5 _) nd hn q⟩⟩
 .cases e⟩
def tyN:D->Option String
 |.non=>ac "NoneType"
 |.bl _=>ac "bool"
 |.int _=>ac "int"
 |.str _=>ac "str"
 |.tup _=>ac "tuple"
 |.lst m _=>if m= .scr then af else ac "list"
 |.dct m _ _=>if m= .scr then af else ac "dict"
 |_=>af
def okT(n:String):Bool:=n=="int"||n=="bool"||n=="str"||n=="list"||n=="tuple"
def isT(t n:String):Bool:=t==n||(t=="bool"&&n=="int")
variable{t:String}
def HY{K:ZW}{n:String}(h1:tyN d=ac t)(h2:okT n=ag):adQ K (.type t) (.type n)=ac (isT t n):=by
 have U:t="NoneType"∨t="bool"∨t="int"∨t="str"∨t="tuple"∨t="list"∨t="dict":=by
  cases d<;>simp[tyN]at h1<;>(try split at h1)<;>simp_all
 have hn:n="int"∨n="bool"∨n="str"∨n="list"∨n="tuple":=by simpa[okT,or_assoc]using h2
 rcases U with rfl|rfl|rfl|rfl|rfl|rfl|rfl<;>rcases hn with rfl|rfl|rfl|rfl|rfl<;>with_unfolding_all rfl
def Ck(r:Rep G H W d v L)(h:tyN d=ac t):mQ G.K H v (.type t):=by
 cases d with
 |non=>rw[Rep]at r;obtain⟨rfl,_⟩:=r;cases h;exact .non
 |bl b=>rw[Rep]at r;obtain⟨rfl,_⟩:=r;cases h;exact .bl _
 |int b=>rw[Rep]at r;obtain⟨rfl,_⟩:=r;cases h;exact .int _
 |str b=>rw[Rep]at r;obtain⟨rfl,_⟩:=r;cases h;exact .str _
 |ty n=>cases h
 |tup ds=>rw[Rep]at r;obtain⟨a,xs,rfl,U,Z⟩:=r;cases h;exact .tup U
 |lst m ds=>
  rw[Rep]at r;obtain⟨a,xs,M,rfl,Z,hs⟩:=r;simp![tyN]at h;split at h
  .cases h
  .cases h;exact .lst (hs.at ‹_›)
 |dct m ks ds=>
  rw[Rep]at r;obtain⟨a,xs,M,rfl,I,Z,hs⟩:=r;simp![tyN]at h;split at h
  .cases h
  .cases h;exact .dK (hs.at ‹_›)
 |ins m c fs ds=>cases h
def Ey:List D->Option (List String)
 |[]=>ac []
 |.ty n::r=>(Ey r).map λt=>n::t
 |_::_=>af
def y_:∀{ds:List D}{J:List V}{L:List Addr}{ns:List String},aJ G H W ds J L->Ey ds=ac ns->J=ns.map V.ty
 |[],J,L,ns,r,h=>by cases h;rw[r.inv0.1];rfl
 |d::t,J,L,ns,r,h=>by
  obtain⟨x,ys,M,M',rfl,rfl,h1,h2⟩:=r.inv;cases d<;>simp[Ey]at h;obtain⟨w,O,rfl⟩:=h;rw[Rep]at h1;rw[h1.1,y_ h2 O];rfl
def xj{K:ZW}(h1:tyN d=ac t):∀{ns:List String},ns.all okT=ag->adU K (.type t) (ns.map ach)=ac (ns.any (isT t))
 |[],_=>rfl
 |n::r,h=>by
  rw[acP,aaa]at h;rw[ZX,adU,HY h1 h.1];cases e:isT t n with
  |true=>simp[e]
  |false=>simp![e];rw[xj h1 h.2];simp[e]
def cD:List D->Option D
 |[x,.ty n]=>(tyN x).bind λt=>if okT n=ag then ac (.bl (isT t n))else af
 |[x,.tup ts]=>(tyN x).bind λt=>(Ey ts).bind λns=>if ns.all okT=ag then ac (.bl (ns.any (isT t)))else af
 |_=>af
def cW(J:∀c,(X c).K=G.K:=by intro _;rfl):CaB X G (.builtin "isinstance") cD:=⟨λxs H Q=>(∃x n t b,xs=[x,.ty n]/\mQ G.K H x t/\adQ G.K t (.type n)=ac b/\Q (.bl b) H)∨∃x z D t b,xs=[x,.ref z]/\H z=ac (.tup (aae V.ty D))/\mQ G.K H x t/\adU G.K t (D.map ach)=ac b/\Q (.bl b) H,λc=>by rw[←J c];exact gk.or Cw zy,λds d e xs H W I r nd hn w Q q=>by
 unfold cD at e;split at e
 .rename_i x n
  cases e1:tyN x with
  |none=>simp[e1]at e
  |some t=>
   rw[e1]at e;simp![gD]at e;split at e
   .cases e
    obtain⟨u,v,M,N,rfl,rfl,rx,F⟩:=r.inv2;rw[Rep]at F;obtain⟨rfl,_⟩:=F;exact .inl ⟨u,n,_,_,rfl,Ck rx e1,HY e1 ‹_›,q.scal λ_=>fL⟩
   .cases e
 .rename_i x ts
  cases e1:tyN x with
  |none=>simp[e1]at e
  |some t=>
   cases e2:Ey ts with
   |none=>simp[e1,e2]at e
   |some ns=>
    rw[e1,e2]at e;simp![gD]at e;split at e
    .cases e
     obtain⟨u,v,M,N,rfl,rfl,rx,F⟩:=r.inv2;rw[Rep]at F;obtain⟨a,ys,rfl,U,Z⟩:=F;have:=y_ Z e2;subst this;exact .inr ⟨u,a,ns,_,_,rfl,U,Ck rx e1,xj e1 ‹_›,q.scal λ_=>fL⟩
    .cases e
 .cases e⟩
def wF(n:Nat)(i:Int):Nat:=if i<0 then(i+(n:Int)).toNat else min i.toNat n
def Hv:V->List V->Hp->VK->Prop:=λx J H Q=>∃l xs i y,x= .ref l/\J=[.int i,y]/\H l=ac 2.44/\-(2 ^ 63)<=i/\i<2 ^ 63/\acQ xs<Z0/\Q .non (upd H l (.lst (xs.take (wF xs.length i)++y::xs.drop (wF xs.length i))))
variable{X:Cx}
theorem Jq:MtM X "list.insert" Hv:=by
 intro pins s σ H x J v us Q I rx U h;obtain⟨l,xs,i,y,rfl,rfl,O,h1,h2,hz,q⟩:=h;cases rx;cases U with
 |cons D U=>
  obtain⟨u,rfl,Z⟩:=vals1 U;obtain⟨t,rfl⟩:=D;obtain⟨z,its,n,r,Y,e⟩:=I.lstM O;refine ac7 F.slot_list_insert ⟨_,e,rfl⟩ F.entry_list_insert (F.args_list_insert_3 _ _ _) (AutoSeq1.list_insert_list_int_val_1 l its.toArray n i t u (by simp[fitsIndex_both h1 h2]) (by rw[List.size_toArray];omega)) ⟨e,?_⟩;refine⟨.non,_,I.lset (its':=its.take 2.226++u::its.drop 2.226) O e ?_ ?_ ?_,rfl,q⟩
  .show(its.toArray.extract 0 2.226).push u++its.toArray.extract 2.226=_
   apply Array.ext';simp[List.extract_eq_take_drop];exact abn (by simp)
  .rw[Y]
   exact(r.take _).append (.cons Z (r.drop _))
  .simp![List.length_append,aaD,Z4,abB]
   omega
def v_{a0:List D}{M0 N M1 R:List Addr}(Z:aJ G H W a0 J M1)(rr:Rep G H W res x R)(k1:aF a0=ag)(I:aD a0=ag)(kr:clean res=ag)
  (Y:a∉M1++R) (nd:(M1++R).Nodup) (sub:∀b∈M1++R,b∈M0∨b∈N)
  (q:∀x H' M' R,(∀b u,H b=ac u->b∉a::M0->H' b=ac u)->(∀W',Evo H H' W W'->Rep G H' W' (.lst .own a0) 2.184 M'/\Rep G H' W' res x R)->(M'++R).Nodup->(∀b∈M'++R,b∈a::M0∨b∈N∨H b=af)->clean (.lst .own a0)=ag->clean res=ag->Q x H'):Q x (upd H a (.lst J)):=by
 have a1:=(by simpa[clean]using kr:aA res=ag/\az res=ag);refine q x _ (a::M1) R (λb u U n=>by rw[aO (show b≠a from λz=>n (by rw[z];simp))];exact U) (λW' F=>⟨?_,?_⟩) ?_ (λb U=>?_) (uc k1 I) kr
 .rw[Rep]
  exact⟨a,J,M1,rfl,Hk Z k1 I (λz=>Y 2.213) F,aR,rfl⟩
 .exact rr.mono F (.inl a1.1) (.inl a1.2) λc O u hu=>by rw[aO (show c≠a from λz=>Y (W2 _ (z▸O)))];exact hu
 .rw[aaj]
  exact aah.mpr ⟨Y,nd⟩
 .rw[aaj]at U
  rcases Z2.mp U with z|z
  .exact .inl (by simp[z])
  .exact(sub b z).imp (λz=>aai _ z) .inl
def jo(h:aF ds=ag):∀d∈ds,aA d=ag:=λd hd=>let⟨i,hi⟩:=acI hd;jt h hi
def jm(h:aD ds=ag):∀d∈ds,az d=ag:=λd hd=>let⟨i,hi⟩:=acI hd;jz h hi
def cF:∀{ds:List D},(∀d∈ds,aA d=ag)->aF ds=ag
 |[],_=>rfl
 |d::r,h=>by rw[aF,h d (by simp),cF λe V=>h e (by simp[V])];rfl
def cG:∀{ds:List D},(∀d∈ds,az d=ag)->aD ds=ag
 |[],_=>rfl
 |d::r,h=>by rw[aD,h d (by simp),cG λe V=>h e (by simp[V])];rfl
def aJ.revL:∀{ds:List D}{xs:List V}{L:List Addr},aJ G H W ds xs L->∃M,aJ G H W ds.reverse xs.reverse M/\ac4 M L
 |[],xs,L,r=>by obtain⟨rfl,rfl⟩:=r.inv0;exact⟨[],.nil,.refl _⟩
 |d::t,xs,L,r=>by
  obtain⟨x,ys,M,M',rfl,rfl,h1,h2⟩:=r.inv;obtain⟨N,O,pm⟩:=aJ.revL h2;refine⟨N++M,?_,(pm.append_right M).trans acE⟩;rw[ade,ade];exact O.append (.one h1)
def my:D->List D->Option (D×D)
 |.lst .own ds,[.int i]=>if ds.length<1000000 then(ixN ds.length i).bind λk=>(ds[k]?).map λe=>(.lst .own (ds.eraseIdx k),e)else af
 |_,_=>af
def aJ.erase(h:aJ G H W ds xs L)(e:ds[j]? =ac d):∃x M N,xs[j]? =ac x/\Rep G H W d x M/\aJ G H W (ds.eraseIdx j) (xs.eraseIdx j) N/\ac4 (N++M) L:=by
 obtain⟨A,B,x,ys,zs,I,M,J,rfl,z,rfl,Y,rfl,h1,h2,O⟩:=h.at e;refine⟨x,M,I++J,by rw[aa8 1.10,Y,abL];rfl,h2,?_,?_⟩
 .have e1:(A++d::B).eraseIdx j=A++B:=by rw[adn 1.10,z,abL];rfl
  have e2:(ys++x::zs).eraseIdx j=ys++zs:=by rw[adn 1.10,Y,abL];rfl
  rw[e1,e2];exact h1.append O
 .rw[abP]
  exact ae6 I acE
def yD(h:d∈ds.eraseIdx k):d∈ds:=(List.eraseIdx_sublist ds k).subset h
def Df{ys:List V}{e:D}{M0 N:List Addr}(Z:aJ G H W ds ys M0)(nd:((a::M0)++N).Nodup)(O:clean 2.40=ag)(I:ds[k]? =ac e)
  (q:∀x H' M' R,(∀b u,H b=ac u->b∉a::M0->H' b=ac u)->(∀W',Evo H H' W W'->Rep G H' W' (.lst .own (ds.eraseIdx k)) 2.184 M'/\Rep G H' W' e x R)->(M'++R).Nodup->(∀b∈M'++R,b∈a::M0∨b∈N∨H b=af)->clean (.lst .own (ds.eraseIdx k))=ag->clean e=ag->Q x H'):∃y,ys[k]? =ac y/\Q y (upd H a (.lst (ys.eraseIdx k))):=by
 obtain⟨k1,Y⟩:=jC O;obtain⟨x,M,L,J,rx,rl,pm⟩:=Z.erase I;have F:=List.nodup_append.mp nd;have hn:=aah.mp F.1;refine⟨x,J,v_ (M0:=M0) (N:=N) rl rx (cF λd hd=>jo k1 d (yD hd)) (cG λd hd=>jm Y d (yD hd)) (by simp[clean,jt k1 I,jz Y I]) (λz=>hn.1 (pm.mem_iff.mp z)) (pm.nodup_iff.mpr hn.2) (λb U=>.inl (pm.mem_iff.mp U)) q⟩
def JQ:MuV G Mf my:=λd es d' res h v xs H W M N r z nd hM O U c2 Q q=>by
 unfold my at h;split at h
 .rename_i ds i
  split at h
  .rename_i hl
   cases h1:ixN ds.length i with
   |none=>simp[h1]at h
   |some k=>
    cases h2:ds[k]? with
    |none=>simp[h1,h2]at h
    |some e=>
     obtain⟨rfl,rfl⟩:D.lst .own (ds.eraseIdx k)=d'/\e=res:=by simpa[h1,h2]using h
     rw[Rep]at r;obtain⟨a,ys,M0,rfl,Z,Y,rfl⟩:=r;obtain⟨x,rfl,J⟩:=z.inv1;obtain⟨rfl,rfl⟩:=aW J;obtain⟨F,g2,g3,g4⟩:=zE h1;obtain⟨y,V,I⟩:=Df Z nd O h2 q;exact⟨a,ys,i,k,y,rfl,rfl,Y,by omega,by omega,by rw[←Z.length];exact F,V,I⟩
  .cases h
 .cases h
variable{X:ι->Cx}
def Km:MuB X G "list" "list.pop" my:=⟨_,λc=>M7,JQ,wW rfl λd es q e=>by
 unfold my at e;split at e
 .exact⟨_,_,rfl⟩
 .cases e⟩
def De:D->List D->Option (D×D)
 |.lst .own ds,[]=>(ds[ds.length-1]?).map λe=>(.lst .own ds.dropLast,e)
 |_,_=>af
def Rw:MuV G Yy De:=λd es d' res h v xs H W M N r z nd J O U F Q q=>by
 unfold De at h;split at h
 .rename_i ds
  cases h2:ds[ds.length-1]? with
  |none=>simp[h2]at h
  |some e=>
   obtain⟨rfl,rfl⟩:D.lst .own ds.dropLast=d'/\e=res:=by simpa[h2]using h
   rw[Rep]at r;obtain⟨a,ys,M0,rfl,Z,Y,rfl⟩:=r;obtain⟨rfl,rfl⟩:=z.inv0;rw[←qH]at q;obtain⟨y,V,I⟩:=Df Z nd O h2 q;rw[Z.length]at V I;rw[qH]at I;exact⟨a,ys,y,rfl,rfl,Y,V,I⟩
 .cases h
def jU:D->List D->Option (D×D)
 |.lst .own ds,[.int i,e]=>if ds.length<1000000/\-(2 ^ 63)<=i/\i<2 ^ 63 then ac (.lst .own (ds.take (wF ds.length i)++e::ds.drop (wF ds.length i)),.non)else af
 |_,_=>af
def aJ.takeDrop(h:aJ G H W ds xs L)(k:Nat):∃A B,aJ G H W (ds.take k) (xs.take k) A/\aJ G H W (ds.drop k) (xs.drop k) B/\L=A++B:=by
 rw[←acC k ds]at h;obtain⟨ys,zs,A,B,rfl,rfl,h1,h2⟩:=h.split;have Y:=h1.length;by_cases I:k<=ds.length
 .have hk':ys.length=k:=by rw[←Y,aaD];omega
  refine⟨A,B,?_,?_,rfl⟩
  .rw[←hk',List.take_left,hk'];exact h1
  .rw[←hk',List.drop_left,hk'];exact h2
 .have e1:ds.take k=ds:=abn 1.10
  have e2:ds.drop k=[]:=acq 1.10;rw[e1]at h1 Y;rw[e2]at h2;obtain⟨rfl,rfl⟩:=h2.inv0;refine⟨A,[],?_,?_,by simp⟩
  .rw[e1,List.append_nil,abn 1.10];exact h1
  .rw[e2,List.append_nil,acq 1.10];exact .nil
def Gd:MuV G Hv jU:=λd es d' res h v xs H W M N r re nd hM O c1 c2 Q q=>by
 unfold jU at h;split at h
 .rename_i ds i e
  split at h
  .rename_i hl
   cases h;rw[Rep]at r;obtain⟨a,ys,M0,rfl,Z,Y,rfl⟩:=r;obtain⟨x,y,N1,N2,rfl,rfl,J,V⟩:=re.inv2;obtain⟨rfl,rfl⟩:=aW J;rw[List.nil_append]at nd q;obtain⟨D,I⟩:=jC O;obtain⟨A,B,h1,h2,rfl⟩:=Z.takeDrop (wF ds.length i);have F:=List.nodup_append.mp nd;have hn:=aah.mp F.1;have a0:a∉N2:=λz=>F.2.2 a (by simp) a z rfl;simp![aF,aD,aaa]at c1 c2;have a1:=h1.append (.cons V h2);have pm:ac4 (A++(N2++B)) ((A++B)++N2):=by
    rw[abP];exact ae6 A acE
   refine⟨a,ys,i,y,rfl,rfl,Y,hl.2.1,hl.2.2,vP (by rw[←Z.length];exact hl.1),?_⟩;rw[←Z.length];refine v_ (M0:=A++B) (N:=N2) (R:=[]) a1 mz ?_ ?_ rfl (λz=>?_) ?_ (λb U=>?_) q
   .refine cF λd hd=>?_
    rcases Ls.mp hd with z|z
    .exact jo D d (aaO z)
    .rcases Z2.mp z with z|z
     .rw[z];exact c1.2.1
     .exact jo D d (abi z)
   .refine cG λd hd=>?_
    rcases Ls.mp hd with z|z
    .exact jm I d (aaO z)
    .rcases Z2.mp z with z|z
     .rw[z];exact c2.2.1
     .exact jm I d (abi z)
   .rw[List.append_nil]at z
    rcases Ls.mp (pm.mem_iff.mp z)with z|z
    .exact hn.1 z
    .exact a0 z
   .rw[List.append_nil]
    refine pm.nodup_iff.mpr (fD hn.2 F.2.1 λb h1 h2=>F.2.2 b (aai _ h1) b h2 rfl)
   .rw[List.append_nil]at U
    exact Ls.mp (pm.mem_iff.mp U)
  .cases h
 .cases h
def GK:MuB X G "list" "list.insert" jU:=⟨_,λc=>Jq,Gd,wW rfl λd es q e=>by
 unfold jU at e;split at e
 .exact⟨_,_,rfl⟩
 .cases e⟩
def lG:D->List D->Option (D×D)
 |.lst .own ds,[]=>ac (.lst .own ds.reverse,.non)
 |_,_=>af
def DQ:MuV G D_ lG:=λd es d' res h v xs H W M N r re nd J O c1 V Q q=>by
 unfold lG at h;split at h
 .rename_i ds
  cases h;rw[Rep]at r;obtain⟨a,ys,M0,rfl,Z,Y,rfl⟩:=r;obtain⟨rfl,rfl⟩:=re.inv0;obtain⟨D,I⟩:=jC O;obtain⟨M1,h1,pm⟩:=Z.revL;have F:=List.nodup_append.mp nd;have hn:=aah.mp F.1;refine⟨a,ys,rfl,rfl,Y,v_ (M0:=M0) (N:=[]) (R:=[]) h1 mz (cF λd hd=>jo D d (acJ.mp hd)) (cG λd hd=>jm I d (acJ.mp hd)) rfl (λz=>hn.1 (pm.mem_iff.mp (by simpa using z))) (by rw[List.append_nil];exact pm.nodup_iff.mpr hn.2) (λb U=>.inl (pm.mem_iff.mp (by simpa using U))) q⟩
 .cases h
def Dv:MuB X G "list" "list.reverse" lG:=⟨_,λc=>Ft,DQ,wW rfl λd es q e=>by
 unfold lG at e;split at e
 .exact⟨_,_,rfl⟩
 .cases e⟩
def jF:List Key->List D->List (Key×D)->List Key×List D
 |ks,ds,[]=>(ks,ds)
 |ks,ds,p::r=>jF (iI ks ds p.1 p.2).1 (iI ks ds p.1 p.2).2 r
variable{k:Key}
def Rr{N:List Addr}(Z:aJ G H W ds (aae (·.2) kvs) M)(hn:(aae (·.1) kvs).Nodup)(J:Rep G H W d x N)(nd:(M++N).Nodup) :
  (aae (·.1) (putK kvs k x)=(iI (aae (·.1) kvs) ds k d).1/\(aae (·.1) (putK kvs k x)).Nodup)/\(putK kvs k x).length<=kvs.length+1/\∃M',aJ G H W (iI (aae (·.1) kvs) ds k d).2 (aae (·.2) (putK kvs k x)) M'/\M'.Nodup/\∀a∈M',a∈M∨a∈N:=by
 have F:=List.nodup_append.mp nd;cases U:c7 (kvs.map (·.1)) k with
 |some j=>
  have a0:j<ds.length:=by rw[Z.length];simpa using Aa U
  obtain⟨A,M1,B,a1,I⟩:=Z.set (List.getElem?_eq_getElem a0) J;obtain⟨p1,p2⟩:=DG (v:=x) U hn;have q:abb (A++B) M:=by rw[a1];exact(ab5 A).append (aaI M1 B)
  have n3:=List.nodup_append.mp (q.nodup F.1);have O:∀z∈N,z∉A++B:=λz h1 h2=>F.2.2 z (q.subset h2) z h1 rfl;simp![iI,U];refine⟨⟨p1,by rw[p1];exact hn⟩,?_,A++(N++B),by rw[p2];exact I,fD n3.1 (fD F.2.1 n3.2.1 λz h1 h2=>O z h1 (by simp[h2])) λz h1 h2=>?_,λa Y=>?_⟩
  .have:(putK kvs k x).length=kvs.length:=by have:=congrArg acQ p1;simpa using this
   omega
  .rcases Ls.mp h2 with y|y
   .exact O z y (by simp[h1])
   .exact n3.2.2 z h1 z y rfl
  .simp![Ls]at Y
   rcases Y with z|z|z
   .exact .inl (q.subset (by simp[z]))
   .exact .inr z
   .exact .inl (q.subset (by simp[z]))
 |none=>
  simp![iI,U];have e:putK kvs k x=kvs++[(k,x)]:=lz U;rw[e];refine⟨⟨by simp,?_⟩,by simp,M++N,by rw[aat];exact Z.append (.one J),nd,λa Y=>Ls.mp Y⟩;rw[aat];exact aaY.mpr ⟨hn,by simp,λa h1 b h2 z=>by
   obtain rfl:b=k:=by simpa using h2
   exact xf U (z▸h1)⟩
def vZ{H:Hp}{W:Wn}:∀{es:List (Key×D)}{prs kvs:List (Key×V)}{ds:List D}{M N:List Addr},aae (·.1) es=aae (·.1) prs->aJ G H W (aae (·.2) es) (aae (·.2) prs) N->aJ G H W ds (aae (·.2) kvs) M->(aae (·.1) kvs).Nodup->(M++N).Nodup->
  (aae (·.1) (putAll kvs prs)=(jF (aae (·.1) kvs) ds es).1/\(aae (·.1) (putAll kvs prs)).Nodup)/\∃M',aJ G H W (jF (aae (·.1) kvs) ds es).2 (aae (·.2) (putAll kvs prs)) M'/\M'.Nodup/\∀a∈M',a∈M∨a∈N
 |[],prs,kvs,ds,M,N,hk,h1,h2,hn,nd=>by
  have:prs=[]:=by cases prs with
   |nil=>rfl
   |cons p r=>cases hk
  subst this;exact⟨⟨rfl,hn⟩,M,h2,(List.nodup_append.mp nd).1,λa Y=>.inl Y⟩
 |e::es,prs,kvs,ds,M,N,hk,h1,h2,hn,nd=>by
  cases prs with
  |nil=>cases hk
  |cons p prs=>
   obtain⟨x,ys,N1,N2,Z,rfl,J,a2⟩:=aJ.inv h1;simp![ZX,List.cons.injEq]at hk Z;obtain⟨rfl,rfl⟩:=Z;have a0:=List.nodup_append.mp nd;have a1:=List.nodup_append.mp a0.2.1;have a4:(M++N1).Nodup:=fD a0.1 a1.1 λa O I=>a0.2.2 a O a (by simp[I]) rfl;obtain⟨⟨q1,q2⟩,q3,M1,q4,q5,q6⟩:=Rr (k:=p.1) h2 hn J a4;have a5:(M1++N2).Nodup:=fD q5 a1.2.1 λa O I=>by
    rcases q6 a O with z|z
    .exact a0.2.2 a z a (by simp[I]) rfl
    .exact a1.2.2 a z a I rfl
   rw[←hk.1]at q1 q2 q4;have F:=vZ (es:=es) (prs:=prs) (kvs:=putK kvs e.1 p.2) hk.2 a2 q4 q2 a5;rw[q1]at F;obtain⟨⟨r1,q⟩,M',U,r4,r5⟩:=F;have a3:putAll kvs (p::prs)=putAll (putK kvs e.1 p.2) prs:=by rw[hk.1];rfl
   rw[a3];refine⟨⟨r1,q⟩,M',U,r4,λa Y=>?_⟩;rcases r5 a Y with z|z
   .exact(q6 a z).imp id λz=>by simp[z]
   .exact .inr (by simp[z])
def oA(P:D->Prop):∀{es:List (Key×D)}{ks:List Key}{ds:List D},(∀d∈ds,P d)->(∀p∈es,P p.2)->∀d∈(jF ks ds es).2,P d
 |[],ks,ds,h1,h2=>h1
 |p::r,ks,ds,h1,h2=>by
  rw[jF];refine oA P (λd hd=>?_) λq F=>h2 q (by simp[F]);unfold iI at hd;split at hd
  .rcases aes hd with z|z
   .exact h1 d z
   .rw[z];exact h2 p (by simp)
  .rcases Ls.mp hd with z|z
   .exact h1 d z
   .obtain rfl:d=p.2:=by simpa using z
    exact h2 p (by simp)
def dH.at2{D:Addr->HO->Prop}(h:dH D H W a o m L M)(J:(m== .scr)=ae):H a=ac o:=h.at (by intro z;rw[z]at J;cases J)
def JC(h1:aF ds=ag)(h2:aD ds=ag):clean 2.108=ag:=by simp[clean,aA,az,h1,h2]
def M9{op:D->List D->Option (D×D)}(Y:T="dict")(h:∀d es q,op d es=ac q->∃ks ds,d= .dct .own ks ds):Jz G T op:=λd es q e v H W L r=>by
 obtain⟨ks,ds,rfl⟩:=h d es q e;rw[Rep]at r;obtain⟨a,xs,M,rfl,I,Z,hs⟩:=r;exact .inr (.inr (.inl ⟨Y,.inl ⟨_,hs.1⟩⟩))
def eMt(g:D->List D->Option D)(J:En->Option D)(f:En->Option 2.79):En->Option D:=λρ=>(J ρ).bind λx=>(f ρ).bind λds=>g x ds
theorem yO{id:String}{g:D->List D->Option D}{o:Expr}{O:En->Option D}{f:En->Option 2.79}(m:MtB X G T id g)(pa:adI T)(slot:Slot T Z id)(I:ae3 2.58=pure (.type "method_descriptor"))(F:PV X G ob o O)(Y:PVA X G ob (e::es) f)(U:∀c,abj o Z (X c).env (eval o (X c).env)=eval o (X c).env:=by intro _;rfl)(q:∀c,((aa1 cpos (Z1 (e::es) (X c).env)).all (λx=>!x.1)&&(ac1 cpos (ab9 [] (X c).env)).all (λx=>x.1.isSome)
  &&decide ((e::es).length+([]:List abE).length+(if([]:List abE).isEmpty then 0 else 1)<30))=ag:=by intro _;rfl) (V:(apos.endLine==cpos.line)=ag:=by rfl) (hs:∀c,Z1 (e::es) (X c).env=(ae,eval e (X c).env)::Z1 es (X c).env:=by intro _;rfl) (z:∀c,(aa1 cpos (Z1 es (X c).env)).any (·.1)=ae:=by intro _;rfl) (J:∀c,(X c).K=G.K:=by intro _;rfl) :
 PV X G ob (.Call 2.66 (e::es) [] cpos) (eMt g O f):=let⟨r,m1,m2,m3⟩:=m.ex;let⟨t,a1,a2⟩:=F.ex;let⟨u,b1,b2⟩:=Y.ex;⟨_,λc=>(by rw[←J c];exact zc pa slot I (m1 c) (a1 c) (b1 c) (U c) (q c) V (hs c) (z c)),XH m2 m3 a2 b2⟩
def BW(a b:Str):Option (List Str):=
 if(decide (a.length<b.length)||decide (acT a<acT b))=ae/\(b.length==0)=ae/\(aaM a b 0 a.length (a.length+1)).isEmpty=ae/\a.length<=Z0/\(ac3 a (aaM a b 0 a.length (a.length+1)) b.length).length<=Z0
 then ac (ac3 a (aaM a b 0 a.length (a.length+1)) b.length)else af
def vU:D->List D->Option D
 |.str a,[.str b]=>(BW a b).map λl=>.lst .own (l.map D.str)
 |_,_=>af
def CQ:∀l:List Str,aJ G H W 2.7 (l.map V.str) []
 |[]=>.nil
 |x::r=>aJ.cons (M:=[]) (M':=[]) (by rw[Rep];exact⟨rfl,rfl⟩) (CQ r)
def Kr:MtB X G "str" "str.split" vU:=⟨_,λc=>Oz,λdx ds d e x xs H W O I rx r nd hn w Q q=>(by
 unfold vU at e;split at e
 .rename_i a b
  cases h1:BW a b with
  |none=>simp[h1]at e
  |some l=>
   obtain rfl:D.lst .own 2.7=d:=by simpa[h1]using e
   obtain⟨y,rfl,F⟩:=r.inv1;obtain⟨rfl,rfl⟩:=cM rx;obtain⟨rfl,rfl⟩:=cM F;unfold BW at h1;split at h1
   .rename_i hh
    cases h1;refine⟨a,b,_,rfl,rfl,hh.1,hh.2.1,hh.2.2.1,hh.2.2.2.1,rfl,hh.2.2.2.2,λp V=>?_⟩;refine q 2.49 _ [p] (Same.new V) ?_ (λa Y=>.inr (by rw[show a=p by simpa using Y];exact V)) (by simp);rw[Rep];exact⟨p,_,[],rfl,CQ _,aR,rfl⟩
   .cases h1
 .cases e),λdx ds d e x H W O rx=>by
 unfold vU at e;split at e
 .obtain⟨rfl,rfl⟩:=cM rx
  exact rfl
 .cases e⟩
def ik:D->List D->Option D
 |.dct m ks ds,[k]=>if m= .scr then af else(dm k).bind λk=>match c7 ks k with
  |some j=>ds[j]?
  |none=>ac .non
 |.dct m ks ds,[k,x]=>if m= .scr then af else(dm k).bind λk=>match c7 ks k with
  |some j=>ds[j]?
  |none=>ac x
 |_,_=>af
def Yr:V->List V->Hp->VK->Prop:=λx J H Q=>∃a o y,x= .ref a/\nT H a y o/\(J=[y]/\Q (o.getD .non) H∨∃z,J=[y,z]/\Q (o.getD z) H)
def Nk(hu:Y.A.units+1<cLine):MtR Y "dict.get" Yr:=λpins s σ H x J v us Q I rx U h=>by
 obtain⟨a,o,y,rfl,g,h⟩:=h;cases rx;rcases h with⟨rfl,q⟩|⟨z,rfl,q⟩
 .obtain⟨u,rfl,Z⟩:=vals1 U
  exact V_ hu I g Z λw' s3 D O=>⟨_,H,D,O,q⟩
 .cases U with
  |cons F U=>
   obtain⟨u,rfl,Z⟩:=vals1 U;exact VF hu I g F Z λw' s4 V O=>⟨_,H,V,O,q⟩
def rN(hu:∀c,(X c).A.units+1<cLine):MtB X G "dict" "dict.get" ik:=⟨_,λc=>Nk (hu c),λdx ds d e x xs H W Lx L0 rx r nd hn w Q q=>(by
 have a0:∀{m:Mk}{ks:List Key}{es:List D}{k:D}{kk:Key}{y:V}{Ly:List Addr},m≠.scr->Rep G H W (.dct m ks es) x Lx->dm k=ac kk->Rep G H W k y Ly->∃a kvs M,x= .ref a/\H a=ac 2.20/\nT H a y (jc kvs kk)/\aae (·.1) kvs=ks/\aJ G H W es (aae (·.2) kvs) M/\abb M Lx:=λ{m ks es k kk y Ly} J rx I F=>by
  rw[Rep]at rx;obtain⟨a,kvs,M,rfl,⟨rfl,a1⟩,Z,hs⟩:=rx;have:=i_ F I;subst this;exact⟨a,kvs,M,rfl,hs.at J,.inl ⟨kvs,kk,hs.rdD,rfl,rfl⟩,rfl,Z,hs.sub⟩
 unfold ik at e;split at e
 .rename_i m ks es k
  split at e
  .cases e
  .rename_i J
   cases I:dm k with
   |none=>simp[I]at e
   |some kk=>
    obtain⟨y,rfl,F⟩:=r.inv1;obtain⟨a,kvs,M,rfl,Y,g,rfl,Z,sub⟩:=a0 J rx I F;refine⟨a,_,y,rfl,g,.inl ⟨rfl,?_⟩⟩;simp![I,gD]at e;cases U:c7 (aae (·.1) kvs) kk with
    |none=>
     simp![U]at e;cases e;rw[jn U];exact q.scal λ_=>mz
    |some j=>
     simp![U]at e;obtain⟨v,M',h1,h2,O⟩:=Z.get e;rw[gB U,h1];exact gG h2 (O.trans (sub.trans (aa2 _ _))) nd hn q
 .rename_i m ks es k x0
  split at e
  .cases e
  .rename_i J
   cases I:dm k with
   |none=>simp[I]at e
   |some kk=>
    obtain⟨y,z,A,B,rfl,rfl,F,rz⟩:=r.inv2;obtain⟨a,kvs,M,rfl,Y,g,rfl,Z,sub⟩:=a0 J rx I F;refine⟨a,_,y,rfl,g,.inr ⟨z,rfl,?_⟩⟩;simp![I,gD]at e;cases U:c7 (aae (·.1) kvs) kk with
    |none=>
     simp![U]at e;cases e;rw[jn U];exact gG rz ((aaI _ _).trans (aaI _ _)) nd hn q
    |some j=>
     simp![U]at e;obtain⟨v,M',h1,h2,O⟩:=Z.get e;rw[gB U,h1];exact gG h2 (O.trans (sub.trans (aa2 _ _))) nd hn q
 .cases e),λdx ds d e x H W Lx rx=>by
 have a0:∀{m:Mk}{ks:List Key}{es:List D},m≠.scr->Rep G H W (.dct m ks es) x Lx->tyV G.K "dict" x H:=λ{m ks es} J rx=>by
  rw[Rep]at rx;obtain⟨a,kvs,M,rfl,I,Z,hs⟩:=rx;exact .inr (.inr (.inl ⟨rfl,.inl ⟨_,hs.at J⟩⟩))
 unfold ik at e;split at e
 .split at e
  .cases e
  .exact a0 ‹_› rx
 .split at e
  .cases e
  .exact a0 ‹_› rx
 .cases e⟩
def RfO(G:Gc)(ob:Nat->Bool)(t:TO)(f:En->Option (Option Int)):Prop:=∀(ρ:En)(o:Option Int),f ρ=ac o->∀(σ:L2.St)(H:Hp)(W:Wn),Rel G H W ob ρ σ->WOk H W->∀Q:Option Int->Hp->Prop,(∀H',Same H H'->Q o H')->t σ H Q
structure PVO{ι:Type}(X:ι->Cx)(G:Gc)(ob:Nat->Bool)(e:Option Expr)(f:En->Option (Option Int)):Prop where
 mk::(ex:∃t,(∀c,PO (X c) e t)/\RfO G ob t f)
def fW:En->Option (Option Int):=λ_=>ac af
def eU(f:En->Option D):En->Option (Option Int):=λρ=>(f ρ).bind λd=>match d with
 |.int i=>ac (ac i)
 |_=>af
def dR:PVO X G ob af fW:=⟨_,λc=>Ia,λρ o e σ H W J w Q q=>by cases e;exact q H 2.64⟩
variable{f:En->Option D}
def cO(h:PV X G ob e f):PVO X G ob (ac e) (eU f):=let⟨t,a1,a2⟩:=h.ex;⟨_,λc=>Hw (a1 c),λρ o e σ H W J w Q q=>by
 unfold eU at e;cases h1:f ρ with
 |none=>simp[h1]at e
 |some d=>
  rw[h1]at e;simp![gD]at e;split at e
  .cases e
   refine a2 ρ _ h1 σ H W J w _ λv H' L s r O nd=>?_;obtain⟨rfl,rfl⟩:=aW r;exact⟨_,rfl,q H' s⟩
  .cases e⟩
def SlV(G:Gc)(r:V->Option Int->Option Int->Hp->VK->Prop)(g:D->Option Int->Option Int->Option D):Prop:=∀(dx:D)(lo hi:Option Int)(d:D),g dx lo hi=ac d->∀(x:V)(H:Hp)(W:Wn)(O:List Addr),Rep G H W dx x O->O.Nodup->(∀a∈O,W.tmp a)->WOk H W->∀Q:VK,Done G H W O d Q->r x lo hi H Q
structure SlB{ι:Type}(X:ι->Cx)(G:Gc)(g:D->Option Int->Option Int->Option D):Prop where
 ex:∃r,(∀c,SlR (X c) r)/\SlV G r g
def u9(g:D->Option Int->Option Int->Option D)(f:En->Option D)(fl F:En->Option (Option Int)):En->Option D:=λρ=>(f ρ).bind λx=>(fl ρ).bind λl=>(F ρ).bind λh=>g x l h
def IK(g:D->Option Int->Option Int->Option D)(f:En->Option (D×En))(fl F:En->Option (Option Int)):En->Option (D×En):=λρ=>(f ρ).bind λp=>(fl p.2).bind λl=>(F p.2).bind λh=>(g p.1 l h).map λd=>(d,p.2)
variable{g:D->Option Int->Option Int->Option D}
def Yv{r:V->Option Int->Option Int->Hp->VK->Prop}{tl th:TO}{fl fh:En->Option (Option Int)}(F:SlV G r g)(h:RfE G ob te f)(hl:RfO G ob tl fl)(hh:RfO G ob th fh):RfE G ob (tSl r te tl th) (u9 g f fl fh):=λρ d e σ H W rl w Q q=>by
 unfold u9 at e;cases h1:f ρ with
 |none=>simp[h1]at e
 |some x=>
  cases h2:fl ρ with
  |none=>simp[h1,h2]at e
  |some l=>
   cases O:fh ρ with
   |none=>simp[h1,h2,O]at e
   |some u=>
    have e:g x l u=ac d:=by simpa[h1,h2,O]using e
    refine h ρ x h1 σ H W rl w _ λv H1 L Z r1 fr nd=>?_;have u1:Up H H1 W (W.add L):=.add Z fr;have w1:WOk H1 (W.add L):=w.add Z r1.dom;refine hl ρ l h2 σ H1 _ (rl.up u1) w1 _ λH2 I=>?_;have u2:Up H1 H2 2.55 (W.add L):=.same I;have w2:WOk H2 (W.add L):=λa Y=>let⟨o,F,hm⟩:=w1 a Y;⟨o,I a o F,hm⟩;refine hh ρ u O σ H2 _ ((rl.up u1).up u2) w2 _ λH3 J=>?_;have u3:Up H2 H3 2.55 (W.add L):=.same J;have w3:WOk H3 (W.add L):=λa Y=>let⟨o,F,hm⟩:=w2 a Y;⟨o,J a o F,hm⟩;have ss:=(Z.trans I).trans J;refine F x l u d e v H3 _ L ((r1.up u2).up u3) nd (w.tmp fr) w3 Q λv' H4 L4 s4 r4 f4 n4=>?_;refine q v' H4 L4 (ss.trans s4) ?_ (λa Y=>(f4 a Y).elim (fr a) λz=>ss.none' z) n4;exact r4.up ⟨Same.refl _,λb u U f=>⟨λz=>z.elim (λz=>f.1 2.29) λz=>f.1 (.inr ⟨.inr z,WOk.new w fr z⟩),f.2⟩,λ_ _ _ f=>f⟩
def cutD(ds:List D)(lo hi:Option Int):List D:=(ds.drop (HT.sIx ds.length 0 lo)).take (HT.sIx ds.length ds.length hi-HT.sIx ds.length 0 lo)
def gSl:D->Option Int->Option Int->Option D
 |.lst _ ds,lo,hi=>ac (.lst .own (cutD ds lo hi))
 |.tup ds,lo,hi=>ac (.tup (cutD ds lo hi))
 |_,_,_=>af
def aJ.cut(h:aJ G H W ds xs L)(lo hi:Option Int):∃M,aJ G H W (cutD ds lo hi) 2.202 M/\abb M L:=by
 unfold cutD wY;rw[h.length];obtain⟨A,B,_,h2,rfl⟩:=h.takeDrop 2.118;obtain⟨Y,z,O,_,rfl⟩:=h2.takeDrop (HT.sIx xs.length xs.length hi-HT.sIx xs.length 0 lo);exact⟨Y,O,(aa2 Y z).trans (aaI A _)⟩
def slb(J:∀c,(X c).K=G.K:=by intro _;rfl):SlB X G gSl:=⟨λx lo hi H Q=>X7 G.K x lo hi H Q∨Ym G.K x lo hi H Q,λc=>by rw[←J c];exact SlR.or Qz WX,λdx lo hi d e x H W O rx nd hn w Q q=>by
 unfold gSl at e;split at e
 .cases e
  rw[Rep]at rx;obtain⟨a,xs,M,rfl,Z,hs⟩:=rx;obtain⟨M',h1,h2⟩:=Z.cut lo hi;exact .inl ⟨a,xs,rfl,hs.sq,λp V=>tY h1 (h2.trans hs.sub) nd hn V q⟩
 .rename_i ds
  cases e;have F:=rx;rw[Rep]at rx;obtain⟨a,xs,rfl,U,Z⟩:=rx;obtain⟨M',h1,h2⟩:=Z.cut lo hi;refine .inr ⟨a,xs,rfl,SqT.of U,λz=>?_,λp V=>yI h1 h2 nd hn V q⟩;rw[z]at h1;refine gG (d:=.tup (cutD ds lo hi)) (x:=.ref a) (M:=M') ?_ h2 nd hn q;rw[Rep];exact⟨a,xs,rfl,U,h1⟩
 .cases e⟩
def eSl:=u9 gSl
def Zr:=IK gSl
def dg{lo hi:Option Expr}{fl F:En->Option (Option Int)}(o:SlB X G gSl)(h:PV X G ob e f)(Y:PVO X G ob lo fl)(z:PVO X G ob hi F):PV X G ob (.Subscript e (.Slice lo hi af p2) pos) (eSl f fl F):=let⟨r,o1,o2⟩:=o.ex;let⟨t,a1,a2⟩:=h.ex;let⟨u,b1,b2⟩:=Y.ex;let⟨v,c1,c2⟩:=z.ex;⟨_,λc=>DP (o1 c) (a1 c) (b1 c) (c1 c),Yv o2 a2 b2 c2⟩
def inK(S:List Key)(k:Key):Bool:=S.any λx=>decide (x=k)
def lJ(S:List Key)(k:Key):List Key:=if inK S k then S else S++[k]
def xO(ks:List Key):List Key:=ks.foldl lJ []
variable{S:List Key}
def rm:inK S k=ag↔k∈S:=by
 unfold inK;rw[abD];constructor
 .rintro⟨x,h1,h2⟩
  rw[←abQ h2];exact h1
 .exact λh=>⟨k,h,by simp⟩
def Sh{x:Key}:inK (lJ S k) x=(inK S x||decide (x=k)):=by
 rw[abe,adL,rm,rm,abF];unfold lJ;split
 .rename_i h
  rw[rm]at h;exact⟨.inl,λz=>z.elim id λz=>by rw[z];exact h⟩
 .simp
def vV:(lJ S k).length=if inK S k then S.length else S.length+1:=by
 unfold lJ;split<;>simp
def Nr{P:aad}{w:World}(r:RelV (kV k) u):u.scannable=ag:=by
 cases k with
 |inl i=>obtain⟨t,rfl⟩:=r;rfl
 |inr x=>obtain⟨t,rfl⟩:=r;rfl
variable{l:Addr}{A:aaK}
def Mp{S it:Addr}{R:Result->jl->Prop}(z:A.handled=af)(hl:ks.length=its.length)(I:∀(j:Nat)(k:Key)(v:Value),ks[j]? =ac k->its[j]? =ac v->RelV (kV k) v)(U:its.length+1<afN)(nS:S≠it)(nl:l≠it)(a7:l≠S):∀(m i:Nat)(acc:List Key)(s:jl),its.length-i=m->i<=its.length->s.heap.IsList l its.toArray->s.heap.IsListIter it l i->s.heap.SetOf (bL prog w) S (inK acc) acc.length->acc.length<=i->
  (∀h' tk,(∀b o,b≠S->b≠it->s.heap.get? b=ac o->h'.get? b=ac o)->h'.SetOf (bL prog w) S (inK ((ks.drop i).foldl lJ acc)) ((ks.drop i).foldl lJ acc).length->R (.ok (.ret .none)) {s with heap:=h',toks:=tk})->
  adR 2.15 A (.builtin "set.update.loop" ⟨[.ref S,.ref it],[]⟩) R s:=by
 intro m
 induction m with
 |zero=>
  intro i acc s J hi pl q O Y k;have e:i=its.length:=by omega
  subst e;refine aeO aeJ ?_;rw[afj ac_ _];unfold Builtin.«set.update.loop»;dsimp only;refine Mz (aeZ (show A.in1.handled=af from z) q pl (by simp) λh' eb=>?_);dsimp only;refine Z3 (k h' _ (λb o _ b2 e=>eb b o b2 e) ?_);rw[←hl,abC];obtain⟨o,es,Z,t,ho,rest⟩:=O;exact⟨o,es,Z,t,eb S _ nS ho,rest⟩
 |succ m ih=>
  intro i acc s J hi pl q O Y k;have D:i<its.length:=by omega
  have a3:i<ks.length:=by omega
  refine aeO aeJ ?_;rw[afj ac_ _];unfold Builtin.«set.update.loop»;dsimp only;refine Mz (aeQ q pl (x:=its[i]) (by simp[D]) λh1 a2 a1=>?_);dsimp only;have a4:h1.SetOf (bL prog w) S (inK acc) acc.length:=by
   obtain⟨o,es,Z,t,ho,rest⟩:=O;exact⟨o,es,Z,t,(a1.2 S nS).trans ho,rest⟩
  have rk:=I i ks[i] its[i] (List.getElem?_eq_getElem a3) (List.getElem?_eq_getElem D);refine Mz (ab1 ?_);unfold setAdd;refine ab1 ?_;refine Mz ((bL prog w).pyHash (k:=ks[i]) (nU rk) ?_);refine wpAny_setAddHashed_of (knd:=bL prog w) (nU rk) (Nr (P:=prog) (w:=w) rk) a4 1.10 λh2 a0 a5=>?_;refine Z3 ⟨plainId_quiet ac_ _,?_⟩;have a6:h2.SetOf (bL prog w) S (inK (lJ acc ks[i])) (lJ acc ks[i]).length:=by
   have e1:(λV=>inK acc V||decide (V=ks[i]))=inK (lJ acc ks[i]):=funext λV=>Sh.symm;rw[←e1,vV];exact a5
  refine ih (i+1) (lJ acc ks[i]) _ 1.10 D ?_ ?_ a6 ?_ λh' tk kp a8=>k h' tk (λb o b1 b2 e=>kp b o b1 b2 ((a0.2 b b1).trans ((a1.2 b b2).trans e))) ?_
  .obtain⟨o,h1',h2'⟩:=pl
   exact⟨o,(a0.2 l a7).trans ((a1.2 l nl).trans h1'),h2'⟩
  .exact a2.extBut a0.extBut (aaS nS)
  .rw[vV]
   split<;>omega
  .rw[ab8 a3]
   exact a8
abbrev qw(led:Bool):Obj:={cls:=.type "set",dict:=af,data:=.set #[] 0 (.fresh 0 0 led)}
def FT(prog:aad)(w:World)(s:jl)(ks:List Key)(I:jl):Prop:=∃h' tk,I={s with heap:=h',toks:=tk}/\h'.SetOf (bL prog w) s.heap.objs.size (inK (xO ks)) (xO ks).length/\∀b o,s.heap.get? b=ac o->h'.get? b=ac o
variable{E:Value->jl->Prop}{s:jl}
theorem MJ{led:Bool}(z:A.handled=af)(Y:ks.length=its.length)(I:∀(j:Nat)(k:Key)(v:Value),ks[j]? =ac k->its[j]? =ac v->RelV (kV k) v)(U:its.length+1<afN)(pl:s.heap.IsList l its.toArray){R:afL->jl->Prop}
  (Z:∀s2,FT prog w s ks s2->R (.done (.ret .none)) s2):wpAny 2.15 A (Builtin.«set.__init__» ⟨[.ref s.heap.objs.size,.ref l],[]⟩) R E {s with heap:=s.heap.push (qw led)}:=by
 obtain⟨ol,a3,J,nl,q⟩:=pl;obtain⟨b1,a1,a8,a0⟩:=ol;simp only at J q;subst J q;have O:(s.heap.push (qw led)).get? s.heap.objs.size=ac (qw led):=Z_ _ rfl;have hT:agx {s with heap:=s.heap.push (qw led)} 2.36 "set":=⟨_,O,rfl⟩;have a5:(s.heap.push (qw led)).get? l=ac {cls:=.type "list",dict:=a1,data:=.seq its.toArray nl,slots:=a0}:=ZS _ a3;have b0:=F.sub_list_set;have a9:=F.sub_list_frozenset;have D:(ach "list"==ach "dict")=ae:=by decide
 have V:(s.heap.push (qw led)).IsList l its.toArray:=⟨_,a5,rfl,nl,rfl⟩;unfold Builtin.«set.__init__» noKeywords agp;generalize a7:aex=PI
 wp_walk
 subst a7;refine adh V ?_;refine Mz (wpAny_runValue ?_);have a2:l<s.heap.objs.size:=Z8 a3;refine Mp (prog:=prog) (w:=w) (its:=its) (ks:=ks) (A:=A) (S:=s.heap.objs.size) (l:=l) z Y I U ?_ ?_ (aam a2) (its.length-0) 0 [] _ rfl (ad1 _) ?_ ?_ ?_ (ZZ _) λh' tk kp a6=>?_
 .show s.heap.objs.size≠(s.heap.push (qw led)).objs.size
  rw[abm];exact aam (adt _)
 .show l≠(s.heap.push (qw led)).objs.size
  rw[abm];exact aam (acr a2)
 .exact V.push _
 .exact⟨_,Z_ _ rfl,rfl,rfl⟩
 .have hget:((s.heap.push (qw led)).push {cls:=.type "list_iterator",data:=.fields #[.ref l,.int 0 0]}).get? s.heap.objs.size=ac (qw led):=ZS _ O
  letI:BEq Key:=instBEqOfDecidableEq
  haveI:LawfulBEq Key:=inferInstance
  have e0:(λ_:Key=>ae)=inK []:=funext λ_=>rfl;rw[←e0];exact(PyProof.Rows.setObjOf_fresh (knd:=bL prog w) led).setOf hget (by unfold afN;omega)
 .refine Z3 ?_
  show wpAny _ _ (ret abr) _ _ _;refine Z3 (Z _ ⟨h',tk,rfl,by rw[ae7]at a6;exact a6,λb o e=>?_⟩);have a4:b<s.heap.objs.size:=Z8 e;refine kp b o (aam a4) ?_ (ZS _ (ZS _ e));show b≠(s.heap.push (qw led)).objs.size;rw[abm];exact aam (acr a4)
theorem Kq{Q:Value->jl->Prop}(z:A.handled=af)(J:ks.length=its.length)(I:∀(j:Nat)(k:Key)(v:Value),ks[j]? =ac k->its[j]? =ac v->RelV (kV k) v)(U:its.length+1<afN)(pl:s.heap.IsList l its.toArray)
  (h:∀s2,FT prog w s ks s2->Q 2.36 s2):wpAny 2.15 A (call (.type "set") [.ref l]) Q E s:=by
 obtain⟨c,tl,a4⟩:=acd.mro;have a2:=acd.made;have a3:=acd.sub;refine wpAny_call (codeAny_of_tree ?_);show wpAny _ _ (callAny (.type "set") _) _ _ _;refine Z3 ⟨Code.quiet_builtin _ (by decide +kernel),aeO F.entry_type_call ?_⟩;rw[Around.under_plain (weight_type_call_type "set" [.ref l] []) rfl];have h1:=acd.notType;have h2:=acd.canCreate;have a6:=F.typeCall_set_1 (.ref l)
 repeat(any_goals(first|assumption|wp_step))
 refine adH (code_set_new_1 (.ref l) (E:=E) (Q₁:=λobj D=>∃led:Bool,obj= .ref s.heap.objs.size/\D={s with heap:=s.heap.push (qw led)}) λled=>⟨led,rfl,rfl⟩) λr D Z=>?_;cases r with
 |error e=>exact Z
 |ok fl=>
  cases fl with
  |ret obj=>
   obtain⟨led,rfl,rfl⟩:=Z;have O:(s.heap.push (qw led)).get? s.heap.objs.size=ac (qw led):=Z_ _ rfl;have hT:agx {s with heap:=s.heap.push (qw led)} 2.36 "set":=⟨_,O,rfl⟩;have q:=acd.init.lookup;have a5:=acd.init.bind 2.36
   repeat(any_goals(first|assumption|wp_step))
   refine adH (adK (R:=wants (λr Y=>r= .none/\FT prog w s ks Y) E) acd.init.plain F.entry_set_init (check_set_init_1 hT ?_)) λa1 Y V=>?_
   .exact MJ (led:=led) (by simp[z]) J I U pl λs2 hs=>⟨rfl,hs⟩
   .cases a1 with
    |error e=>exact V
    |ok a0=>
     cases a0 with
     |ret r=>
      obtain⟨rfl,hs⟩:=V
      repeat(any_goals(first|assumption|wp_step))
      exact h _ hs
     |_=>exact V.elim
  |_=>exact Z.elim
def Oo(ks:List Key):(xO ks).length<=ks.length:=by
 have:∀(ks acc:List Key),(ks.foldl lJ acc).length<=acc.length+ks.length:=by
  intro ks
  induction ks with
  |nil=>intro acc;simp
  |cons k r F=>
   intro acc;have h1:=F (lJ acc k);have h2:(lJ acc k).length<=acc.length+1:=by rw[vV];split<;>omega
   simp![agj,Z4];omega
 have:=this ks [];rw[aan,abz]at this;exact this
variable{bs:List Bool}
def range_all:((aaG bs.length).all λi=>bs.getD i ag)=bs.all id:=by
 induction bs with
 |nil=>rfl
 |cons b r F=>
  rw[Z4,acp,acP,acB,acP,←F];rfl
def range_any:((aaG bs.length).any λi=>bs.getD i ag)=bs.any id:=by
 induction bs with
 |nil=>rfl
 |cons b r F=>
  rw[Z4,acp,acf,afO,acf,←F];rfl
variable{i:Nat}
def Us(U:Vals (bs.map V.bl) its){v:Value}(h:its.toArray[i]? =ac v):v= .bool (bs.getD i ag):=by
 have h:its[i]? =ac v:=by simpa using h
 have Y:=U.length;rw[Pr]at Y;have hi:i<bs.length:=by rw[Y];exact(List.getElem?_eq_some_iff.mp h).1
 obtain⟨u,h1,h2⟩:=U.get (show(bs.map V.bl)[i]? =ac (V.bl bs[i])by rw[List.getElem?_map,List.getElem?_eq_getElem hi];rfl);rw[h]at h1;cases h1;cases h2;simp[List.getD,hi]
variable{X:Cx}
def yu{xs:List V}(I:Inv X pins σ H s)(pl:s.heap.IsList a its.toArray) :
  a≠s.heap.objs.size:=by
 obtain⟨o,h,_⟩:=pl;exact aam (Z8 h)
def Jx(O:X.calm=ag):gk X (.builtin "all") (λxs H Q=>∃a bs,xs=[.ref a]/\SqL X.K H a (aae V.bl bs)/\Q (.bl (List.all bs id)) H):=by
 intro pins s σ H xs us Q I r h;obtain⟨a,bs,rfl,D,q⟩:=h;obtain⟨u,rfl,Z⟩:=vals1 r;cases Z;obtain⟨its,U,pl,hz⟩:=I.list D;have z:X.A.handled=af:=I.ok.hd O;have ne:a≠s.heap.objs.size:=yu (xs:=[]) I pl.isList;have Y:=U.length;rw[Pr]at Y;refine call_all_walk (adh pl.isList ⟨s.heap.objs.size,[s.heap.objs.size,a],[s.heap.objs.size],its.toArray.size,_,_,λi=>bs.getD i ag,rfl,Walks.list (show X.A.in1.handled=af from z) s.heap.objs.size a ne its.toArray,⟨⟨_,Z_ _ rfl,rfl,rfl⟩,pl.isList.push _⟩,λi v s2 J F hP hQ=>?_,λh' tk kp=>?_⟩)
 .rw[Us U hP]
  exact abu hQ
 .rw[List.size_toArray,←Y,range_all]
  exact⟨.bl _,H,I.kept (t':=tk) λb o e=>kp b o (by simp;exact aam (Z8 e)) (ZS _ e),rfl,q⟩
def JH(O:X.calm=ag):gk X (.builtin "any") (λxs H Q=>∃a bs,xs=[.ref a]/\SqL X.K H a (aae V.bl bs)/\Q (.bl (List.any bs id)) H):=by
 intro pins s σ H xs us Q I r h;obtain⟨a,bs,rfl,D,q⟩:=h;obtain⟨u,rfl,Z⟩:=vals1 r;cases Z;obtain⟨its,U,pl,hz⟩:=I.list D;have z:X.A.handled=af:=I.ok.hd O;have ne:a≠s.heap.objs.size:=yu (xs:=[]) I pl.isList;have Y:=U.length;rw[Pr]at Y;refine call_any_walk (adh pl.isList ⟨s.heap.objs.size,[s.heap.objs.size,a],[s.heap.objs.size],its.toArray.size,_,_,λi=>bs.getD i ag,rfl,Walks.list (show X.A.in1.handled=af from z) s.heap.objs.size a ne its.toArray,⟨⟨_,Z_ _ rfl,rfl,rfl⟩,pl.isList.push _⟩,λi v s2 J F hP hQ=>?_,λh' tk kp=>?_⟩)
 .rw[Us U hP]
  exact abu hQ
 .rw[List.size_toArray,←Y,range_any]
  exact⟨.bl _,H,I.kept (t':=tk) λb o e=>kp b o (by simp;exact aam (Z8 e)) (ZS _ e),rfl,q⟩
def O5(K:ZW):R2:=λx y H Q=>XC K x y H Q∨∃a xs,x= .ref a/\SqL K H a xs/\y= .int (-1)/\∀p,H p=af->Q 2.49 (upd H p (.lst xs.reverse))
variable{es:Expr}{ts:TE}
theorem K8(V:PE X e te)(hs:PE X es ts):PE X 2.214 (tOp (O5 X.K) te ts):=by
 intro pins s σ H Q I h;refine Subscript_ (thn 2.82 λv Z ⟨x,H1,I1,r1,q1⟩=>?_);refine wpAny_Slice ?_;rw[afp];refine Z3 (Z3 (wpAny_evalPart_some (thn (hs pins Z σ H1 _ I1 q1) λJ F ⟨y,H2,I2,Y,q2⟩=>?_)));rcases q2 with q2|⟨a,xs,rfl,hx,rfl,q⟩
 .have I4:Inv X pins σ H2 {F with heap:=F.heap.push {cls:=.type "slice",data:=.fields #[.none,.none,J]}}:=I2.kept (t':=F.toks) λb ob q=>ZS _ q
  have D:agq (F.heap.push {cls:=.type "slice",data:=.fields #[.none,.none,J]}) F.heap.objs.size .none .none J:=ad6 ..;obtain⟨a,xs,rfl,hx,q⟩:=q2;cases r1;obtain⟨its,r,U,hz⟩:=I4.tuple hx;have z:=r.length;show wpAny 1.12 X.A 2.104 2.41 X.xe {F with heap:=F.heap.push {cls:=.type "slice",data:=.fields #[.none,.none,J]}};refine afe (ops:=[.ref a,.ref F.heap.objs.size]) U.typeIs aaJ.lookup ?_ (by with_unfolding_all rfl);rcases q with⟨rfl,q⟩|⟨rfl,q⟩
  .obtain⟨t,rfl⟩:=Y
   have e1:aaH af af ((ac (1:Int)).getD 1) (its.length:Int)=(0,(its.length:Int)):=rfl;have e2:aaE 0 (its.length:Int) ((ac (1:Int)).getD 1)=its.length:=by
    show aaE ((0:Nat):Int) (its.length:Int) 1=its.length;rw[HT.places_gen];omega
   refine ju (items:=its) (st:=ac 1) U D .none .none (.int 1 t) (by decide) e1 e2 (λ_=>⟨.ref a,H2,I4,rfl,q⟩) (λO=>absurd ⟨rfl,rfl,rfl⟩ O) ?_;exact aaC (v8 _ _ _ _) 1.10
  .obtain⟨t,rfl⟩:=Y
   have e1:aaH af af ((ac (-1:Int)).getD 1) (its.length:Int)=((its.length:Int)-1,-1):=rfl;have e2:aaE ((its.length:Int)-1) (-1) ((ac (-1:Int)).getD 1)=its.length:=by
    show(if(-1:Int)>0 then _ else(if(its.length:Int)-1> -1 then((its.length:Int)-1-(-1)-1) / (- (-1))+1 else 0)).toNat=its.length;rw[aag (by decide),show(- (-1:Int))=1 by decide,Int.ediv_one];split<;>omega
   refine ju (items:=its) (st:=ac (-1)) U D .none .none (.int (-1) t) (by decide) e1 e2 (λO=>absurd O.2.1 (by decide)) (λ_=>?_) ?_
   .show EP X pins σ Q (.ref _) {F with heap:=Heap.push _ {cls:=.type "tuple",data:=.seq (nu its ((its.length:Int)-1) (-1) its.length).toArray}}
    rw[Mg];refine⟨.ref _,_,I4.laid (t':=F.toks) (o:=.tup xs.reverse) (λb ob q=>ZS _ q) (ZZ _) ?_,rfl,q _ (I4.hok.fresh (ZZ _))⟩;exact⟨by rw[abw];exact hz,_,r.reverse,mJ.new _ _⟩
   .exact aaC (v8 _ _ _ _) 1.10
 .have I4:Inv X pins σ H2 {F with heap:=F.heap.push {cls:=.type "slice",data:=.fields #[.none,.none,J]}}:=I2.kept (t':=F.toks) λb ob q=>ZS _ q
  have D:agq (F.heap.push {cls:=.type "slice",data:=.fields #[.none,.none,J]}) F.heap.objs.size .none .none J:=ad6 ..;cases r1;obtain⟨t,rfl⟩:=Y;obtain⟨its,r,U,hz⟩:=I4.list hx;have z:=r.length;show wpAny 1.12 X.A 2.104 2.41 X.xe {F with heap:=F.heap.push {cls:=.type "slice",data:=.fields #[.none,.none,.int (-1) t]}};refine afe (ops:=[.ref a,.ref F.heap.objs.size]) U.isList.typeIs aen.lookup ?_ (by with_unfolding_all rfl);refine aeA U.isList D .none .none (.int (-1) t) (by decide) ?_ (by rw[List.size_toArray];omega);rw[PySem.W.krv_pick];refine⟨.ref _,_,I4.laid (t':=F.toks) (o:=.lst xs.reverse) (λb ob q=>ZS _ q) (ZZ _) ?_,rfl,q _ (I4.hok.fresh (ZZ _))⟩;exact⟨by rw[abw];exact hz,_,0,r.reverse,Z_ _ rfl⟩
def ug:D->D->Option D
 |.lst _ ds,.int i=>if i= -1 then ac (.lst .own ds.reverse)else af
 |.tup ds,.int i=>if i= -1 then ac (.tup ds.reverse)else if i=1 then ac (.tup ds)else af
 |_,_=>af
def Oh:OpV G (O5 G.K) ug:=λdx I d e x y H W O Ly rx ry nd hn w Q q=>by
 unfold ug at e;split at e
 .split at e
  .rename_i hi
   subst hi;cases e;obtain⟨rfl,rfl⟩:=aW ry;rw[Rep]at rx;obtain⟨a,xs,M,rfl,Z,hs⟩:=rx;obtain⟨M',h1,pm⟩:=Z.revL;refine .inr ⟨a,xs,rfl,hs.sq,rfl,λp V=>?_⟩;have J:Same H (upd H p (.lst xs.reverse)):=Same.new V;have hM:∀a∈M',a∈O++[]:=λa Y=>by rw[List.append_nil];exact hs.sub.subset (pm.mem_iff.mp Y)
   have np:p∉M':=λz=>by obtain⟨o,F,_⟩:=h1.dom p z;rw[V]at F;cases F
   have D:M'.Nodup:=pm.nodup_iff.mpr (hs.sub.nodup (List.nodup_append.mp nd).1);refine q 2.49 _ (p::M') J ?_ (λa Y=>(Z2.mp Y).elim (λz=>.inr (by rw[z];exact V)) λz=>.inl (hM a z)) (aah.mpr ⟨np,D⟩);rw[Rep];exact⟨p,_,M',rfl,h1.up ⟨J,λb u U f=>⟨λz=>z.elim (λz=>(Z2.mp z).elim (λz=>by rw[z,V]at U;cases U) λz=>f.1 (hn b (hM b z)).1) λz=>f.1 z.1,f.2⟩,λ_ _ _ f=>f⟩,aR,rfl⟩
  .cases e
 .obtain⟨rfl,rfl⟩:=aW ry
  have a0:=rx;rw[Rep]at rx;obtain⟨a,xs,rfl,ht,Z⟩:=rx;split at e
  .rename_i hi
   subst hi;cases e;obtain⟨M',h1,pm⟩:=Z.revL;refine .inl ⟨a,xs,rfl,SqT.of ht,.inr ⟨rfl,λp V=>?_⟩⟩;have J:Same H (upd H p (.tup xs.reverse)):=Same.new V;have hM:∀a∈M',a∈O++[]:=λa Y=>by rw[List.append_nil];exact pm.mem_iff.mp Y
   have D:M'.Nodup:=pm.nodup_iff.mpr (List.nodup_append.mp nd).1;refine q 2.49 _ M' J ?_ (λa Y=>.inl (hM a Y)) D;rw[Rep];exact⟨p,_,rfl,aR,h1.up ⟨J,λb u U f=>⟨λz=>z.elim (λz=>f.1 (hn b (hM b z)).1) λz=>f.1 z.1,f.2⟩,λ_ _ _ f=>f⟩⟩
  .split at e
   .rename_i hi
    subst hi;cases e;exact .inl ⟨a,xs,rfl,SqT.of ht,.inl ⟨rfl,gG a0 (aa2 _ _) nd hn q⟩⟩
   .cases e
 .cases e
variable{X:ι->Cx}
def Ss{g:En->Option D}(Y:PV X G ob e f)(U:PV X G ob es g)(J:∀c,(X c).K=G.K:=by intro _;rfl):PV X G ob 2.214 (e2 ug f g):=let⟨t,a1,a2⟩:=Y.ex;let⟨u,b1,b2⟩:=U.ex;⟨_,λc=>(by rw[←J c];exact K8 (a1 c) (b1 c)),Fb Oh a2 b2⟩
def j_:List D->Option (List Key)
 |[]=>ac []
 |d::r=>(dm d).bind λk=>(j_ r).map λt=>k::t
def xZ:∀{ds:List D}{ks:List Key}{xs:List V}{L:List Addr},j_ ds=ac ks->aJ G H W ds xs L->xs=ks.map kV
 |[],ks,xs,L,h,r=>by cases h;exact r.inv0.1
 |d::t,ks,xs,L,h,r=>by
  obtain⟨x,ys,M,M',rfl,rfl,h1,h2⟩:=r.inv;cases e1:dm d with
  |none=>simp[j_,e1]at h
  |some k=>
   cases e2:j_ t with
   |none=>simp[j_,e1,e2]at h
   |some w=>
    obtain rfl:k::w=ks:=by simpa[j_,e1,e2]using h
    rw[xZ e2 h2,i_ h1 e1];rfl
def yg:∀{ds:List D}{ks:List Key},j_ ds=ac ks->ks.length=ds.length
 |[],ks,h=>by cases h;rfl
 |d::t,ks,h=>by
  cases e1:dm d with
  |none=>simp[j_,e1]at h
  |some k=>
   cases e2:j_ t with
   |none=>simp[j_,e1,e2]at h
   |some w=>
    obtain rfl:k::w=ks:=by simpa[j_,e1,e2]using h
    simp[yg e2]
def Af:List D->Option (List Bool)
 |[]=>ac []
 |.bl b::r=>(Af r).map λt=>b::t
 |_::_=>af
def wQ:∀{ds:List D}{bs:List Bool}{xs:List V}{L:List Addr},Af ds=ac bs->aJ G H W ds xs L->xs=bs.map V.bl
 |[],ks,xs,L,h,r=>by cases h;exact r.inv0.1
 |d::t,ks,xs,L,h,r=>by
  obtain⟨x,ys,M,M',rfl,rfl,h1,h2⟩:=r.inv;cases d<;>simp[Af]at h;obtain⟨w,O,rfl⟩:=h;rw[Rep]at h1;rw[wQ O h2,h1.1];rfl
def lU:List D->Option D
 |[.lst _ ds]=>(Af ds).map λbs=>.bl (bs.all id)
 |_=>af
def O8:List D->Option D
 |[.lst _ ds]=>(Af ds).map λbs=>.bl (bs.any id)
 |_=>af
def mF(O:∀c,(X c).calm=ag)(J:∀c,(X c).K=G.K:=by intro _;rfl):CaB X G (.builtin "all") lU:=⟨λxs H Q=>∃a bs,xs=[.ref a]/\SqL G.K H a (aae V.bl bs)/\Q (.bl (List.all bs id)) H,λc=>by rw[←J c];exact Jx (O c),λds d e xs H W I r nd hn w Q q=>by
 unfold lU at e;split at e
 .rename_i m ds
  cases h1:Af ds with
  |none=>simp[h1]at e
  |some ks=>
   obtain rfl:D.bl (ks.all id)=d:=by simpa[h1]using e
   obtain⟨x,rfl,rx⟩:=r.inv1;rw[Rep]at rx;obtain⟨a,ys,M,rfl,Z,hs⟩:=rx;have:=wQ h1 Z;subst this;exact⟨a,ks,rfl,hs.sq,q.scal λ_=>fL⟩
 .cases e⟩
def QV(O:∀c,(X c).calm=ag)(J:∀c,(X c).K=G.K:=by intro _;rfl):CaB X G (.builtin "any") O8:=⟨λxs H Q=>∃a bs,xs=[.ref a]/\SqL G.K H a (aae V.bl bs)/\Q (.bl (List.any bs id)) H,λc=>by rw[←J c];exact JH (O c),λds d e xs H W I r nd hn w Q q=>by
 unfold O8 at e;split at e
 .rename_i m ds
  cases h1:Af ds with
  |none=>simp[h1]at e
  |some ks=>
   obtain rfl:D.bl (ks.any id)=d:=by simpa[h1]using e
   obtain⟨x,rfl,rx⟩:=r.inv1;rw[Rep]at rx;obtain⟨a,ys,M,rfl,Z,hs⟩:=rx;have:=wQ h1 Z;subst this;exact⟨a,ks,rfl,hs.sq,q.scal λ_=>fL⟩
 .cases e⟩
def PQ:List D->Option D
 |[.non]=>ac (.str "None")
 |[.bl b]=>ac (.str (if b then "True" else "False"))
 |[.int i]=>if i.natAbs.log2<1920 then ac (.str (toString i))else af
 |[.str x]=>ac (.str x)
 |[d]=>if g_ d=ag/\(pyD (dt d)).depth<=50/\(pyD (dt d)).showable=ag/\(pyD (dt d)).shown.length<=Z0 then ac (.str (pyD (dt d)).shown)else af
 |_=>af
def Qj{x:Str}:Rep G H W 2.89 2.89 []:=by rw[Rep];exact⟨rfl,rfl⟩
def Vm:D->Bool
 |.non=>ag
 |.bl _=>ag
 |.int _=>ag
 |.str _=>ag
 |_=>ae
def Vg(h:Vm d=ag)(r:Rep G H W d v L):L=[]/\∀H' W',Rep G H' W' d v []:=by
 cases d<;>simp[Vm]at h<;>rw[Rep]at r<;>obtain⟨rfl,rfl⟩:=r<;>exact⟨rfl,λ_ _=>by rw[Rep];exact⟨rfl,rfl⟩⟩
def j9(g g':D->D->Option D)(fa fb fc:En->Option D):En->Option D:=λρ=>(fa ρ).bind λx=>(fb ρ).bind λy=>if Vm y then(g x y).bind λr=>match r with
 |.bl ag=>(fc ρ).bind λz=>g' y z
 |.bl ae=>ac (.bl ae)
 |_=>af else af
def NQ{r r':R2}{g g':D->D->Option D}{tb tc:TE}{fa fb fc:En->Option D}(F:OpV G r g)(a0:OpV G r' g')(Y:RfE G ob ta fa)(U:RfE G ob tb fb)(O:RfE G ob tc fc):RfE G ob (K7 r r' ta tb tc) (j9 g g' fa fb fc):=λρ d e σ H W rl w Q q=>by
 unfold j9 at e;cases h1:fa ρ with
 |none=>simp[h1]at e
 |some dx=>
  cases h2:fb ρ with
  |none=>simp[h1,h2]at e
  |some dy=>
   rw[h1,h2]at e;simp![gD]at e;split at e
   .rename_i hsc
    cases h3:g dx dy with
    |none=>simp[h3]at e
    |some dr=>
     rw[h3]at e;simp![gD]at e;refine RfE.two Y U h1 h2 rl w λx y H' L M s rx ry fr nd w'=>?_;obtain⟨rfl,V⟩:=Vg hsc ry;refine F dx dy dr h3 x y H' _ L [] rx ry nd (w.tmp fr) w' _ λv H2 L2 I r2 f2 n2=>?_;split at e
     .obtain⟨rfl,rfl⟩:=mG r2
      refine⟨ag,rfl,uY ?_⟩;cases Z:fc ρ with
      |none=>simp[Z]at e
      |some dz=>
       have e:g' dy dz=ac d:=by simpa[Z]using e
       have u2:Up H H2 W W:=.same (s.trans I);have w2:WOk H2 W:=λa Y=>let⟨o,F,hm⟩:=w a Y;⟨o,(s.trans I) a o F,hm⟩;refine O ρ dz Z σ H2 W (rl.up u2) w2 _ λz H3 L3 J r3 f3 n3=>?_;refine a0 dy dz d e y z H3 (W.add L3) [] L3 (V _ _) r3 (by simpa using n3) (w2.tmp f3) (w2.add J r3.dom) Q λv' H4 L4 s4 r4 f4 n4=>?_;refine q v' H4 L4 (((s.trans I).trans J).trans s4) ?_ (λa Y=>(f4 a Y).elim (λz=>(s.trans I).none' (f3 a z)) λz=>((s.trans I).trans J).none' z) n4;exact r4.up ⟨Same.refl _,λb u U f=>⟨λz=>z.elim (λz=>f.1 2.29) λz=>f.1 (.inr ⟨.inr z,WOk.new w2 f3 z⟩),f.2⟩,λ_ _ _ f=>f⟩
     .cases e
      obtain⟨rfl,rfl⟩:=mG r2;exact⟨ae,rfl,Ax (q (.bl ae) H2 [] (s.trans I) fL (by simp) aaq)⟩
     .cases e
   .cases e
variable{a b c:Expr}
def yU{q:CmpOp}{g g':D->D->Option D}{fa fb fc:En->Option D}(o:OpB X G (aar op) g)(o':OpB X G (aar q) g')(Y:PV X G ob a fa)(U:PV X G ob b fb)(O:PV X G ob c fc)(J:lastMarks [op,q] [b,c]=ae:=by with_unfolding_all rfl):PVT X G ob (.Compare a [op,q] [b,c] pos) (eB (j9 g g' fa fb fc)):=
 let⟨r,o1,o2⟩:=o.ex;let⟨r',p1,p2⟩:=o'.ex;let⟨t,a1,a2⟩:=Y.ex;let⟨u,b1,b2⟩:=U.ex;let⟨v,c1,c2⟩:=O.ex;⟨_,λc=>Ms (o1 c) (p1 c) (a1 c) (b1 c) (c1 c) J,Y0 (NQ o2 p2 a2 b2 c2)⟩
def ZQ(g:Int->Int->Int)(i:Nat)(f:En->Option D):En->Option Fl:=λρ=>match ρ[i]? with
 |some (ac (.int m))=>(f ρ).bind λd=>match d with
  |.int n=>ac (.nx (ρ.set i (ac (.int (g m n)))))
  |_=>af
 |_=>af
def Vl(G:Gc)(ob:Nat->Bool)(wi:TI)(f:En->Option (List D×En)):Prop:=∀(ρ:En)(items:List D)(ρ':En),f ρ=ac (items,ρ')->∀(σ:L2.St)(H:Hp)(S:Ad)(Fr:Addr->Prop),Sta G H ob ρ σ S Fr->∀R:It->Hp->Prop,
 (∀J H' S',Sta G H' ob ρ' σ S' Fr->Eff ob H H' S S' []->Wk G J (LtB ag H' (wn ob S' Fr)) items->R J H')->wi σ H R
structure XS{ι:Type}(X:ι->Cx)(G:Gc)(ob:Nat->Bool)(tg it:Expr)(f:En->Option (List D×En)):Prop where
 mk::(ex:∃t,(∀c,PI (X c) tg it t)/\Vl G ob t f)
def j5(f:En->Option (List D×En)):En->Option (List D×En):=λρ=>(f ρ).bind λp=>match p.1 with
 |[.int j]=>if -(2 ^ 62)<=j/\j<2 ^ 62 then ac (jd 0 j.toNat,p.2)else af
 |_=>af
variable{f:En->Option (List D×En)}
def SJ{t:TA}(h:DY G ob t f):Vl G ob (MK t) (j5 f):=λρ items ρ' e σ H S Fr s R q=>by
 unfold j5 at e;cases h1:f ρ with
 |none=>simp[h1]at e
 |some p=>
  obtain⟨ds,ρ1⟩:=p;rw[h1]at e;simp![gD]at e;split at e
  .rename_i j
   split at e
   .rename_i hj
    obtain⟨rfl,rfl⟩:jd 0 j.toNat=items/\ρ1=ρ':=by simpa using e
    refine h ρ _ _ h1 σ H S Fr s _ λxs H' L S' s' rx nd I=>?_;obtain⟨x,rfl,F⟩:=rx.inv1;obtain⟨rfl,rfl⟩:=aW F;rw[jV]at s';exact⟨j,rfl,by omega,by omega,q _ H' S' s' I PX⟩
   .cases e
  .cases e
def lw(it:En->Option (List D×En))(tg:D->En->Option En)(body:En->Option Fl):En->Option Fl:=λρ=>(it ρ).bind λp=>forL tg body p.1 p.2
variable{it:En->Option (List D×En)}
def Lr{g:TG}(hi:Vl G ob wi it)(hg:RfG G ob P g tg)(U:RfS G ob P tb body):RfS G ob P (QF wi g tb) (lw it tg body):=λρ0 r e σ H0 S0 Fr s0 E q=>by
 unfold lw at e;cases h1:it ρ0 with
 |none=>simp[h1]at e
 |some p=>
  obtain⟨items,ρ⟩:=p;have e:forL tg body items ρ=ac r:=by simpa[h1]using e
  refine hi ρ0 items ρ h1 σ H0 S0 Fr s0 _ λJ H1 S Z ef wk=>?_;have m1:Mv P H0 H1 σ σ S0 S []:=ef.mv;have q1:=q.from m1;have a0:∀{ρ2:En}{σ2:L2.St}{H2:Hp}{S2:Ad},Mv P H1 H2 σ σ2 S S2 []->LtB ag H1 2.48 H2 (wn ob S2 Fr):=λm=>uY (Gj Z m);refine⟨λi m σ2 H2=>i+m=items.length/\∃ρ2 S2,Sta G H2 ob ρ2 σ2 S2 Fr/\Mv P H1 H2 σ σ2 S S2 []/\forL tg body (items.drop i) ρ2=ac r,⟨items.length,by omega,ρ,S,Z,.refl,e⟩,?_⟩;rintro i m σ2 H2 ⟨a7,ρ2,S2,I,m2,e2⟩;by_cases a4:i<items.length
  .refine .inr ⟨wk.go i items[i] (by simp[a4]) H2 _ (a0 (ρ2:=ρ2) m2),λF H'=>(i+1)+(m-1)=items.length/\∃ρ2 S2,Sta G H' ob ρ2 F S2 Fr/\Mv P H1 H' σ F S S2 []/\forL tg body (items.drop (i+1)) ρ2=ac r,λF H' h=>⟨m-1,by omega,h⟩,λx Y V=>?_⟩
   obtain⟨s3,rx⟩:=wk.yld i items[i] (by simp[a4]) H2 _ (a0 (ρ2:=ρ2) m2) x Y V;rw[←abo a4,forL]at e2;cases O:tg items[i] ρ2 with
   |none=>simp[O]at e2
   |some a3=>
    rw[O]at e2;simp![gD]at e2;have a6:Sta G Y ob ρ2 σ2 S2 Fr:=I.grow s3 λa z=>.inl z;refine hg items[i] ρ2 a3 O x σ2 Y S2 [] Fr (by rw[jV];exact a6) (by rw[jV];exact rx) aaq (by simp) _ λa5 H4 S4 s4 m4=>?_;have a2:Mv P H1 H4 σ a5 S S4 []:=(m2.trans (S2:=S2) ⟨λb u h _ _=>s3 b u h,λi a z=>.inl ⟨i,z⟩,.refl⟩).trans m4;cases h5:body a3 with
    |none=>rw[h5]at e2;cases e2
    |some fl=>
     rw[h5]at e2;refine U a3 fl h5 a5 H4 S4 Fr s4 _ ?_;cases fl with
     |nx a1=>exact λF H' S' s' m'=>⟨by omega,a1,S',s',a2.trans m',e2⟩
     |cnt a1=>exact λF H' S' s' m'=>⟨by omega,a1,S',s',a2.trans m',e2⟩
     |brk a1=>cases e2;exact λF H' S' s' m'=>q1 F H' S' s' (a2.trans m')
     |ret d a1=>cases e2;exact q1.from a2
  .have hl:i=items.length:=by omega
   rw[hl,abC,forL]at e2;cases e2;subst hl;exact .inl ⟨wk.stop H2 _ (a0 (ρ2:=ρ2) m2),q1 σ2 H2 S2 I m2⟩
theorem qZ{tg iter:Expr}{body:List Stmt}{g:D->En->Option En}{f:En->Option Fl}(V:∀c,ad4 (model (X c).prog (X c).w) (X c).A (X c).env (X c).xe)(O:∀c,(X c).calm=ag)(hi:XS X G ob tg iter it)(F:PVG X G ob P tg g)(U:o5 X G ob P body f)(hs:∀c,∀x,aba iter (X c).env x=pure x:=by intro _;intro _;rfl):PVS X G ob P (.For tg iter body [] pos) (lw it g f):=let⟨v,c1,c2⟩:=hi.ex;let⟨t,a1,a2⟩:=F.ex;let⟨u,b1,b2⟩:=U.ex;⟨_,λc=>F_ (V c) (O c) (c1 c) (a1 c) (b1 c) (hs c),Lr c2 a2 b2⟩
def vh{tg:Expr}{p:Pos}(F:∀c,Gl (X c) "range")(J:∀c,(X c).mg "range"=af)(Y:wu X G ob [a] f)(hs:∀c,Z1 [a] (X c).env=[(ae,eval a (X c).env)]:=by intro _;rfl):XS X G ob tg (.Call (.Name "range" p) [a] [] pos) (j5 f):=let⟨t,a1,a2⟩:=Y.ex;⟨_,λc=>yh (F c) (J c) (a1 c) (hs c),SJ a2⟩
def Xm(own:Nat->Bool)(cap:List 2.12):Bool:=(aaG cap.length).all λi=>!own i||(match cap[i]? with
 |some af=>ag
 |_=>ae)
def fH{own:Nat->Bool}{cap:List 2.12}(h:Xm own cap=ag):∀i:Nat,own i=ag->cap[i]?≠af->cap[i]? =ac af:=λi F hn=>by
 have hi:i<cap.length:=by
  by_cases z:i<cap.length
  .exact z
  .exact absurd (adC 1.10) hn
 have:=abU.mp h i (acx.mpr hi);rw[F]at this;simp![aek,afq]at this;split at this
 .assumption
 .cases this
def Ri(cap:List 2.12):Bool:=(aaG cap.length).all λi=>(aaG cap.length).all λk=>match cap[i]?,cap[k]? with
 |some (ac a),ac (ac b)=>!(a==b)||i==k
 |_,_=>ag
def Sw{cap:List 2.12}(h:Ri cap=ag):qC cap:=λi k j h1 h2=>by
 have hi:i<cap.length:=(List.getElem?_eq_some_iff.mp h1).1;have I:k<cap.length:=(List.getElem?_eq_some_iff.mp h2).1;have:=abU.mp (abU.mp h i (acx.mpr hi)) k (acx.mpr I);rw[h1,h2]at this;simpa using this
def KpS(i:Nat)(f:En->Option (α×En)):Prop:=∀ρ q,f ρ=ac q->q.2[i]? =ρ[i]?
def FW{f:En->Option D}:KpS i (eUp f):=λρ q h=>by
 unfold eUp at h;cases e:f ρ with
 |none=>simp[e]at h
 |some d=>
  obtain rfl:(d,ρ)=q:=by simpa[e]using h
  rfl
def zK{f:En->Option 2.79}:KpS i (bF f):=λρ q h=>by
 unfold bF at h;cases e:f ρ with
 |none=>simp[e]at h
 |some d=>
  obtain rfl:(d,ρ)=q:=by simpa[e]using h
  rfl
def xu{f:En->Option (D×En)}{g:En->Option (List D×En)}(h1:KpS i f)(h2:KpS i g):KpS i (bQ f g):=λρ q h=>by
 unfold bQ at h;cases e1:f ρ with
 |none=>simp[e1]at h
 |some p=>
  cases e2:g p.2 with
  |none=>simp[e1,e2]at h
  |some r=>
   rw[e1]at h;simp![gD,e2]at h;split at h
   .cases h
    exact(h2 _ _ e2).trans (h1 _ _ e1)
   .cases h
def FZ{g:List D->Option D}(h1:KpS i f):KpS i (mY g f):=λρ q h=>by
 unfold mY at h;cases e1:f ρ with
 |none=>simp[e1]at h
 |some p=>
  cases e2:g p.1 with
  |none=>simp[e1,e2]at h
  |some r=>
   obtain rfl:(r,p.2)=q:=by simpa[e1,e2]using h
   exact h1 ρ p e1
def O9{g:D->D->Option D}{f z:En->Option (D×En)}(h1:KpS i f)(h2:KpS i z):KpS i (ee2 g f z):=λρ q h=>by
 unfold ee2 at h;cases e1:f ρ with
 |none=>simp[e1]at h
 |some p=>
  cases e2:z p.2 with
  |none=>simp[e1,e2]at h
  |some r=>
   rw[e1]at h;simp![gD,e2]at h;split at h
   .cases e3:g p.1 r.1 with
    |none=>simp[e3]at h
    |some d=>
     obtain rfl:(d,r.2)=q:=by simpa[e3]using h
     exact(h2 _ _ e2).trans (h1 _ _ e1)
   .cases h
def Qc{g:D->Option D}{f:En->Option (D×En)}(h1:KpS i f):KpS i (ee1 g f):=λρ q h=>by
 unfold ee1 at h;cases e1:f ρ with
 |none=>simp[e1]at h
 |some p=>
  cases e2:g p.1 with
  |none=>simp[e1,e2]at h
  |some r=>
   obtain rfl:(r,p.2)=q:=by simpa[e1,e2]using h
   exact h1 ρ p e1
def Ff{F:List D->Option (D×List D)}(U:js.contains i=ae)(h1:KpS i f):KpS i (eIo F js f):=λρ q h=>by
 unfold eIo at h;split at h
 .cases e1:f ρ with
  |none=>simp[e1]at h
  |some p=>
   cases e2:objs js p.2 with
   |none=>simp[e1,e2]at h
   |some os=>
    rw[e1]at h;simp![gD,e2]at h;split at h
    .cases e3:F (os++fzL p.1)with
     |none=>simp[e3]at h
     |some r=>
      rw[e3]at h;simp![gD]at h;split at h
      .cases h
       exact(Cu λz=>by simp[z]at U).trans (h1 _ _ e1)
      .cases h
    .cases h
 .cases h
def Fe{f:En->Option (D×En)}{fl F:En->Option (Option Int)}(h1:KpS i f):KpS i (IK g f fl F):=λρ q h=>by
 unfold IK at h;cases e1:f ρ with
 |none=>simp[e1]at h
 |some p=>
  cases e2:fl p.2 with
  |none=>simp[e1,e2]at h
  |some a=>
   cases Y:F p.2 with
   |none=>simp[e1,e2,Y]at h
   |some b=>
    cases z:g p.1 a b with
    |none=>simp[e1,e2,Y,z]at h
    |some d=>
     obtain rfl:(d,p.2)=q:=by simpa[e1,e2,Y,z]using h
     exact h1 ρ p e1
def Wp(o:Option α)(Q:α->Prop):Prop:=∃a,o=ac a/\Q a
variable{a:α}{Q:α->Prop}
def aN:Wp (ac a) Q↔Q a:=⟨λ⟨b,e,q⟩=>by cases e;exact q,λq=>⟨a,rfl,q⟩⟩
def Bv:Wp (af:Option α) Q↔False:=⟨λ⟨b,e,q⟩=>(by cases e),λz=>z.elim⟩
variable{o:Option α}{R:β->Prop}
def aQ{f:α->Option β}:Wp (o.bind f) R↔Wp o λa=>Wp (f a) R:=by
 cases o with
 |none=>simp[Bv]
 |some a=>simp[aN]
variable{f:α->β}
def cI:Wp (o.map f) R↔Wp o λa=>R (f a):=by
 cases o with
 |none=>simp[Bv]
 |some a=>simp[aN]
def w_ite{c:Prop}[Decidable c]{a b:Option α}:Wp (if c then a else b) Q↔(if c then Wp a Q else Wp b Q):=by
 split<;>exact Iff.rfl
def Wp.mono{z:α->Prop}(h:Wp o Q)(k:∀a,Q a->z a):Wp o z:=let⟨a,e,q⟩:=h;⟨a,e,k a q⟩
def Wp.eq(h:Wp o λx=>x=a):o=ac a:=let⟨b,e,q⟩:=h;by rw[e,q]
variable{Q:Fl->Prop}
def rC{f g:En->Option Fl}:Wp (aU f g ρ) Q↔Wp (f ρ) λr=>match r with
 |.nx ρ'=>Wp (g ρ') Q
 |.ret d ρ'=>Q (.ret d ρ')
 |.brk ρ'=>Q (.brk ρ')
 |.cnt ρ'=>Q (.cnt ρ'):=by
 unfold aU;cases f ρ with
 |none=>simp[Bv]
 |some r=>cases r<;>simp[aN]
def Uo(I:Nat->En->Prop):∀{items:List D}{ρ:En}{k:Nat},I k ρ->
  (∀(i:Nat)(d:D)(ρ:En),items[i]? =ac d->I (k+i) ρ->Wp (tg d ρ) λρ1=>Wp (body ρ1) λr=>match r with
   |.nx ρ2=>I (k+i+1) ρ2
   |.cnt ρ2=>I (k+i+1) ρ2
   |.brk ρ2=>Q (.nx ρ2)
   |.ret d ρ2=>Q (.ret d ρ2))->
  (∀ρ,I (k+items.length) ρ->Q (.nx ρ))->Wp (forL tg body items ρ) Q
 |[],ρ,k,h0,_,h=>by rw[forL];exact aN.mpr (h ρ h0)
 |d::r,ρ,k,h0,hs,h=>by
  rw[forL];obtain⟨ρ1,e1,w⟩:=hs 0 d ρ rfl h0;obtain⟨fl,e2,w⟩:=w;rw[e1,gD,e2];have F:∀{ρ2:En},I (k+1) ρ2->Wp (forL tg body r ρ2) Q:=λq=>Uo I q (λi d ρ hi q=>by
   have:=hs (i+1) d ρ (by simpa using hi) (by rw[show k+(i+1)=k+1+i by omega];exact q);rw[show k+(i+1)+1=k+1+i+1 by omega]at this;exact this) λρ q=>h ρ (by rw[Z4,show k+(r.length+1)=k+1+r.length by omega];exact q)
  cases fl with
  |nx ρ2=>exact F w
  |cnt ρ2=>exact F w
  |brk ρ2=>exact aN.mpr w
  |ret d ρ2=>exact aN.mpr w
variable{c:En->Option Bool}
def gF{tg:D->En->Option En}{c:En->Option Bool}{e:En->Option D}{ρ0:En}{p:D->Bool}{f:D->D}:∀{items:List D},(∀d∈items,Wp (tg d ρ0) λρ1=>c ρ1=ac (p d)/\(p d=ag->e ρ1=ac (f d)))->gP tg c e ρ0 items=ac ((items.filter p).map f)
 |[],_=>rfl
 |d::r,h=>by
  obtain⟨ρ1,e1,h1,h2⟩:=h d (by simp);have F:=gF (tg:=tg) (c:=c) (e:=e) (ρ0:=ρ0) (p:=p) (f:=f) (items:=r) λx J=>h x (by simp[J]);rw[gP];cases V:p d with
  |false=>simp[e1,h1,V,F]
  |true=>simp[e1,h1,V,h2 V,F]
variable{e:En->Option (D×En)}{Q:List D×En->Prop}
def Ij{cap:List 2.12}(I:Nat->List D->En->Prop):∀{items:List D}{ρ:En}{k:Nat}{acc:List D},I k acc ρ->
  (∀(i:Nat)(d:D)(acc:List D)(ρ:En),items[i]? =ac d->I (k+i) acc ρ->Wp (tg d 2.94) λρ1=>Wp (c ρ1) λb=>if b=ag then Wp (e ρ1) λp=>clean p.1=ag/\I (k+i+1) (acc++[p.1]) (jh cap p.2 ρ)else I (k+i+1) acc ρ)->
  (∀ys ρ,I (k+items.length) ys ρ->Q (ys,ρ))->Wp 2.216 λt=>Q (acc++t.1,t.2)
 |[],ρ,k,acc,h0,_,h=>by rw[jT];exact aN.mpr (by rw[List.append_nil];exact h acc ρ h0)
 |d::r,ρ,k,acc,h0,hs,h=>by
  rw[jT];obtain⟨ρ1,e1,b,e2,w⟩:=hs 0 d acc ρ rfl h0;rw[e1,gD,e2,gD];have F:∀{ρ2:En}{acc:List D},I (k+1) acc ρ2->Wp (jT cap tg c e r ρ2) λt=>Q (acc++t.1,t.2):=λq=>Ij I q (λi d acc ρ hi q=>by
   have:=hs (i+1) d acc ρ (by simpa using hi) (by rw[show k+(i+1)=k+1+i by omega];exact q);rw[show k+(i+1)+1=k+1+i+1 by omega]at this;exact this) λys ρ q=>h ys ρ (by rw[Z4,show k+(r.length+1)=k+1+r.length by omega];exact q)
  cases b with
  |false=>
   simp![aa9,ab2]at w⊢;exact F w
  |true=>
   simp![aal]at w⊢;obtain⟨p,Y,O,q⟩:=w;rw[Y,gD,if_pos O];rw[cI];refine(F q).mono λt U=>?_;simpa using U
def fB(l:List Str):aF 2.7=ag:=cF λd hd=>by obtain⟨x,_,rfl⟩:=List.mem_map.mp hd;rfl
def cY(l:List Str):aD 2.7=ag:=cG λd hd=>by obtain⟨x,_,rfl⟩:=List.mem_map.mp hd;rfl
def fO(b:Bool)(l:List Str):dW b 2.7=l.map D.str:=by rw[fP,Z5];rfl
def oJ(l:List Str):fzL 2.7=l.map D.str:=by rw[gq,Z5];rfl
def sr(l:List Str):iV 2.7=l.map D.str:=by rw[iT,Z5];rfl
def BZ{β:Type}{f:α->β}{l:List α}{i:Int}(z:0<=i)(h1:i<l.length):∃x,x∈l/\l[i.toNat]? =ac x/\atI (l.map f) i=ac (f x):=by
 have:i.toNat<l.length:=by omega
 refine⟨l[i.toNat],abh _,by simp[this],?_⟩;unfold atI ixN;rw[if_pos z,if_pos (by simpa using h1)];simp[this]
def oK{lo:Int}:(jd lo n).length=n:=by simp[jd]
def filter_tt(l:List α):l.filter (λ_=>ag)=l:=by simp
def oG(h:(jd 0 n)[i]? =ac d):i<n/\d= .int (i:Int):=by
 have hi:i<n:=by have:=(List.getElem?_eq_some_iff.mp h).1;simpa[jd]using this
 refine⟨hi,?_⟩;unfold jd at h;rw[List.getElem?_map,afv hi]at h;simpa using h.symm
abbrev Jt:=Str×Str×Int
def jD(j:Jt):D:=.tup [.str j.1,.str j.2.1,.int j.2.2]
def vO(l:List Jt):aF (l.map jD)=ag:=cF λd hd=>by obtain⟨x,_,rfl⟩:=List.mem_map.mp hd;rfl
def uw(l:List Jt):aD (l.map jD)=ag:=cG λd hd=>by obtain⟨x,_,rfl⟩:=List.mem_map.mp hd;rfl
def Hr(b:Bool)(l:List Jt):dW b (l.map jD)=l.map jD:=by rw[fP,Z5];rfl
def wC(l:List Jt):fzL (l.map jD)=l.map jD:=by rw[gq,Z5];rfl
def HF(l:List Jt):iV (l.map jD)=l.map jD:=by rw[iT,Z5];rfl
def HR:∀l:List Jt,gw (l.map jD)=ag
 |[]=>rfl
 |j::r=>by simp[gw,jD,g_,HR r]
def oH:∀l:List Str,gw 2.7=ag
 |[]=>rfl
 |j::r=>by simp[gw,g_,oH r]
def eq_int{i j:Int}:gEq 2.72 (.int j)=ac (.bl (decide (i=j))):=by
 unfold gEq;rw[if_pos ⟨rfl,rfl,.sc (.int i j)⟩];simp[dt,eqD];exact abe.mpr (by simp)
variable{items:List D}
def MT{cap:List 2.12}(I:Nat->List D->En->Prop)(z:I 0 [] ρ)
  (hs:∀(i:Nat)(d:D)(acc:List D)(ρ:En),items[i]? =ac d->I i acc ρ->Wp (tg d 2.94) λρ1=>Wp (c ρ1) λb=>if b=ag then Wp (e ρ1) λp=>clean p.1=ag/\I (i+1) (acc++[p.1]) (jh cap p.2 ρ)else I (i+1) acc ρ)
  (h:∀ys ρ,I items.length ys ρ->Q (ys,ρ)):Wp 2.216 Q:=by
 have:=Ij (cap:=cap) (tg:=tg) (c:=c) (e:=e) (Q:=Q) I (items:=items) (ρ:=ρ) (k:=0) (acc:=[]) z (λi d acc ρ hi q=>by
  rw[abz]at q⊢;exact hs i d acc ρ hi q) λys ρ q=>h ys ρ (by rw[abz]at q;exact q)
 simpa using this
variable{Q:Fl->Prop}
def iw(I:Nat->En->Prop)(z:I 0 ρ)
  (hs:∀(i:Nat)(d:D)(ρ:En),items[i]? =ac d->I i ρ->Wp (tg d ρ) λρ1=>Wp (body ρ1) λr=>match r with
   |.nx ρ2=>I (i+1) ρ2
   |.cnt ρ2=>I (i+1) ρ2
   |.brk ρ2=>Q (.nx ρ2)
   |.ret d ρ2=>Q (.ret d ρ2))
  (h:∀ρ,I items.length ρ->Q (.nx ρ)):Wp (forL tg body items ρ) Q:=
 Uo (k:=0) I z (λi d ρ hi q=>by
  rw[abz]at q⊢;exact hs i d ρ hi q) λρ q=>h ρ (by rw[abz]at q;exact q)
def bZ{f g:En->Option Fl}(P:En->Prop)(h1:∀z:Fl->Prop,(∀ρ',P ρ'->z (.nx ρ'))->Wp (f ρ) z)(h2:∀ρ',P ρ'->Wp (g ρ') Q):Wp (aU f g ρ) Q:=by
 rw[rC];exact h1 _ λρ' h=>h2 ρ' h
def nP{f g:En->Option Fl}(P:En->Prop)(R:D->Prop)(h1:∀z:Fl->Prop,(∀ρ',P ρ'->z (.nx ρ'))->(∀d ρ',R d->z (.ret d ρ'))->Wp (f ρ) z)(h2:∀ρ',P ρ'->Wp (g ρ') Q)(O:∀d ρ',R d->Q (.ret d ρ')):Wp (aU f g ρ) Q:=by
 rw[rC];exact h1 _ (λρ' h=>h2 ρ' h) λd ρ' h=>O d ρ' h
def Xj(j:Jt):gSl (jD j) af (ac 2)=ac (.tup [.str j.1,.str j.2.1]):=rfl
open PySem PySem.W PyProof.Rows
section
variable(ρ:Nat->Int)
abbrev bk:Nat->Nat->Bool:=λi j=>decide (ρ i<ρ j)
end
def strsOf:List D->Option 2.10
 |[]=>ac []
 |.str x::r=>(strsOf r).map λt=>x::t
 |_=>af
def zb:∀{ds:List D}{k:List Str},strsOf ds=ac k->ds=k.map D.str
 |[],k,h=>by cases h;rfl
 |d::r,k,h=>by
  cases d<;>simp![strsOf]at h<;>try cases h
  cases e:strsOf r with
  |none=>rw[e]at h;cases h
  |some t=>rw[e]at h;cases h;rw[zb e];rfl
def GQ{Q:VK}(Z:aJ G H W ds xs M)(s:∀a∈M,a∈I)(nd:M.Nodup)(hn:∀a∈I,W.tmp a)(hp:H p=af)(q:Done G H W I 2.40 Q):Q 2.49 (upd H p 2.44):=by
 have J:Same H (upd H p 2.44):=Same.new hp;have O:p∉M:=λz=>by obtain⟨o,F,_⟩:=Z.dom p z;rw[hp]at F;cases F
 refine q 2.49 _ (p::M) J ?_ (λa Y=>(Z2.mp Y).elim (λz=>.inr (by rw[z];exact hp)) λz=>.inl (s a z)) (aah.mpr ⟨O,nd⟩);rw[Rep];exact⟨p,xs,M,rfl,Z.up ⟨J,λb u U f=>⟨λz=>z.elim (λz=>(Z2.mp z).elim (λz=>by rw[z,hp]at U;cases U) λz=>f.1 (hn b (s b z)).1) λz=>f.1 z.1,f.2⟩,λ_ _ _ f=>f⟩,aR,rfl⟩
def Dw:∀{k:List Str}{xs:List V}{M:List Addr},aJ G H W (k.map D.str) xs M->xs=k.map V.str
 |[],xs,M,r=>r.inv0.1
 |x::k,xs,M,r=>by
  obtain⟨y,ys,A,B,rfl,_,z,q⟩:=r.inv;rw[(cM z).1,Dw q];rfl
def rQ{env:Env}{x:Str}:∀{names:List (Str×abH)},(names.lookup x=ac .cell∨names.lookup x=ac .free)->(names.map λ(n,k)=>if(k==adp&&env.scope.kind== .function&&env.kindOf n==ac .cell)then(n,abA)else(n,k)).lookup x=ac .cell∨(names.map λ(n,k)=>if(k==adp&&env.scope.kind== .function&&env.kindOf n==ac .cell)then(n,abA)else(n,k)).lookup x=ac .free
 |[],h=>by simp at h
 |(n,k)::r,h=>by
  rw[ZX];by_cases e:x=n
  .subst e
   have h:k= .cell∨k= .free:=by simpa using h
   dsimp only;split
   .exact .inl (by simp)
   .rcases h with h|h<;>subst h
    .exact .inl (by simp)
    .exact .inr (by simp)
  .have hne:(x==n)=ae:=by simpa using e
   rw[aaV,hne]at h;have F:=rQ (env:=env) h;dsimp only;split<;>(rw[aaV,hne];exact F)
def cJ.rel{z:Scope}{cap:List 2.12}(O:cJ z N N' scope cap):cJ (relabel z env) N N' scope cap:=⟨O.kind,O.cellnm,O.nm,λy V I=>rQ (O.free y V I),O.len,O.cap⟩
def uE:List D->Option D
 |[]=>ac (.dct .own [] [])
 |_=>af
def R1:CaV G (λxs H Q=>∀p,H p=af->Q 2.49 (upd H p (.dK []))) uE:=λds d e xs H W I r nd hn w Q q=>by
 unfold uE at e;split at e
 .cases e
  intro p V;have J:Same H (upd H p (.dK [])):=Same.new V;refine q 2.49 _ [p] J ?_ (λa Y=>.inr (by rw[aab.mp Y];exact V)) (aah.mpr ⟨by simp,aaq⟩);rw[Rep];exact⟨p,[],[],rfl,⟨rfl,aaq⟩,.nil,aR,rfl⟩
 .cases e
def vq:PV X G ob (.Dict [] [] pos) (eAp uE au):=⟨_,λc=>Ow,wG R1 Fv⟩
def CZ:∀ys:List Str,aJ G H W (ys.map D.str) (ys.map V.str) []
 |[]=>.nil
 |x::r=>aJ.cons (M:=[]) (M':=[]) vo (CZ r)
def Ir(es:List (Key×D)):Option D:=if(es.map (·.1)).Nodup then ac (.dct .own (es.map (·.1)) (es.map (·.2)))else af
def Rm(h:k∉ks):c7 ks k=af:=aay.mpr λx J=>by
 have:x≠k:=λz=>h (z▸J);simpa using this
def Sg(e:dm d=ac k)(r:Rep G H W d x L):x=kV k/\L=[]:=by
 cases d with
 |int i=>cases e;rw[Rep]at r;exact r
 |str i=>cases e;rw[Rep]at r;exact r
 |_=>cases e
def yX:En->Option (List (Key×D)):=λ_=>ac []
def qD(V q:En->Option D)(O:En->Option (List (Key×D))):En->Option (List (Key×D)):=λρ=>((V ρ).bind dm).bind λk=>(q ρ).bind λx=>(O ρ).map λr=>(k,x)::r
def wX(f:En->Option (List (Key×D))):En->Option D:=λρ=>(f ρ).bind λes=>if es.length<=15/\aF (es.map (·.2))=ag/\aD (es.map (·.2))=ag then Ir es else af
def Nh(G:Gc)(ob:Nat->Bool)(t:List (TE×TE))(f:En->Option (List (Key×D))):Prop:=∀(ρ:En)(es:List (Key×D)),f ρ=ac es->∀(σ:L2.St)(H:Hp)(W:Wn),Rel G H W ob ρ σ->WOk H W->∀Q:List (V×V)->Hp->Prop,
 (∀(J:List V) H' L,J.length=es.length->Same H H'->aJ G H' 2.55 (es.map (·.2)) J L->(∀a∈L,H a=af)->L.Nodup->Q ((aeD (es.map (·.1)) J).map λkv=>(kV kv.1,kv.2)) H')->z6 t σ H Q
structure Rk{ι:Type}(X:ι->Cx)(G:Gc)(ob:Nat->Bool)(pos:Pos)(ks:List (Option Expr))(vs:List Expr)(f:En->Option (List (Key×D))):Prop where
 mk::(ex:∃t,(∀c,PPs (X c) pos ks vs t)/\Nh G ob t f)
def S6:Nh G ob [] yX:=λρ es e σ H W J w Q q=>by
 cases e;exact q [] H [] rfl 2.64 .nil (by simp) aaq
variable{t:List (TE×TE)}
def Np{tk tv:TE}{V fv:En->Option D}{fr:En->Option (List (Key×D))}(I:RfE G ob tk V)(hv:RfE G ob tv fv)(Z:Nh G ob t fr):Nh G ob ((tk,tv)::t) (qD V fv fr):=λρ es e σ H W J w Q q=>by
 unfold qD at e;cases h1:V ρ with
 |none=>simp[h1]at e
 |some dk=>
 cases h2:dm dk with
 |none=>simp[h1,h2]at e
 |some k=>
 cases O:fv ρ with
 |none=>simp[h1,h2,O]at e
 |some dv=>
 cases h4:fr ρ with
 |none=>simp[h1,h2,O,h4]at e
 |some rs=>
  obtain rfl:(k,dv)::rs=es:=by simpa[h1,h2,O,h4]using e
  refine I ρ dk h1 σ H W J w _ λxk H0 L0 s0 rk a1 nk=>?_;obtain⟨rfl,rfl⟩:=Sg h2 rk;refine hv ρ dv O σ H0 W (J.up (Up.same s0)) (w.up s0) _ λx H1 L s1 rx fx nx=>?_;have u1:Up H0 H1 W (W.add L):=.add s1 fx;have w1:WOk H1 (W.add L):=(w.up s0).add s1 rx.dom;refine Z ρ rs h4 σ H1 2.55 ((J.up (Up.same s0)).up u1) w1 _ λys H2 M hl s2 ry fy ny=>?_;have a0:∀a∈L,a∉M:=λa h1 h2=>by
   obtain⟨o,F,_⟩:=rx.dom a h1;rw[fy a h2]at F;cases F
  have u2:Up H1 H2 2.55 (W.add (L++M)):=⟨s2,λb u U f=>⟨λz=>z.elim (λz=>(Ls.mp z).elim (λz=>f.1 2.29) λz=>by rw[fy b z]at U;cases U) λz=>f.1 2.42,f.2⟩,λ_ _ _ f=>f⟩;refine q (x::ys) H2 (L++M) (by simp[hl]) ((s0.trans s1).trans s2) (.cons (rx.up u2) (ry.up ⟨Same.refl _,λb u U f=>⟨λz=>?_,f.2⟩,λ_ _ _ f=>f⟩)) (λa Y=>?_) (fD nx ny a0)
  .rcases z with z|z
   .exact(Ls.mp z).elim (λz=>f.1 2.186) λz=>f.1 2.29
   .exact f.1 2.187
  .rcases Ls.mp Y with z|z
   .exact s0.none' (fx a z)
   .exact(s0.trans s1).none' (fy a z)
def qp:∀{more kvs:List (Key×V)},(aae (·.1) (kvs++more)).Nodup->oh kvs more=kvs++more
 |[],kvs,h=>by simp[oh]
 |p::r,kvs,h=>by
  have h1:putK kvs p.1 p.2=kvs++[p]:=lz (Rm λz=>by
   rw[aat]at h;exact(List.nodup_append.mp h).2.2 p.1 z p.1 (by simp) rfl)
  have:=qp (more:=r) (kvs:=kvs++[p]) (by simpa using h);show oh (putK kvs p.1 p.2) r=_;rw[h1,this];simp
variable{f:En->Option (List (Key×D))}
def Q0(h:Nh G ob t f):RfE G ob (KC t) (wX f):=λρ d e σ H W rl w Q q=>by
 unfold wX at e;cases h1:f ρ with
 |none=>simp[h1]at e
 |some es=>
  rw[h1]at e;simp![gD]at e;split at e
  .rename_i hc
   unfold Ir at e;split at e
   .rename_i hnd
    cases e;intro p V;have sm:Same H (upd H p (.dK [])):=Same.new V;have u0:Up H (upd H p (.dK [])) W (W.add [p]):=.add sm (by simpa using V);have w0:WOk (upd H p (.dK [])) (W.add [p]):=w.add sm λa Y=>by
     obtain rfl:a=p:=by simpa using Y
     exact⟨_,aR,rfl⟩
    refine h ρ es h1 σ _ _ (rl.up u0) w0 _ λJ H2 L hl I r2 f2 Z=>?_;have a0:H2 p=ac (.dK []):=I p _ aR;have a2:aae (·.1) (aeD (es.map (·.1)) J)=es.map (·.1):=agd (by simp[hl]);have a7:aae (·.2) (aeD (es.map (·.1)) J)=J:=age (by simp[hl]);refine⟨a0,aeD (es.map (·.1)) J,rfl,by simp[hl];exact hc.1,?_⟩;rw[qp (by simpa[a2]using hnd),List.nil_append];have a1:p∉L:=λz=>by have:=f2 p z;rw[aR]at this;cases this
    have a5:Same H (upd H2 p (.dK (aeD (es.map (·.1)) J))):=λb u U=>by
     have a3:b≠p:=λz=>by rw[z,V]at U;cases U
     rw[aO a3];exact I b u (by rw[aO a3];exact U)
    refine q 2.49 _ (p::L) a5 ?_ (λa Y=>?_) (aah.mpr ⟨a1,Z⟩)
    .rw[Rep]
     refine⟨p,_,L,rfl,⟨a2,hnd⟩,?_,aR,rfl⟩;rw[a7];have F:Evo H2 (upd H2 p (.dK (aeD (es.map (·.1)) J))) ((W.add [p]).add L) (W.add (p::L)):=⟨λb u U O=>⟨by rw[aO λz=>O.1 (.inr (.inl (by simp[z])))];exact U,λz=>by
      rcases z with z|z
      .rcases Z2.mp z with z|z
       .exact O.1 (.inr (.inl (by simp[z])))
       .exact O.1 2.29
      .exact O.1 2.187,O.2⟩,λb xs U=>by rw[aO λz=>by rw[z,a0]at U;cases U];exact U⟩
     exact r2.mono F (.inl hc.2.1) (.inl hc.2.2) λc a6 u hu=>by
      have a4:c≠p:=λz=>a1 (by rw[←z];exact a6);rw[aO a4];exact hu
    .rcases Z2.mp Y with z|z
     .rw[z];exact V
     .have:=f2 a z
      by_cases U:a=p
      .rw[U];exact V
      .rwa[aO U]at this
   .cases e
  .cases e
def CK:Rk X G ob pos [] [] yX:=⟨_,λc=>HX,S6⟩
def zg{k v:Expr}{ks:List (Option Expr)}{J:List Expr}{V q:En->Option D}{O:En->Option (List (Key×D))}(I:PV X G ob k V)(z:PV X G ob v q)(Z:Rk X G ob pos ks J O):Rk X G ob pos (ac k::ks) (v::J) (qD V q O):=
 let⟨_,a1,a2⟩:=I.ex;let⟨_,b1,b2⟩:=z.ex;let⟨_,c1,c2⟩:=Z.ex;⟨_,λc=>xm (a1 c) (b1 c) (c1 c),Np a2 b2 c2⟩
theorem Io{F:List Expr}(h:Rk X G ob pos U F f)(q:U.all (·.isSome)=ag:=by rfl)(Y:U.length=F.length:=by rfl)(z:U≠[]:=by simp)(I:U.length<=15:=by decide):PV X G ob (.Dict U F pos) (wX f):=
 let⟨_,a1,a2⟩:=h.ex;⟨_,λc=>Hn (a1 c) q Y z I,Q0 a2⟩
end Jb
namespace PySem
open PySem.Builtin PySem.Builtin.SmallTypes PyProof.Rows
namespace F
def qU:Manifest.owners.lookup (String.ofList ['d','e','s','r','e','v','e','r'].reverse)=ac Manifest.sig_reversed:=by kernel_rfl
def jb_lk_tup_rev:typeLookup (.type "tuple") "__reversed__"=pure af:=by rw[adM,acF];kernel_rfl
def jb_sub_tup_dict:isSubtype (.type "tuple") (.type "dict")=pure ae:=by rw[ac8];kernel_rfl
def jb_slot_rev_next:Slot "reversed" "__next__" "reversed.__next__" :=
 .of (owner:="reversed") (n:="__next__") (by rw[adM,acF];kernel_rfl) (by decide +kernel) (by decide +kernel) (by decide +kernel)
  (by first|exact .inl (by decide +kernel)|exact .inr (by decide +kernel)) (by rw[ac8];kernel_rfl)
def jb_entry_rev_next:entryFor table "reversed.__next__"=ac Builtin.«reversed.__next__»:=entryFor_of_tree (by kernel_rfl)
def jb_args_rev_next(a:Value):argsOk "reversed.__next__" ⟨[a],[]⟩:=by
 unfold argsOk;rw[signature?_of (id:="reversed.__next__") (n:=['_','_','t','x','e','n','_','_']) (o:=['d','e','s','r','e','v','e','r']) (by kernel_rfl) qU];kernel_rfl
def jb_slot_rev_iter:Slot "reversed" "__iter__" "reversed.__iter__" :=
 .of (owner:="reversed") (n:="__iter__") (by rw[adM,acF];kernel_rfl) (by decide +kernel) (by decide +kernel) (by decide +kernel)
  (by first|exact .inl (by decide +kernel)|exact .inr (by decide +kernel)) (by rw[ac8];kernel_rfl)
def jb_args_rev_iter(a:Value):argsOk "reversed.__iter__" ⟨[a],[]⟩:=by
 unfold argsOk;rw[signature?_of (id:="reversed.__iter__") (n:=['_','_','r','e','t','i','_','_']) (o:=['d','e','s','r','e','v','e','r']) (by kernel_rfl) qU];kernel_rfl
def jb_entry_rev_iter:entryFor table "reversed.__iter__"=ac Builtin.«dict_keyiterator.__iter__»:=
 entryFor_alias (id':="dict_keyiterator.__iter__") (by kernel_rfl) (by first|rfl|decide +kernel|(unfold String.splitOn;simp +decide [String.splitOnAux])) (by decide +kernel) (by kernel_rfl)
def sV:Slot "reversed" "__init__" "object.__init__" :=
 .of (owner:="object") (n:="__init__") (by rw[adM,acF];kernel_rfl) (by decide +kernel) (by decide +kernel) (by decide +kernel)
  (by first|exact .inl (by decide +kernel)|exact .inr (by decide +kernel)) (by rw[ac8];kernel_rfl)
def jb_called_rev:TypeCalled "reversed" "reversed.__new__" "object.__init__" :=
 ⟨by decide +kernel,by decide +kernel,⟨_,_,mro_reversed⟩,madeBy_type mro_reversed lookup_reversed_new (by decide +kernel),by decide +kernel,by rw[ac8];kernel_rfl,sV⟩
end F
section
variable{prog:Program}{w:World}{A:Around}{E:Value->Shared->Prop}{it t:Addr}{items:Array Value}{h:Heap}{g:Array GenState}{d:Drawn}{tk:Nat}{os:OsState}
def RvO(t:Addr)(i:Int):Obj:={cls:=.type "reversed",data:=.fields #[.ref t,adl i]}
theorem xR{Q:afL->jl->Prop}(V:h.IsTuple t items)(I:(items.size:Int)<2 ^ 63)
  (D:Q (.done (.ret (.ref h.objs.size))) ⟨h.push (RvO t ((items.size:Int)-1)),g,d,tk+1+1,os⟩):wpAny 2.15 A (Builtin.«reversed.__new__» ⟨[.type "reversed",.ref t],[]⟩) Q E ⟨h,g,d,tk,os⟩:=by
 have Y:(⟨h,g,d,tk,os⟩:jl).TypeIs (.ref t) "tuple":=V.typeIs;have O:=F.sub_reversed_self;have q:=F.jb_lk_tup_rev;have Z:=F.jb_sub_tup_dict;have J:=aaJ.lookup;have z:IsTup (⟨h,g,d,tk,os⟩:jl).heap t items:=V
 repeat(any_goals(first|assumption|(with_reducible refine Mz (PyProof.Rows.len_tuple z I ?_))|wp_step))
theorem pG{Q:Value->jl->Prop}(V:h.IsTuple t items)(I:(items.size:Int)<2 ^ 63)
  (D:Q (.ref h.objs.size) ⟨h.push (RvO t ((items.size:Int)-1)),g,d,tk+1+1,os⟩) :
  wpAny 2.15 A (call (.type "reversed") [.ref t]) Q E ⟨h,g,d,tk,os⟩:=by
 refine callType_newIn F.jb_called_rev (by decide) (F.typeCall_reversed_1 _) (F.newCall_reversed_1 _) (λobj=>afi _ _) F.entry_reversed_new (S:=λY R s'=>s'=⟨h,g,d,tk,os⟩/\R (.ok (.ret (.ref h.objs.size))) ⟨h.push (RvO t ((items.size:Int)-1)),g,d,tk+1+1,os⟩) ?_ ⟨rfl,⟨⟨_,Z_ _ rfl,rfl⟩,D⟩⟩;rintro Y R s' ⟨rfl,Z⟩;exact xR V I Z
theorem JG{Q:Option Value->jl->Prop}{i:Nat}{x:Value}(Z:h.get? it=ac (RvO t (i:Int)))(V:h.IsTuple t items)(D:t≠it)(J:items[i]? =ac x)(I:(items.size:Int)<2 ^ 63)
  (q:∀h',h'.get? it=ac (RvO t ((i:Int)-1))->acb it h h'->Q (ac x) ⟨h',g,d,tk+1,os⟩):wpAny 2.15 A (aeX 2.73) Q E ⟨h,g,d,tk,os⟩:=by
 have Y:(⟨h,g,d,tk,os⟩:jl).TypeIs 2.73 "reversed":=⟨_,Z,rfl⟩;have U:(⟨h,g,d,tk,os⟩:jl).TypeIs (.ref t) "tuple":=V.typeIs;unfold aeX;refine Mz (afr (abt (name:=aby "__next__") Y F.jb_slot_rev_next
  (acG F.jb_slot_rev_next Y F.jb_entry_rev_next ?_ (F.jb_args_rev_next _))))
 unfold Builtin.«reversed.__next__»;refine Mz (ad2 (a:=(aaA it,[])) rfl ?_)
 try dsimp only
 refine Mz (abV Z rfl (x:=.ref t) rfl ?_);refine Mz (abV Z rfl (x:=adl (i:Int)) rfl ?_);show wpAny _ _ (if(i:Int)<0 then _ else _) _ _ _;rw[aag 1.10];show wpAny _ _ (specialOf (.ref t) "__getitem__" >>=_) _ _ _;refine Mz (wpAny_specialOf U slot_tuple_getitem.lookup ?_);rw[aag (by decide)];have z:IsTup h t items:=V;have a0:i<items.size:=(Array.getElem?_eq_some_iff.mp J).1;have O:afH (i:Int) items.size=ac i:=aeS 1.10 (by simpa using a0);refine Mz (wpAny_mkInt ?_);refine Mz (afr (PyProof.Rows.getItem_tuple z 1.10 1.10 O J ?_))
 repeat(any_goals(first|assumption|wp_step))
 refine⟨x,rfl,Z3 (q _ ?_ (afw ..))⟩;exact acA _ Z rfl
theorem OD{Q:Option Value->jl->Prop}(z:A.handled=af)(I:h.get? it=ac (RvO t (-1)))
  (q:∀h',(∀b o,b≠it->h.get? b=ac o->h'.get? b=ac o)->Q af ⟨h',g,d,tk,os⟩):wpAny 2.15 A (aeX 2.73) Q E ⟨h,g,d,tk,os⟩:=by
 have Y:(⟨h,g,d,tk,os⟩:jl).TypeIs 2.73 "reversed":=⟨_,I,rfl⟩;unfold aeX;refine Mz (afr (abt (name:=aby "__next__") Y F.jb_slot_rev_next
  (acG F.jb_slot_rev_next Y F.jb_entry_rev_next ?_ (F.jb_args_rev_next _))))
 unfold Builtin.«reversed.__next__»;refine Mz (ad2 (a:=(aaA it,[])) rfl ?_)
 try dsimp only
 refine Mz (abV I rfl (x:=.ref t) rfl ?_);refine Mz (abV I rfl (x:=adl (-1)) rfl ?_);show wpAny _ _ (if(-1:Int)<0 then _ else _) _ _ _;rw[if_pos (by decide)];have D:A.in1.handled=af:=z
 repeat(any_goals(first|assumption|wp_step))
 simp![raiseNew];refine Mz (wpAny_handled ?_);rw[D];refine Mz (Z3 (wpAny_throw ?_));refine Mz (wpAny_isInstance (T:="StopIteration") (b:=ag) ⟨_,Z_ _ rfl,rfl⟩ isSubtype_stop ?_);refine Z3 (q _ λb o U e=>?_);exact ZS _ (ZS _ ((abl _ _ (aaS U)).trans ((abl _ _ (aaS U)).trans e)))
theorem yp{Q:Value->jl->Prop}{i:Int}(q:h.get? it=ac (RvO t i))(D:Q 2.73 ⟨h,g,d,tk,os⟩):wpAny 2.15 A (aex 2.73) Q E ⟨h,g,d,tk,os⟩:=by
 have Y:(⟨h,g,d,tk,os⟩:jl).TypeIs 2.73 "reversed":=⟨_,q,rfl⟩;refine wpAny_pyIter_slot Y F.jb_slot_rev_iter (acG F.jb_slot_rev_iter Y F.jb_entry_rev_iter ?_ (F.jb_args_rev_iter _));show wpAny _ _ (ret 2.73) _ _ _;exact Z3 ⟨_,rfl,"reversed",_,Y,F.jb_slot_rev_next.lookup,D⟩
end
end PySem
namespace Jb
open PySem PySem.Spec PyProof.Rows L2
def Xh(K:ZW)(a:Addr)(n:Nat):It:=
 ⟨λi H=>∃xs x,SqT K H a xs/\xs.length=n/\i<n/\xs[n-1-i]? =ac x,λi H x H'=>H'=H/\∀xs,SqT K H a xs->xs[n-1-i]? =ac x,λi H=>∃xs,SqT K H a xs/\xs.length=n/\n<=i⟩
def JW{K:ZW}(a it:Addr)(n:Nat)(a1:a≠it) :
  Turn P w K tg (Xh K a n) [it] it (λi h=>i<=n/\h.get? it=ac (RvO a ((n:Int)-1-(i:Int))))where
 mem:=by simp
 obj:=λi h st b U=>by
  obtain rfl:b=it:=by simpa using U
  exact⟨_,st.2,λv z=>by cases z⟩
 keep:=λi h h' st k=>⟨st.1,k it (by simp) _ st.2⟩
 item:=by
  intro X hP Z hK O i pins s σ H E I hf st hg;subst hP Z hK;obtain⟨xs,x,D,hn,hi,J⟩:=hg;obtain⟨its,rv,p,hz⟩:=I.tuple D;obtain⟨u,hu,ru⟩:=rv.get J;obtain⟨f0,f1,q,f3,f4,f5⟩:=hf it (by simp);obtain⟨h0,g,d,tk,os⟩:=s;obtain⟨a3,F⟩:=st;have e:(n:Int)-1-(i:Int)=((n-1-i:Nat):Int):=by omega
  rw[e]at F;have Y:=rv.length;have a2:(its.toArray.size:Int)<2 ^ 63:=by
   have:Z0<2 ^ 63:=by decide
   simp;omega
  refine JG (items:=its.toArray) (x:=u) F p a1 (by simpa using hu) a2 λh' a0 sb=>?_;have I1:Inv X pins σ H ⟨h',g,d,tk+1,os⟩:=I.turned (t':=tk+1) (λb o U e=>(sb.2 b U).trans e) f0 f1 f3 f4 f5;refine⟨u,rfl,yq (s:=⟨h',g,d,tk+1,os⟩) a0 rfl rfl (by decide) ⟨x,H,I1,ru,⟨rfl,λys V=>by rw[I.tuple_inj V D];exact J⟩,⟨by omega,?_⟩,λb U=>(hf b U).1⟩⟩;have e2:(n:Int)-1-((i+1:Nat):Int)=((n-1-i:Nat):Int)-1:=by omega
  rw[e2];exact a0
 done:=by
  intro X hP Z hK O i pins s σ H E I hf st hg;subst hP Z hK;obtain⟨xs,D,hn,hi⟩:=hg;obtain⟨f0,f1,q,f3,f4,f5⟩:=hf it (by simp);obtain⟨h0,g,d,tk,os⟩:=s;obtain⟨a3,F⟩:=st;have e:(n:Int)-1-(i:Int)= -1:=by omega
  rw[e]at F;exact OD 2.93 F λh' eb=>⟨rfl,I.turned (t':=tk) (λb o U e=>eb b o U e) f0 f1 f3 f4 f5⟩
 self:=λA i s Q E st h=>yp st.2 h
def Ua(K:ZW)(ta:TA):TI:=λσ H R=>ta σ H λJ H1=>∃a xs,J=[.ref a]/\SqT K H1 a xs/\R (Xh K a xs.length) H1
variable{X:Cx}{ta:TA}{p:Pos}
def QQ(F:Gl X "reversed")(hm:X.mg "reversed"=af)(Y:PA X [e] ta)(hs:Z1 [e] X.env=[(ae,eval e X.env)]:=by rfl):PI X tg (.Call (.Name "reversed" p) [e] [] pos) (Ua X.K ta):=by
 intro pins s σ H R I h;refine Call_ (nZ I F hm boot_reversed (abv (thn 2.62 λus Z ⟨J,H1,I1,z,q1⟩=>?_) hs rfl));obtain⟨a,xs,ev,D,q⟩:=q1;subst ev;obtain⟨u,rfl,ru⟩:=vals1 z;cases ru;obtain⟨its,U,pl,hz⟩:=I1.tuple D;obtain⟨h0,g,d,tk,os⟩:=Z;have hl:=U.length;have a0:(its.toArray.size:Int)<2 ^ 63:=by
  have:Z0<2 ^ 63:=by decide
  simp;omega
 refine pG (items:=its.toArray) pl a0 ?_;refine yp (Z_ _ rfl) ?_;have V:Inv X pins σ H1 ⟨h0.push (RvO a ((its.toArray.size:Int)-1)),g,d,tk+1+1,os⟩:=I1.kept (t':=tk+1+1) (λb o e=>ZS _ e);have a1:a<h0.objs.size:=let⟨_,h1,_⟩:=pl;Z8 h1;refine⟨h0.objs.size,[h0.objs.size],_,_,H1,rfl,V,JW a _ xs.length (aam a1),⟨ad1 _,?_⟩,λc O=>?_,q⟩
 .have e3:(xs.length:Int)-1-((0:Nat):Int)=(its.toArray.size:Int)-1:=by simp;omega
  rw[e3];exact Z_ _ rfl
 .have hb2:h0.objs.size<=c:=by rw[aab.mp O];exact ZZ _
  exact I1.fpOk hb2 (I1.hok.fresh hb2)
def Js(f:En->Option 2.79):En->Option (Bool×List D):=λρ=>(f ρ).bind λds=>match ds with
 |[.tup es]=>ac (clean (.tup es),(iV es).reverse)
 |_=>af
variable{G:Gc}{H H':Hp}{W:Wn}
def Qf{v:V}{ds:List D}(w:WOk H W)(s:Same H H')(r:Rep G H' 2.55 2.97 v M)(J:∀a∈M,a∈L)(O:∀a∈L,H a=af) :
  ∃a xs,v= .ref a/\Parts G H' W (clean 2.97) (iV ds) xs/\∀H2 I,LtB (clean 2.97) H' W H2 I->SqT G.K H2 a xs:=by
 have free:∀a∈M,W.free a:=λa Y=>⟨λz=>?_,λz=>?_,λz=>?_⟩
 .have les:Les H' 2.55 W M:=⟨λa f=>⟨λz=>f.1 2.42,f.2⟩,free⟩
  rw[Rep]at r;obtain⟨a,xs,rfl,U,Z⟩:=r;refine⟨a,xs,rfl,⟨aJ.fzo (W:=W.add L) (W':=W) (λ_ z=>z) Z les,λz=>?_⟩,λH2 I l=>l.tup U⟩;simp[clean,aA,az]at z;exact⟨gK z.1,gH z.2⟩
 .obtain⟨o,ho,_⟩:=w a 2.29;rw[O a (J a Y)]at ho;cases ho
 .obtain⟨o,ho,_⟩:=w a 2.186;rw[O a (J a Y)]at ho;cases ho
 .obtain⟨o,ho,_⟩:=w a 2.187;rw[O a (J a Y)]at ho;cases ho
def Hg{l:List α}{d:α}(e:l.reverse[i]? =ac d):i<l.length/\l[l.length-1-i]? =ac d:=by
 have hi:i<l.length:=by have:=(List.getElem?_eq_some_iff.mp e).1;rwa[abw]at this
 rw[ae5 hi]at e;exact⟨hi,e⟩
variable{f:En->Option (List D)}
def Ql{t:TA}(h:RfA G ob t f):RfI G ob (Ua G.K t) (Js f):=λρ b items e σ H W U w R q=>by
 unfold Js at e;cases h1:f ρ with
 |none=>simp[h1]at e
 |some ds=>
  rw[h1]at e;simp![gD]at e;split at e
  .rename_i es
   cases e;refine h ρ _ h1 σ H W U w _ λJ H' L s r O nd=>?_;obtain⟨v,ys,M,M',rfl,rfl,Z,V⟩:=r.inv;obtain⟨rfl,rfl⟩:=V.inv0;rw[List.append_nil]at Z O;obtain⟨a,xs,rfl,p,hs⟩:=Qf w s Z (λa Y=>Y) O;have z:=p.r.length;refine⟨a,xs,rfl,hs H' W 2.141,q _ H' s ⟨λi d e H2 I l=>?_,λi d e H2 I l x H3 y=>?_,λH2 I l=>?_⟩⟩
   .obtain⟨hi,e⟩:=Hg e
    rw[z]at hi e;obtain⟨x,F⟩:=p.r.getV e;exact⟨xs,x,hs H2 I l,rfl,hi,F⟩
   .obtain⟨rfl,y⟩:=y
    obtain⟨hi,e⟩:=Hg e;rw[z]at e;exact⟨Same.refl _,p.at l e (y xs (hs _ I l))⟩
   .exact⟨xs,hs H2 I l,rfl,by rw[abw,z];exact ZZ _⟩
  .cases e
variable{X:ι->Cx}
def Qi{a:Expr}(F:∀c,Gl (X c) "reversed")(J:∀c,(X c).mg "reversed"=af)(Y:PVA X G ob [a] f)(hs:∀c,Z1 [a] (X c).env=[(ae,eval a (X c).env)]:=by intro _;rfl)(q:∀c,(X c).K=G.K:=by intro _;rfl) :
  PVI X G ob tg (.Call (.Name "reversed" p) [a] [] pos) (Js f):=
 let⟨t,a1,a2⟩:=Y.ex;⟨_,λc=>(by rw[←q c];exact QQ (F c) (J c) (a1 c) (hs c)),Ql a2⟩
variable{X:Cx}{σ:L2.St}{s:jl}{kvs:List (Key×V)}
def yW{ob:Obj}(I:Inv X pins σ H s)(e:H a=ac 2.158)(F:∀o u,X.H₀ a≠ac (.frz o u)):Inv X pins σ (upd H a 2.20) s where
 ok:=I.ok
 os:=I.os
 bare:=I.bare
 base:=⟨I.base.keep,I.base.slot,λb o g n J=>by rw[aO (λz=>by have:=I.base.free b o g n J;rw[z,e]at this;cases this)];exact I.base.free b o g n J,I.base.there,
  λb xs g=>by rw[aO (lN (I.base.tups b xs g) e (by intro z;cases z))];exact I.base.tups b xs g,λb o u g=>by rw[aO (λz=>by subst z;exact F o u g)];exact I.base.frzs b o u g,
  λb ps g=>let⟨more,z⟩:=I.base.tbls b ps g;⟨more,by rw[aO (lN z e (by intro z;cases z))];exact z⟩⟩
 loc:=I.loc
 cell:=I.cell
 free:=by rw[aO (λz=>by have:=I.free;rw[z,e]at this;cases this)];exact I.free
 freeC:=λx c g=>by rw[aO (λz=>by have:=I.freeC x c g;rw[z,e]at this;cases this)];exact I.freeC x c g
 pin:=λp D=>let⟨h1,h2,h3⟩:=I.pin p D;⟨h1,by rw[aO (λz=>by rw[z,e]at h2;cases h2)];exact h2,h3⟩
 hok:=λb u g=>by
  by_cases U:b=a
  .subst U
   rw[aR]at g;cases g;obtain⟨_,q⟩:=(show cU X.prog X.w H s.heap b 2.158 from I.hok b _ e);exact q
  .rw[aO U]at g
   exact(I.hok b u g).stay (λc v _ q=>q) (λc q=>by rw[aO (lN q e (by intro z;cases z))];exact q) λc xs q=>by rw[aO (lN q e (by intro z;cases z))];exact q
 len:=I.len
def ym(I:Inv X pins σ H s)(Y:H a=ac 2.20):∃ob,Inv X pins σ (upd H a 2.158) s/\∀o u,X.H₀ a≠ac (.frz o u):=by
 obtain⟨z,hd,J,rel,D⟩:=x_ I.hok Y;obtain⟨Z,ob,es,g,x,d,F,q,U⟩:=D.dictAt;refine⟨ob,oW (t':=s.toks) I (by rw[Y];exact aa5) ⟨rfl,λ_ _=>rfl⟩ ⟨ob,g⟩ ⟨g,z,hd,J,rel,D⟩,λo u g=>?_⟩;have:=I.base.frzs a o u g;rw[Y]at this;cases this
def GR(tl:TE):TI:=λσ H R=>tl σ H λx H1=>∃a ob kvs,x= .ref a/\H1 a=ac 2.158/\R (Itd a ob kvs) H1
variable{te:TE}
def Cy(hl:PE X e te):PI X tg e (GR te):=by
 intro pins s σ H R I h;refine thn (hl pins s σ H _ I h) λv Z ⟨x,H1,O,r1,q1⟩=>?_;obtain⟨a,ob,kvs,ex,Y,q⟩:=q1;subst ex;cases r1;obtain⟨h1,z,hd,J,rel,D⟩:=(show cU X.prog X.w H1 Z.heap a 2.158 from O.hok a _ Y);obtain⟨ep,V,es,g,x,d,r1,r2,r3⟩:=D.dictAt;have F:V=ob:=by rw[h1]at g;exact(aaR g).symm
 subst F;have a0:Z.heap.DictAt 2.88 a J ep:=⟨V,es,g,x,d,r1,r2,r3⟩;refine wpAny_pyIter_dict hd a0 ?_;refine⟨Z.heap.objs.size,[Z.heap.objs.size],_,_,_,rfl,O.kept (t':=Z.toks) λb o e=>ZS _ e,J0 a _ V kvs,⟨es,ep,d,_,Z_ _ rfl,rfl,by rw[show kvs.length=J.length from rel.length];rfl⟩,λb U=>?_,q⟩;have e:b=Z.heap.objs.size:=by simpa using U
 subst e;exact O.fpOk (ZZ _) 2.139
def tGh(j:Nat)(te:TE):TE:=λσ H Q=>∃a kvs,σ[j]? =ac (ac 2.184)/\H a=ac 2.20/\∀ob,te σ (upd H a 2.158) λv H'=>H' a=ac 2.158/\Q v (upd H' a 2.20)
mutual
noncomputable def Eo:D->Bool
 |.tup ds=>uy ds
 |.lst _ ds=>uy ds
 |.dct m _ ds=>(m== .scr)&&uy ds
 |.ins _ _ _ ds=>uy ds
 |_=>ag
noncomputable def uy:List D->Bool
 |[]=>ag
 |d::r=>Eo d&&uy r
end
def Zt(o:HO):Prop:=∀ob u,o≠.frz ob u
structure Chg(fd:Bool)(H H':Hp):Prop where
 l:∀b xs,H b=ac 2.44->H' b=ac 2.44
 t:∀b xs,H b=ac 2.54->H' b=ac 2.54
 i:∀b C dx kv,H b=ac (.ins C dx kv)->H' b=ac (.ins C dx kv)
 d:fd=ae->∀b kvs,H b=ac 2.20->H' b=ac 2.20
 r:∀b o,Zt o->Rd H b o->Rd H' b o
def dH.chg{D:Addr->HO->Prop}{o:HO}{m:Mk}(Z:Rd H a o->Rd H' a o)(h:dH D H W a o m L M)(F:m≠.scr->H a=ac o->H' a=ac o):dH D H' W a o m L M:=by
 cases m with
 |own=>exact⟨F (by intro z;cases z) h.1,h.2⟩
 |frz=>exact⟨F (by intro z;cases z) h.1,h.2⟩
 |brw=>exact⟨F (by intro z;cases z) h.1,h.2⟩
 |bro=>exact⟨F (by intro z;cases z) h.1,h.2⟩
 |scr=>exact⟨h.1.imp (λz=>⟨Z z.1,z.2⟩) id,h.2⟩
variable{fd:Bool}
mutual
def Rep.chg(c:Chg fd H H'):∀{d:D}{v:V}{L:List Addr},Rep G H W d v L->(fd=ag->Eo d=ag)->Rep G H' W d v L
 |.non,v,L,h,_=>by rw[Rep]at h⊢;exact h
 |.bl _,v,L,h,_=>by rw[Rep]at h⊢;exact h
 |.int _,v,L,h,_=>by rw[Rep]at h⊢;exact h
 |.str _,v,L,h,_=>by rw[Rep]at h⊢;exact h
 |.ty _,v,L,h,_=>by rw[Rep]at h⊢;exact h
 |.tup ds,v,L,h,n=>by
  rw[Rep]at h⊢;obtain⟨a,xs,rfl,U,Z⟩:=h;exact⟨a,xs,rfl,c.t a xs U,aJ.chg c Z λz=>by simpa[Eo]using n z⟩
 |.lst m ds,v,L,h,n=>by
  rw[Rep]at h⊢;obtain⟨a,xs,M,rfl,Z,hs⟩:=h;exact⟨a,xs,M,rfl,aJ.chg c Z λz=>by simpa[Eo]using n z,hs.chg (c.r a _ (λ_ _ z=>by cases z)) λ_=>c.l a xs⟩
 |.dct m ks ds,v,L,h,n=>by
  rw[Rep]at h⊢;obtain⟨a,xs,M,rfl,I,Z,hs⟩:=h;refine⟨a,xs,M,rfl,I,aJ.chg c Z λz=>?_,hs.chg (c.r a _ (λ_ _ z=>by cases z)) λJ=>?_⟩
  .have:=n z
   rw[Eo,aaa]at this;exact this.2
  .cases fd with
   |false=>exact c.d rfl a xs
   |true=>
    have:=n rfl;rw[Eo,aaa]at this;cases m<;>first|exact absurd rfl J|(have q:=this.1;cases q)
 |.ins m cc fs ds,v,L,h,n=>by
  rw[Rep]at h⊢;obtain⟨a,C,dx,xs,M,rfl,F,I,Z,hs⟩:=h;exact⟨a,C,dx,xs,M,rfl,F,I,aJ.chg c Z λz=>by simpa[Eo]using n z,hs.chg (c.r a _ (λ_ _ z=>by cases z)) λ_=>c.i a C dx xs⟩
def aJ.chg(c:Chg fd H H'):∀{ds:List D}{J:List V}{L:List Addr},aJ G H W ds J L->(fd=ag->uy ds=ag)->aJ G H' W ds J L
 |[],J,L,h,_=>by rw[aJ]at h⊢;exact h
 |d::r,J,L,h,n=>by
  obtain⟨x,ys,M,M',rfl,rfl,h1,h2⟩:=h.inv;have O:fd=ag->Eo d=ag/\uy r=ag:=λz=>by have:=n z;rwa[uy,aaa]at this
  exact .cons (Rep.chg c h1 λz=>(O z).1) (aJ.chg c h2 λz=>(O z).2)
end
def jE{ob:Obj}(Y:H a=ac 2.20):Chg ag H (upd H a 2.158)where
 l:=λb xs e=>by rw[aO (lN e Y (by intro z;cases z))];exact e
 t:=λb xs e=>by rw[aO (lN e Y (by intro z;cases z))];exact e
 i:=λb C dx kv e=>by rw[aO (lN e Y (by intro z;cases z))];exact e
 d:=λz=>by cases z
 r:=λb o n h=>by
  by_cases U:b=a
  .subst U
   rcases h with h|⟨u,h⟩
   .rw[Y]at h;cases h;exact .inr ⟨ob,aR⟩
   .rw[Y]at h;cases h
  .rcases h with h|⟨u,h⟩
   .exact .inl (by rw[aO U];exact h)
   .exact .inr ⟨u,by rw[aO U];exact h⟩
def Cg{ob:Obj}(Y:H a=ac 2.158):Chg ae H (upd H a 2.20)where
 l:=λb xs e=>by rw[aO (lN e Y (by intro z;cases z))];exact e
 t:=λb xs e=>by rw[aO (lN e Y (by intro z;cases z))];exact e
 i:=λb C dx kv e=>by rw[aO (lN e Y (by intro z;cases z))];exact e
 d:=λ_ b kv e=>by rw[aO (lN e Y (by intro z;cases z))];exact e
 r:=λb o n h=>by
  by_cases U:b=a
  .subst U
   rcases h with h|⟨u,h⟩
   .rw[Y]at h;cases h;exact absurd rfl (n _ _)
   .rw[Y]at h;cases h;exact .inl aR
  .rcases h with h|⟨u,h⟩
   .exact .inl (by rw[aO U];exact h)
   .exact .inr ⟨u,by rw[aO U];exact h⟩
def kD:Key->D
 |.inl i=>.int i
 |.inr x=>.str x
def wiF(a:Addr)(ob:Obj)(kvs:List (Key×V)):TI:=λ_ H R=>H a=ac 2.158->R (Itd a ob kvs) H
def Jr:RfI G ob (wiF a o kvs) (λ_=>ac (ae,(kvs.map (·.1)).map kD)):=λρ b items e σ H W J w R q F=>by
 cases e;refine q _ H (Same.refl _) ⟨λi d e H2 I l=>?_,λi d e H2 I l x Y y=>?_,λH2 I l=>?_⟩
 .have u:Up H H2 W I:=by simpa[LtB]using l
  exact⟨u.s a _ F,by have:=(List.getElem?_eq_some_iff.mp e).1;simpa using this⟩
 .obtain⟨rfl,p,hp,rfl⟩:=y
  have:kD p.1=d:=by simpa[hp]using e
  subst this;refine⟨Same.refl _,?_⟩;obtain⟨k,_⟩:=p;cases k<;>· show Rep _ _ _ (kD _) (kV _) _;simp![kD,kV];rw[Rep];exact⟨rfl,rfl⟩
 .have u:Up H H2 W I:=by simpa[LtB]using l
  exact⟨u.s a _ F,by simp⟩
end Jb
namespace PySem
def dU(ps:List Nat):Obj:={cls:=.type "tuple",data:=.seq (ps.map λ(i:Nat)=>adl i).toArray}
end PySem
namespace Jb
open PySem PyProof.Rows
def vl(x:Keyed):Int:=numOf x.1
variable{l:List Keyed}
def rd(h:n<=l.length):l.reverse.drop (l.length-n)=(l.take n).reverse:=by
 rw[List.drop_reverse,show l.length-(l.length-n)=n by omega]
variable{k:Nat}
def rt(h:n<=l.length)(I:k<=n):(l.reverse.drop (l.length-n)).take (n-k)=((l.take n).drop k).reverse:=by
 rw[rd h,List.take_reverse,aaD,show min n l.length-(n-k)=k by omega]
open PySem PySem.Spec PyProof.Rows L2
def mkS:Mk->Mk
 |.frz=>.scr
 |m=>m
mutual
noncomputable def toS:D->D
 |.tup ds=>.tup (qi ds)
 |.lst m ds=>.lst m (qi ds)
 |.dct m ks ds=>.dct (mkS m) ks (qi ds)
 |.ins m c fs ds=>.ins m c fs (qi ds)
 |d=>d
noncomputable def qi:List D->List D
 |[]=>[]
 |d::r=>toS d::qi r
end
mutual
def yf:∀{d:D},aA d=ag->aA (toS d)=ag
 |.non,_=>rfl|.bl _,_=>rfl|.int _,_=>rfl|.str _,_=>rfl|.ty _,_=>rfl
 |.tup ds,h=>by simp[aA]at h;simp[toS,aA,j7 h]
 |.lst m ds,h=>by simp[aA]at h;simp[toS,aA,j7 h.2,h.1]
 |.dct m _ ds,h=>by simp[aA]at h;cases m<;>simp[toS,aA,j7 h.2,mkS]<;>simp at h
 |.ins m _ _ ds,h=>by simp[aA]at h;simp[toS,aA,j7 h.2,h.1]
def j7:∀{ds:List D},aF ds=ag->aF (qi ds)=ag
 |[],_=>rfl
 |d::r,h=>by simp[aF]at h;simp[qi,aF,yf h.1,j7 h.2]
end
mutual
def yr:∀{d:D},az d=ag->az (toS d)=ag
 |.non,_=>rfl|.bl _,_=>rfl|.int _,_=>rfl|.str _,_=>rfl|.ty _,_=>rfl
 |.tup ds,h=>by simp[az]at h;simp[toS,az,j4 h]
 |.lst m ds,h=>by simp[az]at h;simp[toS,az,j4 h.2,h.1]
 |.dct m _ ds,h=>by simp[az]at h;cases m<;>simp[toS,az,j4 h.2,mkS]<;>simp at h
 |.ins m _ _ ds,h=>by simp[az]at h;simp[toS,az,j4 h.2,h.1]
def j4:∀{ds:List D},aD ds=ag->aD (qi ds)=ag
 |[],_=>rfl
 |d::r,h=>by simp[aD]at h;simp[qi,aD,yr h.1,j4 h.2]
end
variable{d:D}
def JP(h:clean d=ag):clean (toS d)=ag:=by
 rw[clean,aaa]at h⊢;exact⟨yf h.1,yr h.2⟩
variable{G:Gc}{H:Hp}{W:Wn}{kv:List (Key×V)}
mutual
def Rep.toS(Y:H a=ac (.dK kv)):∀{d:D}{v:V}{L:List Addr},Rep G H W d v L->aA d=ag->az d=ag->a∉L->Rep G (upd H a (.frz o (.dK kv))) W (toS d) v L
 |.non,v,L,h,_,_,_=>by rw[Rep]at h;simp[Jb.toS,Rep,h]
 |.bl _,v,L,h,_,_,_=>by rw[Rep]at h;simp[Jb.toS,Rep,h]
 |.int _,v,L,h,_,_,_=>by rw[Rep]at h;simp[Jb.toS,Rep,h]
 |.str _,v,L,h,_,_,_=>by rw[Rep]at h;simp[Jb.toS,Rep,h]
 |.ty _,v,L,h,_,_,_=>by rw[Rep]at h;simp[Jb.toS,Rep,h]
 |.tup ds,v,L,h,n,m,q=>by
  rw[Rep]at h;rw[Jb.toS,Rep];obtain⟨b,xs,rfl,U,Z⟩:=h;exact⟨b,xs,rfl,(jE Y).t b xs U,aJ.toS Y Z (by simpa[aA]using n) (by simpa[az]using m) q⟩
 |.lst k ds,v,L,h,n,m,q=>by
  rw[Rep]at h;rw[Jb.toS,Rep];obtain⟨b,xs,M,rfl,Z,hs⟩:=h;simp[aA]at n;simp[az]at m;exact⟨b,xs,M,rfl,aJ.toS Y Z n.2 m.2 λz=>q 2.131,hs.chg ((jE Y).r b _ (λ_ _ z=>by cases z)) λ_=>(jE Y).l b xs⟩
 |.dct k ks ds,v,L,h,n,m,q=>by
  rw[Rep]at h;rw[Jb.toS,Rep];obtain⟨b,xs,M,rfl,I,Z,hs⟩:=h;simp[aA]at n;simp[az]at m;refine⟨b,xs,M,rfl,I,aJ.toS Y Z n.2 m.2 λz=>q 2.131,?_⟩;have Z:=(jE (ob:=o) Y).r b (.dK xs) (λ_ _ z=>by cases z);cases k with
  |own=>exact⟨by rw[aO (λz=>q (by rw[hs.2,z];simp))];exact hs.1,hs.2⟩
  |frz=>exact⟨.inl ⟨Z (.inl hs.1),hs.2.1⟩,hs.2.2⟩
  |brw=>exact absurd rfl n.1
  |bro=>exact absurd rfl m.1
  |scr=>exact⟨hs.1.imp (λz=>⟨Z z.1,z.2⟩) id,hs.2⟩
 |.ins k c fs ds,v,L,h,n,m,q=>by
  rw[Rep]at h;rw[Jb.toS,Rep];obtain⟨b,C,dx,xs,M,rfl,F,I,Z,hs⟩:=h;simp[aA]at n;simp[az]at m;exact⟨b,C,dx,xs,M,rfl,F,I,aJ.toS Y Z n.2 m.2 λz=>q 2.131,hs.chg ((jE Y).r b _ (λ_ _ z=>by cases z)) λ_=>(jE Y).i b C dx xs⟩
def aJ.toS(Y:H a=ac (.dK kv)):∀{ds:List D}{J:List V}{L:List Addr},aJ G H W ds J L->aF ds=ag->aD ds=ag->a∉L->aJ G (upd H a (.frz o (.dK kv))) W (qi ds) J L
 |[],J,L,h,_,_,_=>by rw[qi];rw[aJ]at h⊢;exact h
 |d::r,J,L,h,n,m,q=>by
  obtain⟨x,ys,M,M',rfl,rfl,h1,h2⟩:=h.inv;simp[aF]at n;simp[aD]at m;rw[qi];exact .cons (Rep.toS Y h1 n.1 m.1 λz=>q 2.213) (aJ.toS Y h2 n.2 m.2 λz=>q (W2 _ z))
end
def zf(j:Nat)(tg:D->En->Option En)(body:En->Option Fl):En->Option Fl:=λρ=>match ρ[j]? with
 |some (ac (.dct .frz ks _))=>match forL tg body (ks.map kD) (ρ.map (afk toS))with
  |some (.nx ρ')=>ac (.nx ρ')
  |_=>af
 |_=>af
def XF(j:Nat)(ts:TS):TS:=λE σ H=>∃a kvs,σ[j]? =ac (ac 2.184)/\H a=ac 2.20/\∀ob,ts {nx:=λF H'=>H' a=ac 2.158/\E.nx F (upd H' a 2.20),bk:=λ_ _=>False,ct:=λ_ _=>False,rt:=λ_ _=>False} σ (upd H a 2.158)
def Xa{X:Cx}{st:Stmt}{ts:TS}(h:PS X st ts):PS X st (XF j ts):=by
 intro pins s σ H D I O;obtain⟨a,kvs,hs,Y,k⟩:=O;obtain⟨ob,V,z⟩:=ym I Y;refine thn (h pins s σ _ _ V (k ob)) λf Z q=>?_;cases f with
 |next=>obtain⟨F,H',J,e,q⟩:=q;exact⟨F,_,yW J e z,q⟩
 |brk=>obtain⟨_,_,_,q⟩:=q;exact q.elim
 |cont=>obtain⟨_,_,_,q⟩:=q;exact q.elim
 |ret u=>obtain⟨_,_,_,_,_,q⟩:=q;exact q.elim
def Fg{kvs:List (Key×V)}:RfI G ob (wiF a o kvs) (λ_=>ac (ag,(kvs.map (·.1)).map kD)):=λρ b items e σ H W J w R q F=>by
 cases e;have Y:W.free a:=by
  have D:¬(W.n a∨W.s a∨W.o a):=λz=>by
   obtain⟨u,h1,h2⟩:=w a z;rw[F]at h1;cases h1;cases h2
  exact⟨λz=>D 2.29,λz=>D 2.186,λz=>D 2.187⟩
 refine q _ H (Same.refl _) ⟨λi d e H2 I l=>?_,λi d e H2 I l x O y=>?_,λH2 I l=>?_⟩
 .have u:Evo H H2 W I:=by simpa[LtB]using l
  exact⟨(u.k a _ F Y).1,by have:=(List.getElem?_eq_some_iff.mp e).1;simpa using this⟩
 .obtain⟨rfl,p,hp,rfl⟩:=y
  have:kD p.1=d:=by simpa[hp]using e
  subst this;refine⟨Same.refl _,?_⟩;obtain⟨k,_⟩:=p;cases k<;>· show Rep _ _ _ (kD _) (kV _) _;simp![kD,kV];rw[Rep];exact⟨rfl,rfl⟩
 .have u:Evo H H2 W I:=by simpa[LtB]using l
  exact⟨(u.k a _ F Y).1,by simp⟩
variable{P:Nat->Bool}{g:TG}{body:En->Option Fl}
def Kz{tb:TS}{tg:D->En->Option En}(hg:RfG G ob P g tg)(U:RfS G ob P tb body):RfS G ob P (XF j (QF (GR (xW j)) g tb)) (zf j tg body):=λρ r e σ H S Fr s E q=>by
 unfold zf at e;split at e
 .rename_i ks ds hj
  split at e
  .rename_i ρ' he
   cases e;obtain⟨v,hv,a2,J⟩:=s.sl j _ hj;rw[Rep]at a2;obtain⟨a,kvs,M,rfl,⟨rfl,a6⟩,Z,Y,a0,rfl,a7⟩:=a2;refine⟨a,kvs,hv,Y,λo=>?_⟩;have nS:∀i,a∉S i:=λi z=>by
    cases F:ob i with
    |false=>exact a0.2.1 ⟨i,F,z⟩
    |true=>exact a0.2.2 ⟨i,F,z⟩
   have s':Sta G 2.174 ob (ρ.map (afk toS)) σ S Fr:={
    len:=by rw[Pr];exact s.len
    sl:=λi d e=>by
     rw[List.getElem?_map]at e;cases V:ρ[i]? with
     |none=>rw[V]at e;cases e
     |some x=>
      rw[V]at e;cases x with
      |none=>cases e
      |some d1=>
       cases e;obtain⟨w,h6,h7,h8⟩:=s.sl i d1 V;have a3:=h8;rw[clean,aaa]at a3;exact⟨w,h6,h7.toS Y a3.1 a3.2 (nS i),JP h8⟩
    em:=λi h=>s.em i λd z=>h (toS d) (by rw[List.getElem?_map,z];rfl)
    nd:=s.nd
    dj:=s.dj
    fdj:=s.fdj
    fdm:=λb U=>by
     obtain⟨u,h1,h2⟩:=s.fdm b U;exact⟨u,by rw[aO (λz:b=a=>a0.1 (by subst z;exact U))];exact h1,h2⟩}
   have a4:=Ib (P:=P) (Fg (G:=G) (ob:=ob) (a:=a) (o:=o) (kvs:=kvs)) hg U (ρ.map (afk toS)) (.nx ρ') (by unfold ie;simpa using he) σ 2.174 S Fr s' {nx:=λa5 H'=>H' a=ac (.frz o 2.20)/\E.nx a5 (upd H' a 2.20),bk:=λ_ _=>False,ct:=λ_ _=>False,rt:=λ_ _=>False} (λσ2 H2 S2 I m2=>by
    have h9:H2 a=ac (.frz o 2.20):=m2.kp a _ aR (λ⟨i,z⟩=>nS i z) (by simp);refine⟨h9,q σ2 _ S2 ?_ ?_⟩
    .exact{
      len:=I.len
      sl:=λi d e=>let⟨w,h6,h7,h8⟩:=I.sl i d e;⟨w,h6,h7.chg (Cg h9) (λz=>by cases z),h8⟩
      em:=I.em
      nd:=I.nd
      dj:=I.dj
      fdj:=I.fdj
      fdm:=λb U=>by
       obtain⟨u,h1,h2⟩:=I.fdm b U;exact⟨u,by rw[aO (λz:b=a=>a0.1 (by subst z;exact U))];exact h1,h2⟩}
    .exact{
      kp:=λb u h1 h2 O=>by
       by_cases a1:b=a
       .subst a1;rw[Y]at h1;cases h1;exact aR
       .rw[aO a1];exact m2.kp b u (by rw[aO a1];exact h1) h2 O
      gr:=λi b z=>(m2.gr i b z).imp id (Or.imp id λz=>by
       by_cases a1:b=a
       .subst a1;rw[aR]at z;cases z
       .rwa[aO a1]at z)
      pr:=m2.pr})
   exact⟨.ref a,hv,a,o,kvs,rfl,aR,a4 aR⟩
  .cases e
 .cases e
variable{X:ι->Cx}
theorem Qa(j:Nat){body:List Stmt}{g:D->En->Option En}{f:En->Option Fl}(V:∀c,ad4 (model (X c).prog (X c).w) (X c).A (X c).env (X c).xe)(O:∀c,(X c).calm=ag)(F:PVG X G ob P tg g)(U:o5 X G ob P body f)
  (z:∀c,(X c).N[j]? =ac y:=by intro _;rfl) (Z:∀c,Vis (X c).env.scope y:=by intro _;first|exact aa_ rfl|exact aaL (aa_ rfl)|exact aaL 2.205) (hd:(y==("__debug__":Str))=ae:=by decide) (q:(y==("__classdict__":Str))=ae:=by decide)
  (hs:∀c,∀x,aba 2.69 (X c).env x=pure x:=by intro _;intro _;rfl):PVS X G ob P (.For tg 2.69 body [] pos) (zf j g f):=
 let⟨_,a1,a2⟩:=F.ex;let⟨_,b1,b2⟩:=U.ex
 ⟨_,λc=>Xa (F_ (V c) (O c) (Cy (w5 (z c) (Z c) hd q)) (a1 c) (b1 c) (hs c)),Kz a2 b2⟩
section
variable{prog:Program}{w:World}{K:Type}[DecidableEq K]{knd:KeyKind prog w K}{A:Around}{E:Value->Shared->Prop}{s:Shared}
def Jw{d:Addr}{kvs:List (K×Value)}{k:K}{q v:Value}{Q:Value->jl->Prop}(z:knd.is k q=ag)(J:s.heap.DictOf knd d kvs)
  (h1:∀x,ab0 kvs k=ac x->Q x {s with toks:=s.toks+1})
  (h2:ab0 kvs k=af->∀h',h'.DictOf knd d (stored kvs k v)->acb d s.heap h'->Q v {s with heap:=h',toks:=s.toks+1})
  (hsz:kvs.length<=Z0) :
  wpAny 2.15 A (ae8 d q v) Q E s:=by
 have a6:=J.mapOf;obtain⟨o,es,Z,F,O,hd,I,V,hn⟩:=J;have e1:=V.length;have e2:es.toList.length=es.size:=by simp
 have a5:es.size<=Z0:=by omega
 have hf:∀x,findBy knd.is es x=ab0 kvs x:=λx=>by
  rw[←V.find x];obtain⟨l⟩:=es;simp[findBy]
 unfold ae8
 try with_reducible refine ab1 ?_
 refine Mz (knd.pyHash z ?_);refine Mz (wpAny_dictFind_of (s:={s with toks:=s.toks+1}) z F hd I ?_);have a3:(es.findIdx? λe=>knd.is k e.key)=kvs.findIdx? λkv=>decide (kv.1=k):=by
  rw[←V.findIdx k];obtain⟨l⟩:=es;simp
 cases hi:es.findIdx? λe=>knd.is k e.key with
 |some i=>
  have a0:ab0 kvs k=(es[i]?).map (·.val):=by rw[←hf k,findBy_of_findIdx?,hi]
  refine Mz (wpAny_dictEntries (s:={s with toks:=s.toks+1}) F hd ?_);cases he:es[i]? with
  |none=>
   exfalso;have:=Array.findIdx?_eq_some_iff_findIdx_eq.mp hi;have D:i<es.size:=this.1;rw[Array.getElem?_eq_getElem D]at he;exact nomatch he
  |some e=>
   rw[he]at a0;exact Mz (aer (Z3 (h1 e.val a0)))
 |none=>
  have a0:ab0 kvs k=af:=by rw[←hf k,findBy_of_findIdx?,hi]
  have a1:k∉kvs.map (·.1):=not_mem_of_findIdx_none (a3▸hi);have a2:¬(kvs.any λkv=>decide (kv.1=k))=ag:=by
   rw[abD];rintro⟨kv,a4,he⟩;exact a1 (aa3.mpr ⟨kv,a4,abQ he⟩)
  refine Mz (aer (Mz (wpAny_updateDictKeys (hz:=a5) (s:={s with toks:=s.toks+1}) F hd (Z3 (h2 a0 _ ⟨_,_,Z+1,acA _ F (Obj.isFreed_of_dict (afl hd _)),
   O.mapDictKeys _,afl hd _,I.push z _,?_,?_⟩ (afw ..))))))
  .rw[stored,aag a2]
   have:=V.append z (knd.hash k) v;obtain⟨l⟩:=es;simpa using this
  .rw[stored,aag a2,aat,aaY]
   refine⟨hn,by simp,?_⟩;intro a Y b U;simp![ZX,aax,aab]at U;subst U;exact λe=>a1 (e▸Y)
end
def Wj:V->List V->Hp->VK->Prop:=λx J H Q=>∃a kvs k y,x= .ref a/\J=[kV k,y]/\H a=ac 2.20/\kvs.length<Z0/\(∀v,jc kvs k=ac v->Q v H)/\(jc kvs k=af->Q y (upd H a (.dK (putK kvs k y))))
theorem Qw{X:Cx}:MtM X "dict.setdefault" Wj:=by
 intro pins s σ H x J v us Q I rx U h;obtain⟨a,kvs,k,y,rfl,rfl,hH,Y,q1,q2⟩:=h;cases rx;obtain⟨u,r,rfl,ru,rr⟩:=U.two;obtain⟨z,hd,ps,rel,D⟩:=x_ I.hok hH;refine ac2 F.slot_dict_setdefault D.typeIs F.entry_dict_setdefault (F.args_dict_setdefault_3 _ _ _) (S:=λA R s'=>A=X.A/\s'=s/\∀v s2,EP X pins σ Q v s2->R (.ok (.ret v)) s2) ?_ ⟨rfl,rfl,λv s2 q=>q⟩;rintro A R s' ⟨rfl,rfl,kk⟩;unfold Builtin.«dict.setdefault»;refine Mz ?_;unfold Builtin.Dict.keyAndDefault;refine Mz (wpAny_notOrdered_dict D.typeIs ?_);show wpAny _ _ (pure (a,u,ac r)) _ _ s';refine Z3 ?_;show wpAny _ _ (if(a==abp)=ag then _ else(ae8 a u r >>=_)) _ _ s';rw[aag (by rw[hd];exact aav)];have hz:ps.length<=Z0:=by rw[←rel.length];exact z
 refine Mz (Jw (hsz:=hz) (nU ru) D (λx hx=>Z3 ?_) λhn h' a0 hs=>Z3 ?_)
 .refine kk _ _ ?_
  cases Z:jc kvs k with
  |none=>
   have:=mU.none_of (o:=ab0 ps k) (by rw[←Z];exact rel.val k);rw[hx]at this;cases this
  |some v0=>
   obtain⟨w',hw,O⟩:=mU.some_of (v:=v0) (o:=ab0 ps k) (by rw[←Z];exact rel.val k);rw[hx]at hw;cases hw;exact⟨v0,H,I.tok _,O,q1 v0 Z⟩
 .refine kk _ _ ?_
  have Z:jc kvs k=af:=by
   cases Z:jc kvs k with
   |none=>rfl
   |some v0=>
    obtain⟨w',hw,O⟩:=mU.some_of (v:=v0) (o:=ab0 ps k) (by rw[←Z];exact rel.val k);rw[hn]at hw;cases hw
  have V:∃q,h'.get? a=ac q:=let⟨q,_,_,hq,_⟩:=a0;⟨q,hq⟩;have a1:(putK kvs k y).length<=Z0:=by have:=jK kvs k y;omega
  exact⟨y,_,oW I (by rw[hH];exact aa5) hs V (Bs a1 hd (rel.put k rr) a0),rr,q2 Z⟩
def Fw(i:Nat)(fa:En->Option 2.79)(ρ:En):Option (Nat×En):=match ρ[i]? with
 |some (ac (.dct .own ks ds))=>match fa ρ with
  |some [kd,.lst .own []]=>match dm kd with
   |some k=>if ks.length<1000000 then(match c7 ks k with
    |some j=>ac (j,ρ)
    |none=>ac (ks.length,ρ.set i (ac (.dct .own (ks++[k]) (ds++[.lst .own []])))))else af
   |none=>af
  |_=>af
 |_=>af
def Er(i:Nat)(fa fx:En->Option 2.79):En->Option Fl:=λρ=>(Fw i fa ρ).bind λp=>(fx p.2).bind λes=>(upS bT i [p.1] es p.2).map λq=>.nx q.2
def Ej{ks:List Key}{k:Key}(h:c7 ks k=af):c7 (ks++[k]) k=ac ks.length:=by
 unfold c7 at *
 rw[afm,h];simp
variable{fa:En->Option (List D)}
def SQ{t1 t2:TA}{fx:En->Option 2.79}(h1:RfA G ob t1 fa)(h2:RfA G ob t2 fx):RfS G ob P (Eh (tBM G.K "list" sO (tBM G.K "dict" Wj (xW i) t1) t2)) (Er i fa fx):=λρ r e σ H S Fr s E q=>by
 unfold Er at e;cases e1:Fw i fa ρ with
 |none=>simp[e1]at e
 |some p=>
  obtain⟨j,ρ1⟩:=p;cases e2:fx ρ1 with
  |none=>simp[e1,e2]at e
  |some es=>
   cases e3:upS bT i [j] es ρ1 with
   |none=>simp[e1,e2,e3]at e
   |some p=>
    obtain⟨res,ρ'⟩:=p;have:Fl.nx ρ'=r:=by simpa[e1,e2,e3]using e
    subst this;obtain⟨d0,d,d',g1,g2,c1,c2,g3,rfl⟩:=zJ e3;have fin:∀(v:V)(v0:V)(H1:Hp)(S1:Ad)(M:List Addr),Sta G H1 ob ρ1 σ S1 Fr->Mv P H H1 σ σ S S1 []->σ[i]? =ac (ac v0)->Foc G H1 (wn ob S1 Fr) d0 v0 (S1 i) [j] d v M->
      tyV G.K "list" v H1/\t2 σ H1 (λxs H2=>sO v xs H2 λx H'=>E.nx σ H'):=λv v0 H1 S1 M a3 m1 a1 a8=>by
     refine⟨?_,?_⟩
     .unfold bT at g3
      split at g3
      .have:=a8.r
       rw[Rep]at this;obtain⟨a,xs,M2,rfl,_,hs⟩:=this;exact .inl ⟨rfl,_,SqL.of hs.1⟩
      .cases g3
     .refine h2 ρ1 es e2 σ H1 _ a3.rel a3.wok _ λxs H2 N s2 re O nd=>?_
      have d3:Sta G H2 ob ρ1 σ S1 (plus N Fr):=a3.grow s2 λa z=>z.elim (λz=>.inr ⟨O a z,re.dom a z⟩) .inl;have up:Up H1 H2 (wn ob S1 Fr) (wn ob S1 (plus N Fr)):=Up.add s2 O;have c6:=a8.mono (.inr up) up.evo λc _ u hu=>s2 c u hu;have hF:∀a∈N,¬Fr a:=λa Y z=>by
       obtain⟨o,F,_⟩:=a3.fdm a z;rw[O a Y]at F;cases F
      refine nq qO d3 g1 a1 g2 c6 re nd hF c1 c2 g3 λx H' R S' q1 q2 q3 q4 q5 q6 q7 q8=>q σ H' S' (q1.lessF λa z=>.inr z) (m1.trans ⟨λb u U n _=>q8 b u (s2 b u U) λz=>n ⟨i,z⟩,λk a z=>?_,.refl⟩);by_cases I:k=i
      .subst I
       rcases q6 a z with y|y|y
       .exact .inl ⟨k,y⟩
       .exact .inr (.inr (O a y))
       .exact .inr (.inr (s2.none' y))
      .rw[q5 k I]at z;exact .inl ⟨k,z⟩
    unfold Fw at e1;split at e1
    .rename_i ks ds hi
     split at e1
     .rename_i kd hfa
      split at e1
      .rename_i k I
       split at e1
       .rename_i hl
        obtain⟨v0,a1,b8,J⟩:=s.sl i _ hi;refine⟨v0,a1,?_,?_⟩
        .have:=b8
         rw[Rep]at this;obtain⟨a,kvs,M0,rfl,_,Z,Y,_⟩:=this;exact .inr (.inr (.inl ⟨rfl,.inl ⟨_,Y⟩⟩))
        .refine h1 ρ _ hfa σ H _ s.rel s.wok _ λxs H1 N s1 re O nd=>?_
         have a3:Sta G H1 ob ρ σ S (plus N Fr):=s.grow s1 λa z=>z.elim (λz=>.inr ⟨O a z,re.dom a z⟩) .inl;have a0:=a3.sl i _ hi;obtain⟨v1,c4,a0,_⟩:=a0;rw[a1]at c4;cases c4;have a7:=a0;rw[Rep]at a7;obtain⟨a,kvs,M0,rfl,⟨a6,e0⟩,Z,Y,d8⟩:=a7;obtain⟨x1,zs,N1,N2,rfl,rfl,d6,hz⟩:=re.inv;obtain⟨x2,zs,N3,N4,rfl,rfl,d9,hz⟩:=hz.inv;obtain⟨rfl,rfl⟩:=hz.inv0;have c3:=i_ d6 I;subst c3;have c9:kvs.length<Z0:=vP (by rw[←a6]at hl;simpa using hl);have hF:∀a∈N1++(N3++[]),¬Fr a:=λa Y z=>by
          obtain⟨o,F,_⟩:=s.fdm a z;rw[O a Y]at F;cases F
         split at e1
         .rename_i j' hj
          cases e1;rw[hi]at g1;cases g1;have c8:Sta G H1 ob ρ σ S Fr:=a3.lessF λa z=>.inr z;obtain⟨v3,b1,b7,b6⟩:=c8.sl i _ hi;rw[a1]at b1;cases b1;have b2:ds[j]? =ac d:=by simpa[fJ,kids]using g2
          obtain⟨a2,b9,x,M,b4,a9,d2,b3,a8⟩:=Foc.dct b7 b6 b2;cases b4;rw[Y]at a9;cases a9;have a4:=gB (kvs:=kvs) (k:=k) (j:=j) (by rw[a6];exact hj);rw[b3]at a4;refine⟨a,kvs,k,x2,rfl,rfl,Y,c9,λv hv=>?_,λhv=>by rw[a4]at hv;cases hv⟩;rw[a4]at hv;cases hv;exact fin x _ H1 S M c8 ⟨λb u U _ _=>s1 b u U,λk a z=>.inl ⟨k,z⟩,.refl⟩ a1 a8
         .rename_i hj
          cases e1;have a4:jc kvs k=af:=jn (by rw[a6];exact hj);refine⟨a,kvs,k,x2,rfl,rfl,Y,c9,(λv hv=>by rw[a4]at hv;cases hv),λ_=>?_⟩;have hop:gj 2.108 [kd,.lst .own []]=ac (.dct .own (ks++[k]) (ds++[.lst .own []]),.non):=by
           simp![gj,I,gD,hl,aal,iI,hj]
          have d5:=nq (ob:=ob) (p:=[]) (d0:=.dct .own ks ds) (Q:=λ_ H'=>∀x,(∃kv,H' a=ac (.dK kv)/\jc kv k=ac x)->tyV G.K "list" x H'/\t2 σ H' (λxs H2=>sO x xs H2 λx H'=>E.nx σ H')) Hl a3 hi a1 rfl (Foc.nil a0) re nd hF (by cases kd<;>simp[dm]at I<;>rfl) (by cases kd<;>simp[dm]at I<;>rfl) hop (λx H' R S' q1 q2 q3 q4 q5 q6 q7 q8=>?_)
          .obtain⟨i1,v1,he,h5⟩:=d5
           cases he;have c5:jc (putK kvs k x2) k=ac x2:=by
            rw[lz (by rw[a6];exact hj)];have hn:c7 ((kvs++[(k,x2)]).map (·.1)) k=ac ks.length:=by
             rw[aat,a6];exact Ej hj
            rw[gB hn,aat,aa8 (by rw[←a6];simp)];rw[←a6];simp
           rcases h5 with⟨b5,ys,n5,y5,d4,e4,c0,_⟩|⟨a5,H5,e5,g5,h5⟩
           .cases d4
            rw[Y]at c0;cases c0
           .cases e5
            rcases g5 with⟨d7,k5,f1,f2,f3,f4⟩|⟨d7,k5,b5,f1,_⟩
            .rw[Y]at f1
             cases f1;have:k5=k:=by cases k5<;>cases k<;>cases f2<;>rfl
             subst this;subst f4;exact h5 x2 ⟨_,aR,c5⟩
            .rw[Y]at f1;cases f1
          .rintro y ⟨kv,hkv,hy⟩
           rw[aa0 (List.getElem?_eq_some_iff.mp hi).1]at g1;cases g1;have d1:Sta G H' ob (ρ.set i (ac (.dct .own (ks++[k]) (ds++[.lst .own []])))) σ S' Fr:=q1.lessF λa z=>.inr z;obtain⟨v3,b1,b7,b6⟩:=d1.sl i _ (aa0 (List.getElem?_eq_some_iff.mp hi).1);rw[a1]at b1;cases b1;have b2:(ds++[.lst .own []])[ks.length]? =ac d:=by simpa[fJ,kids]using g2
           obtain⟨a2,b9,x',M,b4,a9,d2,b3,a8⟩:=Foc.dct b7 b6 b2;cases b4;rw[hkv]at a9;cases a9;have b0:=gB (kvs:=kv) (k:=k) (j:=ks.length) (by rw[d2.1];exact Ej hj);rw[b3,hy]at b0;cases b0;refine fin y _ H' S' M d1 ⟨λb u U n _=>q8 b u (s1 b u U) λz=>n ⟨i,z⟩,λk a z=>?_,.refl⟩ a1 a8;by_cases I:k=i
           .subst I
            rcases q6 a z with y|y|y
            .exact .inl ⟨k,y⟩
            .exact .inr (.inr (O a y))
            .exact .inr (.inr (s1.none' y))
           .rw[q5 k I]at z;exact .inl ⟨k,z⟩
       .cases e1
      .cases e1
     .cases e1
    .cases e1
def Ii(i:Nat){I q a0 V:Pos}{k l x:Expr}{fx:En->Option 2.79}(Y:PVA X G ob [k,l] fa)(J:PVA X G ob [x] fx)
  (b3:∀c,(X c).N[i]? =ac y:=by intro _;rfl) (Z:∀c,Vis (X c).env.scope y:=by intro _;first|exact aa_ rfl|exact aaL (aa_ rfl)|exact aaL 2.205) (hd:(y==("__debug__":Str))=ae:=by decide) (O:(y==("__classdict__":Str))=ae:=by decide)
  (a4:∀c,abX (.Call (.Attribute (.Call (.Attribute 2.69 "setdefault" I) [k,l] [] q) "append" a0) [x] [] V) af pos.line (X c).env=pure ae:=by intro _;rfl)
  (U:∀c,abj 2.69 "setdefault" (X c).env (eval 2.69 (X c).env)=eval 2.69 (X c).env:=by intro _;rfl)
  (a6:∀c,abj (.Call (.Attribute 2.69 "setdefault" I) [k,l] [] q) "append" (X c).env (eval (.Call (.Attribute 2.69 "setdefault" I) [k,l] [] q) (X c).env)=eval (.Call (.Attribute 2.69 "setdefault" I) [k,l] [] q) (X c).env:=by intro _;rfl)
  (a8:∀c,((aa1 q (Z1 [k,l] (X c).env)).all (λx=>!x.1)&&(ac1 q (ab9 [] (X c).env)).all (λx=>x.1.isSome)&&decide ([k,l].length+([]:List abE).length+(if([]:List abE).isEmpty then 0 else 1)<30))=ag:=by intro _;rfl)
  (a3:∀c,((aa1 V (Z1 [x] (X c).env)).all (λx=>!x.1)&&(ac1 V (ab9 [] (X c).env)).all (λx=>x.1.isSome)&&decide ([x].length+([]:List abE).length+(if([]:List abE).isEmpty then 0 else 1)<30))=ag:=by intro _;rfl)
  (a5:(I.endLine==q.line)=ag:=by rfl) (z:(a0.endLine==V.line)=ag:=by rfl)
  (b4:∀c,Z1 [k,l] (X c).env=(ae,eval k (X c).env)::Z1 [l] (X c).env:=by intro _;rfl) (b0:∀c,Z1 [x] (X c).env=(ae,eval x (X c).env)::Z1 [] (X c).env:=by intro _;rfl)
  (a9:∀c,(aa1 q (Z1 [l] (X c).env)).any (·.1)=ae:=by intro _;rfl) (a7:∀c,(aa1 V (Z1 [] (X c).env)).any (·.1)=ae:=by intro _;rfl) (hK:∀c,(X c).K=G.K:=by intro _;rfl) :
  PVS X G ob P (.Expr (.Call (.Attribute (.Call (.Attribute 2.69 "setdefault" I) [k,l] [] q) "append" a0) [x] [] V) pos) (Er i fa fx):=
 let⟨_,a1,a2⟩:=Y.ex;let⟨_,b1,b2⟩:=J.ex
 ⟨_,λc=>(by rw[←hK c];exact rZ (zc aaW abM abN tR (zc aaX adW adX Qw (w5 (b3 c) (Z c) hd O) (a1 c) (U c) (a8 c) a5 (b4 c) (a9 c)) (b1 c) (a6 c) (a3 c) z (b0 c) (a7 c)) (a4 c)),SQ a2 b2⟩
def NT(l b:Addr)(es J:Array DictEntry)(Z a1:Nat)(D a3:Option Addr)(sl I:Array (Option Value))(a2:(l==abp)=ae)(O:(b==abp)=ae)(z:J.size=0) :
  Meets (Builtin.«dict.__ne__» ⟨[.ref l,.ref b],[]⟩) (λ_ R s=>s.heap.get? l=ac {cls:=.type "dict",dict:=D,data:=.dict es Z,slots:=sl}/\s.heap.get? b=ac {cls:=.type "dict",dict:=a3,data:=.dict J a1,slots:=I}/\R (.ok (.ret (.bool (es.size !=0)))) s):=by
 intro prog w A R s h;obtain⟨V,g,d,tk,os⟩:=s;obtain⟨Y,U,h⟩:=h;have f1:¬(l==abp)=ag:=by rw[a2];exact aav
 have q:¬(b==abp)=ag:=by rw[O];exact aav
 have f3:isSubtype (.type "dict") (.type "dict")=pure ag:=PySem.F.sub_dict_dict
 wp_walk using PySem.AutoSeq1.wpAny_loadPart' Y,PySem.AutoSeq1.wpAny_loadPart' U
 by_cases he:es.size=0
 .rw[he]at h⊢
  rw[z];simp![afx,agy,abL,abz,Nat.add_sub_cancel,Nat.div_one,List.range'_zero,List.forIn_nil]
  wp_walk using PySem.AutoSeq1.wpAny_loadPart' Y,PySem.AutoSeq1.wpAny_loadPart' U
  exact h
 .have hne:(es.size !=J.size)=ag:=by rw[z];simpa using he
  have a0:(es.size !=0)=ag:=by simpa using he
  rw[a0]at h;rw[if_pos hne]
  wp_walk using PySem.AutoSeq1.wpAny_loadPart' Y,PySem.AutoSeq1.wpAny_loadPart' U
  exact h
def ZM(A:aaK):R2:=λx y H Q=>∃a b kvs,x= .ref a/\y= .ref b/\Rd H a 2.20/\Rd H b (.dK [])/\A.units<cLine/\Q (.bl (kvs.length !=0)) H
theorem V3{X:Cx}:OpR X (aar .NotEq) (ZM X.A):=by
 intro pins s σ H x y v u Q I rx ry ⟨a,b,kvs,ex,ey,h1,h2,hu,q⟩;subst ex ey;cases rx;cases ry;obtain⟨z,hd,J,rel,o,es,Z,ho,O,a2,hk,V,hn⟩:=nG I.hok h1;obtain⟨z2,a6,b5,a4,o2,a1,a7,a5,b0,a0,b6,a9,b7⟩:=nG I.hok h2;obtain⟨cls,D,data,sl⟩:=o;obtain⟨b4,a8,b2,b1⟩:=o2;have b3:es.size=kvs.length:=by
  have e1:=V.length;have e2:es.toList.length=es.size:=by simp
  have Y:=rel.length;omega
 have a3:a1.size=0:=by
  have e1:=a9.length;have e2:a1.toList.length=a1.size:=by simp
  have Y:=a4.length;simp at Y;omega
 obtain⟨U,c2,c3⟩:=O;obtain⟨k1,k2,k3⟩:=b0;simp only at U c2 c3 k1 k2 k3 a2 a0;subst U k1 a2 a0;refine aeV (op:=.NotEq) ⟨_,ho,rfl⟩ ⟨_,a5,rfl⟩ F.slot_dict_ne F.entry_dict_ne (F.args_dict_ne_2 _ _) (NT a b es a1 Z a7 D a8 sl b1 hd a6 a3) ⟨ho,a5,?_⟩ hu;rw[b3];exact⟨(λx=>nomatch x),.bl (kvs.length !=0),H,I,rfl,q⟩
def Ed(A:aaK)(s:jl)(y x:Value)(b:Bool):Prop:=
 ∀(prog:aad)(w:World)(E:Value->jl->Prop)(Q:Value->jl->Prop),Q (.bool b) s->wpAny 2.15 A (richCompare .Lt y x) Q E s
def pH(e l:Nat->Bool)(z:Bool):List Nat->Bool
 |[]=>z
 |j::r=>if e j then pH e l z r else l j
def Gh(l b:Addr)(items q:Array Value)(n n2:Nat)(dd z:Option Addr)(sl I:Array (Option Value))(e f:Nat->Bool) :
  Meets (Builtin.«tuple.__lt__» ⟨[.ref l,.ref b],[]⟩)
   (λA R s=>s.heap.get? l=ac {cls:=.type "tuple",dict:=dd,data:=.seq items n,slots:=sl}/\s.heap.get? b=ac {cls:=.type "tuple",dict:=z,data:=.seq q n2,slots:=I}/\
    (∀j (h1:j<items.size)(h2:j<q.size),agf A.in1 s items[j] q[j] (e j)/\(e j=ae->Ed A.in1 s items[j] q[j] (f j)))/\
    R (.ok (.ret (.bool (pH e f (decide (items.size<q.size)) (aaG 2.85))))) s):=
 .of_wp λprog w A R s h=>by
  obtain⟨V,g,d,tk,os⟩:=s;obtain⟨Y,U,he,h⟩:=h;have f2:=AutoSeq1.sub_tuple_tuple;have hZ:(items.toList.zip q.toList).length=min items.size q.size:=by simp
  wp_walk using PySem.AutoSeq1.wpAny_loadPart' Y,PySem.AutoSeq1.wpAny_loadPart' U,wpAny_forIn_list _ (λrest b s'=>b.1=af/\s'=⟨V,g,d,tk,os⟩/\∃i,rest=(items.toList.zip q.toList).drop i/\
   R (.ok (.ret (.bool (pH e f (decide (items.size<q.size)) ((aaG 2.85).drop i))))) ⟨V,g,d,tk,os⟩) _
  case turn=>
   rintro⟨y,x⟩ rest b s' ⟨O,rfl,i,hz,Z⟩;have a0:i<(items.toList.zip q.toList).length:=by
    rcases afP i (items.toList.zip q.toList).length with h'|h'
    .exact h'
    .rw[ado h']at hz;cases hz
   have hm:i<min items.size q.size:=hZ▸a0;have h1:i<items.size:=Z9 hm (Nat.min_le_left _ _);have h2:i<q.size:=Z9 hm (aga _ _);rw[ab8 a0]at hz;injection hz with hyx hrest;have hy:y=items[i]:=by have:=congrArg Prod.fst hyx;simpa using this
   have J:x=q[i]:=by have:=congrArg Prod.snd hyx;simpa using this
   subst hy J;have hd:(aaG 2.85).drop i=i::(aaG 2.85).drop (i+1):=by simp[ab8,hm]
   rw[hd,pH]at Z;refine Mz ((he i h1 h2).1 prog w _ _ ?_);cases hy:e i with
   |true=>
    rw[hy]at Z
    wp_walk
    exact⟨rfl,rfl,i+1,hrest,by simpa using Z⟩
   |false=>
    rw[hy]at Z;have D:∀{E:Value->jl->Prop}{Q:Value->jl->Prop},Q (.bool (f i)) ⟨V,g,d,tk,os⟩->wpAny 2.15 A.in1 (richCompare .Lt items[i] q[i]) Q E ⟨V,g,d,tk,os⟩:=λ{E Q} h=>(he i h1 h2).2 hy prog w E Q h
    wp_walk using D
    exact⟨_,rfl,by simpa using Z⟩
  case fin=>
   rintro⟨b1,F⟩ s' ⟨O,rfl,i,hz,Z⟩;simp only at O;subst O;have a1:min items.size q.size<=i:=by
    rcases afP i (items.toList.zip q.toList).length with h'|h'
    .rw[ab8 h']at hz;cases hz
    .exact hZ▸h'
   rw[ado (by simpa using a1),pH]at Z
   wp_walk
   exact⟨_,rfl,by simpa[Builtin.Tuple.tupleCompareSizes]using Z⟩
  case h=>
   exact⟨rfl,rfl,0,rfl,by simpa using h⟩
theorem Ed.tuples{A:aaK}{s:jl}{l:Addr}{q:Array Value}{e f:Nat->Bool}(Y:s.heap.IsTuple l items)(U:s.heap.IsTuple b q)(hu:A.units<cLine)
  (V:∀j (h1:j<items.size)(h2:j<q.size),agf A.in1 s items[j] q[j] (e j)/\(e j=ae->Ed A.in1 s items[j] q[j] (f j))):Ed A s (.ref l) (.ref b) (pH e f (decide (items.size<q.size)) (aaG 2.85)):=λprog w E Q h=>by
 obtain⟨⟨cls,D,data,sl⟩,ho,O,n,hd⟩:=id Y;obtain⟨⟨a3,z,a2,a1⟩,a0,I,Z,J⟩:=id U;simp only at O hd I J;subst O hd I J;exact aeV (op:=.Lt) ⟨_,ho,rfl⟩ ⟨_,a0,rfl⟩ F.slot_tuple_lt F.entry_tuple_lt (F.args_tuple_lt_2 _ _) (Gh l b items q n Z D z sl a1 e f) ⟨ho,a0,V,(λx=>nomatch x),h⟩ hu
def Ln(p q:Int×Int):Bool:=decide (p.1<q.1)||(decide (p.1=q.1)&&decide (p.2<q.2))
def ltP:List (Int×Int)->List (Int×Int)->Bool
 |[],[]=>ae
 |[],_::_=>ag
 |_::_,[]=>ae
 |p::r,q::t=>if p=q then ltP r t else Ln p q
def TP(H:Hp)(a:Addr)(ps:List (Int×Int)):Prop:=∃xs,H a=ac 2.54/\xs.length=ps.length/\∀(j:Nat)(p:Int×Int),ps[j]? =ac p->∃c,xs[j]? =ac (.ref c)/\H c=ac (.tup [.int p.1,.int p.2])
def eqX(ps qs:List (Int×Int))(j:Nat):Bool:=match ps[j]?,qs[j]? with
 |some p,ac q=>decide (p=q)
 |_,_=>ae
def ltX(ps qs:List (Int×Int))(j:Nat):Bool:=match ps[j]?,qs[j]? with
 |some p,ac q=>Ln p q
 |_,_=>ae
def Di{e l e' l':Nat->Bool}{z:Bool}(g:Nat->Nat)(h1:∀j,e (g j)=e' j)(h2:∀j,l (g j)=l' j):∀r:List Nat,pH e l z (r.map g)=pH e' l' z r
 |[]=>rfl
 |j::r=>by simp![ZX,pH,h1,h2,Di g h1 h2 r]
def Cp:∀ps qs:List (Int×Int),pH (eqX ps qs) (ltX ps qs) (decide (ps.length<qs.length)) (aaG (min ps.length qs.length))=ltP ps qs
 |[],[]=>rfl
 |[],q::t=>by simp[pH,ltP]
 |p::r,[]=>by simp[pH,ltP]
 |p::r,q::t=>by
  have F:=Cp r t;rw[Z4,Z4,Nat.succ_min_succ,acp,pH,Di (e':=eqX r t) (l':=ltX r t) Nat.succ (λj=>rfl) (λj=>rfl),ltP];rw[show decide (r.length+1<t.length+1)=decide (r.length<t.length)by simp,F];by_cases h:p=q
  .simp[eqX,h]
  .simp[eqX,ltX,h]
variable{X:Cx}{σ:L2.St}
theorem Tn(I:Inv X pins σ H s){c V:Addr}{p q:Int×Int}(h1:H c=ac (.tup [.int p.1,.int p.2]))(h2:H V=ac (.tup [.int q.1,.int q.2]))(hz:A.units<cLine):Ed A s (.ref c) (.ref V) (Ln p q):=by
 obtain⟨J,z,p1,_⟩:=I.tuple (SqT.of h1);obtain⟨D,F,p2,_⟩:=I.tuple (SqT.of h2);obtain⟨O,u2,rfl,⟨Z,rfl⟩,⟨t2,rfl⟩⟩:=z.two;obtain⟨v1,v2,rfl,⟨w1,rfl⟩,⟨w2,rfl⟩⟩:=F.two;have:=Ed.tuples (A:=A) (e:=λj=>if j=0 then p.1==q.1 else p.2==q.2) (f:=λj=>if j=0 then decide (p.1<q.1)else decide (p.2<q.2)) p1 p2 hz (λj h1 h2=>by
  have U:j=0∨j=1:=by
   have:j<2:=h1;omega
  rcases U with rfl|rfl
  .exact⟨aeE _ _ _ _,λ_ prog w E Q h=>lt_int h⟩
  .exact⟨aeE _ _ _ _,λ_ prog w E Q h=>lt_int h⟩)
 have e:pH (λj=>if j=0 then p.1==q.1 else p.2==q.2) (λj=>if j=0 then decide (p.1<q.1)else decide (p.2<q.2)) (decide (2<2)) (aaG (min 2 2))=Ln p q:=by
  show pH _ _ _ [0,1]=_;simp![pH,Ln];by_cases Y:p.1=q.1
  .by_cases hb:p.2=q.2
   .simp[Y,hb]
   .simp[Y,hb]
  .simp[Y]
 rw[←e];exact this
def Xo(I:Inv X pins σ H s){ps qs:List (Int×Int)}(h1:TP H a ps)(h2:TP H b qs)(hz:A.units+1<cLine):Ed A s 2.184 (.ref b) (ltP ps qs):=by
 obtain⟨xs,Y,hl,J⟩:=h1;obtain⟨ys,U,z,hy⟩:=h2;obtain⟨a3,a1,p1,_⟩:=I.tuple (SqT.of Y);obtain⟨D,a2,p2,_⟩:=I.tuple (SqT.of U);have l1:=a1.length;have l2:=a2.length;rw[←Cp];have:=Ed.tuples (A:=A) (e:=eqX ps qs) (f:=ltX ps qs) p1 p2 1.10 (λj h1 h2=>by
  rw[List.size_toArray]at h1 h2;obtain⟨c,O,q⟩:=J j ps[j] (by rw[List.getElem?_eq_getElem]);obtain⟨c',F,a0⟩:=hy j qs[j] (by rw[List.getElem?_eq_getElem]);obtain⟨u,hu,Z⟩:=a1.get O;obtain⟨u',a5,a7⟩:=a2.get F;cases Z;cases a7;have e1:a3.toArray[j]'(by simpa using h1)= .ref c:=by simpa using(List.getElem?_eq_some_iff.mp hu).2
  have e2:D.toArray[j]'(by simpa using h2)= .ref c':=by simpa using(List.getElem?_eq_some_iff.mp a5).2
  have a6:ps[j]? =ac ps[j]:=List.getElem?_eq_getElem _;have a4:qs[j]? =ac qs[j]:=List.getElem?_eq_getElem _;rw[e1,e2];simp![eqX,ltX,a6,a4];refine⟨?_,λ_=>Tn I q a0 (show A.units+1<cLine from hz)⟩;have hB:∀{c:Addr}{p:Int×Int},H c=ac (.tup [.int p.1,.int p.2])->Brs X.K H (.tup [.int p.1,.int p.2]) (.ref c):=λ{c p} h=>by
   simp![Brs,je];exact⟨c,_,rfl,SqT.of h,_,_,rfl,rfl,_,_,rfl,rfl,rfl⟩
  have k:=Gg (A:=A.in1) I (show A.units+1<cLine from hz) (d:=.tup [.int ps[j].1,.int ps[j].2]) (e:=.tup [.int qs[j].1,.int qs[j].2]) ⟨_,_,rfl,rfl,λp V=>by
   simp at V;rcases V with rfl|rfl
   .exact Sc.int _ _
   .exact Sc.int _ _⟩ (hB q) (hB a0) (v':=.ref c) (u':=.ref c') rfl rfl
  have e3:eqD (.tup [.int ps[j].1,.int ps[j].2]) (.tup [.int qs[j].1,.int qs[j].2])=decide (ps[j]=qs[j]):=by
   simp![eqD,eqL,aej];rw[abe];simp[Prod.ext_iff]
  rw[←e3];exact k)
 rw[List.size_toArray,List.size_toArray,←l1,←l2,hl,z]at this;exact this
def Zz(A:aaK):R2:=λx y H Q=>∃a b ps qs,x= .ref a/\y= .ref b/\TP H a ps/\TP H b qs/\A.units+1<cLine/\Q (.bl (ltP ps qs)) H
def UL:OpR X (aar .Lt) (Zz X.A):=by
 intro pins s σ H x y v u Q I rx F ⟨a,b,ps,qs,ex,U,h1,h2,hu,q⟩;subst ex U;cases rx;cases F;exact Xo I h1 h2 hu _ _ _ _ ⟨.bl (ltP ps qs),H,I,rfl,q⟩
def wz(D I:Str)(i:Nat)(n:Int):En->Option Fl:=λρ=>match ρ[i]? with
 |some (ac d)=>ac (.ret (.dct .own [.inr D,.inr I] [d,.int n]) (ρ.set i af))
 |_=>af
variable{n:Int}
def Ko{D k2:Str}(I:D≠k2):RfS G ob P (S_ (KC [(tC (.str D),xW i),(tC (.str k2),tC (.int n))])) (wz D k2 i n):=λρ r e σ H S Fr s E q=>by
 unfold wz at e;split at e
 .rename_i d h1
  cases e;obtain⟨v,O,a2,a3,a4⟩:=s.move h1;have hj:∀k a,a∈h_ S i [] k->a∈S k:=λk a z=>(dO z).elim (λz=>by cases z.2) λz=>z.2;have a0:=(by simpa[clean]using a2:aA d=ag/\az d=ag);intro p V;have Z:([aaf D,aaf k2]:List Key).Nodup:=by simp[I]
  refine⟨v,O,aR,[(.inr D,v),(.inr k2,.int n)],rfl,(show 2<=15 by decide),?_⟩;rw[qp (by simpa using Z),List.nil_append];have a6:p∉S i:=λz=>by obtain⟨o,F,_⟩:=s.mu z;rw[V]at F;cases F
  have J:Same H (upd (upd H p (.dK [])) p (.dK [(.inr D,v),(.inr k2,.int n)])):=λb u U=>by
   have a5:b≠p:=λz=>by rw[z,V]at U;cases U
   rw[aO a5,aO a5];exact U
  refine q 2.49 σ _ (p::S i) (h_ S i []) (a3.grow J λa Y=>?_) ?_ ?_ (aah.mpr ⟨a6,s.nd i⟩) (λa Y=>?_) ⟨λb u h _ _=>J b u h,λk a z=>.inl ⟨k,hj k a z⟩,.refl⟩
  .rcases Y with z|z
   .rcases Z2.mp z with z|z
    .exact .inr ⟨by rw[z];exact V,⟨_,by rw[z];exact aR,rfl⟩⟩
    .exact .inl 2.29
   .exact .inl 2.42
  .rw[Rep]
   refine⟨p,_,S i,rfl,⟨rfl,Z⟩,?_,aR,rfl⟩;have ev:Evo H (upd (upd H p (.dK [])) p (.dK [(.inr D,v),(.inr k2,.int n)])) (wn ob (h_ S i []) (plus (S i) Fr)) (wn ob (h_ S i []) (plus (p::S i) Fr)):=⟨λb u h f=>⟨J b u h,⟨λz=>by
    rcases z with z|z
    .rcases Z2.mp z with z|z
     .rw[z,V]at h;cases h
     .exact f.1 2.29
    .exact f.1 2.42,f.2⟩⟩,λb xs h=>J b _ h⟩
   have:=aJ.cons (a4.mono ev (.inl a0.1) (.inl a0.2) λc _ u e=>J c u e) (aJ.one (show Rep G _ _ (.int n) (.int n) []by rw[Rep];exact⟨rfl,rfl⟩));rw[List.append_nil]at this;exact this
  .simp[clean,aA,az,aF,aD,a0.1,a0.2]
  .rcases Z2.mp Y with z|z
   .rw[z];exact .inr V
   .exact .inl ⟨i,z⟩
 .cases e
variable{X:ι->Cx}
def JX(i:Nat){D U:Str}{q F J:Pos}{j1 j2 j3}(I:D≠U:=by decide)(z:∀c,(X c).N[i]? =ac x:=by intro _;rfl)(Z:∀c,Vis (X c).env.scope x:=by intro _;first|exact aa_ rfl|exact aaL (aa_ rfl)|exact aaL 2.205)(hd:(x==("__debug__":Str))=ae:=by decide)(O:(x==("__classdict__":Str))=ae:=by decide) :
  PVS X G ob P (.Return (ac (.Dict [ac (.Constant (.str D) j1 p1),ac (.Constant (.str U) j2 p2)] [.Name x q,.Constant (.int n) j3 F] J)) pos) (wz D U i n):=
 ⟨_,λc=>Bk (Hn (xm Gv (w5 (z c) (Z c) hd O) (xm Gv Ob HX)) rfl rfl (by simp) (show 2<=15 by decide)),Ko I⟩
def Mq(x y:D):Option D:=match x,y with
 |.dct _ ks _,.dct _ [] _=>ac (.bl (ks.length !=0))
 |x,y=>gNe x y
def prD:D->Option (Int×Int)
 |.tup [.int i,.int j]=>ac (i,j)
 |_=>af
def A_(x y:D):Option D:=match x,y with
 |.tup a,.tup b=>(match a.mapM prD,b.mapM prD with
  |some ps,ac qs=>ac (.bl (ltP ps qs))
  |_,_=>af)
 |x,y=>gLt x y
def Ar:∀{ds:List D}{xs:List V}{L:List Addr}{ps:List (Int×Int)},aJ G H W ds xs L->ds.mapM prD=ac ps->xs.length=ps.length/\∀(j:Nat)(p:Int×Int),ps[j]? =ac p->∃c,xs[j]? =ac (.ref c)/\H c=ac (.tup [.int p.1,.int p.2])
 |[],xs,L,ps,h,e=>by
  obtain⟨rfl,rfl⟩:=h.inv0;simp at e;subst e;exact⟨rfl,λj p z=>by simp at z⟩
 |d::r,xs,L,ps,h,e=>by
  obtain⟨x,ys,M,M',rfl,rfl,h1,h2⟩:=h.inv;rw[agr]at e;cases hp:prD d with
  |none=>rw[hp]at e;cases e
  |some p0=>
   cases Z:r.mapM prD with
   |none=>rw[hp,Z]at e;cases e
   |some a1=>
    rw[hp,Z]at e;cases e;obtain⟨l,q⟩:=Ar h2 Z;refine⟨by simp[l],λj p z=>?_⟩;cases j with
    |zero=>
     cases z;unfold prD at hp;split at hp
     .cases hp
      rw[Rep]at h1;obtain⟨a,zs,rfl,Y,hz⟩:=h1;obtain⟨O,zs,J,U,rfl,_,a0,hz⟩:=hz.inv;obtain⟨I,zs,N3,N4,rfl,_,F,hz⟩:=hz.inv;obtain⟨rfl,_⟩:=hz.inv0;rw[Rep]at a0 F;obtain⟨rfl,_⟩:=a0;obtain⟨rfl,_⟩:=F;exact⟨a,rfl,Y⟩
     .cases hp
    |succ j=>exact q j p (by simpa using z)
def Ve(A:aaK)(D:∀c,(X c).A=A)(hu:A.units+64<cLine)(J:∀c,(X c).K=G.K:=by intro _;rfl):OpB X G (aar .NotEq) Mq:=by
 obtain⟨r,h1,h2⟩:=(kh (X:=X) (G:=G) A D hu J).ex;refine⟨_,λc=>OpR.or (h1 c) (by have:=@V3 (X c);rw[D c]at this;exact this),λdx dy d e x y H W O Y rx F nd hn w Q q=>?_⟩;unfold Mq at e;split at e
 .cases e
  rw[Rep]at rx F;obtain⟨a,kvs,M,rfl,I,Z,hs⟩:=rx;obtain⟨b,a0,M2,rfl,V,a1,U⟩:=F;have e0:a0=[]:=by simpa using V.1
  subst e0;refine .inr ⟨a,b,kvs,rfl,rfl,hs.rdD,U.rdD,by omega,?_⟩;have z:=congrArg acQ I.1;rw[Pr]at z;rw[z];exact q.scal λ_=>fL
 .exact .inl (h2 dx dy d e x y H W O Y rx F nd hn w Q q)
def UJ(A:aaK)(hA:∀c,(X c).A=A)(hu:A.units+64<cLine):OpB X G (aar .Lt) A_:=by
 obtain⟨r,h1,h2⟩:=(CW (X:=X) (G:=G)).ex;refine⟨_,λc=>OpR.or (h1 c) (by have:=@UL (X c);rw[hA c]at this;exact this),λdx I d e x y H W O Ly rx F nd hn w Q q=>?_⟩;unfold A_ at e;split at e
 .split at e
  .rename_i ps qs h5 h6
   cases e;rw[Rep]at rx F;obtain⟨a,xs,rfl,Y,Z⟩:=rx;obtain⟨b,ys,rfl,U,J⟩:=F;obtain⟨l1,V⟩:=Ar Z h5;obtain⟨z,D⟩:=Ar J h6;exact .inr ⟨a,b,ps,qs,rfl,rfl,⟨xs,Y,l1,V⟩,⟨ys,U,z,D⟩,by omega,q.scal λ_=>fL⟩
  .cases e
 .exact .inl (h2 dx I d e x y H W O Ly rx F nd hn w Q q)
def tyF(x:V)(H:Hp):Prop:=∃p kvs,x= .ref p/\Rd H p 2.20
def YT(r:V->List V->Hp->VK->Prop)(to:TE)(t:TA):TE:=λσ H Q=>to σ H λx H1=>tyF x H1/\t σ H1 λxs H2=>r x xs H2 Q
variable{to:TE}{t:TA}{r:V->List V->Hp->VK->Prop}
def W8{X:Cx}{o:Expr}{id:String}(slot:Slot "dict" name id)(a4:ae3 2.58=pure (.type "method_descriptor"))(hm:MtR X id r)(ho:PE X o to)(Y:PA X (e::es) t)
  (U:abj o name X.env (eval o X.env)=eval o X.env)
  (a2:((aa1 cpos (Z1 (e::es) X.env)).all (λx=>!x.1)&&(ac1 cpos (ab9 [] X.env)).all (λx=>x.1.isSome)
   &&decide ((e::es).length+([]:List abE).length+(if([]:List abE).isEmpty then 0 else 1)<30))=ag)
  (a1:(apos.endLine==cpos.line)=ag) (hs:Z1 (e::es) X.env=(ae,eval e X.env)::Z1 es X.env) (a0:(aa1 cpos 2.83).any (·.1)=ae) :
  PE X (.Call 2.215 (e::es) [] cpos) (YT r to t):=by
 intro pins s σ H Q I h;refine aeU U a2 a1 rfl (thn (ho pins s σ H _ I h) λv s1 ⟨x,H1,O,r1,ty,q1⟩=>?_);obtain⟨p,kvs,rfl,Z⟩:=ty;cases r1;obtain⟨z,hd,J,rel,D⟩:=nG O.hok Z;have a3:=D;obtain⟨ob,_,_,e1,ex,_⟩:=a3;refine⟨"dict",id,aaX,slot,a4,D.typeIs,λa e2=>?_,?_⟩
 .cases e2
  exact⟨ob,e1,ex.2.1⟩
 have hA:=Y cpos pins s1 σ H1 _ O q1;rw[hs]at hA⊢;refine acn (by show(ae||(aa1 cpos 2.83).any (·.1))=ae;rw[a0]<;>rfl) (adJ ?_);exact thn hA λus s2 ⟨ws,H2,I2,q,q2⟩=>hm pins s2 σ H2 2.49 ws 2.49 us Q I2 rfl q q2
def pO:D->List D->Option D
 |.dct _ ks ds,[k,x]=>(dm k).bind λk=>match c7 ks k with
  |some j=>ds[j]?
  |none=>ac x
 |_,_=>af
def Ku:MtV G Yr pO:=λdx ds d e x xs H W Y L0 rx r nd hn w Q q=>by
 unfold pO at e;split at e
 .rename_i m ks es k x0
  cases I:dm k with
  |none=>simp[I]at e
  |some D=>
   obtain⟨y,z,A,B,rfl,rfl,F,J⟩:=r.inv2;rw[Rep]at rx;obtain⟨a,kvs,M,rfl,⟨rfl,V⟩,Z,hs⟩:=rx;have:=i_ F I;subst this;refine⟨a,_,_,rfl,.inl ⟨kvs,D,hs.rdD,rfl,rfl⟩,.inr ⟨z,rfl,?_⟩⟩;simp![I,gD]at e;cases U:c7 (aae (·.1) kvs) D with
   |none=>
    simp![U]at e;cases e;rw[jn U];exact gG J ((aaI _ _).trans (aaI _ _)) nd hn q
   |some j=>
    simp![U]at e;obtain⟨v,M',h1,h2,O⟩:=Z.get e;rw[gB U,h1];exact gG h2 (O.trans (hs.sub.trans (aa2 _ _))) nd hn q
 .cases e
variable{f:En->Option (List D)}
def V7{g:D->List D->Option D}{fo:En->Option D}(F:MtV G r g)(a1:∀dx ds d,g dx ds=ac d->∀(x:V)(H:Hp)(W:Wn)(O:List Addr),Rep G H W dx x O->tyF x H)
  (h0:RfE G ob to fo) (h:RfA G ob t f):RfE G ob (YT r to t) (λρ=>(fo ρ).bind λx=>(f ρ).bind λds=>g x ds):=λρ d e σ H W rl w Q q=>by
 cases h1:fo ρ with
 |none=>simp[h1]at e
 |some dx=>
  cases h2:f ρ with
  |none=>simp[h1,h2]at e
  |some ds=>
   have e:g dx ds=ac d:=by simpa[h1,h2]using e
   refine h0 ρ dx h1 σ H W rl w _ λx H1 L Z rx fx nx=>⟨a1 dx ds d e x H1 _ L rx,?_⟩;have u1:Up H H1 W (W.add L):=.add Z fx;have w1:WOk H1 (W.add L):=w.add Z rx.dom;refine h ρ ds h2 σ H1 2.55 (rl.up u1) w1 _ λys H2 M I ry fy ny=>?_;have a0:∀a∈L,a∉M:=λa h1 h2=>by
    obtain⟨o,F,_⟩:=rx.dom a h1;rw[fy a h2]at F;cases F
   have u2:Up H1 H2 2.55 (W.add (L++M)):=⟨I,λb u U f=>⟨λz=>z.elim (λz=>(Ls.mp z).elim (λz=>f.1 2.29) λz=>by rw[fy b z]at U;cases U) λz=>f.1 2.42,f.2⟩,λ_ _ _ f=>f⟩;have u3:Up H2 H2 ((W.add L).add M) (W.add (L++M)):=⟨Same.refl _,λb u U f=>⟨λz=>by
    rcases z with z|z
    .exact(Ls.mp z).elim (λz=>f.1 2.186) λz=>f.1 2.29
    .exact f.1 2.187,f.2⟩,λ_ _ _ f=>f⟩
   have w2:WOk H2 (W.add (L++M)):=w.add 2.143 λa Y=>(Ls.mp Y).elim (λz=>let⟨o,h,m⟩:=rx.dom a z;⟨o,I a o h,m⟩) (ry.dom a);refine F dx ds d e x ys H2 (W.add (L++M)) L M (rx.up u2) (ry.up u3) (fD nx ny a0) (w.tmp λa Y=>(Ls.mp Y).elim (fx a) λz=>Z.none' (fy a z)) w2 Q λv H3 L3 J r3 f3 n3=>?_;refine q v H3 L3 ((Z.trans I).trans J) ?_ (λa Y=>(f3 a Y).elim (λz=>?_) λz=>(Z.trans I).none' z) n3
   .exact r3.up ⟨Same.refl _,λb u U f=>⟨λz=>z.elim (λz=>f.1 2.29) λz=>f.1 (.inr ⟨.inr z,WOk.new w (λa Y=>(Ls.mp Y).elim (fx a) λz=>Z.none' (fy a z)) z⟩),f.2⟩,λ_ _ _ f=>f⟩
   .rcases Ls.mp z with z|z
    .exact fx a z
    .exact Z.none' (fy a z)
def QD{o:Expr}{J:En->Option D}(hu:∀c,(X c).A.units+1<cLine)(ho:PV X G ob o J)(Y:PVA X G ob (e::es) f)(U:∀c,abj o "get" (X c).env (eval o (X c).env)=eval o (X c).env:=by intro _;rfl)(q:∀c,((aa1 cpos (Z1 (e::es) (X c).env)).all (λx=>!x.1)&&(ac1 cpos (ab9 [] (X c).env)).all (λx=>x.1.isSome)
  &&decide ((e::es).length+([]:List abE).length+(if([]:List abE).isEmpty then 0 else 1)<30))=ag:=by intro _;rfl) (V:(apos.endLine==cpos.line)=ag:=by rfl) (hs:∀c,Z1 (e::es) (X c).env=(ae,eval e (X c).env)::Z1 es (X c).env:=by intro _;rfl) (z:∀c,(aa1 cpos (Z1 es (X c).env)).any (·.1)=ae:=by intro _;rfl) :
 PV X G ob (.Call (.Attribute o "get" apos) (e::es) [] cpos) (eMt pO J f):=let⟨t,a1,a2⟩:=ho.ex;let⟨u,b1,b2⟩:=Y.ex;⟨_,λc=>W8 aaT abG (Nk (hu c)) (a1 c) (b1 c) (U c) (q c) V (hs c) (z c),V7 Ku (λdx ds d e x H W O rx=>by
  unfold pO at e;split at e
  .rw[Rep]at rx
   obtain⟨a,kvs,M,rfl,I,Z,hs⟩:=rx;exact⟨a,kvs,rfl,hs.rdD⟩
  .cases e) a2 b2⟩
def Its(x:Str):It:=⟨λi _=>i<x.cps.size,λi H y H'=>H'=H/\∃c,x.cps[i]? =ac c/\y= .str ⟨#[c]⟩,λi _=>i=x.cps.size⟩
def Qe{P:aad}{K:ZW}{t:Tok}(hn:["enumerate","zip","dict_itemiterator","dict_reverseitemiterator","odict_iterator","itertools.zip_longest","itertools.pairwise"].contains T=ae)
  (W:∀A:aaK,A.handled=af->Walks P w A it [it] [it] x.cps.size (SignAt x) (λi h=>h.IsStrIter it T x t i)) (W':∀A i s Q E,s.heap.IsStrIter it T x t i->Q 2.73 s->wpAny 2.128 A (aex 2.73) Q E s):Turn P w K tg (Its x) [it] it (λi h=>h.IsStrIter it T x t i)where
 mem:=by simp
 obj:=λi h st b U=>by
  have e:b=it:=by simpa using U
  subst e;obtain⟨o,e,c,d⟩:=st;exact⟨o,e,λv z=>by rw[d]at z;cases z⟩
 keep:=λi h h' st k=>let⟨o,ho,r⟩:=st;⟨o,k it (by simp) o ho,r⟩
 item:=by
  intro X hP Z J O i pins s σ H E I Y st F;subst hP Z J;obtain⟨f0,V,q,f3,D,f5⟩:=Y it (by simp);refine(W X.A 2.93).item i s _ E F st λu h' tk hu a0 kp=>?_;obtain⟨c,tu,a1,rfl⟩:=hu;have I1:Inv X pins σ H {s with heap:=h',toks:=tk}:=I.turned (λb o U e=>kp b o (by simpa using U) e) f0 V f3 D f5;obtain⟨o,e,c1,d⟩:=id a0;exact⟨_,rfl,yq (s:={s with heap:=h',toks:=tk}) e c1 d hn ⟨.str ⟨#[c]⟩,H,I1,⟨tu,rfl⟩,⟨rfl,c,a1,rfl⟩,a0,λb U=>(Y b U).1⟩⟩
 done:=by
  intro X hP Z J O i pins s σ H E I Y st F;subst hP Z J;obtain⟨f0,V,q,f3,D,f5⟩:=Y it (by simp);subst F;exact(W X.A 2.93).done s _ E st λh' tk kp=>⟨rfl,I.turned (λb o U e=>kp b o (by simpa using U) e) f0 V f3 D f5⟩
 self:=λA i s Q E st h=>W' A i s Q E st h
def YG(te:TE):TI:=λσ H R=>te σ H λx H1=>∃y,x= .str y/\R (Its y) H1
variable{X:Cx}{te:TE}
def WP(V:PE X e te):PI X tg e (YG te):=by
 intro pins s σ H R I h;refine thn 2.82 λv Z ⟨x,H1,O,z,y,ex,q⟩=>?_;subst ex;obtain⟨t,rfl⟩:=(show ∃t,v=adx y t from z);have fin:∀(T:String)(o:Obj),["enumerate","zip","dict_itemiterator","dict_reverseitemiterator","odict_iterator","itertools.zip_longest","itertools.pairwise"].contains T=ae->(∀A:aaK,A.handled=af->Walks X.prog X.w A Z.heap.objs.size [Z.heap.objs.size] [Z.heap.objs.size] y.cps.size (SignAt y) (λi h=>h.IsStrIter Z.heap.objs.size T y t i))->
   (∀A i s Q E,s.heap.IsStrIter Z.heap.objs.size T y t i->Q 2.116 s->wpAny 1.12 A (aex 2.116) Q E s)->(Z.heap.push o).IsStrIter Z.heap.objs.size T y t 0->PIE X pins σ tg R 2.116 {Z with heap:=Z.heap.push o}:=λT o hn W W' st=>by
  refine⟨Z.heap.objs.size,[Z.heap.objs.size],_,_,H1,rfl,O.kept (t':=Z.toks) λb o e=>ZS _ e,Qe hn W W',st,λb U=>?_,q⟩;have e:b=Z.heap.objs.size:=by simpa using U
  subst e;exact O.fpOk (ZZ _) 2.139
 cases Y:y.cps.all (· <128)
 .exact wpAny_pyIter_wide Y (fin _ _ (by decide) (λF D=>Walks.strWide D _ y t) (λA i s Q E st h=>wpAny_pyIter_striter_wide st h) ⟨_,Z_ _ rfl,rfl,rfl⟩)
 .exact wpAny_pyIter_ascii Y (fin _ _ (by decide) (λF D=>Walks.strAscii D _ y t) (λA i s Q E st h=>wpAny_pyIter_striter_ascii st h) ⟨_,Z_ _ rfl,rfl,rfl⟩)
structure Glb(mg:Str->Option Value)(x:Str)(v:V):Prop where
 ex:∃u,mg x=ac u/\RelV v u
def pR(fe:En->Option D):En->Option (Bool×List D):=λρ=>match fe ρ with
 |some (.str y)=>ac (ag,y.cps.toList.map λc=>.str ⟨#[c]⟩)
 |_=>af
variable{X:ι->Cx}
def Kv{i:Int}(g:Glb G.mg x 2.72)(F:∀c,Gl (X c) x:=by intro _;rfl)(J:∀c,(X c).mg=G.mg:=by intro _;rfl)(hd:(x==("__debug__":Str))=ae:=by decide):PV X G ob 2.38 (eC 2.72):=let⟨u,h1,h2⟩:=g.ex;⟨_,λc=>Hz (F c) (by rw[J c];exact h1) h2 hd,Gb λ_ _=>by simp[Rep]⟩
def MN(g:Glb G.mg x (.str y))(F:∀c,Gl (X c) x:=by intro _;rfl)(J:∀c,(X c).mg=G.mg:=by intro _;rfl)(hd:(x==("__debug__":Str))=ae:=by decide):PV X G ob 2.38 (eC (.str y)):=let⟨u,h1,h2⟩:=g.ex;⟨_,λc=>Hz (F c) (by rw[J c];exact h1) h2 hd,Gb λ_ _=>by simp[Rep]⟩
variable{fe:En->Option D}
def RB(h:RfE G ob te fe):RfI G ob (YG te) (pR fe):=λρ b items e σ H W J w R q=>by
 unfold pR at e;split at e
 .rename_i y h1
  cases e;refine h ρ _ h1 σ H W J w _ λv H' L s r O nd=>?_;obtain⟨rfl,rfl⟩:=cM r;refine⟨y,rfl,q (Its y) H' s ⟨λi d e H2 I _=>?_,λi d e H2 I _ x Y V=>?_,λH2 I _=>?_⟩⟩
  .have:=(List.getElem?_eq_some_iff.mp e).1
   show i<y.cps.size;simpa using this
  .obtain⟨rfl,c,hc,rfl⟩:=V
   have:d= .str ⟨#[c]⟩:=by
    have F:y.cps.toList[i]? =ac c:=by rw[adB];exact hc
    rw[List.getElem?_map,F]at e;exact(aaR e).symm
   subst this;exact⟨Same.refl _,vo⟩
  .show(y.cps.toList.map _).length=_
   simp
 .cases e
def Hc(V:PV X G ob e fe):PVI X G ob tg e (pR fe):=let⟨_,a1,a2⟩:=V.ex;⟨_,λc=>WP (a1 c),RB a2⟩
def KJ(K:ZW)(t:TA):TE:=λσ H Q=>t σ H λJ H1=>∃a ks,J=[.ref a]/\SqL K H1 a (aae kV ks)/\acQ ks<4000/\Q (.int (xO ks).length) H1
def Hb{X:Cx}(hg:Gl X "len")(hm:X.mg "len"=af)(a3:X.mg "set"=af)(Y:PA X [e] t)(a0:Gl X "set":=by rfl)(hs:Z1 [e] X.env=[(ae,eval e X.env)]:=by rfl)(O:X.calm=ag:=by rfl) :
  PE X (.Call (.Name "len" p1) [.Call (.Name "set" p2) [e] [] q2] [] q1) (KJ X.K t):=by
 intro pins s σ H Q I h;refine acj (nZ I hg hm aaw ?_);refine acn rfl (adJ ?_);show wpAny _ _ (spliced ((ae,eval (.Call (.Name "set" p2) [e] [] q2) X.env)::aa1 q1 (Z1 [] X.env))) _ _ s;refine afE ?_;refine acj (nZ I a0 a3 boot_set ?_);refine abv (thn (Y q2 pins s σ H _ I h) λus Z ⟨J,H1,I1,r1,a1⟩=>?_) hs rfl;obtain⟨a,ks,ev,D,hz,q⟩:=a1;subst ev;obtain⟨u,rfl,ru⟩:=vals1 r1;cases ru;have hh:X.A.handled=af:=I1.ok.hd O;obtain⟨its,rv,pl,a7⟩:=I1.list D;have z:=rv.length;rw[Pr]at z;refine Kq (its:=its) (ks:=ks) hh z (λj k v e1 e2=>?_) (by show its.length+1<4096;omega) pl.isList λs2 a5=>?_
 .have:(aae kV ks)[j]? =ac (kV k):=by rw[List.getElem?_map,e1];rfl
  obtain⟨w',h1,h2⟩:=rv.get this;rw[e2]at h1;cases h1;exact h2
 .refine af1 ?_
  obtain⟨h',tk,rfl,hS,a4⟩:=a5;have V:Inv X pins σ H1 {Z with heap:=h',toks:=tk}:=I1.kept (t':=tk) a4;obtain⟨o,es,ep,tb,F,a2,hd,a9,a6,U,hf,hn⟩:=hS;have a8:=Oo ks;refine call_len_set F a2 hd hf (by rw[hn];omega) ?_;rw[hn];exact⟨.int (xO ks).length,H1,V.tok _,⟨_,rfl⟩,q⟩
def lH:List D->Option D
 |[.lst _ ds]=>if ds.length<4000 then(j_ ds).map λks=>.int (xO ks).length else af
 |_=>af
def Ef:CaV G (λJ H Q=>∃a ks,J=[.ref a]/\SqL G.K H a (aae kV ks)/\acQ ks<4000/\Q (.int (xO ks).length) H) lH:=λds d e xs H W I r nd hn w Q q=>by
 unfold lH at e;split at e
 .split at e
  .rename_i m ds hl
   cases h1:j_ ds with
   |none=>simp[h1]at e
   |some ks=>
    obtain rfl:D.int (xO ks).length=d:=by simpa[h1]using e
    obtain⟨x,rfl,rx⟩:=r.inv1;rw[Rep]at rx;obtain⟨a,ys,M,rfl,Z,hs⟩:=rx;have:=xZ h1 Z;subst this;exact⟨a,ks,rfl,hs.sq,by rw[yg h1];exact hl,q.scal λ_=>dX⟩
  .cases e
 .cases e
def G_(F:∀c,Gl (X c) "len")(J:∀c,(X c).mg "len"=af)(q:∀c,(X c).mg "set"=af)(Y:PVA X G ob [e] f)(z:∀c,Gl (X c) "set":=by intro _;rfl)(hs:∀c,Z1 [e] (X c).env=[(ae,eval e (X c).env)]:=by intro _;rfl)(O:∀c,(X c).calm=ag:=by intro _;rfl)(I:∀c,(X c).K=G.K:=by intro _;rfl) :
 PV X G ob (.Call (.Name "len" p1) [.Call (.Name "set" p2) [e] [] q2] [] q1) (eAp lH f):=let⟨t,a1,a2⟩:=Y.ex;⟨_,λc=>(by rw[←I c];exact Hb (F c) (J c) (q c) (a1 c) (z c) (hs c) (O c)),wG Ef a2⟩
def Uh:V->List V->Hp->VK->Prop:=λx J H Q=>∃D kvs o more,x= .ref D/\H D=ac 2.20/\J=[.ref o]/\o≠D/\H o=ac (.dK more)/\kvs.length+more.length<=50000/\Q .non (upd H D (.dK (putAll kvs more)))
theorem Q5{X:Cx}:MtM X "dict.update" Uh:=by
 intro pins s σ H x J v us Q I rx U h;obtain⟨D,kvs,o,more,rfl,hD,rfl,ho,hO,hsz,q⟩:=h;cases rx;have a5:200000<=Z0:=by decide
 obtain⟨z,a3,ds,rel,dd⟩:=x_ I.hok hD;obtain⟨u,rfl,Z⟩:=U.one;cases Z;obtain⟨z2,a1,O,a0,a2⟩:=x_ I.hok hO;have l1:=rel.length;have l2:=a0.length;refine ac2 F.slot_dict_update dd.typeIs F.entry_dict_update (F.args_dict_update_2 _ _) (meets_dict_update 2.88 D o (aaS ho) a1) ⟨ds,O,dd,a2,by omega,λh' d1 d2 Y=>?_⟩;have V:∃q,h'.get? D=ac q:=let⟨q,_,_,hq,_⟩:=d1;⟨q,hq⟩;have a4:=v7 more kvs;exact⟨.non,_,oW (t':=s.toks) I (by rw[hD];exact aa5) Y V (Bs 1.10 a3 (yQ more rel a0) d1),rfl,q⟩
def qK:D->List D->Option (D×D)
 |.dct .own ks ds,[.dct .frz ks2 es]=>if ks.length+ks2.length<=50000 then ac (.dct .own (jF ks ds (ks2.zip es)).1 (jF ks ds (ks2.zip es)).2,.non)else af
 |_,_=>af
def Mt:MuV G Uh qK:=λd es d' res h v xs H W M N r re nd J O c1 c2 Q q=>by
 unfold qK at h;split at h
 .rename_i ks ds ks2 es
  split at h
  .rename_i hm
   cases h;rw[Rep]at r;obtain⟨a,kvs,M0,rfl,⟨rfl,a2⟩,Z,Y,rfl⟩:=r;obtain⟨x,rfl,rx⟩:=re.inv1;rw[Rep]at rx;obtain⟨b,more,N1,rfl,⟨rfl,a3⟩,hy,hs⟩:=rx;have kc:aF ds=ag/\aD ds=ag:=by simp[clean,aA,az]at O;exact O
   have ke:aF es=ag/\aD es=ag:=by simp[aF,aD,aA,az]at c1 c2;exact⟨c1,c2⟩
   have a4:(aae (·.1) more).length=es.length:=by rw[hy.length];simp
   have a0:=aah.mp (List.nodup_append.mp nd).1;obtain⟨⟨p1,p2⟩,M',p3,p4,p5⟩:=vZ (es:=(aae (·.1) more).zip es) (agd 1.10) (by rw[age 1.10];exact hy) Z a2 (fD a0.2 (hs.sub.nodup (List.nodup_append.mp nd).2.1) λb z1 z2=>(List.nodup_append.mp nd).2.2 b (aai _ z1) b (hs.sub.subset z2) rfl);have a1:a∉M':=λz=>(p5 a z).elim a0.1 λz=>(List.nodup_append.mp nd).2.2 a (by simp) a 2.131 rfl;have D:=cF (oA (ks:=aae (·.1) kvs) (λd=>aA d=ag) (jo kc.1) λp V=>jo ke.1 _ (acU (l₁:=aae (·.1) more) (l₂:=es) V).2);have I:=cG (oA (ks:=aae (·.1) kvs) (λd=>az d=ag) (jm kc.2) λp V=>jm ke.2 _ (acU (l₁:=aae (·.1) more) (l₂:=es) V).2);refine⟨a,kvs,b,more,rfl,Y,rfl,λz=>J a (by simp) (z▸hs.2.1),hs.at2 rfl,by simpa using hm,q .non _ (a::M') [] (λb u U n=>by rw[aO (show b≠a from λz=>n (by rw[z];simp))];exact U) (λW' F=>⟨?_,mz⟩) (by rw[List.append_nil];exact aah.mpr ⟨a1,p4⟩) (λb U=>?_) (JC D I) rfl⟩
   .rw[Rep]
    refine⟨a,putAll kvs more,M',rfl,⟨p1,p1▸p2⟩,p3.mono F (.inl D) (.inl I) λc O u hu=>?_,aR,rfl⟩;rw[aO (show c≠a from λz=>a1 (z▸O))];exact hu
   .rw[List.append_nil]at U
    rcases Z2.mp U with z|z
    .exact .inl (by simp[z])
    .exact(p5 b z).imp (λz=>aai _ z) λz=>.inl 2.131
  .cases h
 .cases h
def Py{ι:Type}{X:ι->Cx}:MuB X G "dict" "dict.update" qK:=⟨_,λc=>Q5,Mt,M9 rfl λd es q e=>by
 unfold qK at e;split at e
 .exact⟨_,_,rfl⟩
 .cases e⟩
mutual
noncomputable def tz:D->Nat
 |.int i=>if i.natAbs<1000000000000000000 then 20 else i.natAbs+2
 |.str x=>(reprText x).length
 |.tup ds=>4+tzL ds
 |.lst _ ds=>4+tzL ds
 |_=>5
noncomputable def tzL:List D->Nat
 |[]=>0
 |d::r=>tz d+2+tzL r
end
mutual
noncomputable def dz:D->Nat
 |.tup ds=>1+dzL ds
 |.lst _ ds=>1+dzL ds
 |_=>0
noncomputable def dzL:List D->Nat
 |[]=>0
 |d::r=>max (dz d) (dzL r)
end
def HH:∀(ts:List Str)(k:Nat)(a:Str),(textFrom k a ts).length<=a.length+(ts.map λt=>t.length+2).sum
 |[],k,a=>by rw[textFrom.eq_1];simp
 |t::ts,k,a=>by
  rw[textFrom.eq_2];have h1:=HH ts (k+1) (a++aby (if k>0 then ", " else "")++t);rw[acv,acv]at h1;have O:(aby (if k>0 then ", " else "")).length<=2:=by split<;>decide
  rw[ZX,afs];omega
def Eb:∀ts:List Str,piled ts=(ts.map λt=>t.length+2).sum
 |[]=>rfl
 |t::r=>by rw[ZX,afs,←Eb r];simp[piled]
def QW(ts:List Str):(Str.join ", " ts).length<=(ts.map λt=>t.length+2).sum:=by
 cases ts with
 |nil=>decide
 |cons t r=>
  have:=join_length_add (t::r) (by simp);rw[Eb]at this;omega
def JD{i:Int}(h:i.natAbs<1000000000000000000):(aby (toString i)).length<=19:=by
 have q:∀n:Nat,n<1000000000000000000->(Nat.repr n).length<=18:=λn hn=>by
  have:=toDigits_len_pow (b:=10) (k:=18) (by decide) (by decide) (n:=n) (by simpa using hn);simpa[Nat.repr]using this
 rw[ofString_len];cases i with
 |ofNat m=>exact aaC (q m h) (by decide)
 |negSucc m=>
  have:=q (m+1) h;show("-"++Nat.repr (m+1)).length<=19;rw[String.length_append];have h1:"-".length=1:=by decide
  omega
mutual
def Dc:∀{d:D},g_ d=ag->tz d<=1000000->(pyD (dt d)).shown.length<=tz d/\(pyD (dt d)).showable=ag/\(pyD (dt d)).depth<=dz d
 |.non,_,_=>⟨by decide,rfl,by decide⟩
 |.bl b,_,_=>by cases b<;>exact⟨by decide,rfl,by decide⟩
 |.int i,_,h=>by
  rw[tz]at h;by_cases hs:i.natAbs<1000000000000000000
  .refine⟨?_,?_,by simp[dt,pyD,PyData.depth]⟩
   .have:=JD hs
    simp![dt,pyD,aeF,tz,hs,aal];omega
   .simp![dt,pyD,acX]
    refine aaB ?_;by_cases z:i.natAbs=0
    .rw[z];decide
    .exact(Nat.log2_lt z).mpr (Z9 (show i.natAbs<2 ^ 60 by omega) (Nat.pow_le_pow_right (by decide) (by decide)))
  .rw[aag hs]at h
   omega
 |.str x,_,_=>⟨by simp[dt,pyD,aeF,tz],by simp[dt,pyD,acX],by simp[dt,pyD,PyData.depth,dz]⟩
 |.tup ds,h,hz=>by
  rw[g_]at h;rw[tz]at hz;obtain⟨h1,h2,O⟩:=sU h 1.10;refine⟨?_,by simpa[dt,pyD,acX]using h2,by simp![dt,pyD,PyData.depth,dz];omega⟩;simp![dt,pyD,aeF,tz];unfold tupleText;rw[acv,acv];have Z:(aby "(").length=1:=by decide
  have V:(aby (if((ack 2.140).length==1)=ag then ",)" else ")")).length<=2:=by split<;>decide
  have q:=QW (ack 2.140);omega
 |.lst m ds,h,hz=>by
  rw[g_]at h;rw[tz]at hz;obtain⟨h1,h2,O⟩:=sU h 1.10;refine⟨?_,by simpa[dt,pyD,acX]using h2,by simp![dt,pyD,PyData.depth,dz];omega⟩;simp![dt,pyD,aeF,tz];unfold listText;rw[acv];have Z:(aby "[").length=1:=by decide
  have V:(aby "]").length=1:=by decide
  have q:=HH (ack 2.140) 0 "[";omega
 |.ty _,h,_=>by simp[g_]at h
 |.dct _ _ _,h,_=>by simp[g_]at h
 |.ins _ _ _ _,h,_=>by simp[g_]at h
def sU:∀{ds:List D},gw ds=ag->tzL ds<=1000000->((ack 2.140).map λt=>t.length+2).sum<=tzL ds/\ad8 2.140=ag/\aeP 2.140<=dzL ds
 |[],_,_=>by simp[dtL,pyL,ack,ad8,aeP,tzL,dzL]
 |d::r,h,hz=>by
  rw[gw,aaa]at h;rw[tzL]at hz;obtain⟨h1,h2,O⟩:=Dc h.1 1.10;obtain⟨z,I,q⟩:=sU h.2 1.10;simp![dtL,pyL,ack,ad8,aeP,tzL,dzL,ZX,afs,h2,I];refine⟨by omega,rfl,?_⟩;omega
end
def Wx(h:g_ d=ag)(hz:tz d<=1000000)(hd:dz d<=50):∃x,PQ [d]=ac (.str x):=by
 obtain⟨h1,h2,O⟩:=Dc h hz;have hs:(1000000:Nat)<=Z0:=by decide
 cases d with
 |non=>exact⟨_,rfl⟩
 |bl b=>exact⟨_,rfl⟩
 |int i=>
  have Z:i.natAbs.log2<1920:=by simpa[dt,pyD,acX]using h2
  exact⟨_,by simp![PQ];rw[if_pos Z]⟩
 |str x=>exact⟨_,rfl⟩
 |tup ds=>exact⟨_,by simp![PQ];rw[if_pos ⟨h,by omega,h2,by omega⟩]⟩
 |lst m ds=>exact⟨_,by simp![PQ];rw[if_pos ⟨h,by omega,h2,by omega⟩]⟩
 |ty n=>simp[g_]at h
 |dct m ks ds=>simp[g_]at h
 |ins m c fs ds=>simp[g_]at h
mutual
noncomputable def plD:D->Bool
 |.tup ds=>uM ds
 |.lst _ _=>ae
 |.dct _ _ _=>ae
 |.ins _ _ _ _=>ae
 |_=>ag
noncomputable def uM:List D->Bool
 |[]=>ag
 |d::r=>plD d&&uM r
end
variable{H':Hp}{W':Wn}
mutual
def Rep.pl(U:∀b xs,H b=ac 2.54->H' b=ac 2.54):∀{d:D}{v:V}{L:List Addr},Rep G H W d v L->plD d=ag->Rep G H' W' d v []/\L=[]
 |.non,v,L,h,_=>by rw[Rep]at h⊢;exact⟨⟨h.1,rfl⟩,h.2⟩
 |.bl _,v,L,h,_=>by rw[Rep]at h⊢;exact⟨⟨h.1,rfl⟩,h.2⟩
 |.int _,v,L,h,_=>by rw[Rep]at h⊢;exact⟨⟨h.1,rfl⟩,h.2⟩
 |.str _,v,L,h,_=>by rw[Rep]at h⊢;exact⟨⟨h.1,rfl⟩,h.2⟩
 |.ty _,v,L,h,_=>by rw[Rep]at h⊢;exact⟨⟨h.1,rfl⟩,h.2⟩
 |.tup ds,v,L,h,n=>by
  rw[Rep]at h⊢;obtain⟨b,xs,rfl,h1,Z⟩:=h;have:=aJ.pl U Z (by simpa[plD]using n);exact⟨⟨b,xs,rfl,U b xs h1,this.1⟩,this.2⟩
 |.lst _ _,v,L,h,n=>by cases n
 |.dct _ _ _,v,L,h,n=>by cases n
 |.ins _ _ _ _,v,L,h,n=>by cases n
def aJ.pl(U:∀b xs,H b=ac 2.54->H' b=ac 2.54):∀{ds:List D}{J:List V}{L:List Addr},aJ G H W ds J L->uM ds=ag->aJ G H' W' ds J []/\L=[]
 |[],J,L,h,_=>by obtain⟨rfl,rfl⟩:=h.inv0;exact⟨.nil,rfl⟩
 |d::r,J,L,h,n=>by
  obtain⟨x,ys,M,M',rfl,rfl,h1,h2⟩:=h.inv;rw[uM,aaa]at n;obtain⟨O,rfl⟩:=Rep.pl U h1 n.1;obtain⟨F,rfl⟩:=aJ.pl U h2 n.2;exact⟨.cons O F,rfl⟩
end
def qb:Option D->Option D
 |some d=>if plD d=ag then ac d else af
 |none=>af
def YW{X:Cx}(h:PE X e te):PE X e (tGh j te):=by
 intro pins s σ H Q I q;obtain⟨a,kvs,hs,Y,k⟩:=q;obtain⟨ob,V,D⟩:=ym I Y;exact thn (h pins s σ _ _ V (k ob)) λu Z ⟨v,H1,O,z,e1,q1⟩=>⟨v,_,yW O e1 D,z,q1⟩
def ur:List D->Option D
 |[.lst m ds]=>if g_ (.lst m ds)=ag/\(pyD (dt (.lst m ds))).depth<=50/\(pyD (dt (.lst m ds))).showable=ag/\(pyD (dt (.lst m ds))).shown.length<=Z0 then ac (.str (pyD (dt (.lst m ds))).shown)else af
 |_=>af
def Dq{ι:Type}{X:ι->Cx}(A:aaK)(D:∀c,(X c).A=A)(F:A.guards=ac [])(hu:A.units+64<cLine)(J:∀c,(X c).K=G.K:=by intro _;rfl):CaB X G (.builtin "repr") ur:=⟨T7 G.K A,λc=>by rw[←J c,←D c];exact Ju,λds d e xs H W I r nd hn w Q q=>by
 unfold ur at e;split at e
 .split at e
  .rename_i hd
   cases e;obtain⟨x,rfl,rx⟩:=r.inv1;have U:=rx.brs hd.1;rw[Rep]at rx;obtain⟨a,_,_,rfl,_⟩:=rx;exact⟨a,_,rfl,U,F,by omega,hd.2.2.1,hd.2.2.2,q.scal λ_=>Qj⟩
  .cases e
 .cases e⟩
variable{m:Mk}{ds:List D}
def RZ(h:g_ 2.144=ag)(hz:tz 2.144<=1000000)(hd:dz 2.144<=50):∃x,ur [.lst m ds]=ac (.str x):=by
 obtain⟨x,h1⟩:=Wx h hz hd;simp![PQ]at h1;split at h1
 .rename_i hc
  exact⟨_,if_pos hc⟩
 .cases h1
def pU:∀{l:List Str},afY l=ag->l.Pairwise λa b=>a.cps.toList<=b.cps.toList
 |[],_=>.nil
 |[x],_=>by simp
 |x::y::r,h=>by
  have h:risingS x (y::r)=ag:=h;rw[risingS,aaa,ltCps_eq]at h;have h1:x.cps.toList<=y.cps.toList:=by simpa using h.1
  have h2:=pU (l:=y::r) h.2;exact afQ.mpr ⟨λz hz=>(Z2.mp hz).elim (λe=>e▸h1) λw=>List.le_trans h1 ((afQ.mp h2).1 z w),h2⟩
open Classical in
def Ba(ys:List Str):List Str:=if h:∃O:List Str,ac4 O ys/\afY O=ag then h.choose else ys
def QC{O ys:List Str}(h1:ac4 O ys)(h2:afY O=ag):O=Ba ys:=by
 have h:∃O:List Str,ac4 O ys/\afY O=ag:=⟨O,h1,h2⟩;rw[Ba,dif_pos h];refine List.Perm.eq_of_pairwise (λa b _ _ x y=>?_) (pU h2) (pU h.choose_spec.2) (h1.trans h.choose_spec.1.symm);have:=Array.toList_inj.mp (List.le_antisymm x y);cases a;cases b;cases this;rfl
def uq:D->List D->Option (D×D)
 |.dct .own ks ds,[kd,.int y]=>(dm kd).bind λk=>if ks.length<1000000 then(match c7 ks k with
  |some j=>(match ds[j]? with
   |some (.int z)=>ac (.dct .own ks ds,.int z)
   |_=>af)
  |none=>ac (.dct .own (ks++[k]) (ds++[.int y]),.int y))else af
 |_,_=>af
def Sv:MuV G Wj uq:=λd es d' res h v xs H W M N r re nd hM O c1 c2 Q q=>by
 have kp:∀{a:Addr}{L:List Addr}{o:HO}(b:Addr)(u:HO),H b=ac u->b∉a::L->upd H a o b=ac u:=λb u U n=>by rw[aO (show b≠_ from λz=>n (by rw[z];simp))];exact U
 unfold uq at h;split at h
 .rename_i ks ds k0 y
  cases I:dm k0 with
  |none=>simp[I]at h
  |some k=>
   rw[I]at h;simp![gD]at h;split at h
   .rename_i hl
    have r0:=r;rw[Rep]at r;obtain⟨a,kvs,M0,rfl,⟨rfl,a3⟩,Z,Y,rfl⟩:=r;obtain⟨x1,zs,N1,N2,rfl,rfl,a4,hz⟩:=re.inv;obtain⟨x,zs,N3,N4,rfl,rfl,J,hz⟩:=hz.inv;obtain⟨rfl,rfl⟩:=hz.inv0;have a1:=i_ a4 I;subst a1;rw[Rep]at J;obtain⟨rfl,rfl⟩:=J;have a2:kvs.length<Z0:=vP (by simpa using hl);have D:aF ds=ag/\aD ds=ag:=by simp[clean,aA,az]at O;exact O
    split at h
    .rename_i j hj
     split at h
     .rename_i z hz
      cases h;have a0:=gB (kvs:=kvs) (k:=k) (j:=j) hj;obtain⟨w,L,h1,h2,_⟩:=Z.get hz;rw[h1]at a0;rw[Rep]at h2;obtain⟨rfl,_⟩:=h2;refine⟨a,kvs,k,_,rfl,rfl,Y,a2,λv hv=>?_,λhv=>by rw[a0]at hv;cases hv⟩;rw[a0]at hv;cases hv;have hn:aA (.dct .own (kvs.map (·.1)) ds)=ag/\az (.dct .own (kvs.map (·.1)) ds)=ag:=by simpa[clean]using O
      exact q _ H (a::M0) [] (λb u U _=>U) (λW' F=>⟨r0.mono F (.inl hn.1) (.inl hn.2) λ_ _ _ h=>h,by rw[Rep];exact⟨rfl,rfl⟩⟩) (by simpa using(List.nodup_append.mp nd).1) (λb U=>.inl (by simpa using U)) O rfl
     .cases h
    .rename_i hj
     cases h;have a0:jc kvs k=af:=jn hj;refine⟨a,kvs,k,_,rfl,rfl,Y,a2,(λv hv=>by rw[a0]at hv;cases hv),λ_=>?_⟩;have J:Rep G H W (.int y) (.int y) []:=by rw[Rep];exact⟨rfl,rfl⟩
     obtain⟨M',n1,n2,n3,n4,n5⟩:=Bl (o:=.dK (putK kvs k (.int y))) (j:=af) Z J (by simpa using(List.nodup_append.mp nd).1) D.1 D.2 rfl rfl λi hi=>by cases hi
     refine q _ _ (a::M') [] kp (λW' F=>⟨?_,by rw[Rep];exact⟨rfl,rfl⟩⟩) (by simpa using n1) (λb U=>.inl ((n2 b (by simpa using U)).elim id λz=>by cases z)) (by simpa[clean,aA,az,vQ]using⟨n4,n5⟩) rfl;rw[Rep];have pe:=lz (v:=.int y) hj;refine⟨a,putK kvs k (.int y),M',rfl,⟨by rw[pe];simp,?_⟩,by have n6:=n3 W' F;rw[pe]at n6⊢;simpa[vQ]using n6,aR,rfl⟩;rw[aaY];refine⟨a3,by simp,λy V z hz=>?_⟩;obtain rfl:z=k:=by simpa using hz
     exact λe=>xf hj (e▸V)
   .cases h
 .cases h
def R6{ι:Type}{X:ι->Cx}:MuB X G "dict" "dict.setdefault" uq:=⟨_,λc=>Qw,Sv,M9 rfl λd es q e=>by
 unfold uq at e;split at e
 .exact⟨_,_,rfl⟩
 .cases e⟩
def lZ(j:Nat)(cap:List 2.12)(tg:D->En->Option En)(c:En->Option Bool)(e:En->Option D):En->Option D:=λρ=>match ρ[j]? with
 |some (ac (.dct .frz ks ds))=>if uM ds=ag then(match bH cap (λ_=>ac (ae,ks.map kD)) tg c e ((ρ.map qb).set j (ac (.dct .scr ks ds)))with
  |some (.lst .own es)=>if uM es=ag then ac (.lst .own es)else af
  |_=>af)else af
 |_=>af
variable{tg:D->En->Option En}{own:Nat->Bool}{cap:List (Option Nat)}
def Ou{tt:TT}{c:En->Option Bool}{e:En->Option D}(a3:∀i:Nat,own i=ag->cap[i]?≠af->cap[i]? =ac af)(F:JF G 2.13 own g tg)(ht:RfT G 2.13 tt c)(he:RfE G 2.13 te e) :
  RfE G ob (tGh j (Cz cap (GR (xW j)) g tt te)) (lZ j cap tg c e):=λρ d ee σ H W J w Q q=>by
 unfold lZ at ee;split at ee
 .rename_i ks ds hj
  split at ee
  .rename_i hfd
   split at ee
   .rename_i es hx
    split at ee
    .rename_i hes
     cases ee;obtain⟨v,I,hv,a1,_⟩:=J j _ hj;rw[Rep]at a1;obtain⟨a,kvs,M,rfl,⟨rfl,a4⟩,Z,Y,_⟩:=a1;refine⟨a,kvs,hv,Y,λo=>?_⟩;have kt:=(jE (ob:=o) Y).t;have a8:Rel G 2.174 ⟨λb=>W.n b/\b≠a,λb=>W.s b/\b≠a,λb=>W.o b/\b≠a⟩ ob ((ρ.map qb).set j (ac (.dct .scr (kvs.map (·.1)) ds))) σ:=λi d' e'=>by
      by_cases a2:i=j
      .subst a2
       rw[aa0 (by rw[Pr];exact(List.getElem?_eq_some_iff.mp hj).1)]at e';cases e';refine⟨.ref a,[],hv,?_,λ_ c O=>by cases O⟩;rw[Rep];exact⟨a,kvs,[],rfl,⟨rfl,a4⟩,(aJ.pl kt Z hfd).1,.inl ⟨.inr ⟨o,aR⟩,λz=>z.2 rfl,λz=>z.2 rfl,λz=>z.2 rfl⟩,rfl,rfl⟩
      .rw[List.getElem?_set_ne (λz=>a2 z.symm),List.getElem?_map]at e'
       cases h5:ρ[i]? with
       |none=>rw[h5]at e';cases e'
       |some x=>
        rw[h5]at e';cases x with
        |none=>cases e'
        |some d1=>
         have e2:qb (ac d1)=ac d':=by simpa using e'
         unfold qb at e2;simp only at e2;split at e2
         .rename_i hn
          cases e2;obtain⟨v',L',h6,h7,h8⟩:=J i _ h5;exact⟨v',[],h6,(Rep.pl kt h7 hn).1,λ_ c O=>by cases O⟩
         .cases e2
     have w':WOk 2.174 ⟨λb=>W.n b/\b≠a,λb=>W.s b/\b≠a,λb=>W.o b/\b≠a⟩:=λb U=>by
      have a0:b≠a:=by rcases U with h|h|h<;>exact h.2
      obtain⟨u,h6,h7⟩:=w b (U.imp (·.1) (Or.imp (·.1) (·.1)));exact⟨u,by rw[aO a0];exact h6,h7⟩
     have a5:=Bx (own:=own) a3 (Jr (G:=G) (ob:=ob) (a:=a) (o:=o) (kvs:=kvs)) F ht he _ _ hx σ 2.174 _ a8 w' (λv H'=>H' a=ac (.frz o 2.20)/\Q v (upd H' a 2.20)) (λv H' L s rx fr nd=>by
      have h9:=s a _ aR;rw[Rep]at rx;obtain⟨p,xs,M2,rfl,a6,V,rfl⟩:=rx;obtain⟨a7,rfl⟩:=aJ.pl (W':=W.add [p]) (Cg h9).t a6 hes;refine⟨h9,q _ _ [p] (λb u U=>?_) ?_ (λb U=>?_) nd⟩
      .by_cases a0:b=a
       .subst a0;rw[Y]at U;cases U;exact aR
       .rw[aO a0];exact s b u (by rw[aO a0];exact U)
      .rw[Rep]
       exact⟨p,xs,[],rfl,a7,by rw[aO (lN V h9 (by intro z;cases z))];exact V,rfl⟩
      .have:=fr b U
       by_cases a0:b=a
       .subst a0;rw[aR]at this;cases this
       .rwa[aO a0]at this)
     exact⟨.ref a,hv,a,o,kvs,rfl,aR,a5 aR⟩
    .cases ee
   .cases ee
  .cases ee
 .cases ee
variable{fc:En->Option Bool}
theorem Lg(j:Nat)(cap:List 2.12)(own:Nat->Bool)(J:∀c,(X c).xe=NoX)(I:∀c,(X c).calm=ag)(O:∀c,cJ (X c).env.scope (X c).N N' scope cap)(q:∀i:Nat,own i=ag->cap[i]?≠af->cap[i]? =ac af)(F:JK 2.47 G 2.13 own target tg)(U:Kc 2.47 G 2.13 ifs fc)(V:PV 2.47 G 2.13 elt fe)
  (z:∀c,(X c).N[j]? =ac y:=by intro _;rfl) (Z:∀c,Vis (X c).env.scope y:=by intro _;first|exact aa_ rfl|exact aaL (aa_ rfl)|exact aaL 2.205) (hd:(y==("__debug__":Str))=ae:=by decide) (D:(y==("__classdict__":Str))=ae:=by decide)
  (hs:∀c,∀x,aba 2.69 (X c).env x=pure x:=by intro _ _;rfl):PV X G ob (.ListComp elt [⟨target,.Name y ypos,ifs,0⟩] scope pos) (lZ j cap tg fc fe):=
 let⟨_,g1,g2⟩:=F.ex;let⟨_,t1,t2⟩:=U.ex;let⟨_,e1,e2⟩:=V.ex
 ⟨_,λc=>YW (j:=j) (Ho (J c) (I c) (O c) (Cy (w5 (z c) (Z c) hd D)) (λC s H fp=>g1 (c,C,s,H,fp)) (λC s H fp=>t1 (c,C,s,H,fp)) (λC s H fp=>e1 (c,C,s,H,fp)) (hs c)),Ou q g2 t2 e2⟩
def jX:List D->Option D
 |[.lst _ ds]=>if ds.length<64 then(strsOf ds).map λys=>.lst .own ((Ba ys).map D.str)else af
 |_=>af
def Ex(J:∀c,(X c).K=G.K:=by intro _;rfl):CaB X G (.builtin "sorted") jX:=⟨DW G.K,λc=>by rw[←J c];exact zL,λds d e xs H W I r nd hn w Q q=>by
 unfold jX at e;split at e
 .split at e
  .rename_i m ds hl
   obtain⟨x,rfl,rx⟩:=r.inv1;rw[Rep]at rx;obtain⟨a,ys,M,rfl,Z,hs⟩:=rx;cases h2:strsOf ds with
   |none=>simp[h2]at e
   |some zs=>
    rw[h2]at e;cases e;have hd:=zb h2;subst hd;have z:=Dw Z;subst z;exact⟨a,zs,rfl,hs.sq,by simpa using hl,λO e1 e2 l F=>by rw[QC e1 e2];exact GQ (CZ _) (λa Y=>by cases Y) aaq hn F q⟩
  .cases e
 .cases e⟩
def DR:D->D->Option D
 |x,.int n=>gSl x af (ac n)
 |_,_=>af
def K9{r:V->Option Int->Option Int->Hp->VK->Prop}(o:SlV G r gSl):OpV G (λx y H Q=>∃n,y= .int n/\r x af (ac n) H Q) DR:=λdx I d e x y H W O Y rx F nd hn w Q q=>by
 unfold DR at e;split at e
 .obtain⟨rfl,rfl⟩:=aW F
  rw[List.append_nil]at nd hn q;exact⟨_,rfl,o _ _ _ _ e x H W O rx nd hn w Q q⟩
 .cases e
def LQ{hi:Expr}{f g:En->Option (D×En)}(o:SlB X G gSl)(h:PVe X G ob e f)(z:PVe X G ob hi g):PVe X G ob (.Subscript e (.Slice af (ac hi) af p2) pos) (ee2 DR f g):=let⟨r,o1,o2⟩:=o.ex;let⟨t,a1,a2⟩:=h.ex;let⟨v,c1,c2⟩:=z.ex;⟨_,λc=>DP (o1 c) (a1 c) Ia (Hw (c1 c)),wU (K9 o2) a2 c2⟩
variable{op:D->List D->Option (D×D)}{ρ:En}{S:Ad}{res:D}{v:V}
def yP{Fr:Addr->Prop}{d0 d':D}{v0:V}{N:List Addr}{es:List D}{xs:List V}(J:MuV G r op)(s:Sta G H ob ρ σ S (plus N Fr))(e:ρ[i]? =ac (ac d0))(I:σ[i]? =ac (ac v0))(hp:fJ p d0=ac d)
  (z:Foc G H 2.65 d0 v0 (S i) p d v M) (re:aJ G H 2.65 es xs N) (nd:N.Nodup) (hF:∀a∈N,¬Fr a) (U:aF es=ag) (c2:aD es=ag) (h:op d es=ac (d',res)) {Q:VK}
  (q:∀x H' R S',Sta G H' ob 2.137 σ S' 2.120->Rep G H' (wn ob S' 2.120) res x R->R.Nodup->clean res=ag->(∀j,j≠i->S' j=S j)->(∀a∈S' i,a∈S i∨a∈N∨H a=af)->(∀a∈R,a∈S i∨a∈N∨H a=af)->(∀b u,H b=ac u->b∉S i->H' b=ac u)->(∀b u,H b=ac u->b∉M->H' b=ac u)->Q x H'):r v xs H Q:=by
 have O:abb M (S i):=by
  obtain⟨A,B,hL,_⟩:=z.b;rw[hL];exact(aa2 M B).trans (aaI A _)
 have a0:clean d0=ag:=let⟨_,_,_,h⟩:=s.sl i d0 e;h;refine J d es d' res h v xs H _ M N z.r re (fD (O.nodup (s.nd i)) nd λa h1 h2=>s.fdj i a (.inl h2) (O.subset h1)) (λa Y f=>?_) (lq a0 hp) U c2 Q λx H' M' R kp Z F gr a1 a2=>?_
 .cases ho:ob i with
  |false=>exact f.2.1 ⟨i,ho,O.subset Y⟩
  |true=>exact f.2.2 ⟨i,ho,O.subset Y⟩
 .obtain⟨S',q1,q2,q3,q4,q5,q6⟩:=s.mut e I z hF kp Z F gr a1
  exact q x H' R S' q1 q2 (List.nodup_append.mp F).2.1 a2 q3 q4 q5 q6 kp
def Yb(r:Rep G H W 2.144 v L):tyV G.K "list" v H:=
 wW (op:=λd _=>match d with|.lst _ _=>ac (d,d)|_=>af) rfl (λd es q h=>by split at h;exact⟨_,_,rfl⟩;cases h) 2.144 [] _ rfl v H W L r
def Foc.lst2{c:D}(r:Rep G H W 2.40 v L)(O:clean 2.40=ag)(e:ds[j]? =ac c)(hn:L.Nodup):∃a xs x M,v= .ref a/\H a=ac 2.44/\xs.length=ds.length/\xs[j]? =ac x/\Foc G H W 2.40 v L [j] c x M/\a∉M:=by
 rw[Rep]at r;obtain⟨a,xs,N,rfl,Z,Y,rfl⟩:=r;obtain⟨h1,h2⟩:=jC O;obtain⟨x,A,M,B,J,rfl,rx,U⟩:=Z.kid h1 h2 e;refine⟨a,xs,x,M,rfl,Y,Z.length.symm,J,⟨rx,a::A,B,by simp,λH' W' d' M' F kp q=>?_⟩,λz=>(aah.mp hn).1 (W2 _ 2.213)⟩;have I:dU [j] d' 2.40= .lst .own (ds.set j d'):=by simp![dU,kids,e,uR]
 rw[I,Rep];exact⟨a,xs,A++(M'++B),rfl,U H' W' d' M' F (λb U u hu=>kp b (aai _ U) u hu) q,kp a (by simp) _ Y,by simp⟩
def Jy(ds:List D)(n m:Int):Option (List D):=(ixN ds.length n).bind λj=>(ixN ds.length m).bind λk=>match ds[j]?,ds[k]? with
 |some (.lst .own _),ac (.lst .own gs)=>(gs[gs.length-1]?).bind λx=>match(ds.set k (.lst .own gs.dropLast))[j]? with
  |some (.lst .own es)=>if es.length<1000000 then ac ((ds.set k (.lst .own gs.dropLast)).set j (.lst .own (es++[x])))else af
  |_=>af
 |_,_=>af
def LK(i:Nat)(fe:En->Option (D×En))(V:En->Option D):En->Option Fl:=λρ=>(fe ρ).bind λq=>match q.1,q.2[i]?,V q.2 with
 |.int n,ac (ac (.lst .own ds)),ac (.int m)=>(Jy ds n m).map λO=>.nx (q.2.set i (ac (.lst .own O)))
 |_,_,_=>af
def Ro{O:List D}{m:Int}(h:Jy ds n m=ac O):∃j k x q gs es,ixN ds.length n=ac j/\ixN ds.length m=ac k/\ds[j]? =ac (.lst .own q)/\ds[k]? =ac (.lst .own gs)/\De (.lst .own gs) []=ac (.lst .own gs.dropLast,x)/\(ds.set k 2.46)[j]? =ac (.lst .own es)/\bT (.lst .own es) [x]=ac (.lst .own (es++[x]),.non)/\O=(ds.set k 2.46).set j (.lst .own (es++[x])):=by
 unfold Jy at h;cases h1:ixN ds.length n with
 |none=>simp[h1]at h
 |some j=>
  cases h2:ixN ds.length m with
  |none=>simp[h1,h2]at h
  |some k=>
   rw[h1,h2]at h;simp![gD]at h;split at h
   .rename_i q gs h3 h4
    cases V:gs[gs.length-1]? with
    |none=>simp[V]at h
    |some x=>
     rw[V]at h;simp![gD]at h;split at h
     .rename_i es h6
      split at h
      .rename_i h7
       exact⟨j,k,x,q,gs,es,rfl,rfl,h3,h4,by simp[De,V],h6,by simp[bT,h7],by cases h;rfl⟩
      .cases h
     .cases h
   .cases h
variable{fe:En->Option (D×En)}{fk:En->Option D}
def Q4{tE tF:TE}{rA rP:V->List V->Hp->VK->Prop}(d3:ob i=ae)(mA:MuV G rA bT)(mP:MuV G rP De)(a2:l_ G ob tE fe)(a6:KpS i fe)(b2:RfE G ob tF fk) :
  RfS G ob P (Eh (tBM G.K "list" rA (tOp (λx y H Q=>rIx G.K x y H Q∨Jg x y H Q) (xW i) tE) (H_ (Y5 G.K "list" rP (tOp (λx y H Q=>rIx G.K x y H Q∨Jg x y H Q) (xW i) tF)) V0))) (LK i fe fk):=λρ r e σ H S Fr s E q=>by
 unfold LK at e;cases h1:fe ρ with
 |none=>simp[h1]at e
 |some w=>
  obtain⟨dn,ρ1⟩:=w;rw[h1]at e;simp![gD]at e;split at e
  .rename_i n ds m h2 O
   have h2:ρ1[i]? =ac (ac 2.40):=h2;have O:fk ρ1=ac (.int m):=O;cases Z:Jy ds n m with
   |none=>simp[Z]at e
   |some c9=>
    obtain rfl:Fl.nx (ρ1.set i (ac (.lst .own c9)))=r:=by simpa[Z]using e
    obtain⟨j,k,x,d7,gs,es,g1,g2,g3,g4,g5,g6,g7,rfl⟩:=Ro Z;have hs:=a6 ρ _ h1;simp only at hs;obtain⟨v0,a0,_,_⟩:=s.sl i _ (by rw[←hs];exact h2);refine⟨v0,a0,a2 ρ _ ρ1 h1 σ H S Fr s _ λy H1 N S1 a4 F _ ef=>?_⟩;obtain⟨rfl,rfl⟩:=aW F;obtain⟨d6,c1,r0,b7⟩:=a4.sl i _ h2;rw[a0]at c1;cases c1;obtain⟨a,xs,v,M,rfl,Y,hl,J,d0⟩:=Foc.lst r0 b7 g3;refine .inl (.inl ⟨a,xs,n,v,rfl,rfl,SqL.of Y,by unfold atI;rw[hl,g1];exact J,Yb d0.r,?_⟩);refine⟨.ref a,a0,b2 ρ1 _ O σ H1 _ a4.rel a4.wok _ λy H2 L2 I F fy ny=>?_⟩;obtain⟨rfl,rfl⟩:=aW F;have a1:Sta G H2 ob ρ1 σ S1 (plus [] Fr):=a4.grow I λa z=>.inl z;obtain⟨v2,c4,r2,_⟩:=a1.sl i _ h2;rw[a0]at c4;cases c4;obtain⟨a',d4,v',M',ea,a9,c6,c7,a5,c8⟩:=Foc.lst2 r2 b7 g4 (a1.nd i);cases ea;have:=I a _ Y;rw[a9]at this;cases this;refine .inl (.inl ⟨a,xs,m,v',rfl,rfl,SqL.of a9,by unfold atI;rw[c6,g2];exact c7,Yb a5.r,?_⟩);refine yP mP a1 h2 a0 (d:=.lst .own gs) (by simp[fJ,kids,g4]) a5 .nil aaq (λ_ h=>by cases h) rfl rfl g5 λvx H3 R S3 a8 rx nR cx q5 q6 q7 q8 kp=>?_;have b9:dU [k] 2.46 2.40= .lst .own (ds.set k 2.46):=by simp![dU,kids,g4,uR]
    rw[b9]at a8;have hi:i<ρ1.length:=(List.getElem?_eq_some_iff.mp h2).1;have e3:(ρ1.set i (ac 2.196))[i]? =ac (ac 2.196):=aa0 hi;obtain⟨v3,c3,r3,d1⟩:=a8.sl i _ e3;rw[a0]at c3;cases c3;obtain⟨a3,d5,v4,M3,ea,d2,d8,b3,c2⟩:=Foc.lst r3 d1 g6;cases ea;have e4:=kp a _ a9 c8;rw[d2]at e4;cases e4;rw[J]at b3;cases b3;have b6:aA x=ag/\az x=ag:=by simpa[clean]using cx
    have hF:∀b∈R,¬Fr b:=λb U z=>by
     rcases q7 b U with y|y|y
     .exact a1.fdj i b 2.42 y
     .cases y
     .obtain⟨o,ho,_⟩:=a1.fdm b 2.42
      rw[y]at ho;cases ho
    have b5:S1 i=S i:=ef.sn i d3;have b8:∀{b},inO ob S b∨H b=af->inS S b∨H b=af:=λ{b} z=>z.imp (λ⟨k,_,z⟩=>⟨k,z⟩) id;have c5:∀{b},H2 b=af->inS S b∨H b=af:=λ{b} z=>b8 (ef.back (I.none' z));have a7:∀{b},(b∈S1 i∨b∈([]:List Addr)∨H2 b=af)->inS S b∨H b=af:=λ{b} z=>by
     rcases z with y|y|y
     .rw[b5]at y;exact .inl ⟨i,y⟩
     .cases y
     .exact c5 y
    refine yP mA a8 e3 a0 (d:=.lst .own es) (by simp[fJ,kids,g6]) c2 (es:=[x]) (xs:=[vx]) (.one rx) nR hF (by simp[aF,b6.1]) (by simp[aD,b6.2]) g7 λ_ H4 R4 S4 c0 _ _ _ p5 p6 p7 p8 _=>?_;have b0:dU [j] (.lst .own (es++[x])) 2.196= .lst .own ((ds.set k 2.46).set j (.lst .own (es++[x]))):=by simp![dU,kids,g6,uR]
    rw[b0,List.set_set]at c0;refine q σ H4 S4 (c0.lessF λa z=>.inr z) ⟨λb u U n _=>?_,λj' b z=>?_,.refl⟩
    .have b1:=I b u (ef.kp b u U λ⟨k,_,z⟩=>n ⟨k,z⟩)
     have b2:b∉S1 i:=λz=>n ⟨i,by rw[←b5];exact z⟩;refine p8 b u (q8 b u b1 b2) λz=>?_;rcases q6 b z with y|y|y
     .exact b2 y
     .cases y
     .rw[b1]at y;cases y
    .by_cases hj:j'=i
     .subst hj
      rcases p6 b z with y|y|y
      .exact(a7 (q6 b y)).imp id .inr
      .exact(a7 (q7 b y)).imp id .inr
      .refine(a7 (b:=b) ?_).imp id .inr
       by_cases U:b∈S1 j'
       .exact .inl U
       .cases h9:H2 b with
        |none=>exact .inr (.inr rfl)
        |some u=>rw[q8 b u h9 U]at y;cases y
     .rw[p5 j' hj,q5 j' hj]at z
      cases b4:ob j' with
      |false=>rw[ef.sn j' b4]at z;exact .inl ⟨j',z⟩
      |true=>exact(b8 ((ef.gr j' b b4 z))).imp id .inr
  .cases e
def R3(i:Nat){eE eF:Expr}{pA pB pC pD:Pos}(hu:∀c,(X c).A.units+1<cLine)(hE:PVe X G ob eE fe)(I:KpS i fe)(V:PV X G ob eF fk)(a8:ob i=ae:=by rfl)
  (z:∀c,(X c).N[i]? =ac x:=by intro _;rfl) (Z:∀c,Vis (X c).env.scope x:=by intro _;first|exact aa_ rfl|exact aaL (aa_ rfl)|exact aaL 2.205) (hd:(x==("__debug__":Str))=ae:=by decide) (O:(x==("__classdict__":Str))=ae:=by decide) (hs:oV eE:=by exact λ_ _=>rfl) (a7:oV eF:=by exact λ_ _=>rfl)
  (a3:∀c,abX (.Call (.Attribute 2.59 "append" pA) [.Call (.Attribute 2.22 "pop" pB) [] [] pC] [] pD) af pos.line (X c).env=pure ae:=by intro _;rfl)
  (a6:∀c,abj 2.59 "append" (X c).env (eval 2.59 (X c).env)=eval 2.59 (X c).env:=by intro _;rfl)
  (Y:∀c,abj 2.22 "pop" (X c).env (eval 2.22 (X c).env)=eval 2.22 (X c).env:=by intro _;rfl)
  (a4:(pA.endLine==pD.line)=ag:=by rfl) (a5:(pB.endLine==pC.line)=ag:=by rfl)
  (q:∀c,((aa1 pD (Z1 [.Call (.Attribute 2.22 "pop" pB) [] [] pC] (X c).env)).all (λx=>!x.1)&&(ac1 pD (ab9 [] (X c).env)).all (λx=>x.1.isSome)
   &&decide (([Expr.Call (.Attribute 2.22 "pop" pB) [] [] pC]).length+([]:List abE).length+(if([]:List abE).isEmpty then 0 else 1)<30))=ag:=by intro _;rfl)
  (a0:∀c,Z1 [.Call (.Attribute 2.22 "pop" pB) [] [] pC] (X c).env=(ae,eval (.Call (.Attribute 2.22 "pop" pB) [] [] pC) (X c).env)::Z1 [] (X c).env:=by intro _;rfl) (U:∀c,(aa1 pD (Z1 [] (X c).env)).any (·.1)=ae:=by intro _;rfl) (J:∀c,(X c).K=G.K:=by intro _;rfl) :
  PVS X G ob P (.Expr (.Call (.Attribute 2.59 "append" pA) [.Call (.Attribute 2.22 "pop" pB) [] [] pC] [] pD) pos) (LK i fe fk):=
 let⟨t,a1,a2⟩:=hE.ex;let⟨u,b1,b2⟩:=V.ex;⟨_,λc=>(by
  rw[←J c];exact rZ (zc aaW abM abN tR (Em (zN (hu c)) 2.119 (a1 c) hs) (vg (P0 aaW ae9 ae_ UG (Em (zN (hu c)) 2.119 (b1 c) a7) (Y c) a5) K3 (a0 c)) (a6 c) (q c) a4 (a0 c) (U c)) (a3 c)),Q4 a8 qO Rw a2 I b2⟩
def Ut{os:List D}(h:objs [j] ρ=ac os):∃d,os=[d]/\ρ[j]? =ac (ac d):=by
 unfold objs at h;cases h1:ρ[j]? with
 |none=>simp[h1]at h
 |some o=>
  cases o with
  |none=>simp[h1]at h
  |some d=>exact⟨d,by simpa[h1]using h.symm,rfl⟩
def pk1(S:Ad)(j:Nat):Ad:=λi=>if i=0 then S j else[]
def bk1(S:Ad)(j:Nat)(L:List Addr):Ad:=λi=>if i=j then L else S i
def yl(h:a∈pk1 S j i):a∈S j:=by
 unfold pk1 at h;split at h
 .exact h
 .cases h
def yG(h:a∈bk1 S j L i):(i=j/\a∈L)∨(i≠j/\a∈S i):=by
 unfold bk1 at h;split at h
 .exact .inl ⟨‹_›,h⟩
 .exact .inr ⟨‹_›,h⟩
variable{f:En->Option (List D×En)}{F:List D->Option (D×List D)}
def Ti{oc:Nat->Bool}(ho:ob j=ag)(hp:pr 0=ag)(h:RfM G ob t [j] f){E:XK} :
  l_ G ob (λσ H Q=>t σ H λJ H1=>spI G oc pr F (J++[]) H1 Q E) (eIo F [j] f):=λρ d ρ' e σ H S Fr s Q q=>by
 unfold eIo at e;split at e
 .rename_i hsome
  cases h0:objs [j] ρ with
  |none=>rw[h0]at hsome;cases hsome
  |some c6=>
   cases h1:f ρ with
   |none=>simp[h1]at e
   |some p=>
    obtain⟨ds,ρ1⟩:=p;rw[h1]at e;simp![gD]at e;cases h2:objs [j] ρ1 with
    |none=>simp[h2]at e
    |some os=>
     rw[h2]at e;simp![gD]at e;split at e
     .rename_i hbro
      cases h3:F (os++fzL ds)with
      |none=>simp[h3]at e
      |some z=>
       obtain⟨d1,a9⟩:=z;rw[h3]at e;simp![gD]at e;split at e
       .rename_i b0
        obtain⟨rfl,rfl⟩:d1=d/\mK [j] a9 ρ1=ρ':=by simpa using e
        obtain⟨o0,rfl,g0⟩:=Ut h0;obtain⟨o1,rfl,g1⟩:=Ut h2;obtain⟨u,hu,_⟩:=s.sl j o0 g0;refine h ρ ds ρ1 h1 σ H S Fr s [u] (by simp[hu]) _ λJ H1 M S1 Z r1 c7 b7=>?_;rw[List.append_nil];have hO:∀{a},a∈S1 j->inO ob S1 a:=λz=>⟨j,ho,z⟩;have a7:∀{i a},a∈S1 i->¬(wn ob S1 2.16).free a:=λ{i a} z f=>by
         cases a5:ob i with
         |false=>exact f.2.1 ⟨i,a5,z⟩
         |true=>exact f.2.2 ⟨i,a5,z⟩
        let a4:Addr->Prop:=λa=>aF ds=ag/\((Fr a∨inS S1 a)/\a∉S1 j)
        have b2:∀{a},(aF ds=ag->(Fr a∨inS S1 a)->a∈S1 j)->a∉S1 j->(wn oc (pk1 S1 j) a4).free a:=λf n=>⟨λz=>n (f z.1 z.2.1),λ⟨i,_,z⟩=>n (yl z),λ⟨i,_,z⟩=>n (yl z)⟩;have a8:∀a,(wn ob S1 2.16).free a->(wn oc (pk1 S1 j) a4).free a:=λa f=>b2 (λ_ z=>z.elim (λy=>(f.1 (.inr y)).elim) λ⟨i,y⟩=>(a7 y f).elim) λz=>f.2.2 (hO z);have c1:∀a∈M,¬Fr a:=λa Y z=>by
         rcases b7.fm a Y with y|y
         .exact s.notO z y
         .obtain⟨o,ho,_⟩:=s.fdm a z
          rw[y]at ho;cases ho
        have b6:aJ G H1 (wn oc (pk1 S1 j) a4) (fzL ds) J []:=by
         refine r1.fz2 ⟨a8,λa Y=>b2 (λ_ z=>z.elim (λy=>(c1 a Y y).elim) λ⟨i,y⟩=>(Z.fdj i a (.inl Y) y).elim) (Z.fdj j a (.inl Y))⟩ ?_ (.inl hbro);by_cases c0:aF ds=ag
         .exact .inl c0
         .refine .inr λa ⟨i1,o1,y1⟩=>b2 (λz=>(c0 z).elim) λy2=>?_
          rw[Z.dj i1 j a y1 y2,ho]at o1;cases o1
        have sc:Sta G H1 oc ((o1::fzL ds).map ac) ((u::J).map ac) (pk1 S1 j) a4:=by
         refine⟨by simp[b6.length],λi d0 hi=>?_,λi hi=>?_,λi=>?_,λi k a h1 h2=>?_,λi a h1 h2=>h1.2.2 (yl h2),λa Y=>?_⟩
         .cases i with
          |zero=>
           cases hi;obtain⟨v,q3,q4,q5⟩:=Z.sl _ _ g1;have a3:=(by simpa[clean]using q5:aA o1=ag/\az o1=ag);rw[hu]at q3;cases q3;exact⟨_,rfl,q4.mono ⟨λb u h f=>⟨h,a8 b f⟩,λ_ _ h=>h⟩ (.inl a3.1) (.inl a3.2) λ_ _ _ h=>h,q5⟩
          |succ i=>
           have hi:(fzL ds)[i]? =ac d0:=rJ hi;obtain⟨x,M',q1,q2,q3⟩:=b6.get hi;have:M'=[]:=by simpa using q3
           subst this;exact⟨x,jQ (xs:=J) q1,q2,by simp[clean,jt (iC ds) hi,jz (iD ds) hi]⟩
         .cases i with
          |zero=>exact absurd rfl (hi o1)
          |succ i=>rfl
         .unfold pk1
          split
          .exact Z.nd _
          .exact aaq
         .unfold pk1 at h1 h2
          split at h1
          .split at h2
           .rw[‹i=0›,‹k=0›]
           .cases h2
          .cases h1
         .exact Y.2.1.elim (λy=>Z.fdm a (.inr y)) λ⟨i,y⟩=>Z.mu y
        refine⟨o1::fzL ds,pk1 S1 j,a4,sc,λi hi=>?_,d1,a9,h3,λv H2 Mc Sc s2 r2 c2 n2 c5 m2=>?_⟩
        .cases i with
         |zero=>rw[hp]at hi;cases hi
         |succ i=>rfl
        .obtain⟨e1,b1,rfl⟩:∃e1 b1,a9=e1::b1:=by
          have h1:=s2.len;cases a9 with
          |nil=>simp at h1
          |cons a b=>exact⟨a,b,rfl⟩
         have kept:∀b u,H1 b=ac u->b∉S1 j->H2 b=ac u:=λb u U n=>m2.kp b u U (λ⟨i,z⟩=>n (yl z)) (by simp);have a2:∀{i b},b∈Sc i->b∈S1 j∨H1 b=af:=λ{i b} z=>(m2.gr i b z).imp (λ⟨i,z⟩=>yl z) λy=>y.resolve_left (by simp);have a6:∀{b},b∈Mc->b∈S1 j∨H1 b=af:=λ{b} z=>(c5 b z).imp (λ⟨i,z⟩=>yl z) id;have b3:∀{b},Fr b->b∉S1 j:=λ{b} z y=>Z.fdj j b 2.42 y;have a0:∀{k b},k≠j->b∈S1 k->b∉S1 j:=λ{k b} hn z y=>hn (Z.dj k j b z y);have b5:∀{i b},b∈S1 i->H1 b≠af:=λ{i b} z y=>by obtain⟨o,ho,_⟩:=Z.mu z;rw[y]at ho;cases ho
         have ev:Evo H1 H2 (wn ob S1 2.16) (wn ob 2.227 (plus Mc Fr)):=by
          refine⟨λb u U f=>?_,λb xs h=>kept b _ h λz=>?_⟩
          .have n1:b∉S1 j:=λz=>f.2.2 (hO z)
           have n0:¬(b∈S1 j∨H1 b=af):=λz=>z.elim n1 λy=>by rw[U]at y;cases y
           have n2:∀i,b∉bk1 S1 j (Sc 0) i:=λi z=>(yG z).elim (λy=>n0 (a2 y.2)) λy=>a7 y.2 f;exact⟨kept b u U n1,λz=>z.elim (λz=>n0 (a6 z)) λz=>f.1 2.42,λ⟨i,_,z⟩=>n2 i z,λ⟨i,_,z⟩=>n2 i z⟩
          .obtain⟨o,ho,hm⟩:=Z.mu z
           rw[h]at ho;cases ho;cases hm
         have conv:∀(e:D)(x:V)(L:List Addr),(aF ds=ag∨cQ e=ag)->clean e=ag->Rep G H2 (wn oc Sc (plus Mc a4)) e x L->Rep G H2 (wn ob 2.227 (plus Mc Fr)) e x L:=λe x L O b0 r=>by
          rcases O with O|O
          .have a3:=(by simpa[clean]using b0:aA e=ag/\az e=ag)
           refine r.mono ⟨λb u U f=>?_,λ_ _ h=>h⟩ (.inl a3.1) (.inl a3.2) λ_ _ _ h=>h;have nb:∀k,b∉bk1 S1 j (Sc 0) k:=λk z=>by
            rcases yG z with⟨_,y⟩|⟨hn,y⟩
            .cases a5:oc 0 with
             |false=>exact f.2.1 ⟨0,a5,y⟩
             |true=>exact f.2.2 ⟨0,a5,y⟩
            .exact f.1 (.inr ⟨O,.inr ⟨k,y⟩,a0 hn y⟩)
           exact⟨U,λz=>z.elim (λz=>f.1 2.29) λz=>f.1 (.inr ⟨O,.inl z,b3 z⟩),λ⟨i,_,z⟩=>nb i z,λ⟨i,_,z⟩=>nb i z⟩
          .exact r.own O
         have c3:j<ρ1.length:=(List.getElem?_eq_some_iff.mp g1).1;have c4:bk1 S1 j (Sc 0) j=Sc 0:=if_pos rfl;have b4:∀{k},k≠j->bk1 S1 j (Sc 0) k=S1 k:=λhn=>aag hn;have b8:∀{k},k≠j->(mK [j] (e1::b1) ρ1)[k]? =ρ1[k]?:=λ{k} hn=>List.getElem?_set_ne λz=>hn z.symm;have b9:(mK [j] (e1::b1) ρ1)[j]? =ac (ac e1):=aa0 c3;refine q v H2 Mc 2.227 ⟨?_,λk d0 I=>?_,?_,?_,?_,?_,?_⟩ (conv _ _ _ (b0.imp id λz=>z.1) c2 r2) n2 ?_
         .exact(agh ..).trans Z.len
         .by_cases a1:k=j
          .subst a1
           rw[b9]at I;cases I;obtain⟨v,q3,q4,q5⟩:=s2.sl 0 e1 rfl;cases q3;exact⟨u,hu,by rw[c4];exact conv _ _ _ (b0.imp id λz=>by simpa[bI]using z.2) q5 q4,q5⟩
          .rw[b8 a1]at I
           obtain⟨v,q1,q2,q3⟩:=Z.sl k d0 I;have a3:=(by simpa[clean]using q3:aA d0=ag/\az d0=ag);exact⟨v,q1,by rw[b4 a1];exact q2.mono ev (.inl a3.1) (.inl a3.2) λc O u hu=>kept c u hu (a0 a1 O),q3⟩
         .intro k I
          by_cases a1:k=j
          .subst a1
           exact absurd b9 (I _)
          .rw[b4 a1]
           exact Z.em k λd0=>by have:=I d0;rwa[b8 a1]at this
         .intro k
          unfold bk1;split
          .exact s2.nd _
          .exact Z.nd k
         .intro i k a y1 y2
          rcases yG y1 with⟨e1,z1⟩|⟨e1,z1⟩<;>rcases yG y2 with⟨e2,z2⟩|⟨e2,z2⟩
          .rw[e1,e2]
          .exact((a2 z1).elim (a0 e2 z2) (b5 z2)).elim
          .exact((a2 z2).elim (a0 e1 z1) (b5 z1)).elim
          .exact Z.dj i k a z1 z2
         .intro k a Y z
          rcases yG z with⟨_,y⟩|⟨hn,y⟩
          .rcases Y with Y|Y
           .exact s2.fdj 0 a (.inl Y) y
           .rcases a2 y with y|y
            .exact b3 Y y
            .obtain⟨o,ho,_⟩:=Z.fdm a (.inr Y)
             rw[y]at ho;cases ho
          .rcases Y with Y|Y
           .exact(a6 Y).elim (a0 hn y) (b5 y)
           .exact Z.fdj k a (.inr Y) y
         .intro a Y
          rcases Y with Y|Y
          .exact r2.dom a Y
          .obtain⟨o,ho,hm⟩:=Z.fdm a (.inr Y)
           exact⟨o,kept a o ho (b3 Y),hm⟩
         .have ef2:Eff ob H1 H2 S1 2.227 Mc:=
           ⟨λb u U n=>kept b u U λz=>n (hO z),λi hi=>b4 λz=>(by rw[z,ho]at hi;cases hi),λi a hi z=>(yG z).elim (λy=>(a2 y.2).imp hO id) λy=>.inl ⟨i,hi,y.2⟩,λa Y=>(a6 Y).imp hO id⟩
          exact(b7.trans ef2).same (Same.refl _) λc O=>.inl (W2 _ O)
       .cases e
     .cases e
 .cases e
def Q9(j:Nat){p:Pos}{oc:Nat->Bool}(C:∀c,Cal (X c).prog (X c).w (X c).K (X c).mg (X c).base k x ps (spI G oc pr F))(Z:∀c,jM k (X c).A)(Y:PVM X G ob (e::es) [j] f)(z:ob j=ag:=by rfl)(V:pr 0=ag:=by rfl)(J:∀c,Gl (X c) x:=by intro _;rfl)(q:(x==("__debug__":Str))=ae:=by decide)(I:∀c,Z1 (e::es) (X c).env=(ae,eval e (X c).env)::Z1 es (X c).env:=by intro _;rfl)(U:∀c,(aa1 pos (Z1 es (X c).env)).any (·.1)=ae:=by intro _;rfl) :
 PVe X G ob (.Call 2.117 (e::es) [] pos) (eIo F [j] f):=let⟨t,a1,a2⟩:=Y.ex;⟨_,λc=>O6 (C c) (Z c) (J c) (a1 c) q (I c) (U c),Ti z V a2⟩
def bj(j:Nat){p I:Pos}{oc:Nat->Bool}(C:∀c,Cal (X c).prog (X c).w (X c).K (X c).mg (X c).base k x ps (spI G oc pr F))(Z:∀c,jM k (X c).A)(Y:wu X G ob es f)(J:ob j=ag:=by rfl)(V:pr 0=ag:=by rfl)(hg:∀c,Gl (X c) x:=by intro _;rfl)(q:(x==("__debug__":Str))=ae:=by decide)(U:∀c,(aa1 pos (Z1 es (X c).env)).any (·.1)=ae:=by intro _;rfl)(z:∀c,(X c).N[j]? =ac y:=by intro _;rfl)(hv:∀c,Vis (X c).env.scope y:=by intro _;first|exact aa_ rfl|exact aaL (aa_ rfl)|exact aaL 2.205)(hd:(y==("__debug__":Str))=ae:=by decide)(O:(y==("__classdict__":Str))=ae:=by decide)(hs:∀c,Z1 (.Name y I::es) (X c).env=(ae,eval (.Name y I) (X c).env)::Z1 es (X c).env:=by intro _;rfl) :
 PVe X G ob (.Call 2.117 (.Name y I::es) [] pos) (eIo F [j] f):=Q9 j C Z (R0 j (Rh Y) z hv hd O hs) J V hg q hs U
def eX:List D->Option D:=fnP 1 2 ((aU (bO (eAp ux (aj (eSl 2.2 fW (eU (eC (.int 63)))) au)) (tgN 1))
 (aU (sIf (eB (e2 gEq 2.9 (eAp bA au))) (bO (eAp bA (aj (eC (.int 7)) au)) (tgN 1)) cL)
 (wz "cells" "turn" 1 0))))
def aC:List D->Option (D×List D):=fnI (λi=>i==0) 2 7 ((aU (bO (e2 cR (e2 gIx (ao ag 0) (eC (.str "turn"))) 2.0) (tgN 2))
 (aU (bO 2.14 (jg gj 0 (ig 0) (eC (.str "turn"))))
 (aU (bO (e2 mV 2.14 (eAp bz (aj (e2 gIx (ao ag 0) (eC (.str "cells"))) au))) (tgN 3))
 (aU (bO (e2 gIx (e2 gIx (ao ag 0) (eC (.str "cells"))) 2.230) (tgN 4))
 (aU (sIf (eB (e2 gGe 2.4 (e2 E_ (eC (.int 10)) (eC (.int 18))))) (aU (bO (eAp vz (aj 2.4 (aj 2.9 au))) (tgT 2 (aP (jg gj 0 (xJ 0 (ig 0) (eC (.str "cells"))) 2.230) (aP (tgN 5) cg))))
 (jf 5)) cL)
 (aU (bO (e2 mV (e2 lr (e2 cR (e2 cR (e2 mV 2.4 (eC (.int 2147483629))) (e2 lr (e2 lr 2.14 2.14) (eC (.int 7919)))) (eC (.int 11))) (eC (.int 48271))) (eC (.int 2147483647))) (tgN 6))
 (aU (bO (e2 mV (e2 lr 2.23 2.23) (eC (.int 2147483587))) (tgN 6))
 (b7 (e2 mV (e2 vD (e2 mV (e2 lr (e2 cR 2.23 (e2 lr 2.14 (eC (.int 104729)))) (eC (.int 39373))) (eC (.int 2147483629))) (eC (.int 64))) 2.9))))))))))
def gV:List D->Option (D×List D):=fnI (λi=>i==0) 1 4 ((aU (dD (ee2 gIx (mY bA (bQ (eUp 2.209) (bQ (eUp (eC (.int 5))) (bQ (eUp 2.132) (bQ (eUp (eC (.int 7))) (bQ (eUp (eC (.int 8))) (bQ (eUp 2.132) (bQ (ee2 cR (eUp (eC (.int 10))) (eIo aC [0] (bF (aj (eC (.int 5)) au)))) (bQ (eIo aC [0] 2.56) (bF au)))))))))) (eIo aC [0] 2.101)) (tgN 1))
 (aU (bO (eMt vU (eC (.str "b aa zebra c quartzes ab m knows d mm likes z a ba abcdefgh y")) (aj (eC (.str " ")) au)) (tgN 2))
 (aU (dD (eIo aC [0] 2.168) (tgN 3))
 (b7 (eSl (e2 cR (eSl 2.14 (eU 2.230) fW) (eSl 2.14 fW (eU 2.230))) fW (eU 2.9)))))))
def dM:List D->Option (D×List D):=fnI (λi=>i==0) 2 11 ((aU (dD (ql [af,ac 0] (itS 2.9) (tgN 0) eTT (ee2 jb (eIo aC [1] (bF (aj (eC (.int 19)) au))) (eUp (eC (.int 9))))) (tgN 2))
 (aU (uH (eeB (ee2 gEq (eIo aC [0] (bF (aj 2.132 au))) (eUp 2.45))) (bO (bH [af] (itS 2.14) (tpN 0) eTT (e2 lr 2.2 (eC (.int 50000000021)))) (tgN 2)) cL)
 (aU (bO (eAp bA au) (tgN 3))
 (aU (lw (j5 (bQ (eIo aC [0] (bF (aj (e2 cR (e2 lr 2.39 2.160) 2.0) au))) (bF au))) (tgN 4) (aU (lR (bQ (eIo aC [0] (bF (aj 2.160 au))) (bQ (eIo aC [0] (bF (aj 2.160 au))) (bF au))) (aP (tgN 5) (aP (tgN 6) cg)))
 (aU (bO (e2 jb (e2 gIx 2.14 2.23) (e2 gIx 2.14 2.232)) (tgN 7))
 (aU (uH (eeB (ee2 gEq (eIo aC [0] 2.56) (eUp 2.45))) (dD (ee2 jb (eIo aC [0] (bF (aj (eC (.int 9)) au))) (eUp 2.209)) (tgN 7)) cL)
 (aU (pq bT 3 (ig 3) (aj (eAp bx (aj (e2 gIx 2.9 2.232) (aj (e2 gIx 2.9 2.23) 2.67))) au))
 (aU (dD (eIo aC [0] (bF (aj (eC (.int 12)) au))) (tgN 8))
 (aU (sIf (eB (e2 gEq (ao ae 8) 2.45)) (dD (ee2 gIx (eUp 2.230) (eIo aC [0] 2.210)) 2.194) cL)
 (sIf (eB (e2 gEq (ao ae 8) 2.0)) (aU (dD (ee2 gIx (eUp 2.230) (eIo aC [0] 2.210)) (tgT 3 (aP (tgN 9) (aP (tgN 10) (aP (tgN 7) cg)))))
 (bO (eAp bx 2.61) 2.194)) cL))))))))
 (jf 3))))))
def iH:List D->Option (D×List D):=fnI (λi=>i==0) 2 5 ((aU (bO (e2 cR 2.9 (eAp bA (aj (eC (.str "lone")) au))) (tgN 2))
 (aU (dD (ee2 gIx (eUp 2.14) (eIo aC [0] 2.168)) (tgN 3))
 (aU (dD (ee2 gIx (eUp 2.14) (eIo aC [0] 2.168)) (tgN 4))
 (pP (mY bx (bQ (eUp 2.230) (bQ (ee2 gIx (eUp (eAp bA (aj 2.4 2.5))) (mY Fy (bQ (ee2 gEq (eIo aC [0] 2.101) (eUp 2.45)) (bF au)))) (bF au)))))))))
def bK:List D->Option D:=fnP 1 6 ((aU (bO (eAp uE au) (tgN 1))
 (aU (ie (itE 2.152) (tgT 2 (aP (tgN 2) (aP (tgT 3 (aP (tgN 3) (aP (tgN 4) (aP (tgN 5) cg)))) cg))) (aU (Er 1 (aj 2.230 2.37) (aj 2.189 au))
 (Er 1 (aj 2.4 2.37) (aj 2.190 au))))
 (jf 1))))
def cH:List D->Option D:=fnP 2 10 ((aU (bO (eAp (aZ bK) 2.152) (tgN 2))
 (aU (bO (wX (qD 2.9 (eAp bx au) yX)) (tgN 3))
 (aU (bO (wX (qD 2.9 (eAp bx au) yX)) (tgN 4))
 (aU (kZ (An (eB (e2 Mq 2.4 (eAp uE au)))) (aU (bO (eAp uE au) (tgN 5))
 (aU (sFz 2 (sFz 4 (zf 4 (tgN 6) (ie (itS 2.195) (tgT 2 2.138) (aU 2.166
 2.3)))))
 (aU (sFz 5 (pq qK 3 (ig 3) 2.75))
 (bO 2.232 (tgN 4))))) 1000000)
 (jf 3))))))
def cA:List D->Option D:=fnP 1 1 ((b7 (u_ (eAp cD (aj 2.2 (aj (eC (.ty "int")) au))) (e1 CG (eAp cD (aj 2.2 (aj (eC (.ty "bool")) au)))))))
def bB:List D->Option D:=fnP 4 8 ((aU (sIf (iz (gQ (eAp cD (aj 2.230 (aj (eC (.ty "tuple")) au))))) 2.11 cL)
 (aU (bO (eAp bA (aj 2.9 au)) (tgN 4))
 (aU (ie (itS 2.230) (tgN 5) (aU (sIf (eOr (iz (gQ (eAp cD (aj 2.232 (aj (eC (.ty "tuple")) au))))) (eOr (eB (e2 gNe (eAp bz 2.75) 2.39)) (eOr (iz (gQ (eAp (aZ cA) (aj 2.228 au)))) (iz (gQ (eAp (aZ cA) (aj (e2 gIx 2.232 2.0) au))))))) 2.11 cL)
 (aU (sIf (eOr (iz (eB (j9 gLe gLt 2.45 2.228 2.231))) (eB (e2 di (e2 gIx 2.232 2.0) (eAp bx (aj 2.0 (aj 2.233 au)))))) 2.11 cL)
 (aU (bO (e2 ug (eSl (e2 gIx 2.2 2.228) fW (eU 2.39)) (e2 gIx 2.232 2.0)) (tgT 2 2.91))
 (aU (sIf (eOr (eB (e2 gNe 2.23 (e2 gIx 2.4 2.233))) (eB (e2 gIn (ao ae 7) 2.4))) 2.11 cL)
 (pq bT 4 (ig 4) 2.67))))))
 (b7 (e2 gEq (e2 gIx 2.4 2.233) 2.14))))))
def cB:List D->Option D:=fnP 3 10 ((aU (bO (eAp bA au) (tgN 3))
 (aU (ie (itS (eSl 2.9 fW (eU (e2 cR 2.14 2.39)))) (tgN 4) (bO (e2 cR 2.230 (eAp ux (aj 2.4 au))) (tgN 3)))
 (aU (ie 2.229 (tgT 3 (aP (tgN 5) 2.91)) (ie (itS 2.171) (tgT 2 (aP (tgN 8) (aP (tgN 9) cg))) (sIf (jO (eB (e2 gIn (ao ae 8) (e2 gIx 2.9 2.14))) (eB (e2 di (ao ae 9) 2.230))) 2.11 cL)))
 2.121))))
def bN:List D->Option D:=fnP 1 2 ((aU (sIf (iz (gQ (eAp cD (aj 2.2 (aj (eAp bx (aj (eC (.ty "list")) (aj (eC (.ty "tuple")) au))) au))))) 2.11 cL)
 (aU (ie 2.229 (tgN 1) (aU (sIf (eOr (iz (gQ (eAp cD (aj 2.9 (aj (eC (.ty "str")) au))))) (iz (eB (j9 gLe gLe 2.0 2.160 (eC (.int 8)))))) 2.11 cL)
 (sIf (iz (gQ (eAp lU (aj (bH [af] (pR 2.9) (tpN 0) eTT (e2 gIn 2.2 (eC (.str "abcdefghijklmnopqrstuvwxyz")))) au)))) 2.11 cL)))
 2.121)))
def bG:List D->Option D:=fnP 5 6 ((aU (sIf (eOr (iz (gQ (eAp (aZ bB) (aj 2.2 (aj 2.9 (aj 2.14 2.5)))))) (iz (gQ (eAp cD (aj 2.4 (aj (eAp bx (aj (eC (.ty "list")) (aj (eC (.ty "tuple")) au))) au)))))) 2.11 cL)
 (aU (sIf (eOr (eB (e2 gNe 2.154 (eAp bz 2.5))) (iz (gQ (eAp lU (aj (bH [af] (itS 2.4) (tpN 0) eTT (eAp (aZ bN) 2.152)) au))))) 2.11 cL)
 (aU (sIf (eOr (gQ (eAp O8 (aj (bH [af,ac 2] (itS 2.4) (tpN 0) eTT (e2 gIn 2.9 2.2)) au))) (jO (eB (e2 gGt 2.154 2.45)) (eB (e2 di 2.9 (e2 gIx 2.4 2.45))))) 2.11 cL)
 (aU (ie (pJ 2.236) (tgN 5) (sIf (iz (gQ (eAp (aZ cB) (aj 2.2 (aj 2.4 2.75))))) 2.11 cL))
 2.121)))))
def bY:List D->Option D:=fnP 1 5 ((aU (bO (eAp uE au) (tgN 1))
 (aU (ie (itE 2.152) (tgT 2 (aP (tgN 2) (aP (tgN 3) cg))) (sFz 3 (ie (itS 2.230) (tgN 4) (pq uq 1 (ig 1) (aj 2.4 (aj 2.14 au))))))
 (jf 1))))
def dI:List D->Option D:=fnP 1 1 ((b7 (e2 gEq (eAp lH 2.152) 2.231)))
def eY:List D->Option D:=fnP 1 1 ((b7 (u_ (eAp cD (aj 2.2 (aj (eC (.ty "tuple")) au))) (e2 gEq 2.231 2.39))))
def dh:List D->Option D:=fnP 1 1 ((b7 (u_ (eAp cD (aj 2.2 (aj (eC (.ty "int")) au))) (e1 CG (eAp cD (aj 2.2 (aj (eC (.ty "bool")) au)))))))
def cV:List D->Option D:=fnP 1 1 ((b7 (u_ (eAp (aZ eY) 2.152) (u_ (eAp (aZ dh) (aj (e2 gIx 2.2 2.45) au)) (u_ (eAp (aZ dh) (aj (e2 gIx 2.2 2.0) au)) (e2 gIn (e2 gIx 2.2 2.0) (eAp bx (aj 2.0 (aj 2.233 au)))))))))
def gm:List D->Option D:=fnP 1 1 ((b7 (u_ (eAp cD (aj 2.2 (aj (eC (.ty "tuple")) au))) (eAp lU (aj (bH [af] 2.229 (tpN 0) eTT 2.234) au)))))
def dF:List D->Option D:=fnP 2 5 ((aU (bO 2.2 (tgT 3 (aP (tgN 2) (aP (tgN 3) (aP (tgN 4) cg)))))
 (aU (sIf (eB (e2 gEq 2.9 2.0)) (b7 (eAp bx (aj 2.14 2.5))) cL)
 (b7 (eAp bx (aj 2.230 (aj 2.14 au)))))))
def iu:List D->Option D:=fnP 3 8 ((aU (bO 2.9 (tgN 3))
 (aU (ie (itS 2.14) (tgT 2 (aP (tgN 4) (aP (tgN 5) cg))) (aU (sIf (eOr (eB (e2 gLt 2.4 2.45)) (eB (e2 gGe 2.4 2.231))) (b7 (eC .non)) cL)
 (aU (bO (eAp (aZ dF) (aj (e2 gIx 2.2 2.4) 2.75)) (tgT 2 2.91))
 (aU (sIf (eB (e2 gNe 2.23 2.230)) (b7 (eC .non)) cL)
 (bO (ao ae 7) (tgN 3))))))
 (jf 3))))
def eZ:List D->Option D:=fnP 2 2 ((b7 (bH [af,af,ac 0] (itS 2.9) 2.27 eTT 2.153)))
def dw:List D->Option D:=fnP 4 4 ((aU (sIf (eOr (iz (gQ (eAp (aZ gm) 2.5))) (eB (e2 gNe (eAp (aZ iu) (aj 2.2 (aj 2.9 2.5))) 2.14))) 2.11 cL)
 (b7 (eAp (aZ dI) (aj (e2 cR (eAp bA (aj 2.9 au)) (eAp (aZ eZ) (aj 2.2 2.5))) au)))))
def cz:List D->Option D:=fnP 1 1 ((b7 (eAp cD (aj 2.2 (aj (eAp bx (aj (eC (.ty "list")) (aj (eC (.ty "tuple")) au))) au)))))
def cX:List D->Option D:=fnP 1 1 ((aU (sIf (iz (gQ (eAp cD (aj 2.2 (aj (eC (.ty "str")) au))))) 2.11 cL)
 (aU (sIf (eOr (eB (e2 gLt 2.231 2.0)) (eB (e2 gGt 2.231 (eC (.int 8))))) 2.11 cL)
 (b7 (eAp lU (aj (bH [af] (pR 2.2) (tpN 0) eTT (e2 gIn 2.2 (eC (.str "abcdefghijklmnopqrstuvwxyz")))) au))))))
def cN:List D->Option D:=fnP 1 1 ((b7 (u_ (eAp (aZ cz) 2.152) (eAp lU (aj (bH [af] 2.229 (tpN 0) eTT (eAp (aZ cX) 2.152)) au)))))
def bV:List D->Option D:=fnP 5 7 ((aU (sIf (iz (gQ (eAp (aZ dw) (aj 2.2 (aj 2.9 (aj 2.14 2.5)))))) 2.11 cL)
 (aU (sIf (eOr (iz (gQ (eAp (aZ cz) (aj 2.4 au)))) (eOr (eB (e2 gNe 2.154 (eAp bz 2.5))) (iz (gQ (eAp lU (aj (bH [af] (itS 2.4) (tpN 0) eTT (eAp (aZ cN) 2.152)) au)))))) 2.11 cL)
 (aU (bO 2.154 (tgN 5))
 (aU (bO (eAp (aZ bY) (aj 2.4 au)) (tgN 6))
 (aU (sIf (eOr (eB (e2 gIn 2.14 2.23)) (jO (eB (e2 gGt 2.232 2.45)) (eB (e2 gNe (eMt ik 2.23 (aj 2.9 au)) 2.45)))) 2.11 cL)
 (b7 (eAp lU (aj (bH [af,af,af,ac 5,ac 6] 2.229 2.43 eTT 2.151) au)))))))))
def cC:List D->Option D:=fnP 3 8 ((aU (bO (eAp (aZ bK) 2.152) (tgN 3))
 (aU (bO (eAp bx au) (tgN 4))
 (aU (bO (eAp bA (aj 2.9 au)) (tgN 5))
 (aU (ie (pJ (aj 2.231 au)) (tgN 6) (sIf (eB (e2 gNe (e2 gIx 2.232 2.233) 2.14)) (aU (bO (bH [af,ac 5] (itS 2.155) (tpN 0) 2.169 2.2) (tgN 7))
 (sIf (eB (e2 gNe (ao ae 7) (eAp bA au))) (aU (bO (e2 cR 2.4 (eAp bx (aj (e2 gIx (e2 gIx (ao ae 7) 2.233) 2.45) au))) (tgN 4))
 (pq bT 5 (ig 5) (aj (e2 gIx (e2 gIx (ao ae 7) 2.233) 2.0) au))) cL)) cL))
 (jf 4))))))
def cP:List D->Option (D×List D):=fnI (λi=>i==0) 5 8 ((aU (dD (eIo aC [0] (bF (aj 2.132 au))) (tgN 5))
 (aU (dD (eIo aC [0] (bF (aj (e2 cR 2.154 2.0) au))) (tgN 6))
 (aU (sIf (eB (e2 gEq 2.232 2.45)) (b7 (e2 cR (eSl 2.4 fW (eU 2.23)) 2.182)) cL)
 (aU (sIf (eB (e2 gEq 2.232 2.0)) (b7 2.165) cL)
 (aU (sIf (eB (e2 gEq 2.232 2.39)) (b7 (eAp jk (aj (bH [af,af] (Js (aj 2.4 au)) 2.27 eTT 2.178) au))) cL)
 (aU (sIf (eB (e2 gEq 2.232 (eC (.int 3)))) (aU (dD (mY bx (bQ (ee2 jb (eIo aC [0] (bF (aj (e2 cR 2.160 2.39) au))) (eUp 2.0)) (bQ (ee2 jb (eUp 2.0) (ee2 lr (eUp 2.39) (eIo aC [0] 2.192))) (bF au)))) (tgN 7))
 (b7 (e2 cR (e2 cR (eSl 2.4 fW (eU 2.23)) (eAp bx 2.67)) 2.182))) cL)
 (aU (sIf (eB (e2 gEq 2.232 2.209)) (b7 (eAp (aZ cC) (aj 2.9 (aj 2.14 2.5)))) cL)
 (jf 4)))))))))
def b_:List D->Option (D×List D):=fnI (λi=>i==0) 3 7 ((aU (dD (eIo aC [0] 2.101) (tgN 3))
 (aU (bO (bH [af] (itS 2.14) (tpN 0) eTT (eAp ux 2.152)) (tgN 4))
 (aU (dD (ee2 gIx (eUp (e2 cR 2.9 (eAp bA (aj (eC (.str "lone")) (aj (eC (.str "No")) (aj (eC (.str "abcdefghi")) (aj (eC (.str "")) au))))))) (eIo aC [0] (bF (aj (e2 cR 2.160 2.209) au)))) (tgN 5))
 (aU (dD (eIo aC [0] (bF (aj (e2 cR 2.154 2.0) au))) (tgN 6))
 (aU (sIf (eOr (eB (e2 gEq 2.230 2.45)) (eB (e2 gEq 2.4 (eAp bA au)))) (sFz 4 (pP (ee2 cR (ee2 cR (eUp (eSl 2.4 fW (eU 2.23))) (ee2 DR (eUp (eAp bA (aj (eAp bA 2.75) au))) (eIo aC [0] 2.192))) (eUp 2.182)))) cL)
 (aU (bO (eAp ul (aj 2.23 2.236)) (tgN 6))
 (aU (sIf (eB (e2 gLt 2.230 2.209)) (v9 jU 4 (xJ 4 (ig 4) 2.23) (bQ (eIo aC [0] (bF (aj (e2 cR (eAp bz (aj (e2 gIx 2.4 2.23) au)) 2.0) au))) (bF 2.75))) (sIf (jO (eB (e2 gEq 2.230 2.209)) (eB 2.164)) (v9 my 4 (xJ 4 (ig 4) 2.23) (bQ (eIo aC [0] (bF (aj (eAp bz (aj (e2 gIx 2.4 2.23) au)) au))) (bF au))) (sIf (jO (eB (e2 gEq 2.230 (eC (.int 5)))) (eB 2.164)) (LK 4 (eIo aC [0] (bF (aj 2.154 au))) 2.23) (sIf (eB (e2 gEq 2.230 2.132)) (pq lG 4 (ig 4) au) (sFz 4 (bO 2.165 (tgN 4)))))))
 (jf 4)))))))))
def fV:List D->Option (D×List D):=fnI (λi=>i==0) 5 16 ((aU (bO (eAp (aZ cH) (aj 2.14 2.5)) (tgN 5))
 (aU (bO (eMt ik 2.232 (aj 2.4 (aj (eAp bx au) au))) (tgN 6))
 (aU (sFz 5 (bO (bH [af,ac 5] (pJ (aj 2.179 au)) (tpN 0) eTT (eAp jX (aj (lZ 1 [af,ac 0,ac 1] (tpN 0) 2.150 2.2) au))) (tgN 7)))
 (aU (sFz 7 (ie (pJ (aj 2.132 au)) (tgN 8) (aU (bJ (aj 2.23 2.67) (aP (tgN 9) (aP (tgN 10) cg)))
 (aU (lw (j5 (bQ (eIo aC [0] 2.56) (bF au))) (tgN 11) (dD (eIo cP [0] 2.191) (tgN 9)))
 (aU (lw (j5 (bQ (eIo aC [0] 2.56) (bF au))) (tgN 11) (sFz 10 (dD (eIo b_ [0] (bF (aj 2.9 (aj (ao ae 10) au)))) (tgN 10))))
 (aU (sFz 10 (dD (ee2 gIx (eUp (eAp bA (aj (ao ae 10) (aj (eAp jk (aj (bH [af] (itS (ao ae 10)) (tpN 0) eTT (eAp jk 2.152)) au)) au)))) (eIo aC [0] 2.192)) (tgN 12)))
 (aU (bO (eAp (aZ bG) (aj 2.14 (aj 2.230 (aj 2.4 (aj (ao ae 9) (aj (ao ae 10) au)))))) (tgN 13))
 (aU (bO (eAp ur 2.170) (tgN 14))
 (aU (bO (eAp (aZ bV) (aj (e2 gIx (eAp bA (aj 2.14 (aj (eAp jk (aj 2.14 au)) au))) (e2 mV (ao ae 8) 2.39)) (aj 2.230 (aj 2.4 2.50)))) (tgN 15))
 (aU (sIf (eOr (iz (gQ (eAp cD (aj (ao ae 15) (aj (eC (.ty "bool")) au))))) (eOr (eB (e2 gNe (ao ae 15) (ao ae 13))) (jO (gQ (ao ae 13)) (eB (e2 gNe (eAp bz (aj (ao ae 9) au)) 2.179))))) 2.11 cL)
 (sIf (eB (e2 gNe (eAp ur 2.170) (ao ae 14))) 2.11 cL)))))))))))
 2.121)))))
def qy:List D->Option D:=fnP 1 8 ((aU (bO (eAp (aZ eX) 2.152) (tgN 1))
 (aU (lw (j5 (bQ (ee2 cR (eUp 2.0) (eIo aC [1] 2.192)) (bF au))) (tgN 2) (aU (dD (eIo gV [1] (bF au)) (tgN 3))
 (aU (dD (eIo dM [1] (bF 2.5)) (tgN 4))
 (sFz 4 (sFz 3 (ie (pJ (aj (eC (.int 3)) au)) (tgN 5) (aU (dD (eIo iH [1] (bF 2.5)) (tgT 2 2.91))
 (uH (DN (CN (eIo fV [1] 2.217))) 2.11 cL))))))))
 2.121)))
abbrev Pq:=Int×Int
abbrev Tq:=Int×Int×Str
inductive Wk2(ad:Str->List Tq)(h:Str):List Pq->Str->Prop
 |nil:Wk2 ad h [] h
 |snoc {ps:List Pq} {x:Str} {t:Tq}:Wk2 ad h ps x->t∈ad x->Wk2 ad h (ps++[(t.1,t.2.1)]) t.2.2
def Lst(ad:Str->List Tq)(h:Str)(us:List (Str×List Pq)):Prop:=(∀u∈us,Wk2 ad h u.2 u.1)/\∀qs y,Wk2 ad h qs y->∃u∈us,u.1=y/\u.2.length<=qs.length
abbrev Pt:=Int×Int
def ptD(p:Pt):D:=.tup [.int p.1,.int p.2]
def M5(l:List Pt):aF 2.133=ag:=cF λd hd=>by obtain⟨x,_,rfl⟩:=List.mem_map.mp hd;rfl
def Lf(l:List Pt):aD 2.133=ag:=cG λd hd=>by obtain⟨x,_,rfl⟩:=List.mem_map.mp hd;rfl
def YC(b:Bool)(l:List Pt):dW b 2.133=l.map ptD:=by rw[fP,Z5];rfl
def YJ(l:List Pt):fzL 2.133=l.map ptD:=by rw[gq,Z5];rfl
def IW(l:List Pt):iV 2.133=l.map ptD:=by rw[iT,Z5];rfl
structure JJ(J:D)(js:List Jt):Prop where
 f:fz J=J
 v:∀b,view b J=J
 b:aA J=ag
 o:az J=ag
 l:bz [J]=ac (.int js.length)
 x:∀i,gIx J 2.72=atI 2.6 i
 s:fj J=ac (ag,js.map jD)
 e:itE (λ_=>ac [J]) []=ac (ag,lL 0 2.6)
def JJ.lst(js:List Jt):JJ 2.156 js:=⟨by simp[fz,wC,mkF],λb=>by cases b<;>simp[view,Hr,mkV],by simp[aA,vO],by simp[az,uw],by simp[bz],λ_=>rfl,by simp[fj,clean,aA,az,vO,uw,HF],by simp[itE,fj,clean,aA,az,vO,uw,HF]⟩
def JJ.tup(js:List Jt):JJ (.tup 2.6) js:=⟨by simp[fz,wC],λb=>by simp[view,Hr],by simp[aA,vO],by simp[az,uw],by simp[bz],λ_=>rfl,by simp[fj,clean,aA,az,vO,uw,HF],by simp[itE,fj,clean,aA,az,vO,uw,HF]⟩
abbrev Tt:=Int×Int×Str
def jr:∀ns:List Str,xx 2.21=ac (ns.map V.str)
 |[]=>rfl
 |x::r=>by simp[xx,scV,jr r]
def k_:inV 2.89 (ns.map V.str)=decide (x∈ns):=by
 unfold inV;rw[afO,abe,abD,abF];simp![abR,eqV,beq_iff_eq];exact⟨λ⟨y,h1,h2⟩=>h2▸h1,λh=>⟨x,h,rfl⟩⟩
def yL(g:List Str):ac4 (Ba g) g:=by
 unfold Ba;split
 .rename_i h
  exact h.choose_spec.1
 .exact .refl _
def qJ[DecidableEq α]:∀{ks ns:List α},ks.Nodup->(∀k∈ks,k∈ns)->ks.length<=ns.length
 |[],_,_,_=>ad1 _
 |k::r,ns,h,hs=>by
  have z:=hs k (.head _);have h1:=qJ (ks:=r) (ns:=ns.erase k) (aah.mp h).2 λx J=>(List.mem_erase_of_ne (show x≠k from λe=>(aah.mp h).1 (by rw[←e];exact J))).mpr (hs x (.tail _ J));rw[List.length_erase_of_mem z]at h1;have:=List.length_pos_of_mem z;simp![Z4];omega
def kI{ys:List Str}:(c7 (ys.map aaf) (aaf x)).isSome=decide (x∈ys):=by
 cases e:c7 (ys.map aaf) (aaf x)with
 |none=>
  unfold c7 at e;rw[aay]at e;refine(aac λh=>?_).symm;have:=e (aaf x) (aa3.mpr ⟨x,h,rfl⟩);simp at this
 |some j=>
  obtain⟨Y,I,_⟩:=aas.mp e;have h2:(ys.map (aaf:Str->Key))[j]=aaf x:=by simpa using I
  have O:aaf x∈ys.map (aaf:Str->Key):=h2▸abh Y;obtain⟨y,V,Z⟩:=List.mem_map.mp O;cases Z;exact(aaB V).symm
def upF(f:Str->List Tt)(x:Str)(t:Tt):Str->List Tt:=λy=>if y=x then f y++[t]else f y
def adj(js:List Jt):Nat->Str->List Tt
 |0=>λ_=>[]
 |k+1=>match js[k]? with
  |some j=>upF (upF (adj js k) j.1 (k,1,j.2.1)) j.2.1 (k,-1,j.1)
  |none=>adj js k
def lY(J:x∈ns):∃i,c7 (ns.map aaf) (aaf x)=ac i/\ns[i]? =ac x/\i<ns.length:=by
 have h:=kI (ys:=ns) (x:=x);rw[aaB J]at h;obtain⟨i,hi⟩:=abI.mp h;obtain⟨Y,I,_⟩:=aas.mp hi;have F:i<ns.length:=by simpa using Y
 refine⟨i,hi,?_,F⟩;rw[List.getElem?_eq_getElem F];simpa using I
def L_{g g':Str->α}{a:α}(hn:ns.Nodup)(hi:ns[i]? =ac x)(Y:g' x=a)(F:∀y,y≠x->g' y=g y):(ns.map g).set i a=ns.map g':=by
 apply acs;intro k;rw[ab4];have J:i<ns.length:=(List.getElem?_eq_some_iff.mp hi).1;by_cases e:i=k
 .subst e
  rw[if_pos rfl,if_pos (by simpa using J),List.getElem?_map,hi,←Y];rfl
 .rw[aag e,List.getElem?_map,List.getElem?_map]
  cases I:ns[k]? with
  |none=>rfl
  |some y=>
   have D:y≠x:=λz=>by
    rw[z]at I;obtain⟨h1,h2⟩:=List.getElem?_eq_some_iff.mp hi;obtain⟨O,Z⟩:=List.getElem?_eq_some_iff.mp I;exact e ((aew hn).mp (h2.trans Z.symm))
   simp[F y D]
variable{f:Str->List Tt}{t:Tt}
def zB:(upF f x t y).length<=(f y).length+1:=by unfold upF;split<;>simp
def vy(js:List Jt)(y:Str):∀k,(adj js k y).length<=2*k
 |0=>by simp[adj]
 |k+1=>by
  have F:=vy js y k;rw[adj];cases U:js[k]? with
  |some j=>
   simp only;have h1:=zB (f:=upF (adj js k) j.1 (k,1,j.2.1)) (x:=j.2.1) (y:=y) (t:=((k:Int),-1,j.1));have h2:=zB (f:=adj js k) (x:=j.1) (y:=y) (t:=((k:Int),1,j.2.1));omega
  |none=>simp only;omega
def rB(js:List Jt)(y:Str){t:Tt}:∀k,t∈adj js k y↔∃(n:Nat)(j:Jt),n<k/\js[n]? =ac j/\((j.1=y/\t=((n:Int),1,j.2.1))∨(j.2.1=y/\t=((n:Int),-1,j.1)))
 |0=>by simp[adj]
 |k+1=>by
  have F:=rB js y (t:=t) k;have up:∀(f:Str->List Tt)(x:Str)(u:Tt),t∈upF f x u y↔t∈f y∨(x=y/\t=u):=λf x u=>by
   unfold upF;by_cases e:y=x
   .simp[e]
   .have e':¬x=y:=λz=>e z.symm
    simp[e,e']
  rw[adj];cases U:js[k]? with
  |none=>
   simp only;rw[F];constructor
   .rintro⟨n,j,h1,h2⟩;exact⟨n,j,by omega,h2⟩
   .rintro⟨n,j,h1,h2,h3⟩
    refine⟨n,j,?_,h2,h3⟩;have:n≠k:=λz=>by rw[z,U]at h2;cases h2
    omega
  |some j=>
   simp only;rw[up,up,F];constructor
   .rintro((⟨n,i,h1,h2⟩|h)|h)
    .exact⟨n,i,by omega,h2⟩
    .exact⟨k,j,by omega,U,.inl h⟩
    .exact⟨k,j,by omega,U,.inr h⟩
   .rintro⟨n,i,h1,h2,h3⟩
    by_cases e:n=k
    .subst e
     rw[U]at h2;cases h2;rcases h3 with z|z
     .exact .inl 2.42
     .exact .inr z
    .exact .inl (.inl ⟨n,i,by omega,h2,h3⟩)
variable{Q:Fl->Prop}
def Ah{c:En->Option (Bool×En)}(I:Nat->En->Prop)(z:Nat)(hs:∀p ρ,I p ρ->Wp (c ρ) λb=>if b.1=ag then(p<z/\Wp (body b.2) λr=>match r with
   |.nx ρ2=>I (p+1) ρ2
   |.cnt ρ2=>I (p+1) ρ2
   |.brk ρ2=>Q (.nx ρ2)
   |.ret d ρ2=>Q (.ret d ρ2))else Q (.nx b.2)):∀(q p:Nat)(ρ:En),I p ρ->z-p<q->Wp (kZ c body q ρ) Q
 |0,p,ρ,_,h=>by omega
 |q+1,p,ρ,hI,h=>by
  obtain⟨⟨b,ρ1⟩,e1,w⟩:=hs p ρ hI;rw[kZ,e1,gD];cases b with
  |false=>
   simp![aa9,ab2]at w⊢;exact aN.mpr w
  |true=>
   simp![aal]at w⊢;obtain⟨V,r,e2,w⟩:=w;rw[e2];cases r with
   |nx ρ2=>exact Ah I z hs q (p+1) ρ2 w 1.10
   |cnt ρ2=>exact Ah I z hs q (p+1) ρ2 w 1.10
   |brk ρ2=>exact aN.mpr w
   |ret d ρ2=>exact aN.mpr w
abbrev Uw:=Str×List Pt
def pT(ps:List Pt):D:=.tup (ps.map ptD)
def wM(m:Mk)(us:List Uw):D:=.dct m ((us.map (·.1)).map aaf) (us.map λu=>pT u.2)
def iK(ps:List Pt):aA (pT ps)=ag/\az (pT ps)=ag/\(∀b,view b (pT ps)=pT ps)/\fz (pT ps)=pT ps/\fzo (pT ps)=pT ps:=by
 refine⟨?_,?_,λb=>?_,?_,?_⟩<;>simp[pT,aA,az,M5,Lf,view,YC,fz,YJ,fzo,IW]
def HD(b:Bool)(us:List Uw):dW b (us.map λu=>pT u.2)=us.map λu=>pT u.2:=by
 rw[fP,Z5];exact aak λu _=>(iK u.2).2.2.1 b
def Zd(us:List Uw):fzL (us.map λu=>pT u.2)=us.map λu=>pT u.2:=by
 rw[gq,Z5];exact aak λu _=>(iK u.2).2.2.2.1
def Zh(us:List Uw):aF (us.map λu=>pT u.2)=ag:=cF λd hd=>by obtain⟨u,_,rfl⟩:=List.mem_map.mp hd;exact(iK u.2).1
def Y_(us:List Uw):aD (us.map λu=>pT u.2)=ag:=cG λd hd=>by obtain⟨u,_,rfl⟩:=List.mem_map.mp hd;exact(iK u.2).2.1
variable{us:List Uw}
def Qh:view ae 2.146=wM .brw us:=by simp![wM,view,HD];rfl
def Yu:view ae (wM .frz us)=wM .frz us:=by simp![wM,view,HD];rfl
def U8(h:m≠.scr):fz (wM m us)=wM .frz us:=by
 simp![wM,fz,Zd];cases m<;>first|rfl|exact absurd rfl h
def QT(h:m= .own∨m= .frz):aA (wM m us)=ag/\az (wM m us)=ag:=by
 rcases h with rfl|rfl<;>simp[wM,aA,az,Zh,Y_]
def Hx:di 2.89 (wM m us)=ac (.bl (!decide (x∈us.map (·.1)))):=by
 simp![di,wM,pX,dm,aao,kI]
def K6(J:x∈us.map (·.1)):∃ps,(x,ps)∈us/\gIx (wM m us) 2.89=ac (pT ps):=by
 obtain⟨i,h1,h2,O⟩:=lY J;rw[List.getElem?_map]at h2;cases e:us[i]? with
 |none=>simp[e]at h2
 |some u=>
  have e2:u.1=x:=by simpa[e]using h2
  refine⟨u.2,e2▸aau e,?_⟩;simp![gIx,wM,dm,gD,h1,List.getElem?_map,e,aao]
variable{ps:List Pt}
def V6(J:x∉us.map (·.1))(Y:us.length<1000000):gj 2.146 [.str x,pT ps]=ac (wM .own (us++[(x,ps)]),.non):=by
 have h1:c7 ((us.map (·.1)).map aaf) (aaf x)=af:=by
  cases e:c7 ((us.map (·.1)).map aaf) (aaf x)with
  |none=>rfl
  |some j=>have:=kI (ys:=us.map (·.1)) (x:=x);rw[e]at this;exact absurd (abQ this.symm) J
 simp![gj,wM,dm,gD,Pr,Y,aal,iI,h1,aat,ZX,aax]
def ky(us:List Uw):List Str:=us.map (·.1)
def jN(us:List Uw):(ky us).length=us.length:=by simp[ky]
def NZ(us:List Uw)(u:Uw):ky (us++[u])=ky us++[u.1]:=by simp[ky]
def Wm(us:List Uw):cQ 2.146=ag:=by
 have h2:∀l:List Pt,bI 2.133=ag:=by
  intro l
  induction l with
  |nil=>rfl
  |cons p r F=>rw[ZX,bI,F];rfl
 have h1:bI (us.map λu=>pT u.2)=ag:=by
  induction us with
  |nil=>rfl
  |cons u r F=>rw[ZX,bI,F,pT,cQ,h2];rfl
 simp![wM,cQ,h1];rfl
def call_of{F:List D->Option D}(h:F (fzL ds)=ac d)(q:cQ d=ag):aZ F ds=ac d:=by
 unfold aZ;rw[h,gD,q,Bool.or_true,if_pos rfl]
def pr2(t:Tt):Pq:=(t.1,t.2.1)
section
variable{ad:Str->List Tt}{ns:List Str}{h x:Str}{us:List Uw}{p k:Nat}{ps:List Pq}{t:Tt}
def Ab{y:Str}{p q:List Pq}(hn:(ky us).Nodup)(h1:(y,p)∈us)(h2:(y,q)∈us):p=q:=by
 induction us with
 |nil=>cases h1
 |cons c r F=>
  rw[ky,ZX,aah]at hn;rcases Z2.mp h1 with e1|e1<;>rcases Z2.mp h2 with e2|e2
  .have:=e1.trans e2.symm;cases this;rfl
  .exact absurd (aa3.mpr ⟨_,e2,by rw[←e1]⟩) hn.1
  .exact absurd (aa3.mpr ⟨_,e1,by rw[←e2]⟩) hn.1
  .exact F hn.2 e1 e2
end
structure By(ad:Str->List Tt)(ns:List Str)(h:Str)(fs hs:List Uw)(d:Nat):Prop where
 n:(ky fs).Nodup
 hn:(ky hs).Nodup
 i:∀y∈ky fs,y∈ns
 w:∀u∈fs,Wk2 ad h u.2 u.1/\u.2.length<=d
 e:∀u,u∈hs↔(u∈fs/\u.2.length=d)
 c:∀qs y,Wk2 ad h qs y->qs.length<=d->∃u∈fs,u.1=y/\u.2.length<=qs.length
 z:d<=fs.length/\(hs≠[]->d<fs.length)
structure Bz(ad:Str->List Tt)(fs hs:List Uw)(gs:List Uw)(dn:Uw->Tt->Prop):Prop where
 n:(ky gs).Nodup
 f:∀u∈gs,u.1∉ky fs/\∃v∈hs,∃t∈ad v.1,u.1=t.2.2/\u.2=v.2++[pr2 t]
 c:∀v∈hs,∀t∈ad v.1,dn v t->t.2.2∉ky fs->t.2.2∈ky gs
def CT(gs:List Uw)(x:Str)(w:List Pq):List Uw:=gs.map λu=>if u.1=x then(u.1,w)else u
section
variable{ad:Str->List Tt}{ns:List Str}{h:Str}{fs hs gs:List Uw}{d:Nat}{dn dn':Uw->Tt->Prop}{v:Uw}{t:Tt}
def Bz.nil(z:∀v t,¬dn v t):Bz ad fs hs [] dn:=⟨by simp[ky],by simp,λv _ t _ h=>(z v t h).elim⟩
def Bz.len(a:Bz ad fs hs gs dn)(hd:∀v∈hs,v.2.length=d):∀u∈gs,u.2.length=d+1:=λu hu=>by
 obtain⟨_,v,Z,t,_,_,e⟩:=a.f u hu;rw[e,List.length_append,hd v Z];rfl
def Bz.mono(a:Bz ad fs hs gs dn)(J:∀v∈hs,∀t∈ad v.1,dn' v t->t.2.2∉ky fs->dn v t):Bz ad fs hs gs dn':=⟨a.n,a.f,λv Z t U h1 h2=>a.c v Z t U (J v Z t U h1 h2) h2⟩
def Bz.add(a:Bz ad fs hs gs dn)(Z:v∈hs)(U:t∈ad v.1)(h1:t.2.2∉ky fs)(h2:t.2.2∉ky gs)(hd:∀w∈hs,∀s∈ad w.1,dn' w s->dn w s∨(w.2=v.2/\s=t)):Bz ad fs hs (gs++[(t.2.2,v.2++[pr2 t])]) dn' where
 n:=by
  rw[NZ,aaY];exact⟨a.n,by simp,λy V z hz e=>h2 (by have e2:=e.trans (aab.mp hz);simp only at e2;rw[←e2];exact V)⟩
 f:=λu hu=>by
  rcases Ls.mp hu with z|z
  .exact a.f u z
  .rw[aab.mp z]
   exact⟨h1,v,Z,t,U,rfl,rfl⟩
 c:=λw q s I O D=>by
  rw[NZ];rcases hd w q s I O with z|⟨e1,e2⟩
  .exact ZV _ (a.c w q s I z D)
  .subst e2;simp
def Bo{x:Str}{w:List Pq}:ky (CT gs x w)=ky gs:=by
 unfold ky CT;rw[Z5];refine aak λu _=>?_;simp![abR];split<;>rfl
def Bz.keep(a:Bz ad fs hs gs dn)(h2:t.2.2∈ky gs)(hd:∀w∈hs,∀s∈ad w.1,dn' w s->dn w s∨(w.2=v.2/\s=t)):Bz ad fs hs gs dn':=⟨a.n,a.f,λw Z s I O q=>by
 rcases hd w Z s I O with z|⟨e1,e2⟩
 .exact a.c w Z s I z q
 .subst e2;exact h2⟩
def Bz.set(a:Bz ad fs hs gs dn)(Z:v∈hs)(U:t∈ad v.1)(h1:t.2.2∉ky fs)(h2:t.2.2∈ky gs)(hd:∀w∈hs,∀s∈ad w.1,dn' w s->dn w s∨(w.2=v.2/\s=t)):Bz ad fs hs (CT gs t.2.2 (v.2++[pr2 t])) dn' where
 n:=by rw[Bo];exact a.n
 f:=λu hu=>by
  obtain⟨z,q,rfl⟩:=List.mem_map.mp hu;split
  .rename_i e
   exact⟨by rw[e];exact h1,v,Z,t,U,e,rfl⟩
  .exact a.f z q
 c:=by rw[Bo];exact(a.keep h2 hd).c
def Bz.skip(a:Bz ad fs hs gs dn)(h1:t.2.2∈ky fs)(hd:∀w∈hs,∀s∈ad w.1,dn' w s->dn w s∨s=t):Bz ad fs hs gs dn':=a.mono λv Z s I h2 O=>(hd v Z s I h2).resolve_right λe=>O (by rw[e];exact h1)
def Wk2.zero{qs:List Pq}{y:Str}(Z:Wk2 ad h qs y)(e:qs=[]):y=h:=by
 cases Z with
 |nil=>rfl
 |snoc=>simp at e
def By.one(q:h∈ns):By ad ns h [(h,[])] [(h,[])] 0 where
 n:=by simp[ky]
 hn:=by simp[ky]
 i:=by simp[ky,q]
 w:=λu hu=>by rw[aab.mp hu];exact⟨.nil,by simp⟩
 e:=λu=>by
  rw[aab];exact⟨λe=>⟨e,by rw[e];rfl⟩,λe=>e.1⟩
 c:=λqs y Z Y=>by
  have:qs=[]:=aeK.mp 1.10;obtain rfl:=Z.zero this;exact⟨_,aab.mpr rfl,rfl,ad1 _⟩
 z:=by simp
def By.next(a:By ad ns h fs hs d)(b:Bz ad fs hs gs λ_ _=>True)(O:∀v∈ky fs,∀t∈ad v,t.2.2∈ns)(a0:hs≠[]):By ad ns h (fs++gs) gs (d+1)where
 n:=by
  unfold ky;rw[aat,aaY];refine⟨a.n,b.n,λy V z hz e=>?_⟩;subst e;obtain⟨u,hu,rfl⟩:=List.mem_map.mp hz;exact(b.f u hu).1 V
 hn:=b.n
 i:=λy V=>by
  unfold ky at V;rw[aat]at V;rcases Ls.mp V with z|z
  .exact a.i y z
  .obtain⟨u,hu,rfl⟩:=List.mem_map.mp z
   obtain⟨_,v,Z,t,U,e,_⟩:=b.f u hu;rw[e];exact O v.1 (aa3.mpr ⟨v,((a.e v).mp Z).1,rfl⟩) t U
 w:=λu hu=>by
  rcases Ls.mp hu with z|z
  .exact⟨(a.w u z).1,by have:=(a.w u z).2;omega⟩
  .obtain⟨_,v,Z,t,U,e,e2⟩:=b.f u z
   rw[e,e2];exact⟨Wk2.snoc (a.w v ((a.e v).mp Z).1).1 U,by rw[List.length_append,((a.e v).mp Z).2];simp⟩
 e:=λu=>by
  have Y:=b.len (d:=d) λv Z=>((a.e v).mp Z).2;constructor
  .exact λhu=>⟨W2 _ hu,Y u hu⟩
  .rintro⟨hu,e⟩
   rcases Ls.mp hu with z|z
   .have:=(a.w u z).2;omega
   .exact z
 c:=λqs y hw Y=>by
  by_cases D:qs.length<=d
  .obtain⟨u,hu,q⟩:=a.c qs y hw D
   exact⟨u,ZV _ hu,q⟩
  .cases hw with
   |nil=>simp at D
   |snoc hw U=>
    rename_i qs x t;simp at Y D;obtain⟨v,Z,e,I⟩:=a.c qs x hw 1.10;subst e;by_cases J:v.2.length=d
    .by_cases hin:t.2.2∈ky fs
     .obtain⟨u,hu,e⟩:=List.mem_map.mp hin
      refine⟨u,ZV _ hu,e,?_⟩;have:=(a.w u hu).2;simp;omega
     .obtain⟨u,hu,e⟩:=List.mem_map.mp (b.c v ((a.e v).mpr ⟨Z,J⟩) t U trivial hin)
      refine⟨u,W2 _ hu,e,?_⟩;have:=b.len (d:=d) (λv Z=>((a.e v).mp Z).2) u hu;simp;omega
    .have hvl:=(a.w v Z).2
     obtain⟨u,hu,e,q⟩:=a.c (v.2++[pr2 t]) t.2.2 (Wk2.snoc (a.w v Z).1 U) (by simp;omega);exact⟨u,ZV _ hu,e,by simp at q⊢;omega⟩
 z:=by
  have h1:=a.z.2 a0;rw[List.length_append];exact⟨by omega,λF=>by have:=afy.mpr F;omega⟩
def By.fin(a:By ad ns h fs [] d):Lst ad h fs:=by
 refine⟨λu hu=>(a.w u hu).1,λqs y O=>?_⟩
 induction O with
 |nil=>exact a.c [] h .nil (by simp)
 |snoc O U F=>
  rename_i qs x t;obtain⟨v,Z,e,I⟩:=F;subst e;have J:=(a.w v Z).2;have D:v.2.length≠d:=λz=>by have:=(a.e v).mpr ⟨Z,z⟩;cases this
  obtain⟨u,hu,e,q⟩:=a.c (v.2++[pr2 t]) t.2.2 (Wk2.snoc (a.w v Z).1 U) (by simp;omega);exact⟨u,hu,e,by simp at q⊢;omega⟩
end
def bD(t:Tt):D:=.tup [.tup [.int t.1,.int t.2.1],.str t.2.2]
def Kw(l:List Tt):aF (l.map bD)=ag:=cF λd hd=>by obtain⟨x,_,rfl⟩:=List.mem_map.mp hd;rfl
def Ol(l:List Tt):aD (l.map bD)=ag:=cG λd hd=>by obtain⟨x,_,rfl⟩:=List.mem_map.mp hd;rfl
def Qy(b:Bool)(l:List Tt):dW b (l.map bD)=l.map bD:=by rw[fP,Z5];rfl
def Xk(l:List Tt):fzL (l.map bD)=l.map bD:=by rw[gq,Z5];rfl
def T4(l:List Tt):iV (l.map bD)=l.map bD:=by rw[iT,Z5];rfl
def cj(m m':Mk)(ks:List Str)(f:Str->List Tt):D:=.dct m (ks.map aaf) (ks.map λy=>.lst m' ((f y).map bD))
structure Bes(ks:List Str)(f:Str->List Tt):Prop where
 n:ks.Nodup
 e:∀y,y∉ks->f y=[]
def Uc{fx:En->Option 2.79}(U:Bes ks f)(hl:ks.length<1000000)(a3:(f x).length<1000000)(h1:ρ[1]? =ac (ac 2.51))(Y:fa ρ=ac [.str x,.lst .own []])(J:∀d,fx (ρ.set 1 d)=ac [bD t]) :
  ∃a2,a2.length<=ks.length+1/\Bes a2 (upF f x t)/\Er 1 fa fx ρ=ac (.nx (ρ.set 1 (ac (cj .own .own a2 (upF f x t))))):=by
 have a4:1<ρ.length:=(List.getElem?_eq_some_iff.mp h1).1;have a0:aF [bD t]=ag/\aD [bD t]=ag:=⟨rfl,rfl⟩;have q:ρ.set 1 (ac 2.51)=ρ:=by
  refine acs λi=>?_;rw[ab4];split
  .rename_i e;subst e;first|rw[h1]|rw[if_pos a4,h1]
  .rfl
 by_cases I:x∈ks
 .obtain⟨i,h2,O,h4⟩:=lY I
  refine⟨ks,by omega,⟨U.n,λy V=>by rw[upF,aag (λz=>V (by rw[z];exact I))];exact U.e y V⟩,?_⟩;have e1:Fw 1 fa ρ=ac (i,ρ):=by
   unfold Fw;rw[h1];simp![cj,Y,dm,Pr,if_pos hl,h2]
  have a6:fx ρ=ac [bD t]:=by rw[←q];exact J _
  have F:fJ [i] 2.51=ac (.lst .own ((f x).map bD)):=by
   simp![fJ,kids,cj,List.getElem?_map,O,aao,gD]
  have Z:bT (.lst .own ((f x).map bD)) [bD t]=ac (.lst .own ((f x++[t]).map bD),.non):=by
   simp[bT,a3]
  have g3:dU [i] (.lst .own ((f x++[t]).map bD)) 2.51=cj .own .own ks (upF f x t):=by
   have hs:=L_ (g:=λy=>D.lst .own ((f y).map bD)) (g':=λy=>D.lst .own ((upF f x t y).map bD)) (a:=.lst .own ((f x++[t]).map bD)) U.n O (by simp[upF]) (λy V=>by simp[upF,V]);have a1:(ks.map λy=>D.lst .own ((f y).map bD))[i]? =ac (.lst .own ((f x).map bD)):=by rw[List.getElem?_map,O];rfl
   rw[dU];simp![kids,cj,a1,dU,uR];rw[hs]
  unfold Er;rw[e1,gD,a6,gD];unfold upS;simp![h1,F,gD,a0.1,a0.2,and_self,aal,Z,aao,g3]
 .have h2:c7 (ks.map aaf) (aaf x:Key)=af:=by
   unfold c7;rw[aay];intro y V;obtain⟨z,hz,rfl⟩:=List.mem_map.mp V;exact aac λe=>I (by cases e;exact hz)
  have a7:=U.e x I;refine⟨ks++[x],by simp,⟨?_,λy V=>?_⟩,?_⟩
  .rw[aaY]
   exact⟨U.n,by simp,λy V z hz e=>I (by rw[aab.mp hz]at e;rw[←e];exact V)⟩
  .rw[upF,aag (λz=>V (by rw[z];simp))]
   exact U.e y λz=>V 2.213
  have e0:D.dct .own (ks.map aaf++[aaf x]) ((ks.map λy=>D.lst .own ((f y).map bD))++[.lst .own []])=cj .own .own (ks++[x]) f:=by
   simp[cj,a7]
  have e1:Fw 1 fa ρ=ac (ks.length,ρ.set 1 (ac (cj .own .own (ks++[x]) f))):=by
   unfold Fw;rw[h1];simp![cj,Y,dm,Pr,if_pos hl,h2];rw[e0];rfl
  have O:(ks++[x])[ks.length]? =ac x:=by simp
  have a5:(ks++[x]).Nodup:=by
   rw[aaY];exact⟨U.n,by simp,λy V z hz e=>I (by rw[aab.mp hz]at e;rw[←e];exact V)⟩
  have F:fJ [ks.length] (cj .own .own (ks++[x]) f)=ac (.lst .own ((f x).map bD)):=by
   simp![fJ,kids,cj,List.getElem?_map,O,aao,gD]
  have Z:bT (.lst .own ((f x).map bD)) [bD t]=ac (.lst .own ((f x++[t]).map bD),.non):=by
   simp[bT,a3]
  have g3:dU [ks.length] (.lst .own ((f x++[t]).map bD)) (cj .own .own (ks++[x]) f)=cj .own .own (ks++[x]) (upF f x t):=by
   have hs:=L_ (g:=λy=>D.lst .own ((f y).map bD)) (g':=λy=>D.lst .own ((upF f x t y).map bD)) (a:=.lst .own ((f x++[t]).map bD)) a5 O (by simp[upF]) (λy V=>by simp[upF,V]);have a1:((ks++[x]).map λy=>D.lst .own ((f y).map bD))[ks.length]? =ac (.lst .own ((f x).map bD)):=by rw[List.getElem?_map,O];rfl
   rw[dU];simp![kids,cj,a1,dU,uR];rw[hs]
  unfold Er;rw[e1,gD,J,gD];unfold upS;simp![aa0 a4,F,gD,a0.1,a0.2,and_self,aal,Z,aao,g3,List.set_set]
def BeI(J:D)(js:List Jt)(k:Nat)(ρ:En):Prop:=∃(ks:List Str)(q z Z U:Option D),ρ=[ac J,ac (cj .own .own ks (adj js k)),q,z,Z,U]/\Bes ks (adj js k)/\ks.length<=2*k
local macro_rules
 |`(tactic|simp_arith[$xs,*])=>do
  let a:=("aN Bv aQ cI w_ite rC bO dD lR sIf uH b7 pP jf cL ie lw sFz g8 pq zQ upS tgN tgT aP cg jg tpN tpT ig xJ ao eC au aj eAp eUp An bF ee2 bQ mY e2 e1 eB eeB gQ jO eOr iz Y6 u_ eTT isB pJ itS itE j5 fj bH ql eSl Zr u9 IK fW eU eMt ZQ eIo objs mK aZ fJ dU clean aA az aF aD jw jy view dW mkV mkF fz fzL fzo iV mkO fnP fnI en0 outs fZ jh obC truth".splitOn " ").toArray.map λx=>Lean.mkNode `Lean.Parser.Tactic.simpLemma #[Lean.mkNullNode,Lean.mkNullNode,Lean.mkIdent (`Jb++x.toName)]
  let b:=Lean.Syntax.TSepArray.mk (sep:=",") (Lean.mkSepArray (a.map (·.raw)++xs.getElems.map (·.raw)) (Lean.mkAtom ","))
  `(tactic|simp[$b,*])
variable{J:D}{js:List Jt}
set_option hygiene false
local macro_rules
 |`(tactic|simp_arith![$x,*])=>`(tactic|simp only[$x,*,en0,Z4,aan,ZX,aax,aaN,aal,aQ,Nat.reduceAdd,Nat.reduceSub,aaj,List.nil_append])
set_option hygiene true
def Dj(O:JJ J js)(Y:js.length<=1000):Wp (bK [J]) λd=>∃ks,d=cj .own .own ks 2.1/\Bes ks (adj js js.length):=by
 simp_arith![bK,fnP];refine bZ (BeI J js 0) (λQ q=>?_) ?_
 .simp_arith[sEx,bJ,dN,bW,uE]
  exact q _ ⟨[],_,_,_,_,rfl,⟨by simp,λy _=>rfl⟩,by simp⟩
 rintro _ ⟨ks,y2,y3,y4,y5,rfl,U,I⟩;refine bZ (BeI J js js.length) (λQ q=>?_) ?_
 .simp[ie,itE,ao,aj,au,O.v,O.s,aQ,aN,w_ite]
  refine iw (BeI J js) ⟨ks,y2,y3,y4,y5,rfl,U,I⟩ ?_ (λρ h=>q _ (by rw[lD]at h;simpa using h));rintro k d ρ I ⟨ks,x2,x3,Z,x5,rfl,U,a6⟩;rw[lg,List.getElem?_map]at I;cases F:js[k]? with
  |none=>simp[F]at I
  |some j=>
   obtain rfl:D.tup [.int (k:Int),jD j]=d:=by simpa[F]using I
   have a7:k<js.length:=(List.getElem?_eq_some_iff.mp F).1;simp[jD,tgT,aP,cg,tgN,aF,aD,clean,aA,az,aN];have a1:=vy js j.1 k;have a2:=vy js j.2.1 k;obtain⟨a4,c1,V,c3⟩:=Uc (t:=((k:Int),1,j.2.1)) (x:=j.1) (ρ:=[ac J,ac (cj .own .own ks (adj js k)),ac 2.177,ac (.str j.1),ac (.str j.2.1),ac (.int j.2.2)]) (fa:=aj 2.230 2.37) (fx:=aj 2.189 au) U 1.10 1.10 rfl rfl (λd=>rfl);have a3:=zB (f:=adj js k) (x:=j.1) (y:=j.2.1) (t:=((k:Int),1,j.2.1));obtain⟨a5,d1,z,d3⟩:=Uc (t:=((k:Int),-1,j.1)) (x:=j.2.1) (ρ:=[ac J,ac (cj .own .own a4 (upF (adj js k) j.1 ((k:Int),1,j.2.1))),ac 2.177,ac (.str j.1),ac (.str j.2.1),ac (.int j.2.2)]) (fa:=aj 2.4 2.37) (fx:=aj 2.190 au) V 1.10 1.10 rfl rfl (λd=>rfl);have a0:adj js (k+1)=upF (upF (adj js k) j.1 ((k:Int),1,j.2.1)) j.2.1 ((k:Int),-1,j.1):=by rw[adj,F]
   rw[rC,c3,aN];simp![aaF,aaQ];rw[d3,aN];simp![aaF,aaQ];exact⟨a5,_,_,_,_,by rw[a0],by rw[a0];exact z,by omega⟩
 rintro _ ⟨ks,x2,x3,Z,x5,rfl,U,_⟩;simp[jf,aN];exact⟨ks,rfl,U⟩
def Mr:view ae 2.51=cj .brw .brw ks f/\aA 2.51=ag/\az 2.51=ag/\cQ 2.51=ag:=by
 have h1:∀l:List Tt,bI (l.map bD)=ag:=by
  intro l
  induction l with
  |nil=>rfl
  |cons p r F=>rw[ZX,bI,F];rfl
 have h:∀l:List Str,dW ae (l.map λy=>.lst .own ((f y).map bD))=(l.map λy=>.lst .brw ((f y).map bD))/\aF (l.map λy=>.lst .own ((f y).map bD))=ag/\aD (l.map λy=>.lst .own ((f y).map bD))=ag/\bI (l.map λy=>.lst .own ((f y).map bD))=ag:=by
  intro l
  induction l with
  |nil=>exact⟨rfl,rfl,rfl,rfl⟩
  |cons a r F=>simp[dW,aF,aD,bI,view,aA,az,cQ,Kw,Ol,Qy,h1,F,mkV]
 simp[cj,view,aA,az,cQ,h,mkV]
def lC:∀ds:List D,qi ds=ds.map toS
 |[]=>rfl
 |d::r=>by rw[qi,lC r];rfl
def Vn(ps:List Pt):toS (pT ps)=pT ps:=by
 simp![pT,toS,lC,Z5];congr 1
def VJ(us:List Uw):qi (us.map λu=>pT u.2)=us.map λu=>pT u.2:=by
 rw[lC,Z5];exact aak λu _=>Vn u.2
def Wr:toS (wM m us)=wM (mkS m) us:=by simp![wM,toS,VJ]
def RC{m':Mk}:toS (cj m m' ks f)=cj (mkS m) m' ks f:=by
 simp![cj,toS,lC,Z5];congr 1;refine aak λy _=>?_;simp![abR,toS,lC,Z5];congr 1
def YZ(js:List Jt):toS 2.156= .lst .frz (js.map jD):=by
 simp![toS,lC,Z5];congr 1
def N5{m':Mk}:fz (cj m m' ks f)=cj (mkF m) (mkF m') ks f:=by
 simp![cj,fz,gq,Z5];congr 1;refine aak λy _=>?_;simp![abR,fz,Xk]
def Xg(J:mkV ae m=m):view ae (cj m .frz ks f)=cj m .frz ks f:=by
 simp![cj,view,fP,Z5,J];congr 1;refine aak λy _=>?_;simp![abR,view,Qy];rfl
def Ub:view ae (wM .scr us)=wM .scr us:=by simp![wM,view,HD];rfl
def RL(U:Bes ks f)(x:Str):∃m',(m'= .frz∨m'= .own)/\pO (cj m .frz ks f) [.str x,.lst .own []]=ac (.lst m' ((f x).map bD)):=by
 by_cases J:x∈ks
 .obtain⟨i,h1,h2,h3⟩:=lY J
  exact⟨.frz,.inl rfl,by simp![pO,cj,dm,gD,h1,List.getElem?_map,h2,aao]⟩
 .have h2:c7 (ks.map aaf) (aaf x:Key)=af:=by
   unfold c7;rw[aay];intro y V;obtain⟨z,hz,rfl⟩:=List.mem_map.mp V;exact aac λe=>J (by cases e;exact hz)
  exact⟨.own,.inr rfl,by simp![pO,cj,dm,gD,h2,U.e x J,aax]⟩
def PL:∀ps:List Pt,(ps.map ptD).mapM prD=ac ps
 |[]=>rfl
 |p::r=>by rw[ZX,agr,PL r];rfl
def Ud(a b:List Pt):A_ (pT a) (pT b)=ac (.bl (ltP a b)):=by
 simp![A_,pT,PL]
def Ug:Mq (wM m us) (.dct .own [] [])=ac (.bl (us.length !=0)):=by
 simp![Mq,wM,Pr]
def R_{gs:List Uw}{w:List Pt}(hn:(ky gs).Nodup)(J:x∈ky gs)(Y:gs.length<1000000):gj (wM .own gs) [.str x,pT w]=ac (wM .own (CT gs x w),.non):=by
 obtain⟨i,h1,h2,O⟩:=lY J;have F:c7 ((gs.map (·.1)).map aaf) (aaf x)=ac i:=h1;have Z:(gs.map λu=>pT u.2).set i (pT w)=(CT gs x w).map λu=>pT u.2:=by
  apply acs;intro k;rw[ab4,CT,List.getElem?_map,List.getElem?_map,List.getElem?_map];rw[jN]at O;rw[ky,List.getElem?_map]at h2;by_cases e:i=k
  .subst e
   rw[if_pos rfl,if_pos (by simpa using O)];rw[List.getElem?_eq_getElem O]at h2⊢;have:gs[i].1=x:=by simpa using h2
   simp[this]
  .rw[aag e]
   cases I:gs[k]? with
   |none=>rfl
   |some u=>
    have D:u.1≠x:=λz=>by
     obtain⟨V,q⟩:=List.getElem?_eq_some_iff.mp I;rw[List.getElem?_eq_getElem O]at h2;have U:gs[i].1=x:=by simpa using h2
     have h8:(ky gs)[i]'(by rw[jN];exact O)=(ky gs)[k]'(by rw[jN];exact V):=by
      simp![ky,List.getElem_map,U,q,z]
     exact e ((aew hn).mp h8)
    simp[D]
 have V:((CT gs x w).map (·.1)).map (aaf:Str->Key)=(gs.map (·.1)).map aaf:=by
  have:=Bo (gs:=gs) (x:=x) (w:=w);unfold ky at this;rw[this]
 simp![gj,wM,dm,gD,Pr,Y,aal,iI,F,Z,V]
def yV:∀(gs fs:List Uw),(ky (fs++gs)).Nodup->jF ((fs.map (·.1)).map aaf) (fs.map λu=>pT u.2) (((gs.map (·.1)).map aaf).zip (gs.map λu=>pT u.2))=(((fs++gs).map (·.1)).map aaf,(fs++gs).map λu=>pT u.2)
 |[],fs,_=>by simp[jF]
 |g::r,fs,hn=>by
  have q:c7 ((fs.map (·.1)).map aaf) (aaf g.1:Key)=af:=by
   unfold c7;rw[aay];intro y V;obtain⟨z,hz,rfl⟩:=List.mem_map.mp V;refine aac λe=>?_;cases e;unfold ky at hn;rw[aat,aaY]at hn;exact hn.2.2 _ hz _ (by simp) rfl
  have F:=yV r (fs++[g]) (by rw[abP];exact hn);rw[abP]at F;simp![ZX,List.zip_cons_cons,jF,iI,q];have e1:((fs++[g]).map (·.1)).map (aaf:Str->Key)=(fs.map (·.1)).map aaf++[aaf g.1]:=by simp
  have e2:((fs++[g]).map λu=>pT u.2)=(fs.map λu=>pT u.2)++[pT g.2]:=by simp
  rw[e1,e2]at F;rw[F];rfl
def Vq{fs gs:List Uw}(hn:(ky (fs++gs)).Nodup)(Y:fs.length+gs.length<=50000):qK (wM .own fs) [wM .frz gs]=ac (wM .own (fs++gs),.non):=by
 simp![qK,wM,Pr];rw[if_pos Y,yV gs fs hn]
def LwE(js:List Jt)(h:Str)(B:D)(fs:List Uw)(m:Mk)(hs:List Uw)(U V F z I:Option D):En:=[ac 2.156,ac (.str h),ac B,ac (wM .own fs),ac (wM m hs),U,V,F,z,I]
def LwI(js:List Jt)(ns ks:List Str)(h:Str)(d:Nat)(ρ:En):Prop:=∃(B:D)(m:Mk)(fs hs:List Uw)(U V F z I:Option D),ρ=LwE js h B fs m hs U V F z I/\(B=cj .own .own ks 2.1∨B=cj .scr .frz ks 2.1)/\(m= .own∨m= .frz)/\By 2.1 ns h fs hs d
def LwJ(js:List Jt)(ks:List Str)(h:Str)(fs hs:List Uw)(i:Nat)(ρ:En):Prop:=∃(gs:List Uw)(V F z I:Option D),ρ=LwE js h 2.157 fs .scr hs 2.76 V F z I/\Bz 2.1 fs hs gs (λv _=>∃q<i,hs[q]? =ac v)
def LwK(js:List Jt)(ks:List Str)(h:Str)(fs hs:List Uw)(i:Nat)(v:Uw)(k:Nat)(ρ:En):Prop:=∃(gs:List Uw)(F z I:Option D),ρ=LwE js h 2.157 fs .scr hs 2.76 (ac (.str v.1)) F z I/\Bz 2.1 fs hs gs (λw s=>(∃q<i,hs[q]? =ac w)∨(w=v/\s∈(2.1 v.1).take k))
variable{h:Str}
def Tv{fs hs:List Uw}{d:Nat}{v:Uw}(hd:By 2.1 ns h fs hs d)(Y:ns.length<=1000)(Z:hs[i]? =ac v)(ht:(adj js js.length v.1)[k]? =ac t)(b3:LwK js ks h fs hs i v k ρ)(q:∀ρ',LwK js ks h fs hs i v (k+1) ρ'->Q (.nx ρ'))(b2:∀y∈ky fs,∀t∈adj js js.length y,t.2.2∈ns) :
  Wp (tgT 2 2.138 (bD t) ρ) λρ1=>Wp ((aU 2.166
  2.3) ρ1) Q:=by
 obtain⟨gs,F,x8,x9,rfl,U⟩:=b3;have a1:v∈hs:=aau Z;have a4:=aau ht;have a9:v.1∈hs.map (·.1):=aa3.mpr ⟨v,a1,rfl⟩;have a8:∀v∈hs,v.2.length=d:=λv Z=>((hd.e v).mp Z).2;have b6:gs.length<=ns.length:=by
  have:=qJ U.n (ns:=ns) λy V=>by
   obtain⟨u,hu,rfl⟩:=List.mem_map.mp V;obtain⟨_,w,hw,s,a3,e,_⟩:=U.f u hu;rw[e];exact b2 w.1 (aa3.mpr ⟨w,((hd.e w).mp hw).1,rfl⟩) s a3
  rwa[jN]at this
 have b7:fs.length<=ns.length:=by
  have:=qJ hd.n hd.i;rwa[jN]at this
 have b5:d<=1000:=by
  have:=hd.z.2 (λz=>by rw[z]at a1;cases a1);omega
 obtain⟨ps,b0,b4⟩:=K6 (m:=.scr) a9;obtain rfl:ps=v.2:=Ab hd.hn b0 a1;have a7:cR (pT v.2) (.tup [.tup [.int t.1,.int t.2.1]])=ac (pT (v.2++[pr2 t])):=by
  have:=a8 v a1;simp[pT,cR,ptD,pr2];omega
 have b1:(adj js js.length v.1).take (k+1)=(adj js js.length v.1).take k++[t]:=by rw[acu,ht];rfl
 have step:∀w∈hs,∀s∈adj js js.length w.1,((∃i'<i,hs[i']? =ac w)∨(w=v/\s∈(adj js js.length v.1).take (k+1)))->((∃i'<i,hs[i']? =ac w)∨(w=v/\s∈(adj js js.length v.1).take k))∨(w.2=v.2/\s=t):=λw _ s _ z=>by
  rcases z with z|⟨e,z⟩
  .exact .inl 2.29
  .rw[b1]at z
   rcases Ls.mp z with z|z
   .exact .inl (.inr ⟨e,z⟩)
   .exact .inr ⟨by rw[e],aab.mp z⟩
 have J:=iK (v.2++[pr2 t]);simp![LwE,bD,tgT,aP,cg,tgN,aF,aD,clean,aA,az,aN,Z4,aan,abS,and_self,aal,aQ,aaF,aaQ,Nat.reduceAdd];refine bZ (λρ=>ρ=LwE js h 2.157 fs .scr hs 2.76 (ac (.str v.1)) (ac (.tup [.int t.1,.int t.2.1])) (ac (.str t.2.2)) (ac (pT (v.2++[pr2 t])))) (λQ q=>?_) ?_
 .simp[bO,e2,ao,Ub,view,dW,b4,eAp,aj,au,bx,a7,aQ,cI,aN,tgN,aF,aD,aA,az,J.1,J.2.1,clean]
  exact q _ rfl
 rintro _ rfl;by_cases O:t.2.2∈fs.map (·.1)
 .simp[LwE,sIf,jO,eB,e2,ao,Qh,view,Hx,isB,aQ,aN,w_ite,O,cL]
  exact q _ ⟨gs,_,_,_,rfl,U.skip O λw hw s a3 z=>(step w hw s a3 z).imp id And.right⟩
 .have ni1:di (.str t.2.2) (wM .brw fs)=ac (.bl ag):=by rw[Hx,aac O];rfl
  by_cases a0:t.2.2∈gs.map (·.1)
  .have ni2:di (.str t.2.2) (wM .brw gs)=ac (.bl ae):=by rw[Hx,aaB a0];rfl
   obtain⟨w0,a5,a6⟩:=K6 (m:=.brw) a0;have I:=R_ (gs:=gs) (x:=t.2.2) (w:=v.2++[pr2 t]) U.n a0 1.10;cases D:ltP (v.2++[pr2 t]) w0 with
   |true=>
    have a2:A_ (pT (v.2++[pr2 t])) (pT w0)=ac (.bl ag):=by rw[Ud,D]
    simp[LwE,sIf,jO,eOr,eB,e2,ao,Qh,view,dW,ni1,ni2,a6,J.2.2.1,a2,isB,aQ,aN,w_ite,bO,jg,ig,upS,fJ,dU,I,aF,aD,aA,az,J.1,J.2.1,clean,cI];exact q _ ⟨CT gs t.2.2 (v.2++[pr2 t]),_,_,_,rfl,U.set a1 a4 O (aa3.mpr ⟨_,a5,rfl⟩) step⟩
   |false=>
    have a2:A_ (pT (v.2++[pr2 t])) (pT w0)=ac (.bl ae):=by rw[Ud,D]
    simp[LwE,sIf,jO,eOr,eB,e2,ao,Qh,view,dW,ni1,ni2,a6,J.2.2.1,a2,isB,aQ,aN,w_ite,cL];exact q _ ⟨gs,_,_,_,rfl,U.keep (aa3.mpr ⟨_,a5,rfl⟩) step⟩
  .have ni2:di (.str t.2.2) (wM .brw gs)=ac (.bl ag):=by rw[Hx,aac a0];rfl
   have I:=V6 (us:=gs) (x:=t.2.2) (ps:=v.2++[pr2 t]) a0 1.10;simp[LwE,sIf,jO,eOr,eB,e2,ao,Qh,view,dW,ni1,ni2,J.2.2.1,isB,aQ,aN,w_ite,bO,jg,ig,upS,fJ,dU,I,aF,aD,aA,az,J.1,J.2.1,clean,cI];exact q _ ⟨gs++[(t.2.2,v.2++[pr2 t])],_,_,_,rfl,U.add a1 a4 O a0 step⟩
theorem Tr(U:Bes ks 2.1)(hB:bK [.lst .frz 2.6]=ac 2.193)(hh:h∈ns)(hj:∀j∈js,j.1∈ns/\j.2.1∈ns)(Y:ns.length<=1000):Wp (cH [.lst .frz 2.6,.str h]) λd=>∃us,d=wM .own us/\(ky us).Nodup/\Lst 2.1 h us/\(∀y∈ky us,y∈ns)/\∀u∈us,u.2.length<=us.length:=by
 have b5:∀y:Str,∀t∈adj js js.length y,t.2.2∈ns:=λy t ht=>by
  obtain⟨n,j,_,h2,O⟩:=(rB js y js.length).mp ht;rcases O with⟨_,rfl⟩|⟨_,rfl⟩
  .exact(hj j (aau h2)).2
  .exact(hj j (aau h2)).1
 have a6:Ir [((aaf h:Key),D.tup [])]=ac (wM .own [(h,[])]):=by
  unfold Ir;rw[if_pos (by simp)];rfl
 have b9:fz 2.156= .lst .frz (js.map jD):=by simp[fz,wC,mkF]
 obtain⟨_,b1,b7,b6⟩:=Mr (ks:=ks) (f:=adj js js.length);have a8:aZ bK [.lst .frz 2.6]=ac (cj .own .own ks 2.1):=call_of (by simpa[fzL,b9]using hB) b6;have c6:view ae 2.156= .lst .frz (js.map jD):=by simp[view,Hr,mkV]
 simp_arith![cH,fnP];refine bZ (λρ=>ρ=[ac 2.156,ac (.str h),ac 2.193,af,af,af,af,af,af,af]) (λQ q=>?_) ?_
 .simp[bO,eAp,aj,au,ao,c6,a8,aQ,cI,aN,tgN,clean,b1,b7]
  exact q _ rfl
 rintro _ rfl;refine bZ (λρ=>ρ=[ac 2.156,ac (.str h),ac 2.193,ac (wM .own [(h,[])]),af,af,af,af,af,af]) (λQ q=>?_) ?_
 .simp_arith[sEx,bJ,dN,bW,cR,jb,lr,vD,mV,E_,gh,gLt,gGt,gGe,gIx,bA,bx,bz,xG,Fy,ul,gIs,Hs,atI,ixN,bT,gj,gSl,ug,jk,wX,qD,yX,dm,a6]
  exact⟨QT 2.81,q _ rfl⟩
 rintro _ rfl;refine bZ (λρ=>ρ=LwE js h 2.193 [(h,[])] .own [(h,[])] af af af af af) (λQ q=>?_) ?_
 .simp_arith[sEx,bJ,dN,bW,cR,jb,lr,vD,mV,E_,gh,gLt,gGt,gGe,gIx,bA,bx,bz,xG,Fy,ul,gIs,Hs,atI,ixN,bT,gj,gSl,ug,jk,wX,qD,yX,dm,a6]
  exact⟨QT 2.81,q _ rfl⟩
 rintro _ rfl;refine bZ (λρ=>∃(B:D)(m:Mk)(fs:List Uw)(d:Nat)(x5 V F x8 I:Option D),ρ=LwE js h B fs m [] x5 V F x8 I/\By 2.1 ns h fs [] d) (λQ q=>?_) ?_
 .refine Ah (LwI js ns ks h) ns.length ?_ 1000000 0 _ ⟨_,_,_,_,_,_,_,_,_,rfl,.inl rfl,.inl rfl,By.one hh⟩ 1.10
  rintro d ρ ⟨B,m,fs,hs,x5,V,F,x8,I,rfl,c5,J,hd⟩;have a9:view ae (wM m hs)=wM (mkV ae m) hs:=by simp![wM,view,HD]
  by_cases a2:hs=[]
  .subst a2
   simp[LwE,An,eB,e2,ao,a9,eAp,au,uE,Ug,isB,cI,aQ,aN];exact q _ ⟨B,m,fs,d,x5,V,F,x8,I,rfl,hd⟩
  .have hlh:(hs.length !=0)=ag:=by simpa using a2
   have d0:fs.length<=ns.length:=by
    have:=qJ hd.n hd.i;rwa[jN]at this
   have c9:=hd.z.2 a2;simp![LwE,An,eB,e2,ao,a9,eAp,au,uE,Ug,hlh,isB,cI,aQ,aN,Z6,Z7,gD,aao,aal];refine⟨by omega,?_⟩;refine bZ (λρ=>ρ=LwE js h B fs m hs (ac (wM .own [])) V F x8 I) (λQ q=>?_) ?_
   .simp[bO,eAp,au,uE,cI,aQ,aN,tgN,clean,aA,az,aF,aD]
    exact q _ rfl
   rintro _ rfl;refine bZ (λρ=>∃(gs:List Uw)(V F x8 I:Option D),ρ=LwE js h 2.157 fs .scr hs 2.76 V F x8 I/\Bz 2.1 fs hs gs λ_ _=>True) (λQ q=>?_) ?_
   .obtain⟨m2,hm2,hfB⟩:∃m2,(m2= .frz∨m2= .scr)/\fz B=cj m2 .frz ks (adj js js.length):=by
     rcases c5 with rfl|rfl
     .exact⟨.frz,.inl rfl,by rw[N5];rfl⟩
     .exact⟨.scr,.inr rfl,by rw[N5];rfl⟩
    have c4:mkS m2= .scr:=by rcases hm2 with rfl|rfl<;>rfl
    have c7:fz (wM m hs)=wM .frz hs:=U8 (by rcases J with rfl|rfl<;>decide);simp![sFz,g8,LwE,Z6,Z7,gD,hfB,c7,aaF,aaQ];have c8:∀x:Str,∀y7 y8 y9 gs,itS 2.195 (LwE js h 2.157 fs .scr hs 2.76 (ac 2.89) y7 y8 y9)=ac (ag,(adj js js.length x).map bD):=λx y7 y8 y9 gs=>by
     obtain⟨m',c3,e⟩:=RL (m:=.scr) U x;simp![itS,eMt,ao,LwE,Z6,Z7,Xg (m:=.scr) rfl,aj,eAp,au,bA,view,gD];refine(congrArg (λo=>Option.bind o fj) e).trans ?_;rcases c3 with rfl|rfl<;>simp[fj,clean,aA,az,Kw,Ol,T4]
    obtain⟨bd,b0⟩:∃bd,bd=ie (itS 2.195) (tgT 2 2.138) (aU 2.166 2.3):=⟨_,rfl⟩;rw[←b0];have c2:Wp (forL (tgN 6) bd ((ky hs).map D.str) (LwE js h 2.157 fs .scr hs (ac (wM .own [])) (V.map toS) (F.map toS) (x8.map toS) (I.map toS))) λr=>∃ρ',r= .nx ρ'/\LwJ js ks h fs hs hs.length ρ':=by
     refine iw (LwJ js ks h fs hs) ⟨[],_,_,_,_,rfl,Bz.nil λv t ⟨i',h1,_⟩=>by omega⟩ ?_ (λρ a4=>⟨ρ,rfl,by rw[Pr,jN]at a4;exact a4⟩);rintro i dd ρ hi ⟨gs,y6,y7,y8,y9,rfl,a1⟩;rw[List.getElem?_map,ky,List.getElem?_map]at hi;cases a3:hs[i]? with
     |none=>rw[a3]at hi;cases hi
     |some v=>
      obtain rfl:D.str v.1=dd:=by rw[a3]at hi;simpa using hi
      have b8:tgN 6 (.str v.1) 2.237=ac (LwE js h 2.157 fs .scr hs 2.76 (ac (.str v.1)) y7 y8 y9):=rfl;rw[b8,aN,b0];simp![ie,c8,aQ,aN,aal];refine iw (LwK js ks h fs hs i v) ⟨gs,_,_,_,rfl,a1.mono λw _ s _ z _=>z.resolve_right λz=>by simp at z⟩ ?_ ?_
      .rintro k e ρ hk a4
       rw[List.getElem?_map]at hk;cases a7:(adj js js.length v.1)[k]? with
       |none=>rw[a7]at hk;cases hk
       |some t=>
        obtain rfl:bD t=e:=by rw[a7]at hk;simpa using hk
        exact Tv hd Y a3 a7 a4 (λρ' h=>h) (λy _ t ht=>b5 y t ht)
      .rintro ρ ⟨gs2,z7,z8,z9,rfl,hbz2⟩
       rw[Pr,acK]at hbz2;refine⟨gs2,_,_,_,_,rfl,hbz2.mono λw _ s b2 ⟨i',h1,h2⟩ _=>?_⟩;by_cases e:i'=i
       .subst e
        rw[a3]at h2;cases h2;exact .inr ⟨rfl,b2⟩
       .exact .inl ⟨i',by omega,h2⟩
    obtain⟨r,er,ρ',rfl,gs,y6,y7,y8,y9,rfl,a1⟩:=c2;have hD:zf 4 (tgN 6) bd [ac 2.156,ac (.str h),ac (cj m2 .frz ks 2.1),ac (wM .own fs),ac (wM .frz hs),ac (wM .own []),V,F,x8,I]=ac (.nx 2.237):=by
     have e1:([ac 2.156,ac (.str h),ac (cj m2 .frz ks 2.1),ac (wM .own fs),ac (wM .frz hs),ac (wM .own []),V,F,x8,I]:En).map (afk toS)=LwE js h 2.157 fs .scr hs (ac (wM .own [])) (V.map toS) (F.map toS) (x8.map toS) (I.map toS):=by
      simp![ZX,aax,aao,YZ,RC,c4,Wr,LwE];rfl
     have e2:((hs.map (·.1)).map (aaf:Str->Key)).map kD=(ky hs).map D.str:=by rw[Z5];rfl
     have e3:=er;rw[←e1,←e2]at e3;unfold zf;simp![Z6,Z7,wM];simp![wM]at e3;rw[e3]
    rw[hD,aN];exact q _ ⟨gs,y6,y7,y8,y9,rfl,a1.mono λw Z s b2 _ _=>let⟨i,hi,e⟩:=afz Z;⟨i,hi,by rw[List.getElem?_eq_getElem hi,e]⟩⟩
   rintro _ ⟨gs,y6,y7,y8,y9,rfl,a1⟩;have a0:=hd.next a1 (λv _ t ht=>b5 v t ht) a2;have c0:(fs++gs).length<=ns.length:=by
    have:=qJ a0.n a0.i;rwa[jN]at this
   have b4:=Vq a0.n (by rw[List.length_append]at c0;omega);have c1:fz (wM .own gs)=wM .frz gs:=U8 (by decide);have a5:=QT (us:=gs) (m:=.frz) 2.203;have b3:view ae (wM .frz gs)=wM .frz gs:=Yu;refine bZ (λρ=>ρ=LwE js h 2.157 (fs++gs) .scr hs (ac (wM .frz gs)) y6 y7 y8 y9) (λQ q=>?_) ?_
   .simp[LwE,sFz,g8,c1,pq,zQ,ig,aj,au,ao,b3,upS,fJ,dU,b4,aF,aD,a5.1,a5.2,cI,aQ,aN]
    exact q _ rfl
   rintro _ rfl;simp[LwE,bO,ao,b3,tgN,clean,a5.1,a5.2,cI,aQ,aN];exact⟨_,.frz,fs++gs,gs,_,_,_,_,_,rfl,.inr rfl,.inr rfl,a0⟩
 rintro _ ⟨B,m,fs,d,x5,V,F,x8,I,rfl,hd⟩;simp![LwE,jf,Z6,Z7,aN];exact⟨fs,rfl,hd.n,hd.fin,hd.i,λu hu=>aaC (hd.w u hu).2 hd.z.1⟩
def Cl(d:D):Prop:=aA d=ag/\az d=ag
def Cl.c(h:Cl d):clean d=ag:=by rw[clean,h.1,h.2];rfl
def wK{O n:Nat}{Q:D×List D->Prop}(h:ds.length=O)(U:Wp (body (en0 n ds)) λr=>match r with
  |.ret d ρ=>Wp (outs pr ρ 0 ds) λo=>Q (d,o)
  |.nx ρ=>Wp (outs pr ρ 0 ds) λo=>Q (.non,o)
  |_=>False):Wp (fnI pr O n body ds) Q:=by
 obtain⟨r,e,Z⟩:=U;unfold fnI;rw[if_pos h,e,gD];cases r with
 |ret d ρ=>exact cI.mpr Z
 |nx ρ=>exact cI.mpr Z
 |_=>exact Z.elim
def XN{O n:Nat}{Q:D->Prop}(h:ds.length=O)(U:Wp (body (en0 n ds)) λr=>match r with
  |.ret d _=>Q d
  |.nx _=>Q .non
  |_=>False):Wp (fnP O n body ds) Q:=by
 obtain⟨r,e,Z⟩:=U;unfold fnP;rw[if_pos h,e,gD];cases r with
 |ret d ρ=>exact⟨_,rfl,Z⟩
 |nx ρ=>exact⟨_,rfl,Z⟩
 |_=>exact Z.elim
variable{g:En->Option Fl}{ρ':En}
def vM{f:En->Option Fl}(h:f ρ=ac (.nx ρ'))(q:Wp (g ρ') Q):Wp (aU f g ρ) Q:=by
 unfold aU;rw[h];exact q
variable{f:En->Option D}
def Gy(h:f ρ=ac d)(O:Cl d):bO f (tgN i) ρ=ac (.nx 2.223):=by
 unfold bO tgN;rw[h,gD,if_pos O.c];rfl
def gR(d:D)(ρ':En)(h:f ρ=ac d)(O:Cl d)(q:Wp (g ρ') Q)(z:ρ.set i (ac d)=ρ':=by rfl):Wp (aU (bO f (tgN i)) g ρ) Q:=vM (by rw[Gy h O,z]) q
def wR(h:f ρ=ac d)(O:Cl d)(q:Q (.ret d ρ)):Wp (b7 f ρ) Q:=by
 unfold b7;rw[h,gD,if_pos O.c];exact⟨_,rfl,q⟩
variable{A B:En->Option Fl}
def rM{c:En->Option Bool}(O:c ρ=ac ag)(h:Wp (A ρ) Q):Wp (sIf c A B ρ) Q:=by
 unfold sIf;rw[O];exact h
def xn{c:En->Option Bool}(O:c ρ=ac ae)(h:Wp (B ρ) Q):Wp (sIf c A B ρ) Q:=by
 unfold sIf;rw[O];exact h
def Iz{c:En->Option Bool}(O:c ρ=ac ae):sIf c A cL ρ=ac (.nx ρ):=by
 unfold sIf;rw[O];rfl
def Bw(h:Wp (A ρ) λr=>∃d ρ',r= .ret d ρ'/\Q (.ret d ρ')):Wp (aU A g ρ) Q:=by
 rw[rC];exact h.mono (by rintro _ ⟨d,ρ',rfl,h⟩;exact h)
def wD{h c:Int}(hi:ρ[i]? =ac (ac (.int h))):eB (e2 gEq (ao ae i) (eC (.int c))) ρ=ac (decide (h=c)):=by
 simp[eB,e2,ao,eC,hi,view,eq_int,isB]
def C_{h c:Int}(hi:ρ[i]? =ac (ac (.int h)))(h1:h=c->Wp (A ρ) λr=>∃d ρ',r= .ret d ρ'/\Q (.ret d ρ'))(h2:h≠c->Wp (g ρ) Q):Wp (aU (sIf (eB (e2 gEq (ao ae i) (eC (.int c)))) A cL) g ρ) Q:=by
 by_cases e:h=c
 .exact Bw (rM (by rw[wD hi,aaB e]) (h1 e))
 .exact vM (Iz (by rw[wD hi,aac e])) (h2 e)
variable{P:D×En->Prop}{as:List D}
def Jp(U:ρ[j]? =ac (ac d))(Y:fa ρ=ac as)(O:aF as=ag/\aD as=ag)(V:Wp (F (d::fzL as)) λq=>∃d' r,q.2=d'::r/\P (q.1,ρ.set j (ac d'))):Wp (eIo F [j] (bF fa) ρ) P:=by
 obtain⟨q,e,d',r,e2,I⟩:=V;have z:objs [j] ρ=ac [d]:=by simp[objs,U]
 refine⟨_,?_,I⟩;simp[eIo,bF,z,Y,O,e,e2,mK]
def Xp(U:ρ[j]? =ac (ac d))(Y:fa ρ=ac as)(O:aD as=ag)(V:Wp (F (d::fzL as)) λq=>∃d' r,q.2=d'::r/\cQ q.1=ag/\cQ d'=ag/\P (q.1,ρ.set j (ac d'))):Wp (eIo F [j] (bF fa) ρ) P:=by
 obtain⟨q,e,d',r,e2,h1,h2,I⟩:=V;have z:objs [j] ρ=ac [d]:=by simp[objs,U]
 refine⟨_,?_,I⟩;simp[eIo,bF,z,Y,O,e,e2,mK,h1,h2,bI]
def w_up(h:f ρ=ac d)(I:P (d,ρ)):Wp (eUp f ρ) P:=⟨(d,ρ),by rw[eUp,h];rfl,I⟩
def qG{f:D->D->Option D}{fa fb:En->Option (D×En)}(h:Wp (fa ρ) λp=>Wp (fb p.2) λq=>az p.1=ag/\∃d,f p.1 q.1=ac d/\P (d,q.2)):Wp (ee2 f fa fb ρ) P:=by
 obtain⟨p,e1,q,e2,U,d,Y,I⟩:=h;exact⟨_,by rw[ee2,e1,gD,e2,gD,if_pos U,Y];rfl,I⟩
variable{f:En->Option (D×En)}
def mZ(h:Wp (f ρ) λp=>Cl p.1/\Wp (g (p.2.set i (ac p.1))) Q):Wp (aU (dD f (tgN i)) g ρ) Q:=by
 obtain⟨p,e,O,q⟩:=h;refine vM ?_ q;unfold dD tgN;rw[e,gD,if_pos O.c];rfl
def Qm(h:Wp (f ρ) λp=>Cl p.1/\Q (.ret p.1 p.2)):Wp (pP f ρ) Q:=by
 obtain⟨p,e,O,q⟩:=h;exact⟨_,by unfold pP;rw[e,gD,if_pos O.c],q⟩
def Qs{f:En->Option Fl}(h:Wp (f ρ) λr=>∃ρ',r= .nx ρ'/\Wp (g ρ') Q):Wp (aU f g ρ) Q:=by
 obtain⟨_,e,ρ',rfl,h⟩:=h;exact vM e h
def kJ(h:Wp (f ρ) λp=>∃ρ',tg p.1 p.2=ac ρ'/\Q (.nx ρ')):Wp (dD f tg ρ) Q:=by
 obtain⟨p,e,ρ',e2,q⟩:=h;exact⟨_,by unfold dD;rw[e,gD,e2];rfl,q⟩
def Ay(O:Cl d):tgN i d ρ=ac (ρ.set i (ac d)):=if_pos O.c
def TX(h:Wp (f ρ) λp=>∃b,p.1= .bl b/\(b=ag->Wp (A p.2) Q)/\(b=ae->Wp (B p.2) Q)):Wp (uH (eeB f) A B ρ) Q:=by
 obtain⟨⟨_,ρ'⟩,e,b,rfl,h1,h2⟩:=h;have O:eeB f ρ=ac (b,ρ'):=by simp[eeB,e,isB]
 unfold uH;rw[O,gD];cases b with
 |true=>exact h1 rfl
 |false=>exact h2 rfl
def oX{fa:En->Option (D×En)}{O:En->Option (List D×En)}{P:List D×En->Prop}(h:Wp (fa ρ) λp=>Wp (O p.2) λq=>az p.1=ag/\P (p.1::q.1,q.2)):Wp (bQ fa O ρ) P:=by
 obtain⟨p,e1,q,e2,U,I⟩:=h;exact⟨_,by rw[bQ,e1,gD,e2,gD,if_pos U],I⟩
variable{f:En->Option (List D×En)}
def YS{q:List D->Option D}(h:Wp (f ρ) λp=>∃d,q p.1=ac d/\P (d,p.2)):Wp (mY q f ρ) P:=by
 obtain⟨p,e,d,e2,I⟩:=h;exact⟨_,by rw[mY,e,gD,e2];rfl,I⟩
def MF{pf:En->Option 2.114}(V:pf ρ=ac p)(h:Wp (f ρ) λq=>∃r:D×En,upS op i p q.1 q.2=ac r/\Q (.nx r.2)):Wp (v9 op i pf f ρ) Q:=by
 obtain⟨q,e,r,e2,z⟩:=h;exact⟨_,by rw[v9,V,gD,e,gD,e2];rfl,z⟩
def Vi{tg:List D->En->Option En}(h:Wp (f ρ) λp=>(aF p.1=ag/\aD p.1=ag)/\∃ρ',tg p.1 p.2=ac ρ'/\Q (.nx ρ')):Wp (lR f tg ρ) Q:=by
 obtain⟨p,e,U,ρ',e2,q⟩:=h;exact⟨_,by unfold lR;rw[e,gD,if_pos U,e2];rfl,q⟩
variable{es:List D}
def Ny{f:En->Option 2.79}{d' r:D}(hi:ρ[i]? =ac (ac d))(Y:f ρ=ac es)(O:aF es=ag/\aD es=ag)(F:op d es=ac (d',r)):pq op i (ig i) f ρ=ac (.nx (ρ.set i (ac d'))):=by
 simp[pq,zQ,ig,hi,Y,upS,fJ,dU,O,F]
variable{items:List D}{it:En->Option (Bool×List D)}
def Oj{c:En->Option Bool}{e:En->Option (D×En)}(h1:it ρ=ac (ag,items))(Y:items.length<=1000000)(h:Wp 2.216 λt=>P (.lst .own t.1,t.2)):Wp (ql cap it tg c e ρ) P:=by
 obtain⟨t,e,I⟩:=h;exact⟨_,by rw[ql,h1,gD,if_pos ⟨rfl,Y⟩,e];rfl,I⟩
def Gz{f:En->Option Fl}(h:g8 i ρ=ac ρ')(q:Wp (f ρ') Q):Wp (sFz i f ρ) Q:=by
 unfold sFz;rw[h];exact q
def N8(I:Nat->En->Prop)(h:it ρ=ac (ag,items))(z:I 0 ρ)
  (hs:∀(i:Nat)(d:D)(ρ:En),items[i]? =ac d->I i ρ->Wp (tg d ρ) λρ1=>Wp (body ρ1) λr=>match r with
   |.nx ρ2=>I (i+1) ρ2
   |.cnt ρ2=>I (i+1) ρ2
   |.brk ρ2=>Q (.nx ρ2)
   |.ret d ρ2=>Q (.ret d ρ2))
  (q:∀ρ,I items.length ρ->Q (.nx ρ)):Wp (ie it tg body ρ) Q:=by
 unfold ie;rw[h];exact iw I z hs q
def XR{j:Int}(h:f ρ=ac ([.int j],ρ'))(h1: -1<=j)(h2:j<=1000000):j5 f ρ=ac (jd 0 j.toNat,ρ'):=by
 simp![j5,h,gD];rw[if_pos ⟨by omega,by omega⟩]
def Ky{f:En->Option 2.79}{j:Int}(h:f ρ=ac [.int j])(h1: -1<=j)(h2:j<=1000000):pJ f ρ=ac (ag,jd 0 j.toNat):=by
 simp![pJ,h,gD];rw[if_pos ⟨by omega,by omega⟩]
abbrev sd(cs:List Int)(t:Int):D:=.dct .own [.inr "cells",.inr "turn"] [.lst .own 2.102,.int t]
def Sd(n:Int)(d:D):Prop:=∃cs t,d=sd cs t/\cs≠[]/\cs.length<=63/\0<=t/\t<=n
def kc:c7 [.inr "cells",.inr "turn"] (.inr "cells")=ac 0:=by decide +kernel
def kt:c7 [.inr "cells",.inr "turn"] (.inr "turn")=ac 1:=by decide +kernel
def rF:∀cs:List Int,aF 2.102=ag
 |[]=>rfl
 |c::r=>by simp[aF,aA,rF r]
def rG:∀cs:List Int,aD 2.102=ag
 |[]=>rfl
 |c::r=>by simp[aD,az,rG r]
def oU(b:Bool):∀cs:List Int,dW b 2.102=cs.map D.int
 |[]=>rfl
 |c::r=>by simp[dW,view,oU b r]
def iW{n:Nat}(h:k<n):ixN n (k:Int)=ac k:=by
 unfold ixN;simp;omega
def TkE(cs:List Int)(t m:Int)(q z Z U V:Option D):En:=[ac (sd cs t),ac (.int m),q,z,Z,U,V]
def XD{t:Int}:∃v,view ag (sd cs t)=v/\gIx v (.str "turn")=ac (.int t)/\∃w,gIx v (.str "cells")=ac w/\bz [w]=ac (.int cs.length)/\∀k:Nat,k<cs.length->∀c,cs[k]? =ac c->gIx w 2.177=ac (.int c):=by
 refine⟨_,rfl,?_,.lst .bro 2.102,?_,?_,λk I c O=>?_⟩
 .simp[view,dW,gIx,dm,kt]
 .simp[view,dW,oU,gIx,dm,kc,mkV]
 .simp[bz]
 .simp[gIx,atI,iW I,O]
def O1{m:Int}(hd:Sd n d)(hn:n<1000000)(J:0<m)(b4:m<1000000):Wp (aC [d,.int m]) λq=>∃(r:Int)(d':D),q=(.int r,[d',.int m])/\0<=r/\r<m/\Sd (n+1) d':=by
 obtain⟨cs,t,rfl,O,Y,t0,t1⟩:=hd;have b3:0<cs.length:=afy.mpr O;obtain⟨k,I,a0⟩:∃k:Nat,(t+1) % (cs.length:Int)=(k:Int)/\k<cs.length:=by
  have h1:=adN (t+1) (show(cs.length:Int)≠0 by omega);have h2:=ac6 (t+1) (show(0:Int)<cs.length by omega);exact⟨((t+1) % (cs.length:Int)).toNat,by omega,by omega⟩
 have a9:=iW a0;obtain⟨c,b0⟩:∃c,cs[k]? =ac c:=⟨cs[k],List.getElem?_eq_getElem a0⟩;have V:∀i j:Int,cR 2.72 (.int j)=ac (.int (i+j)):=λ_ _=>rfl;have a1:∀i j:Int,-18446744073709551616<j/\j<18446744073709551616->lr 2.72 (.int j)=ac (.int (i*j)):=λi j h=>if_pos (.inr h);have a8:=a1 (t+1) (t+1) ⟨by omega,by omega⟩;have a5:∀i j:Int,0<j->mV 2.72 (.int j)=ac (.int (i % j)):=λi j h=>by simp[mV,h]
 refine wK rfl ?_;obtain⟨v,Z,a2,_⟩:=XD (cs:=cs) (t:=t);refine gR (.int (t+1)) (TkE cs t m (ac (.int (t+1))) af af af af) (by simp[e2,ao,eC,en0,Z,a2,V]) ⟨rfl,rfl⟩ ?_;have F:∀i:Int,view ae 2.72= .int i:=λ_=>rfl;refine vM (ρ':=TkE cs (t+1) m (ac (.int (t+1))) af af af af) ?_ ?_
 .simp[bO,ao,TkE,F,jg,ig,eC,upS,fJ,dU,gj,dm,iI,kt,aF,aD,aA,az]
 obtain⟨v,Z,a2,w,a3,a7,a6⟩:=XD (cs:=cs) (t:=t+1);refine gR 2.177 (TkE cs (t+1) m (ac (.int (t+1))) 2.8 af af af) (by simp[e2,eAp,aj,au,ao,eC,TkE,Z,F,a3,a7,a5 _ _ (show(0:Int)<cs.length by omega),I]) ⟨rfl,rfl⟩ ?_;refine gR (.int c) (TkE cs (t+1) m (ac (.int (t+1))) 2.8 2.112 af af) (by simp[e2,ao,eC,TkE,Z,F,a3,a6 k a0 c b0]) ⟨rfl,rfl⟩ ?_;by_cases U:(1000000000000000000:Int)<=c
 .refine Bw (rM (by simp[eB,e2,ao,eC,TkE,F,E_,gGe,U,isB]) ?_)
  refine vM (ρ':=TkE (cs.set k (c / m)) (t+1) m (ac (.int (t+1))) 2.8 2.112 (ac (.int (c % m))) af) ?_ ?_
  .simp[bO,eAp,aj,au,ao,eC,TkE,F,vz,J,show m<1073741824 by omega,tgT,aP,tgN,cg,jg,xJ,ig,upS,fJ,dU,uR,kids,ixP,kc,dm,gj,a9,a0,clean,aF,aD,aA,az]
  exact⟨_,rfl,_,_,rfl,_,rfl,_,_,rfl,adN _ 1.10,ac6 _ J,cs.set k (c / m),t+1,rfl,by simpa using O,by simpa using Y,by omega,by omega⟩
 .refine vM (Iz (by simp[eB,e2,ao,eC,TkE,F,E_,gGe,U,isB])) ?_
  refine gR (.int ((c % 2147483629+(t+1)*(t+1)*7919+11)*48271 % 2147483647)) (TkE cs (t+1) m (ac (.int (t+1))) 2.8 2.112 af (ac (.int ((c % 2147483629+(t+1)*(t+1)*7919+11)*48271 % 2147483647)))) (by simp[e2,ao,eC,TkE,F,V,a8,a1,mV]) ⟨rfl,rfl⟩ ?_;have b1:=adN ((c % 2147483629+(t+1)*(t+1)*7919+11)*48271) (show(2147483647:Int)≠0 by decide);have b2:=ac6 ((c % 2147483629+(t+1)*(t+1)*7919+11)*48271) (show(0:Int)<2147483647 by decide);generalize (c % 2147483629+(t+1)*(t+1)*7919+11)*48271 % 2147483647=z at b1 b2⊢;have a4:=a1 z z ⟨by omega,by omega⟩;refine gR (.int (z*z % 2147483587)) (TkE cs (t+1) m (ac (.int (t+1))) 2.8 2.112 af (ac (.int (z*z % 2147483587)))) (by simp[e2,ao,eC,TkE,F,a4,mV]) ⟨rfl,rfl⟩ ?_;refine wR (d:=.int ((z*z % 2147483587+(t+1)*104729)*39373 % 2147483629 / 64 % m)) (by simp[e2,ao,eC,TkE,F,V,a1,mV,vD,J]) ⟨rfl,rfl⟩ ?_;exact⟨_,rfl,_,_,rfl,adN _ 1.10,ac6 _ J,cs,t+1,rfl,O,Y,by omega,by omega⟩
def Vb{m:Int}{Q:D×List D->Prop}(hd:Sd n d)(hn:n<1000000)(J:0<m)(F:m<1000000)(h:∀r d',0<=r->r<m->Sd (n+1) d'->Q (.int r,[d',.int m])):Wp (aC [d,.int m]) Q:=by
 refine(O1 hd hn J F).mono ?_;rintro _ ⟨r,d',rfl,h1,h2,O⟩;exact h r d' h1 h2 O
def Bj{m:Int}(hd:Sd n d)(hn:n<1000000)(J:0<m)(F:m<1000000):∃r d',aC [d,.int m]=ac (.int r,[d',.int m])/\0<=r/\r<m/\Sd (n+1) d':=by
 obtain⟨q,e,r,d',rfl,h⟩:=O1 hd hn J F;exact⟨r,d',e,h⟩
def eG{m:Int}(U:ρ[j]? =ac (ac d))(hd:Sd n d)(hn:n<1000000)(Y:fa ρ=ac [.int m])(J:0<m)(F:m<1000000)(I:∀r d',0<=r->r<m->Sd (n+1) d'->P (.int r,ρ.set j (ac d'))):Wp (eIo aC [j] (bF fa) ρ) P:=
 Jp U Y ⟨rfl,rfl⟩ (Vb hd hn J F λr d' h1 h2 O=>⟨d',_,rfl,I r d' h1 h2 O⟩)
def tU{m:Int}(U:ρ[j]? =ac (ac d))(hd:Sd n d)(hn:n<1000000)(Y:fa ρ=ac [.int m])(J:0<m)(F:m<1000000)(q:∀r d',0<=r->r<m->Sd (n+1) d'->Wp (g ((ρ.set j (ac d')).set i (ac (.int r)))) Q):Wp (aU (dD (eIo aC [j] (bF fa)) (tgN i)) g ρ) Q:=
 mZ (eG U hd hn Y J F λr d' h1 h2 O=>⟨⟨rfl,rfl⟩,q r d' h1 h2 O⟩)
def Ov{f:En->Option (D×En)}(I:Nat->En->Prop)(Y:Wp (f ρ) λp=>∃r:Nat,p.1= .int r/\r<=1000000/\I 0 p.2/\(∀(c:Nat) ρ,c<r->I c ρ->Wp (body (ρ.set i 2.112)) λq=>∃ρ',q= .nx ρ'/\I (c+1) ρ')/\∀ρ,I r ρ->Q (.nx ρ)) :
  Wp (lw (j5 (bQ f (bF au))) (tgN i) body ρ) Q:=by
 obtain⟨⟨_,ρ1⟩,e,r,rfl,Z,z,hs,F⟩:=Y;have e2:j5 (bQ f (bF au)) ρ=ac (jd 0 r,ρ1):=by
  rw[XR (j:=r) (ρ':=ρ1) (by rw[bQ,e];rfl) 1.10 1.10,aa6]
 unfold lw;rw[e2,gD];refine iw I z ?_ (λρ h=>F _ (by rwa[oK]at h));intro c x ρ O h;obtain⟨J,rfl⟩:=oG O;refine⟨_,Ay ⟨rfl,rfl⟩,(hs c ρ J h).mono ?_⟩;rintro _ ⟨ρ',rfl,h⟩;exact h
def Fq{m:Int}(I:Nat->En->Prop)(U:ρ[j]? =ac (ac d))(hd:Sd n d)(hn:n<1000000)(Y:fa ρ=ac [.int m])(J:0<m)(F:m<1000000)(z:∀d',Sd (n+1) d'->I 0 (ρ.set j (ac d')))
  (hs:∀(c:Nat) ρ,(c:Int)+1<m->I c ρ->Wp (body (ρ.set i 2.112)) λr=>∃ρ',r= .nx ρ'/\I (c+1) ρ') (q:∀(c:Nat) ρ,(c:Int)<m->I c ρ->Q (.nx ρ)) :
  Wp (lw (j5 (bQ (eIo aC [j] (bF fa)) (bF au))) (tgN i) body ρ) Q:=
 Ov I (eG U hd hn Y J F λr d' h1 h2 V=>⟨r.toNat,by simp only;rw[show((r.toNat:Nat):Int)=r by omega],by omega,z d' V,λc ρ O=>hs c ρ 1.10,λρ=>q _ ρ 1.10⟩)
def yC:∀cs:List Int,gw 2.102=ag
 |[]=>rfl
 |c::r=>by simp[gw,g_,yC r]
def RT:gEq (.lst m 2.102) (.lst .own [])=ac (.bl cs.isEmpty):=by
 unfold gEq;have h1:=yC cs;rw[if_pos ⟨by simpa[g_]using h1,rfl,.lst (by simp[dtL])⟩];cases cs with
 |nil=>rfl
 |cons j r=>rfl
def Bf:cutD ds af (ac (k:Int))=ds.take k:=by
 unfold cutD;rw[HT.sIx_none,HT.sIx_nat,ae7,Nat.sub_zero];rcases afR k ds.length with h|h
 .rw[acY h]
 .rw[adv h,acK,abn h]
def xq:cutD ds (ac (k:Int)) af=ds.drop k:=by
 unfold cutD;rw[HT.sIx_none,HT.sIx_nat];rcases afR k ds.length with h|h
 .rw[acY h,abn (by simp)]
 .rw[adv h,abC,ado h];simp
def RQ{ns:List Int}(Y:ns.length<=63):Wp (eX [.lst .scr 2.86]) (Sd 0):=by
 have hs:cutD 2.86 af (ac 63)=ns.map D.int:=by
  have:=Bf (ds:=ns.map D.int) (k:=63);rw[abn (by simpa using Y)]at this;exact this
 simp_arith[eX,sEx,bJ,dN,bW,cR,jb,lr,vD,mV,E_,gh,gLt,gGt,gGe,gIx,bA,bx,bz,xG,Fy,ul,gIs,Hs,atI,ixN,bT,gj,gSl,ug,jk,ux,rF,rG,oU,wz,hs,RT];cases ns with
 |nil=>exact⟨[7],0,rfl,by simp,by simp,by omega,by omega⟩
 |cons n r=>
  exact⟨n::r,0,rfl,by simp,Y,by omega,by omega⟩
def jL:List Str:=["b","aa","zebra","c","quartzes","ab","m","knows","d","mm","likes","z","a","ba","abcdefgh","y"]
def Ru:BW "b aa zebra c quartzes ab m knows d mm likes z a ba abcdefgh y" " "=ac jL:=by decide +kernel
def Zw:jL.Nodup:=by decide +kernel
def Nm(n:Int)(q:D×List D):Prop:=∃(ns:List Str)(d':D),q=(.lst .own 2.21,[d'])/\(∀x∈ns,x∈jL)/\ns.Nodup/\ns.length<=14/\Sd (n+4) d'
def QG(hd:Sd n d)(hn:n<900000):Wp (gV [d]) (Nm n):=by
 obtain⟨z,d1,V,a8,b1,a4⟩:=Bj hd 1.10 (show(0:Int)<5 by decide) (by decide);obtain⟨q,d2,f2,a9,b3,a7⟩:=Bj a4 1.10 (show(0:Int)<3 by decide) (by decide);obtain⟨U,d3,Z,b2,b0,a5⟩:=Bj a7 1.10 (show(0:Int)<8 by decide) (by decide);have Y:((jL.map D.str).length:Int)=16:=rfl;obtain⟨mn,a6,m1⟩:∃mn:Nat,gIx (D.lst Mk.own [D.int 4,D.int 5,D.int 6,D.int 7,D.int 8,D.int 6,D.int (10+z),D.int q]) (D.int U)=ac (.int (mn:Int))/\mn<=14:=by
  have:U=0∨U=1∨U=2∨U=3∨U=4∨U=5∨U=6∨U=7:=by omega
  rcases this with rfl|rfl|rfl|rfl|rfl|rfl|rfl|rfl
  .exact⟨4,rfl,by omega⟩
  .exact⟨5,rfl,by omega⟩
  .exact⟨6,rfl,by omega⟩
  .exact⟨7,rfl,by omega⟩
  .exact⟨8,rfl,by omega⟩
  .exact⟨6,rfl,by omega⟩
  .exact⟨(10+z).toNat,by rw[show(((10+z).toNat:Nat):Int)=10+z by omega];rfl,by omega⟩
  .exact⟨q.toNat,by rw[show((q.toNat:Nat):Int)=q by omega];rfl,by omega⟩
 have a0:∀{m r:Int}{d d':D},aC [d,.int m]=ac (.int r,[d',.int m])->eIo aC [0] (bF (aj (eC (.int m)) au)) [ac d,af,af,af]=ac (.int r,[ac d',af,af,af]):=λh=>by
  simp[eIo,objs,bF,aj,eC,au,h,fzL,fz,mK,aD,az,aF,aA]
 have F:=a0 V;have g2:=a0 f2;have O:=a0 Z;refine wK rfl ?_;refine mZ ⟨(.int mn,[ac d3,af,af,af]),?_,⟨rfl,rfl⟩,?_⟩
 .show ee2 _ _ _ [ac d,af,af,af]=_
  simp[ee2,mY,bQ,eUp,bF,eC,au,F,g2,O,bA,cR,a6,aD,az]
 refine gR 2.147 [ac d3,ac (.int mn),ac 2.147,af] (by simp[eMt,eC,aj,au,vU,Ru]) ⟨fB _,cY _⟩ ?_;refine tU rfl a5 1.10 (m:=16) (by simp[eAp,aj,au,ao,view,bz,fO];rfl) 1.10 1.10 λI d4 p4 q4 a2=>?_;obtain⟨k,rfl⟩:∃k:Nat,I=(k:Int):=⟨I.toNat,by omega⟩;have e5:((afS k 2.103++afT k 2.103).take mn)=((jL.drop k++jL.take k).take mn).map D.str:=by
  rw[acg,aat,adq,acg]
 have pm:(jL.drop k++jL.take k).Perm jL:=acE.trans (by rw[acC]);have a3:(afS k 2.103).length+(afT k 2.103).length<=1000000:=by
  rw[abB,aaD,Pr];show 16-k+min k 16<=1000000;omega
 refine wR (d:=.lst .own (((jL.drop k++jL.take k).take mn).map D.str)) ?_ ⟨fB _,cY _⟩ ⟨_,rfl,_,d4,rfl,λx J=>pm.subset (aaO J),(af2 _ _).nodup (pm.nodup_iff.mpr Zw),by rw[aaD];omega,by rw[show n+4=n+1+1+1+1 by omega];exact a2⟩;show eSl _ _ _ [ac d4,ac (.int mn),ac 2.147,ac 2.177]=_;have a1:cR (.lst .own (afS k 2.103)) (.lst .own (afT k 2.103))=ac (.lst .own (afS k 2.103++afT k 2.103)):=if_pos ⟨by decide,by decide,a3⟩;rw[←e5];simp[eSl,u9,e2,ao,eU,fW,view,fO,mkV,gSl,Bf,xq,a1]
def Ie:∀cs:List Int,iV 2.102=cs.map D.int
 |[]=>rfl
 |c::r=>by simp[iV,fzo,Ie r]
def Sd.le{m:Int}(h:Sd n d)(J:n<=m):Sd m d:=by
 obtain⟨cs,t,h1,h2,O,Z,V⟩:=h;exact⟨cs,t,h1,h2,O,Z,by omega⟩
def Sd.cl(h:Sd n d):aA d=ag/\az d=ag:=by
 obtain⟨cs,t,rfl,_⟩:=h;simp[aA,az,aF,aD,rF,rG]
def Jk(ns:List Str)(j:Jt):Prop:=(j.1∈ns/\j.2.1∈ns)/\j.2.2.natAbs<=10000000000000
def Jo(n:Int)(ns:List Str)(q:D×List D):Prop:=∃(js:List Jt)(d':D),q=(.lst .own 2.6,[d',.lst .frz 2.21])/\(∀j∈js,Jk ns j)/\js.length<=2*ns.length/\Sd (n+1000) d'
def JoI(n:Int)(N:D)(k:Nat)(acc:List D)(ρ:En):Prop:=∃(sp:List Int)(d':D),acc=sp.map D.int/\sp.length=k/\(∀x∈sp,x.natAbs<=10)/\Sd (n+k) d'/\ρ=[ac d',ac N,af,af,af,af,af,af,af,af,af]
def JoE(N:D)(sp:List Int)(js:List Jt)(d':D)(Z U V F z I O:Option D):En:=[ac d',ac N,ac 2.57,ac (D.lst Mk.own 2.6),Z,U,V,F,z,I,O]
def JoF(n:Int)(N:D)(ns:List Str)(sp:List Int)(k:Nat)(ρ:En):Prop:=∃(js:List Jt)(d':D)(Z U V F z I O:Option D),ρ=JoE N sp js d' Z U V F z I O/\(∀j∈js,Jk ns j)/\js.length=k/\Sd (n+30+8*k) d'
variable{j:Jt}
def Px{q:Jt}:List.set ((js++[j]).map jD) js.length (jD q)=(js++[q]).map jD:=by
 rw[←adO,acD _ _ (ZZ _),abL];rfl
def nQ{P:α->Prop}{l:List α}{x:α}(h:∀y∈l,P y)(J:P x):∀y∈l++[x],P y:=λy V=>(Ls.mp V).elim (h y) λz=>by rw[aab.mp z];exact J
def Rb(js:List Jt):view ae (D.lst .own 2.6)= .lst .brw (js.map jD):=by simp![view,Hr];rfl
def O2{N:D}{x4 x5 V F x8 x9 O:Option D}(hd:Sd n d)(hn:n<1000000)(h0:0<js.length)(Y:js.length<=1000)(I:∀j d',j∈js->Sd (n+1) d'->P (jD j,JoE N sp js d' x4 x5 V F x8 x9 O)) :
  Wp (ee2 gIx (eUp 2.230) (eIo aC [0] 2.210) (JoE N sp js d x4 x5 V F x8 x9 O)) P:=by
 have Z:=Rb js;have z:bz [.lst .brw 2.6]=ac (.int js.length):=by simp[bz]
 refine qG (w_up (d:=.lst .brw 2.6) (by simp[JoE,ao,Z]) (eG rfl hd hn (m:=js.length) (by simp[JoE,aj,eAp,au,ao,Z,z]) 1.10 1.10 λr d' p q s=>?_));obtain⟨j,U,_,J⟩:=BZ (f:=jD) (l:=js) p q;exact⟨by simp![az,uw];rfl,jD j,J,I j d' U s⟩
def Um{N:D}{q:Jt}{Z U V F z I O:Option D}:jg gj 3 (ig 3) 2.233 (jD q) (JoE N sp (js++[j]) d Z U V F z I O)=ac (JoE N sp (js++[q]) d Z U V F z I O):=by
 have hop:gj (.lst .own ((js++[j]).map jD)) [.int (-1),jD q]=ac (.lst .own ((js++[q]).map jD),.non):=by
  have J:ixN ((js++[j]).map jD).length (-1)=ac js.length:=by
   unfold ixN;rw[Pr,List.length_append,List.length_singleton];simp;omega
  simp![gj,J,aao];rw[Px]
 simp![JoE];generalize D.lst .own ((js++[j]).map jD)=A at hop⊢;have hq:aA (jD q)=ag/\az (jD q)=ag:=⟨rfl,rfl⟩;generalize jD q=Y at hop hq⊢;simp[jg,ig,e1,eC,gh,upS,fJ,dU,hop,aF,aD,hq,aA,az]
def Gk(hd:Sd n d)(hn:n<900000)(hl:ns.length<=14):Wp (dM [d,.lst .frz 2.21]) (Jo n ns):=by
 have a4:view ae (D.lst .frz 2.21)=D.lst .frz (ns.map D.str):=by simp![view,fO];rfl
 have b0:fj (D.lst .frz 2.21)=ac (ag,ns.map D.str):=by simp[fj,clean,aA,az,fB,cY,sr]
 have a9:bz [D.lst .frz 2.21]=ac (.int ns.length):=by simp[bz]
 have a8:∀(c:Nat)(O:c<ns.length),gIx 2.172 (.int (c:Int))=ac (.str ns[c]):=λc O=>by
  simp![gIx,atI,Pr,iW O,gD,List.getElem?_map,List.getElem?_eq_getElem O];rfl
 unfold Jo;generalize D.lst .frz 2.21=N at a4 b0 a9 a8⊢;refine wK rfl ?_;refine bZ (λρ=>∃(sp:List Int)(d':D),sp.length=ns.length/\(∀x∈sp,x.natAbs<=10)/\Sd (n+14) d'/\ρ=[ac d',ac N,ac 2.57,af,af,af,af,af,af,af,af]) (λQ q=>?_) ?_
 .refine kJ (Oj (items:=ns.map D.str) (by simp[itS,ao,en0,a4,b0]) (by rw[Pr];omega) (MT (JoI n N) ⟨[],d,rfl,rfl,by simp,by simpa using hd,rfl⟩ ?_ ?_))
  .rintro i x acc ρ hi ⟨sp,d2,rfl,a0,a1,s2,rfl⟩
   rw[List.getElem?_map]at hi;cases J:ns[i]? with
   |none=>simp[J]at hi
   |some y=>
    obtain rfl:D.str y=x:=by simpa[J]using hi
    have b9:=(List.getElem?_eq_some_iff.mp J).1;refine⟨_,Ay ⟨rfl,rfl⟩,ag,rfl,?_⟩;simp![aal];refine qG (eG rfl s2 1.10 rfl 1.10 1.10 λr3 d3 p3 q3 s3=>w_up rfl ⟨rfl,_,rfl,rfl,sp++[r3-9],d3,by simp,by simp[a0],nQ a1 1.10,s3.le (by push_cast;omega),rfl⟩)
  .rintro ys ρ ⟨sp,d2,rfl,a0,a1,s2,rfl⟩
   rw[Pr]at a0 s2;exact⟨_,Ay ⟨rF _,rG _⟩,q _ ⟨sp,d2,a0,a1,s2.le 1.10,rfl⟩⟩
 rintro _ ⟨sp,d2,a0,a1,s2,rfl⟩;refine bZ (λρ=>∃(sp:List Int)(d':D),sp.length=ns.length/\(∀x∈sp,x.natAbs<=1000000000000)/\Sd (n+15) d'/\ρ=[ac d',ac N,ac 2.57,af,af,af,af,af,af,af,af]) (λQ q=>?_) ?_
 .refine TX (qG (eG rfl s2 1.10 rfl 1.10 1.10 λr3 d3 p3 q3 s3=>w_up rfl ⟨rfl,_,eq_int,_,rfl,λ_=>?_,λ_=>⟨_,rfl,q _ ⟨sp,d3,a0,λx J=>by have:=a1 x J;omega,s3.le 1.10,rfl⟩⟩⟩))
  refine⟨_,Gy (d:=.lst .own ((sp.map λk=>k*50000000021).map D.int)) ?_ ⟨rF _,rG _⟩,q _ ⟨_,d3,by simpa using a0,λx J=>by obtain⟨y,V,rfl⟩:=List.mem_map.mp J;have:=a1 y V;omega,s3.le 1.10,rfl⟩⟩;have e6:gP (tpN 0) eTT (e2 lr 2.2 (eC (.int 50000000021))) [af] (sp.map D.int)=ac (((sp.map D.int).filter λ_=>ag).map λd=>match d with|.int k=>.int (k*50000000021)|_=>.non):=by
   refine gF λd hd=>?_;obtain⟨k,I,rfl⟩:=List.mem_map.mp hd;simp[tpN,aN,eTT,e2,ao,view,eC,lr]
  show bH _ _ _ _ _ [ac d3,ac N,ac 2.57,af,af,af,af,af,af,af,af]=_;have hs:itS 2.14 [ac d3,ac N,ac 2.57,af,af,af,af,af,af,af,af]=ac (clean (.lst .brw (sp.map D.int)),sp.map D.int):=by
   simp![itS,ao,Z6,Z7,view,oU,gD,fj,Ie];rfl
  simp![bH,hs,gD,Pr];rw[if_pos 1.10,show ∀l,fZ [af] l=[af]from λ_=>rfl,e6,filter_tt,Z5,Z5];rfl
 clear s2 a0 a1;rintro _ ⟨sp,d2,a0,a1,s2,rfl⟩;refine gR (.lst .own []) (JoE N sp [] d2 af af af af af af af) rfl ⟨rfl,rfl⟩ ?_;refine bZ (λρ=>∃k,k<=2*ns.length/\JoF n N ns sp k ρ) (λQ q=>?_) ?_
 .have hai:∀i j:Int,cR 2.72 (.int j)=ac (.int (i+j)):=λ_ _=>rfl
  refine Fq (JoF n N ns sp) rfl s2 1.10 (m:=2*ns.length+1) (by simp[JoE,aj,eAp,au,e2,ao,eC,a4,a9,lr,hai]) 1.10 1.10 (λd5 s5=>⟨[],d5,_,_,_,_,_,_,_,rfl,by simp,rfl,s5.le 1.10⟩) ?_ (λk ρ I h=>q _ ⟨k,by omega,h⟩);rintro k ρ I ⟨js,d6,x4,x5,x6,F,z,x9,a2,rfl,a3,a7,s6⟩;have b8:0<ns.length:=by omega
  have b4:∀{d':D}{x5 x6 F z x9 a2:Option D},aj 2.160 au (JoE N sp js d' 2.8 x5 x6 F z x9 a2)=ac [.int ns.length]:=by simp[JoE,aj,eAp,au,ao,a4,a9]
  refine bZ (λρ=>∃(a b:Nat)(d':D),a<ns.length/\b<ns.length/\Sd (n+30+8*k+2) d'/\ρ=JoE N sp js d' 2.8 2.98 2.99 F z x9 a2) (λQ q=>?_) ?_
  .refine Vi (oX (eG rfl s6 1.10 b4 1.10 1.10 λr7 d7 p7 q7 s7=>oX (eG rfl s7 1.10 b4 1.10 1.10 λr8 d8 p8 q8 s8=>⟨_,rfl,rfl,rfl,⟨rfl,rfl⟩,_,rfl,q _ ⟨r7.toNat,r8.toNat,d8,by omega,by omega,s8.le 1.10,?_⟩⟩)))
   rw[show((r7.toNat:Nat):Int)=r7 by omega,show((r8.toNat:Nat):Int)=r8 by omega];rfl
  rintro _ ⟨a,b,d7,Y,U,s7,rfl⟩;have b1:∀c:Nat,c<ns.length->∃y:Int,gIx (.lst .brw (sp.map D.int)) (.int (c:Int))=ac (.int y)/\y.natAbs<=1000000000000:=λc O=>by
   have:c<sp.length:=by omega
   refine⟨sp[c],?_,a1 _ (abh this)⟩;simp![gIx,atI,Pr,iW this,gD,List.getElem?_map,List.getElem?_eq_getElem this];rfl
  obtain⟨y1,g1,g3⟩:=b1 a Y;obtain⟨y2,g2,g4⟩:=b1 b U;have b7:view ae 2.57= .lst .brw (sp.map D.int):=by simp![view,oU];rfl
  have b3:∀i:Int,view ae 2.72= .int i:=λ_=>rfl;refine gR (.int (y2-y1)) (JoE N sp js d7 2.8 2.98 2.99 (ac (.int (y2-y1))) z x9 a2) (by simp[JoE,e2,ao,b7,b3,g1,g2,jb]) ⟨rfl,rfl⟩ ?_;refine bZ (λρ=>∃(st:Int)(d':D),st.natAbs<=10000000000000/\Sd (n+30+8*k+4) d'/\ρ=JoE N sp js d' 2.8 2.98 2.99 (ac (.int st)) z x9 a2) (λQ q=>?_) ?_
  .exact TX (qG (eG rfl s7 1.10 rfl 1.10 1.10 λr8 d8 p8 q8 s8=>w_up rfl ⟨rfl,_,eq_int,_,rfl,λ_=>kJ (qG (eG rfl s8 1.10 rfl 1.10 1.10 λr9 d9 p9 q9 s9=>w_up rfl ⟨rfl,_,rfl,_,rfl,q _ ⟨_,d9,by omega,s9.le 1.10,rfl⟩⟩)),λ_=>⟨_,rfl,q _ ⟨_,d8,by omega,s8.le 1.10,rfl⟩⟩⟩))
  clear s7 d7;rintro _ ⟨st,d7,b5,s7,rfl⟩;have b6:bT (.lst .own 2.6) [jD (ns[a],ns[b],st)]=ac (.lst .own ((js++[(ns[a],ns[b],st)]).map jD),.non):=by
   have:(js.map jD).length<1000000:=by rw[Pr];omega
   simp![bT];rw[if_pos this,aat];rfl
  refine vM (ρ':=JoE N sp (js++[(ns[a],ns[b],st)]) d7 2.8 2.98 2.99 (ac (.int st)) z x9 a2) (Ny rfl (es:=[jD (ns[a],ns[b],st)]) (by simp[JoE,aj,eAp,au,e2,ao,a4,b3,a8 a Y,a8 b U,bx,jD]) ⟨rfl,rfl⟩ b6) ?_;generalize b2:(ns[a],ns[b],st)=j1;have a5:Jk ns j1:=by subst b2;exact⟨⟨abh Y,abh U⟩,b5⟩
  refine tU rfl s7 1.10 rfl 1.10 1.10 λw d8 _ _ s8=>?_;refine bZ (λρ=>∃(j2:Jt)(d':D),Jk ns j2/\Sd (n+30+8*k+6) d'/\ρ=JoE N sp (js++[j2]) d' 2.8 2.98 2.99 (ac (.int st)) (ac (.int w)) x9 a2) (λQ q=>?_) ?_
  .by_cases Z:w=0
   .exact rM (by rw[wD rfl,aaB Z]) (kJ (O2 s8 1.10 (by simp) (by simp;omega) λj d9 hj s9=>⟨_,Um,q _ ⟨j,d9,nQ a3 a5 j hj,s9.le 1.10,rfl⟩⟩))
   .exact xn (by rw[wD rfl,aac Z]) ⟨_,rfl,q _ ⟨j1,d8,a5,s8.le 1.10,rfl⟩⟩
  clear s8 d8 a5 b2 j1;rintro _ ⟨j2,d8,a6,s8,rfl⟩;by_cases Z:w=1
  .refine rM (by rw[wD rfl,aaB Z]) (Qs (kJ (O2 s8 1.10 (by simp) (by simp;omega) λj d9 hj s9=>⟨JoE N sp (js++[j2]) d9 2.8 2.98 2.99 (ac (.int j.2.2)) (ac (.int w)) (ac (.str j.1)) (ac (.str j.2.1)),rfl,_,rfl,?_⟩)))
   have hs:bO (eAp bx 2.61) 2.194 (JoE N sp (js++[j2]) d9 2.8 2.98 2.99 (ac (.int j.2.2)) (ac (.int w)) (ac (.str j.1)) (ac (.str j.2.1)))=ac (.nx (JoE N sp (js++[(j.2.1,j.1,-j.2.2)]) d9 2.8 2.98 2.99 (ac (.int j.2.2)) (ac (.int w)) (ac (.str j.1)) (ac (.str j.2.1)))):=by
    unfold bO;rw[show eAp bx 2.61 (JoE N sp (js++[j2]) d9 2.8 2.98 2.99 (ac (.int j.2.2)) (ac (.int w)) (ac (.str j.1)) (ac (.str j.2.1)))=ac (jD (j.2.1,j.1,-j.2.2))from rfl,gD,Um];rfl
   have hm:=nQ a3 a6 j hj;exact⟨_,hs,_,rfl,_,d9,_,_,_,_,_,_,_,rfl,nQ a3 ⟨⟨hm.1.2,hm.1.1⟩,by have:=hm.2;simp only;omega⟩,by simp[a7],s9.le (by push_cast;omega)⟩
  .exact xn (by rw[wD rfl,aac Z]) ⟨_,rfl,_,rfl,js++[j2],d8,_,_,_,_,_,_,_,rfl,nQ a3 a6,by simp[a7],s8.le (by push_cast;omega)⟩
 rintro _ ⟨k,I,js,d6,x4,x5,x6,F,z,x9,a2,rfl,a3,a7,s6⟩;exact⟨_,rfl,_,rfl,js,d6,rfl,a3,by omega,s6.le 1.10⟩
def Tw(n:Int)(m:Mk)(ns:List Str)(q:D×List D):Prop:=∃(a b:Str)(d':D),q=(.tup [.str a,.str b],[d',.lst m 2.21])/\a∈ns++[("lone":Str)]/\b∈ns++[("lone":Str)]/\Sd (n+3) d'
variable{l:List Str}
def T6(U:ρ[0]? =ac (ac d))(hi:ρ[2]? =ac (ac 2.175))(hd:Sd n d)(hn:n<1000000)(O:0<l.length)(Y:l.length<=2000)(I:∀x d',x∈l->Sd (n+1) d'->P (.str x,ρ.set 0 (ac d'))) :
  Wp (ee2 gIx (eUp 2.14) (eIo aC [0] 2.168) ρ) P:=by
 have Z:ao ae 2 ρ=ac (.lst .brw 2.7):=by simp[ao,hi,view,fO,mkV]
 have z:bz [.lst .brw 2.7]=ac (.int l.length):=by simp[bz]
 refine qG (w_up Z (eG U hd hn (m:=l.length) (by simp[aj,eAp,au,Z,z]) 1.10 1.10 λr d' p q s=>?_));obtain⟨x,J,_,F⟩:=BZ (f:=D.str) (l:=l) p q;exact⟨by simp![az,cY];rfl,.str x,F,I x d' J s⟩
def Zb(hd:Sd n d)(hn:n<900000)(hl:ns.length<=1000):Wp (iH [d,.lst .frz 2.21]) (Tw n .frz ns):=by
 have a0:view ae (D.lst .frz 2.21)=D.lst .frz (ns.map D.str):=by simp![view,fO];rfl
 have q:cR 2.172 (.lst .own [.str "lone"])=ac (.lst .own ((ns++[("lone":Str)]).map D.str)):=by
  rw[aat];exact if_pos ⟨by decide,by decide,by simp;omega⟩
 unfold Tw;generalize D.lst .frz 2.21=N at a0 q⊢;have a2:(ns++[("lone":Str)]).length=ns.length+1:=by simp
 generalize ns++[("lone":Str)]=l at q a2⊢;refine wK rfl ?_;refine gR 2.175 [ac d,ac N,ac 2.175,af,af] (by simp[en0,e2,ao,a0,eAp,aj,eC,au,bA,q]) ⟨fB _,cY _⟩ ?_;refine mZ (T6 rfl rfl hd 1.10 1.10 1.10 λa d1 Y Z=>⟨⟨rfl,rfl⟩,mZ (T6 rfl rfl Z 1.10 1.10 1.10 λb d2 U I=>⟨⟨rfl,rfl⟩,?_⟩)⟩);obtain⟨r,F,f3,_,_,J⟩:=Bj I 1.10 (show(0:Int)<8 by decide) (by decide);have a1:eIo aC [0] 2.101 [ac d2,ac N,ac 2.175,ac 2.70,ac 2.71]=ac (.int r,[ac F,ac N,ac 2.175,ac 2.70,ac 2.71]):=by
  simp[eIo,objs,bF,aj,eC,au,f3,fzL,fz,mK,aD,az,aF,aA]
 obtain⟨z,y,c,hz,V,a3,O⟩:∃(z:Bool)(y:Int)(c:Str),gEq (.int r) (.int 0)=ac (.bl z)/\Fy [.bl z]=ac (.int y)/\c∈l/\gIx (.lst .own [.str b,.str a]) (.int y)=ac (.str c):=by
  rw[eq_int];by_cases h:r=0
  .exact⟨ag,1,a,by rw[aaB h],rfl,Y,rfl⟩
  .exact⟨ae,0,b,by rw[aac h],rfl,U,rfl⟩
 refine Qm ⟨(.tup [.str a,.str c],[ac F,ac N,ac 2.175,ac 2.70,ac 2.71]),?_,⟨rfl,rfl⟩,_,rfl,a,c,F,rfl,Y,a3,J.le 1.10⟩;show mY _ _ [ac d2,ac N,ac 2.175,ac 2.70,ac 2.71]=_;generalize D.lst .own 2.7=S at a1⊢;simp[mY,bQ,eUp,bF,ee2,eAp,aj,au,ao,eC,a1,view,bA,hz,az,aD,V,O,bx]
def Ue{a b:Bool}:gNe (.bl a) (.bl b)=ac (.bl (!(a==b))):=by
 unfold gNe;rw[if_pos ⟨rfl,rfl,.sc (.bl a b)⟩];simp[dt,eqD]
variable{a b:Str}
def ne_str:gNe 2.70 2.71=ac (.bl (!decide (a=b))):=by
 unfold gNe;rw[if_pos ⟨rfl,rfl,.sc (.str a b)⟩];simp![dt,eqD,adi,D.bl.injEq];rw[abe];simp
def eq_str:gEq 2.70 2.71=ac (.bl (decide (a=b))):=by
 unfold gEq;rw[if_pos ⟨rfl,rfl,.sc (.str a b)⟩];simp![dt,eqD,adi,D.bl.injEq];rw[abe];simp
def ne_int{i j:Int}:gNe 2.72 (.int j)=ac (.bl (!decide (i=j))):=by
 unfold gNe;rw[if_pos ⟨rfl,rfl,.sc (.int i j)⟩];simp[dt,eqD]
 try rfl
def yZ:∀l:List Str,j_ 2.7=ac (l.map aaf)
 |[]=>rfl
 |x::r=>by simp[j_,dm,yZ r]
def dS(l:List Str):Nat:=(xO (l.map aaf)).length
structure SS(S:D)(ss:List Str):Prop where
 f:fz S=S
 v:∀b,view b S=S
 b:aA S=ag
 o:az S=ag
 l:bz [S]=ac (.int ss.length)
 s:fj S=ac (ag,ss.map D.str)
 t:cD [S,.tup [.ty "list",.ty "tuple"]]=ac (.bl ag)
 i:∀x,gIn 2.89 S=ac (.bl (decide (x∈ss)))
 g:ux [S]=ac (.lst .own (ss.map D.str))/\jk [S]=ac (.tup (ss.map D.str))
def SS.lst(ns:List Str):SS 2.172 ns:=⟨by simp[fz,oJ,mkF],λb=>by cases b<;>simp[view,fO,mkV],by simp[aA,fB],by simp[az,cY],by simp[bz],by simp[fj,clean,aA,az,fB,cY,sr],rfl,λx=>by simp[gIn,pX,scV,jr,k_],⟨rfl,rfl⟩⟩
def SS.tup(ns:List Str):SS (.tup 2.21) ns:=⟨by simp[fz,oJ],λb=>by simp[view,fO],by simp[aA,fB],by simp[az,cY],by simp[bz],by simp[fj,clean,aA,az,fB,cY,sr],rfl,λx=>by simp[gIn,pX,scV,jr,k_],⟨rfl,rfl⟩⟩
def sgB(x:Str):Bool:=x.cps.toList.all λc=>yj ⟨#[c]⟩ "abcdefghijklmnopqrstuvwxyz"
def nmB(x:Str):Bool:=decide (1<=x.length)&&decide (x.length<=8)&&sgB x
def oM(f:α->Bool):∀ds:List α,Af (ds.map λd=>.bl (f d))=ac (ds.map f)
 |[]=>rfl
 |d::r=>by simp[Af,oM f r]
def X5(h:ρ[i]? =ac (ac 2.89))(Y:x.length<=1000):∃l,bH [af] (pR (ao ae i)) (tpN 0) eTT (e2 gIn 2.2 (eC (.str "abcdefghijklmnopqrstuvwxyz"))) ρ=ac (.lst .own l)/\lU [.lst .own l]=ac (.bl (sgB x)):=by
 have U:pR (ao ae i) ρ=ac (ag,x.cps.toList.map λc=>.str ⟨#[c]⟩):=by simp[pR,ao,h,view]
 have I:gP (tpN 0) eTT (e2 gIn 2.2 (eC (.str "abcdefghijklmnopqrstuvwxyz"))) (fZ [af] ρ) (x.cps.toList.map λc=>.str ⟨#[c]⟩)=ac (((x.cps.toList.map λc=>D.str ⟨#[c]⟩).filter λ_=>ag).map λd=>match d with|.str y=>.bl (yj y "abcdefghijklmnopqrstuvwxyz")|_=>.non):=by
  refine gF λd hd=>?_;obtain⟨c,_,rfl⟩:=List.mem_map.mp hd;simp[fZ,tpN,aN,eTT,e2,ao,eC,view,gIn,pX,clean,aA,az]
 have z:(x.cps.toList.map λc=>D.str ⟨#[c]⟩).length<=1000000:=by
  rw[Pr];have:x.cps.toList.length=x.length:=by simp[Str.length]
  omega
 have F:=oM (λc=>yj ⟨#[c]⟩ "abcdefghijklmnopqrstuvwxyz") x.cps.toList;refine⟨x.cps.toList.map λc=>.bl (yj ⟨#[c]⟩ "abcdefghijklmnopqrstuvwxyz"),?_,?_⟩
 .simp![bH,U,gD]
  rw[if_pos z,I,filter_tt,Z5];rfl
 .simp![lU,F,aao,sgB,acB,abR,id]
  rfl
def yc(Y:x.length<=1000):bz [.str x]=ac (.int x.length):=by
 have:x.length<=Z0:=aaC Y (by decide);simp[bz,this]
def RN:cD [.str x,.ty "str"]=ac (.bl ag):=rfl
def Od(Y:x.length<=1000):cX [.str x]=ac (.bl (nmB x)):=by
 have W:Wp (cX [.str x]) λd=>d= .bl (nmB x):=by
  simp_arith![cX,fnP];refine bZ (λρ=>ρ=[ac 2.89]) (λQ q=>?_) ?_
  .simp_arith[sEx,bJ,dN,bW,RN,truth]
   exact q _ rfl
  rintro _ rfl;by_cases h1:x.length<1
  .have h2:(x.length:Int)<1:=by omega
   simp_arith[sEx,bJ,dN,bW,yc Y,gLt,gGt,h2,nmB];omega
  .by_cases h3:8<x.length
   .have h2:¬(x.length:Int)<1:=by omega
    have Z:(8:Int)<x.length:=by omega
    simp_arith[sEx,bJ,dN,bW,yc Y,gLt,gGt,h2,Z,nmB];omega
   .have h2:¬(x.length:Int)<1:=by omega
    have Z:¬(8:Int)<x.length:=by omega
    obtain⟨l,V,z⟩:=X5 (ρ:=[ac 2.89]) (i:=0) rfl Y;generalize bH [af] (pR 2.2) (tpN 0) eTT (e2 gIn 2.2 (eC (.str "abcdefghijklmnopqrstuvwxyz")))=E at V⊢;simp_arith[sEx,bJ,dN,bW,yc Y,gLt,gGt,h2,Z,V,z,nmB];simp[show 1<=x.length by omega,show x.length<=8 by omega]
 obtain⟨_,e,rfl⟩:=W;exact e
variable{S:D}
def SM{z:List Str}(O:SS S z)(Y:z.length<=1000)(J:∀x∈z,x.length<=1000):cN [S]=ac (.bl (z.all nmB)):=by
 have V:∀x∈z,aZ cX [.str x]=ac (.bl (nmB x)):=λx h=>call_of (by simpa[fzL,fz]using Od (J x h)) rfl;have I:gP (tpN 0) eTT (eAp (aZ cX) 2.152) (fZ [af] [ac S]) (z.map D.str)=ac (((z.map D.str).filter λ_=>ag).map λd=>match d with|.str y=>.bl (nmB y)|_=>.non):=by
  refine gF λd hd=>?_;obtain⟨x,h,rfl⟩:=List.mem_map.mp hd;simp[fZ,tpN,aN,eTT,eAp,aj,au,ao,view,V x h,clean,aA,az]
 have F:=oM nmB z;have U:bH [af] 2.229 (tpN 0) eTT (eAp (aZ cX) 2.152) [ac S]=ac (.lst .own (z.map λx=>.bl (nmB x))):=by
  simp![bH,itS,ao,Z7,O.v,O.s,gD,Pr];rw[if_pos 1.10,I,filter_tt,Z5];rfl
 have Z:lU [.lst .own (z.map λx=>.bl (nmB x))]=ac (.bl (z.all nmB)):=by simp[lU,F,acB]
 have q:aZ cz [S]=ac (.bl ag):=call_of (by
  simp![fzL,O.f];simp[cz,fnP,en0,b7,eAp,aj,au,ao,eC,O.v,bx,O.t,aF,aD,aA,az,clean]) rfl
 have W:Wp (cN [S]) λd=>d= .bl (z.all nmB):=by
  simp_arith[cN,sEx,bJ,dN,bW,-bH,-aZ,O.v,q,truth,U,Z]
 obtain⟨_,e,rfl⟩:=W;exact e
def Fp:∀(l acc:List Key),(l.foldl lJ acc).length<=acc.length+l.length/\((l.foldl lJ acc).length=acc.length+l.length↔(∀x∈l,x∉acc)/\l.Nodup)
 |[],acc=>by simp
 |k::r,acc=>by
  rw[agj];by_cases h:k∈acc
  .have e:lJ acc k=acc:=by unfold lJ;rw[if_pos (rm.mpr h)]
   have:=Fp r acc;rw[e,Z4];refine⟨by omega,⟨λz=>by omega,λz=>absurd h (z.1 k (by simp))⟩⟩
  .have e:lJ acc k=acc++[k]:=by unfold lJ;rw[aag λz=>h (rm.mp z)]
   have:=Fp r (acc++[k]);rw[List.length_append,List.length_singleton]at this;rw[e,Z4];refine⟨by omega,?_⟩;rw[show acc.length+(r.length+1)=acc.length+1+r.length by omega,this.2,aah];constructor
   .rintro⟨h1,h2⟩
    exact⟨λx J=>(Z2.mp J).elim (λz=>z▸h) λz y=>h1 x z (ZV _ y),λz=>h1 k z (by simp),h2⟩
   .rintro⟨h1,h2,h3⟩
    refine⟨λx J y=>(Ls.mp y).elim (h1 x (aai _ J)) λz=>?_,h3⟩;rw[aab.mp z]at J;exact h2 J
def Zc:dS l=l.length↔l.Nodup:=by
 have:=(Fp (l.map aaf) []).2;simp![aan,abz,Pr,List.not_mem_nil,not_false_eq_true,implies_true,true_and]at this;unfold dS xO;rw[this];simp[List.Nodup,List.pairwise_map]
def ed(js:List Jt)(p:Pt):Option (Str×Str):=if 0<=p.1 then(js[p.1.toNat]?).map λj=>if p.2=1 then(j.1,j.2.1)else(j.2.1,j.1)else af
def go(js:List Jt):Str->List Pt->Option Str
 |x,[]=>ac x
 |x,p::r=>match ed js p with
  |some (b,e)=>if b=x then go js e r else af
  |none=>af
def st(js:List Jt)(b:Str):List Str->Str->List Pt->Bool
 |_,x,[]=>decide (x=b)
 |met,x,p::r=>match ed js p with
  |some (u,v)=>if u=x/\v∉met then st js b (met++[v]) v r else ae
  |none=>ae
def mt(js:List Jt)(ps:List Pt):List Str:=ps.map λp=>((ed js p).map (·.2)).getD ""
def Oc:∀{ps:List Pt}{met:List Str}{x:Str},met.Nodup->(st js b met x ps=ag↔go js x ps=ac b/\(met++mt js ps).Nodup)
 |[],met,x,h=>by simp[st,go,mt,h]
 |p::r,met,x,h=>by
  rw[st,go];cases V:ed js p with
  |none=>simp
  |some q=>
   obtain⟨u,v⟩:=q;have J:mt js (p::r)=v::mt js r:=by simp[mt,V]
   simp![];by_cases hu:u=x
   .by_cases hv:v∈met
    .have:¬(met++v::mt js r).Nodup:=λz=>(List.nodup_append.mp z).2.2 v hv v (by simp) rfl
     rw[aag (λz=>z.2 hv),J];simp[this]
    .rw[if_pos ⟨hu,hv⟩,if_pos hu,Oc (aaY.mpr ⟨h,by simp,λa Y b U=>by rw[aab.mp U];exact λe=>hv (e▸Y)⟩),J,abP]
     rfl
   .rw[aag (λz=>hu z.1),aag hu]
    simp
def Sd1(p:Pt):Prop:=p.2=1∨p.2= -1
variable{p:Pt}
def vp(z:0<=p.1)(h1:p.1<js.length):∃j,js[p.1.toNat]? =ac j/\ed js p=ac (if p.2=1 then(j.1,j.2.1)else(j.2.1,j.1)):=by
 have h2:p.1.toNat<js.length:=by omega
 exact⟨js[p.1.toNat],List.getElem?_eq_getElem h2,by rw[ed,if_pos z,List.getElem?_eq_getElem h2];rfl⟩
def zX(h:¬(0<=p.1/\p.1<js.length)):ed js p=af:=by
 unfold ed;split
 .rw[adC 1.10];rfl
 .rfl
def jix(q:JJ J js)(z:0<=p.1)(h1:p.1<js.length)(U:js[p.1.toNat]? =ac j):gIx J (.int p.1)=ac (jD j):=by
 obtain⟨x,_,h2,O⟩:=BZ (f:=jD) (l:=js) z h1;rw[U]at h2;cases h2;rw[q.x,O]
def K_{s:Int}:aZ dF [jD j,.int s]=ac (.tup [.str (if s=1 then(j.1,j.2.1)else(j.2.1,j.1)).1,.str (if s=1 then(j.1,j.2.1)else(j.2.1,j.1)).2]):=by
 refine call_of ?_ rfl;have W:Wp (dF (fzL [jD j,.int s])) λd=>d= .tup [.str (if s=1 then(j.1,j.2.1)else(j.2.1,j.1)).1,.str (if s=1 then(j.1,j.2.1)else(j.2.1,j.1)).2]:=by
  by_cases h:s=1
  .simp_arith[dF,sEx,bJ,dN,bW,jD,eq_int,h,bx]
  .simp_arith[dF,sEx,bJ,dN,bW,jD,eq_int,h,bx]
 obtain⟨_,e,rfl⟩:=W;exact e
def goD:Option Str->D
 |some y=>.str y
 |none=>.non
def LeI(J:D)(js:List Jt)(x:Str)(ps:List Pt)(k:Nat)(ρ:En):Prop:=∃(h:Str)(Z U V F:Option D),ρ=[ac J,ac 2.89,ac (pT ps),ac (.str h),Z,U,V,F]/\go js h (ps.drop k)=go js x ps
def XM(O:JJ J js):iu [J,.str x,pT ps]=ac (goD (go js x ps)):=by
 have W:Wp (iu [J,.str x,pT ps]) λd=>d=goD (go js x ps):=by
  have V:=iK ps;simp_arith![iu,fnP];refine bZ (LeI J js x ps 0) (λQ q=>?_) ?_
  .simp[bO,ao,view,tgN,clean,aA,az,cI,aQ,aN]
   exact q _ ⟨x,_,_,_,_,rfl,rfl⟩
  intro ρ0 z;refine nP (LeI J js x ps ps.length) (λd=>d=goD (go js x ps)) (λQ q hR=>?_) ?_ (λd ρ' h=>⟨d,rfl,h⟩)
  .have e1':itS 2.14 ρ0=ac (ag,ps.map ptD):=by
    obtain⟨h,Z,x5,x6,x7,rfl,_⟩:=z;simp![itS,ao,Z6,Z7,V.2.2.1,gD];simp[pT,fj,clean,aA,az,M5,Lf,IW]
   unfold ie;rw[e1'];simp![aQ,aN];refine iw (LeI J js x ps) z ?_ (λρ h=>q _ (by rwa[Pr]at h));rintro k d ρ I ⟨h,Z,x5,x6,x7,rfl,F⟩;rw[List.getElem?_map]at I;cases a0:ps[k]? with
   |none=>rw[a0]at I;cases I
   |some p=>
    rw[a0]at I;cases I;have Y:k<ps.length:=(List.getElem?_eq_some_iff.mp a0).1;have a3:ps.drop k=p::ps.drop (k+1):=by
     rw[←abo Y,(List.getElem?_eq_some_iff.mp a0).2]
    rw[a3,go]at F;simp![ptD,tgT,aP,tgN,cg,clean,aA,az,aF,aD,abS,and_self,aal,aQ,aN,aaF,aaQ,Z4,aan];by_cases U:0<=p.1/\p.1<js.length
    .obtain⟨j,hj1,hj2⟩:=vp U.1 U.2
     rw[hj2]at F;refine bZ (λρ=>ρ=[ac J,ac 2.89,ac (pT ps),ac (.str h),ac (.int p.1),ac (.int p.2),x6,x7]) (λQ q=>?_) ?_
     .simp[sIf,eOr,eB,e2,ao,eC,view,gLt,gGe,eAp,aj,au,O.v,O.l,isB,aQ,aN,cI,w_ite,cL,show ¬p.1<0 by omega,show ¬(js.length:Int)<=p.1 by omega]
      exact q _ rfl
     rintro _ rfl;have a4:=jix O U.1 U.2 hj1;have a2:=K_ (j:=j) (s:=p.2);generalize (if p.2=1 then(j.1,j.2.1)else(j.2.1,j.1))=uv at F a2;obtain⟨u,v⟩:=uv;refine bZ (λρ=>ρ=[ac J,ac 2.89,ac (pT ps),ac (.str h),ac (.int p.1),ac (.int p.2),ac (.str u),ac (.str v)]) (λQ q=>?_) ?_
     .simp_arith[sEx,bJ,dN,bW,-aZ,O.v,a4,a2]
      exact q _ rfl
     rintro _ rfl;by_cases hu:u=h
     .simp![if_pos hu]at F
      simp_arith[sEx,bJ,dN,bW,ne_str,hu];exact⟨v,_,_,_,_,rfl,F⟩
     .simp![aag hu]at F
      simp_arith[sEx,bJ,dN,bW,ne_str,hu];exact hR _ _ (by rw[←F];rfl)
    .rw[zX U]at F
     by_cases a1:p.1<0
     .simp[rC,sIf,b7,eOr,eB,e2,ao,eC,view,gLt,gGe,eAp,aj,au,O.v,O.l,isB,aQ,aN,cI,w_ite,cL,a1,clean,aA,az]
      exact hR _ _ (by rw[←F];rfl)
     .have h1':(js.length:Int)<=p.1:=by omega
      simp[rC,sIf,b7,eOr,eB,e2,ao,eC,view,gLt,gGe,eAp,aj,au,O.v,O.l,isB,aQ,aN,cI,w_ite,cL,a1,h1',clean,aA,az];exact hR _ _ (by rw[←F];rfl)
  rintro _ ⟨h,Z,x5,x6,x7,rfl,F⟩;rw[abC,go]at F;simp[jf,aN,←F,goD]
 obtain⟨_,e,rfl⟩:=W;exact e
def ne_ns:gNe .non 2.71=ac (.bl ag):=by
 unfold gNe;rw[if_pos ⟨rfl,rfl,.sc (.ns b)⟩];rfl
def ne_ni{b:Int}:gNe .non (.int b)=ac (.bl ag):=by
 unfold gNe;rw[if_pos ⟨rfl,rfl,.sc (.ni b)⟩];rfl
def Qq:∀{ps:List Pt}{x y:Str},go js x ps=ac y->∀p∈ps,0<=p.1/\p.1<js.length
 |[],_,_,_,p,hp=>by simp at hp
 |q::r,x,y,h,p,hp=>by
  rw[go]at h;by_cases U:0<=q.1/\q.1<js.length
  .obtain⟨j,_,h2⟩:=vp U.1 U.2
   generalize (if q.2=1 then(j.1,j.2.1)else(j.2.1,j.1))=uv at h2;obtain⟨u,v⟩:=uv;rw[h2]at h;simp![]at h;split at h
   .rcases Z2.mp hp with rfl|hp
    .exact U
    .exact Qq h p hp
   .cases h
  .rw[zX U]at h
   cases h
def W9(ps:List Pt):fj (pT ps)=ac (ag,ps.map ptD):=by simp[pT,fj,clean,aA,az,M5,Lf,IW]
def Xy(O:JJ J js):aZ iu [J,.str x,pT ps]=ac (goD (go js x ps)):=by
 have V:=iK ps;refine call_of ?_ (by cases go js x ps<;>rfl);simp![fzL,fz,O.f,V.2.2.2.1];exact XM O
def Yc(O:JJ J js)(Y:ps.length<=1000)(h:∀p∈ps,0<=p.1/\p.1<js.length):aZ eZ [J,pT ps]=ac (.lst .own ((mt js ps).map D.str)):=by
 have V:=iK ps;refine call_of ?_ (by
  have:∀l:List Str,bI 2.7=ag:=by
   intro l
   induction l with
   |nil=>rfl
   |cons p r F=>rw[ZX,bI,F];rfl
  simp[cQ,this])
 simp![fzL,O.f,V.2.2.2.1];have I:gP 2.27 eTT 2.153 (fZ [af,af,ac 0] [ac J,ac (pT ps)]) (ps.map ptD)=ac (((ps.map ptD).filter λ_=>ag).map λd=>match d with|.tup [.int i,.int s]=>.str (((ed js (i,s)).map (·.2)).getD "")|_=>.non):=by
  refine gF λd hd=>?_;obtain⟨p,a1,rfl⟩:=List.mem_map.mp hd;have U:=h p a1;obtain⟨j,z,a3⟩:=vp U.1 U.2;have q:=jix O U.1 U.2 z;have Z:=K_ (j:=j) (s:=p.2);have a0:ed js (p.1,p.2)=ac (if p.2=1 then(j.1,j.2.1)else(j.2.1,j.1)):=a3;generalize (if p.2=1 then(j.1,j.2.1)else(j.2.1,j.1))=uv at a0 Z;have a2:∀u v:Str,gIx (.tup [.str u,.str v]) (.int 1)=ac (.str v):=λu v=>rfl;simp[fZ,ptD,tpT,aP,tpN,cg,aN,aQ,w_ite,eTT,e2,ao,eC,eAp,aj,au,view,O.v,q,Z,a0,a2,clean,aA,az,aF,aD]
 have W:Wp (eZ [J,pT ps]) λd=>d= .lst .own ((mt js ps).map D.str):=by
  have e8:bH [af,af,ac 0] (itS 2.9) 2.27 eTT 2.153 [ac J,ac (pT ps)]=ac (.lst .own ((mt js ps).map D.str)):=by
   simp![bH,itS,ao,Z6,Z7,V.2.2.1,W9,gD,Pr];rw[if_pos 1.10,I,filter_tt,Z5,mt,Z5];rfl
  simp_arith![eZ,fnP];generalize bH [af,af,ac 0] (itS 2.9) 2.27 eTT 2.153=E at e8⊢;simp[b7,e8,aN,aQ,cI,w_ite,clean,aA,az,fB,cY]
 obtain⟨_,e,rfl⟩:=W;exact e
variable{i:Int}
def Ye:cD [.int i,.ty "int"]=ac (.bl ag)/\cD [.int i,.ty "bool"]=ac (.bl ae):=⟨rfl,rfl⟩
def ZL{l:List D}:cD [.tup l,.ty "tuple"]=ac (.bl ag):=rfl
def X_:aZ dh [.int i]=ac (.bl ag):=by
 refine call_of ?_ rfl;have W:Wp (dh (fzL [.int i])) λd=>d= .bl ag:=by
  simp_arith[dh,sEx,bJ,dN,bW,Ye,CG]
 obtain⟨_,e,rfl⟩:=W;exact e
def WR(h:Sd1 p):aZ cV [ptD p]=ac (.bl ag):=by
 refine call_of ?_ rfl;have O:aZ eY [ptD p]=ac (.bl ag):=by
  refine call_of ?_ rfl;have W:Wp (eY (fzL [ptD p])) λd=>d= .bl ag:=by
   simp_arith[eY,sEx,bJ,dN,bW,ptD,ZL,bz,eq_int]
  obtain⟨_,e,rfl⟩:=W;exact e
 have D:gIn (.int p.2) (.tup [.int 1,.int (-1)])=ac (.bl ag):=by
  rcases h with h|h<;>rw[h]<;>rfl
 have Z:fz (ptD p)=ptD p:=rfl;have F:view ae (ptD p)=ptD p:=rfl;have q:gIx (ptD p) (.int 0)=ac (.int p.1):=rfl;have z:gIx (ptD p) (.int 1)=ac (.int p.2):=rfl;have W:Wp (cV (fzL [ptD p])) λd=>d= .bl ag:=by
  simp_arith[cV,sEx,bJ,dN,bW,-aZ,Z,F,O,q,z,X_,bx,gh,D]
 obtain⟨_,e,rfl⟩:=W;exact e
def Xx(Y:ps.length<=1000)(h:∀p∈ps,Sd1 p):aZ gm [pT ps]=ac (.bl ag):=by
 have V:=iK ps;refine call_of ?_ rfl;simp![fzL,V.2.2.2.1];have I:gP (tpN 0) eTT 2.234 (fZ [af] [ac (pT ps)]) (ps.map ptD)=ac (((ps.map ptD).filter λ_=>ag).map λd=>.bl ag):=by
  refine gF λd hd=>?_;obtain⟨p,z,rfl⟩:=List.mem_map.mp hd;have Z:view ae (ptD p)=ptD p:=rfl;have D:aA (ptD p)=ag/\az (ptD p)=ag:=⟨rfl,rfl⟩;simp[fZ,tpN,aN,eTT,eAp,aj,au,ao,Z,D,WR (h p z),clean]
 have W:Wp (gm [pT ps]) λd=>d= .bl ag:=by
  have U:bH [af] 2.229 (tpN 0) eTT 2.234 [ac (pT ps)]=ac (.lst .own (ps.map λ_=>.bl ag)):=by
   simp![bH,itS,ao,Z6,Z7,V.2.2.1,W9,gD,Pr];rw[if_pos 1.10,I,filter_tt,Z5];rfl
  have F:lU [.lst .own (ps.map λ_=>.bl ag)]=ac (.bl ag):=by
   have:=oM (λ_:Pt=>ag) ps;simp[lU,this,acB]
  have q:cD [pT ps,.ty "tuple"]=ac (.bl ag):=rfl;simp_arith![gm,fnP];generalize bH [af] 2.229 (tpN 0) eTT 2.234=E at U⊢;simp_arith[sEx,bJ,dN,bW,U,F,V.2.2.1,q]
 obtain⟨_,e,rfl⟩:=W;exact e
def Zk(Y:l.length<=1000):aZ dI [.lst .own 2.7]=ac (.bl (decide l.Nodup)):=by
 refine call_of ?_ rfl;have q:fz 2.175= .lst .frz (l.map D.str):=by simp[fz,oJ,mkF]
 have I:lH [.lst .frz 2.7]=ac (.int (dS l)):=by simp[lH,yZ,dS];omega
 have O:=SS.lst l;simp![fzL,q];have W:Wp (dI [.lst .frz 2.7]) λd=>d= .bl (decide l.Nodup):=by
  have:(decide ((dS l:Int)=(l.length:Int)))=decide l.Nodup:=by
   rw[abe,abF,abF,←Zc];omega
  generalize D.lst .frz 2.7=S at I O⊢;simp_arith[dI,sEx,bJ,dN,bW,O.v,I,O.l,eq_int,this]
 obtain⟨_,e,rfl⟩:=W;exact e
def Ks(O:JJ J js)(Y:ps.length<=900)(h:∀p∈ps,Sd1 p):aZ dw [J,.str a,.str b,pT ps]=ac (.bl (st js b [a] a ps)):=by
 have V:=iK ps;refine call_of ?_ rfl;simp![fzL,fz,O.f,V.2.2.2.1];have W:Wp (dw [J,.str a,.str b,pT ps]) λd=>d= .bl (st js b [a] a ps):=by
  have Z:=Xx (ps:=ps) 1.10 h;have U:=Xy (x:=a) (ps:=ps) O;have I:=Oc (js:=js) (b:=b) (ps:=ps) (met:=[a]) (x:=a) (by simp);simp_arith![dw,fnP];by_cases F:go js a ps=ac b
  .have hm:=Yc O 1.10 (Qq F)
   refine bZ (λρ=>ρ=[ac J,ac 2.70,ac 2.71,ac (pT ps)]) (λQ q=>?_) ?_
   .simp_arith[sEx,bJ,dN,bW,-aZ,O.v,V.2.2.1,Z,truth,U,F,goD,ne_str]
    exact q _ rfl
   rintro _ rfl;have hu:=Zk (l:=a::mt js ps) (by simp[mt];omega);have a0:st js b [a] a ps=decide (a::mt js ps).Nodup:=by
    rw[abe,I,abF];exact⟨λz=>z.2,λz=>⟨F,z⟩⟩
   rw[a0];rw[ZX]at hu;simp![b7,eAp,aj,au,e2,ao,Z6,Z7,view,O.v,V.2.2.1,hm,gD,bA,cR];simp[aN,aQ,cI,w_ite,aF,aD,aA,az,fB,cY,hu,clean];intro z;simp[mt]at z;omega
  .have a0:st js b [a] a ps=ae:=by
    rw[acw];exact λz=>F (I.mp z).1
   rw[a0];cases a1:go js a ps with
   |none=>
    simp_arith[sEx,bJ,dN,bW,-aZ,O.v,V.2.2.1,Z,truth,U,a1,goD,ne_ns]
   |some y=>
    have a2:¬y=b:=λz=>F (by rw[a1,z]);simp_arith[sEx,bJ,dN,bW,-aZ,O.v,V.2.2.1,Z,truth,U,a1,goD,ne_str,a2]
 obtain⟨_,e,rfl⟩:=W;exact e
structure LL(P:D)(L:List (List Str)):Prop where
 f:fz P=P
 v:∀b,view b P=P
 l:bz [P]=ac 2.211
 s:∃ds,fj P=ac (ag,ds)/\ds.length=L.length/\∀(i:Nat)(d:D),ds[i]? =ac d->∃l,L[i]? =ac l/\SS d l
 t:cD [P,.tup [.ty "list",.ty "tuple"]]=ac (.bl ag)
def lvL(m:Mk)(l:List Str):D:=.lst m 2.7
def lvT(l:List Str):D:=.tup 2.7
variable{L:List (List Str)}
def iZ{g:List Str->D}(P:D->Prop)(h:∀l,P (g l)):∀d∈L.map g,P d:=λd hd=>by
 obtain⟨l,_,rfl⟩:=List.mem_map.mp hd;exact h l
def LL.lst(L:List 2.10):LL (.lst .frz 2.176) L:=by
 have h1:fzL 2.176=L.map (lvL .frz):=by rw[gq,Z5];exact aak λl _=>(SS.lst l).f
 have h2:∀b,dW b 2.176=L.map (lvL .frz):=λb=>by rw[fP,Z5];exact aak λl _=>(SS.lst l).v b
 have O:aF 2.176=ag:=cF (iZ _ λl=>(SS.lst l).b);have Z:aD 2.176=ag:=cG (iZ _ λl=>(SS.lst l).o);have V:iV 2.176=L.map (lvL .frz):=by rw[iT,Z5];exact aak λl _=>by simp[lvL,fzo,sr,mkO]
 exact⟨by simp[fz,h1,mkF],λb=>by cases b<;>simp[view,h2,mkV],by simp[bz],⟨L.map 2.35,by simp[fj,clean,aA,az,O,Z,V],by simp,λi d e=>by
  rw[List.getElem?_map]at e;cases h:L[i]? with
  |none=>rw[h]at e;cases e
  |some l=>rw[h]at e;cases e;exact⟨l,rfl,SS.lst l⟩⟩,rfl⟩
def LL.tup(L:List 2.10):LL (.tup 2.77) L:=by
 have h1:fzL 2.77=L.map lvT:=by rw[gq,Z5];exact aak λl _=>(SS.tup l).f
 have h2:∀b,dW b 2.77=L.map lvT:=λb=>by rw[fP,Z5];exact aak λl _=>(SS.tup l).v b
 have O:aF 2.77=ag:=cF (iZ _ λl=>(SS.tup l).b);have Z:aD 2.77=ag:=cG (iZ _ λl=>(SS.tup l).o);have V:iV 2.77=L.map lvT:=by rw[iT,Z5];exact aak λl _=>by simp[lvT,fzo,sr]
 exact⟨by simp[fz,h1],λb=>by simp[view,h2],by simp[bz],⟨L.map lvT,by simp[fj,clean,aA,az,O,Z,V],by simp,λi d e=>by
  rw[List.getElem?_map]at e;cases h:L[i]? with
  |none=>rw[h]at e;cases e
  |some l=>rw[h]at e;cases e;exact⟨l,rfl,SS.tup l⟩⟩,rfl⟩
def fpD(m:Mk)(us:List (Str×Nat)):D:=.dct m ((us.map (·.1)).map aaf) (us.map λu=>.int (u.2:Int))
def QX(us:List (Str×Nat)):aA 2.68=ag/\az 2.68=ag/\view ae 2.68=fpD .brw us/\cQ 2.68=ag:=by
 have h1:∀l:List (Str×Nat),aF (l.map λu=>D.int (u.2:Int))=ag/\aD (l.map λu=>D.int (u.2:Int))=ag/\dW ae (l.map λu=>D.int (u.2:Int))=(l.map λu=>D.int (u.2:Int))/\bI (l.map λu=>D.int (u.2:Int))=ag:=by
  intro l
  induction l with
  |nil=>exact⟨rfl,rfl,rfl,rfl⟩
  |cons a r F=>simp[aF,aD,dW,bI,aA,az,view,cQ,F]
 simp[fpD,aA,az,view,cQ,h1,mkV]
variable{us:List (Str×Nat)}
def TJ(h:x∈us.map (·.1)):∃i n,c7 ((us.map (·.1)).map aaf) (aaf x)=ac i/\us[i]? =ac (x,n):=by
 obtain⟨i,h1,h2,O⟩:=lY h;rw[List.getElem?_map]at h2;cases hu:us[i]? with
 |none=>rw[hu]at h2;cases h2
 |some u=>
  have:u.1=x:=by simpa[hu]using h2
  subst this;exact⟨i,u.2,h1,hu⟩
def O4(h:x∉us.map (·.1)):c7 ((us.map (·.1)).map aaf) (aaf x:Key)=af:=by
 unfold c7;rw[aay];intro y V;obtain⟨z,hz,rfl⟩:=List.mem_map.mp V;exact aac λe=>h (by cases e;exact hz)
def Vx(Y:us.length<1000000):∃r,uq 2.68 [.str x,.int k]=ac (fpD .own (if x∈us.map (·.1)then us else us++[(x,k)]),r):=by
 by_cases h:x∈us.map (·.1)
 .obtain⟨i,n,h1,h2⟩:=TJ h
  refine⟨.int n,?_⟩;simp![uq,fpD,dm,gD,Pr,Y,aal,h1,List.getElem?_map,h2,aao,if_pos h]
 .refine⟨.int k,?_⟩
  simp![uq,fpD,dm,gD,Pr,Y,aal,O4 h,aag h,aat,ZX,aax]
def fi(L:List 2.10)(x:Str):Option Nat:=L.findIdx? λl=>decide (x∈l)
def R8:fi (L++[l]) x=(fi L x).or (if x∈l then ac L.length else af):=by
 unfold fi;rw[afm];congr 1;by_cases h:x∈l<;>simp[ac5,h]
def FpI(P:D)(L:List 2.10)(k:Nat)(ρ:En):Prop:=∃(us:List (Str×Nat))(q z Z:Option D),ρ=[ac P,ac 2.68,q,z,Z]/\(us.map (·.1)).Nodup/\∀x n,(x,n)∈us↔fi 2.212 x=ac n
def FpJ(P d:D)(L:List 2.10)(l:List Str)(k i:Nat)(ρ:En):Prop:=∃(us:List (Str×Nat))(Z:Option D),ρ=[ac P,ac 2.68,ac 2.177,ac d,Z]/\(us.map (·.1)).Nodup/\∀x n,(x,n)∈us↔(fi 2.212 x).or (if x∈l.take i then ac k else af)=ac n
variable{P:D}
def Mj(hP:LL P L)(hn:∀l∈L,∀x∈l,x∈ns)(b4:ns.length<=1000):∃us,bY [P]=ac 2.68/\(us.map (·.1)).Nodup/\∀x n,(x,n)∈us↔fi L x=ac n:=by
 have a9:∀{L':List 2.10},(∀l∈L',l∈L)->∀{x n},fi L' x=ac n->x∈ns:=λ{L'} a6 {x n} h=>by
  obtain⟨hl,I,_⟩:=aas.mp h;exact hn _ (a6 _ (abh hl)) x (by simpa using I)
 have W:Wp (bY [P]) λd=>∃us,d=fpD .own us/\(us.map (·.1)).Nodup/\∀x n,(x,n)∈us↔fi L x=ac n:=by
  simp_arith![bY,fnP];refine bZ (FpI P L 0) (λQ q=>?_) ?_
  .simp[bO,eAp,au,uE,tgN,clean,cI,aQ,aN,w_ite,aA,az,aF,aD]
   exact q _ ⟨[],_,_,_,rfl,by simp,by simp[fi]⟩
  rintro _ ⟨us,x2,x3,x4,rfl,a0,F⟩;obtain⟨ds,hs,b0,b1⟩:=hP.s;refine bZ (FpI P L L.length) (λQ q=>?_) ?_
  .have e1':itE 2.152 [ac P,ac 2.68,x2,x3,x4]=ac (ag,lL 0 ds):=by simp[itE,ao,aj,au,hP.v,hs]
   unfold ie;rw[e1'];simp![aQ,aN];refine iw (FpI P L) ⟨us,_,_,_,rfl,a0,F⟩ ?_ (λρ h=>q _ (by rwa[lD,b0]at h));rintro k d ρ I ⟨us,x2,x3,x4,rfl,a0,F⟩;rw[lg]at I;cases a3:ds[k]? with
   |none=>rw[a3]at I;cases I
   |some d0=>
    rw[a3]at I;have I:D.tup [.int ((0+k:Nat):Int),d0]=d:=by simpa using I
    subst I;obtain⟨l,J,O⟩:=b1 k d0 a3;have a8:=aau J;simp![tgT,aP,cg,tgN,aF,aD,clean,aA,az,O.b,O.o,abS,and_self,aal,aQ,aN,aaF,aaQ,Z4,aan,abz];have a7:itS 2.230 [ac P,ac 2.68,ac 2.177,ac d0,x4]=ac (ag,l.map D.str):=by simp[itS,ao,O.v,O.s]
    unfold sFz g8;simp![Z6,Z7,O.f,gD,aaF,aaQ];rw[a7];simp![aQ,aN];refine iw (FpJ P d0 L l k) ⟨us,_,rfl,a0,by simpa using F⟩ ?_ ?_
    .rintro i x ρ hi ⟨us,x4,rfl,a0,F⟩
     rw[List.getElem?_map]at hi;cases a2:l[i]? with
     |none=>rw[a2]at hi;cases hi
     |some y=>
      rw[a2]at hi;cases hi;have b5:us.length<=ns.length:=by
       have:=qJ a0 (ns:=ns) λz hz=>by
        obtain⟨u,hu,rfl⟩:=List.mem_map.mp hz;have h1:=(F u.1 u.2).mp hu;cases h2:fi 2.212 u.1 with
        |some n=>exact a9 (λl h=>aaO h) h2
        |none=>
         rw[h2,ags]at h1;split at h1
         .exact hn l a8 _ (aaO ‹_›)
         .cases h1
       simpa using this
      obtain⟨r,Z⟩:=Vx (us:=us) (x:=y) (k:=k) 1.10;have b2:=QX (if y∈us.map (·.1)then us else us++[(y,k)]);simp[pq,zQ,ig,aj,au,ao,view,upS,fJ,dU,Z,tgN,clean,aF,aD,aA,az,cI,aQ,aN,w_ite];refine⟨_,_,rfl,?_,λx n=>?_⟩
      .split
       .exact a0
       .rw[aat,aaY]
        exact⟨a0,by simp,λa Y b U=>by simp at U;rw[U];exact λe=>‹¬_› (e▸Y)⟩
      .have htk:l.take (i+1)=l.take i++[y]:=by rw[acu,a2];rfl
       have a4:y∈us.map (·.1)↔(fi 2.212 y).isSome=ag∨y∈l.take i:=by
        constructor
        .intro h
         obtain⟨u,hu,rfl⟩:=List.mem_map.mp h;have h1:=(F u.1 u.2).mp hu;cases h2:fi 2.212 u.1 with
         |some n=>exact .inl rfl
         |none=>
          rw[h2,ags]at h1;split at h1
          .exact .inr ‹_›
          .cases h1
        .rintro(h|h)
         .obtain⟨n,h2⟩:=abI.mp h
          exact aa3.mpr ⟨_,(F y n).mpr (by rw[h2];rfl),rfl⟩
         .cases h2:fi 2.212 y with
          |some n=>exact aa3.mpr ⟨_,(F y n).mpr (by rw[h2];rfl),rfl⟩
          |none=>exact aa3.mpr ⟨_,(F y k).mpr (by rw[h2,if_pos h];rfl),rfl⟩
       rw[htk];by_cases V:y∈us.map (·.1)
       .rw[if_pos V,F]
        by_cases a1:x=y
        .subst a1
         rcases a4.mp V with h|h
         .obtain⟨n',h2⟩:=abI.mp h
          rw[h2];rfl
         .rw[if_pos h,if_pos (ZV _ h)]
        .simp[a1]
       .rw[aag V,Ls,F]
        have a5:fi 2.212 y=af/\y∉l.take i:=by
         refine⟨?_,λz=>V (a4.mpr 2.42)⟩;cases h2:fi 2.212 y with
         |none=>rfl
         |some n=>exact absurd (a4.mpr (.inl (by rw[h2];rfl))) V
        by_cases a1:x=y
        .subst a1
         simp[a5.1,a5.2];exact eq_comm
        .simp[a1]
    .rintro ρ ⟨us,x4,rfl,a0,F⟩
     rw[Pr,acK]at F;refine⟨us,_,_,_,rfl,a0,λx n=>?_⟩;have b3:k<L.length:=(List.getElem?_eq_some_iff.mp J).1;rw[acu,J,Option.toList_some,R8,aaD,acY 1.10];exact F x n
  rintro _ ⟨us,x2,x3,x4,rfl,a0,F⟩;rw[acK]at F;simp[jf,aN];exact⟨us,rfl,a0,F⟩
 obtain⟨_,e,us,rfl,h1,h2⟩:=W;exact⟨us,e,h1,h2⟩
def plv(L:List 2.10)(x:Str):Int:=((fi L x).getD L.length:Nat)
def kE(L:List 2.10)(j:Jt):Bool:=decide ((plv L j.1-plv L j.2.1).natAbs<=1)
def jZ(js:List Jt)(a b:Str)(ps:List Pt)(L:List 2.10):Bool:=st js b [a] a ps&&(decide (L.length=ps.length)&&L.all λl=>l.all nmB)&&(!(fi L b).isSome&&(decide (L.length=0)||decide (fi L a=ac 0)))&&js.all (kE L)
section
variable{us:List (Str×Nat)}{L:List (List Str)}(hu:(us.map (·.1)).Nodup)(hs:∀x n,(x,n)∈us↔fi L x=ac n)
def Fd{us:List (Str×Nat)}{L:List 2.10}(hs:∀x n,(x,n)∈us↔fi L x=ac n){x:Str}:x∈us.map (·.1)↔(fi L x).isSome=ag:=by
 constructor
 .intro h
  obtain⟨u,h1,rfl⟩:=List.mem_map.mp h;rw[(hs u.1 u.2).mp h1];rfl
 .intro h
  obtain⟨n,h1⟩:=abI.mp h;exact aa3.mpr ⟨_,(hs x n).mpr h1,rfl⟩
def Yi{us:List (Str×Nat)}{L:List 2.10}(hs:∀x n,(x,n)∈us↔fi L x=ac n){m:Mk}{x:Str}:gIn 2.89 (fpD m us)=ac (.bl (fi L x).isSome):=by
 simp![gIn,pX,fpD,dm,aao,kI];congr 2;rw[abe,abF];exact Fd hs
def Gu{us:List (Str×Nat)}{L:List 2.10}(hs:∀x n,(x,n)∈us↔fi L x=ac n){m:Mk}(J:m≠.scr){x:Str}{d:Nat}:ik (fpD m us) [.str x,.int d]=ac (.int ((fi L x).getD d:Nat))/\∀n,fi L x=ac n->ik (fpD m us) [.str x]=ac (.int n):=by
 by_cases h:x∈us.map (·.1)
 .obtain⟨i,n,h1,h2⟩:=TJ h
  have O:=(hs x n).mp (aau h2);refine⟨?_,λq Z=>?_⟩
  .simp![ik,fpD,dm,gD,aag J,h1,List.getElem?_map,h2,aao,O,acL]
  .rw[O]at Z
   cases Z;simp![ik,fpD,dm,gD,aag J,h1,List.getElem?_map,h2,aao]
 .have O:fi L x=af:=by
   cases e:fi L x with
   |none=>rfl
   |some n=>exact absurd ((Fd hs).mpr (by rw[e];rfl)) h
  refine⟨?_,λq Z=>by rw[O]at Z;cases Z⟩;simp![ik,fpD,dm,gD,aag J,O4 h,O,aez]
end
def RP(hs:∀x n,(x,n)∈us↔fi L x=ac n)(J:m≠.scr)(h:fi L x=af):ik (fpD m us) [.str x]=ac .non:=by
 have q:x∉us.map (·.1):=λz=>by rw[Fd hs,h]at z;cases z
 simp![ik,fpD,dm,gD,aag J,O4 q]
def Mw(hs:∀x n,(x,n)∈us↔fi L x=ac n)(O:JJ J js)(F:js.length<=1000)(z:ρ[0]? =ac (ac J))(V:ρ[5]? =ac (ac 2.211))(q:ρ[6]? =ac (ac 2.68)) :
  ∃l,bH [af,af,af,ac 5,ac 6] 2.229 2.43 eTT 2.151 ρ=ac (.lst .own l)/\lU [.lst .own l]=ac (.bl (js.all (kE L))):=by
 have I:gP 2.43 eTT 2.151 (fZ [af,af,af,ac 5,ac 6] ρ) 2.6=ac (((js.map jD).filter λ_=>ag).map λd=>match d with|.tup [.str x,.str y,_]=>.bl (kE L (x,y,0))|_=>.non):=by
  refine gF λd hd=>?_;obtain⟨j,U,rfl⟩:=List.mem_map.mp hd;have g1:=(Gu hs (m:=.brw) (by decide) (x:=j.1) (d:=L.length)).1;have Y:=(Gu hs (m:=.brw) (by decide) (x:=j.2.1) (d:=L.length)).1;have Z:=(QX us).2.2.1;simp[fZ,V,q,jD,tpT,aP,tpN,cg,aN,aQ,w_ite,eTT,e2,eAp,aj,au,eMt,eC,ao,view,Z,g1,Y,jb,xG,gLe,clean,aA,az,aF,aD];simp![kE,plv];congr 1;exact propext ⟨λh=>by split at h<;>omega,λh=>by split<;>omega⟩
 have e7:=oM (kE L) js;refine⟨js.map λj=>.bl (kE L j),?_,?_⟩
 .simp![bH,itS,ao,z,O.v,O.s,gD,Pr]
  rw[if_pos 1.10,I,filter_tt,Z5];rfl
 .simp[lU,e7,acB]
variable{E:En->Option D}
def vf(I:LL P L)(Y:L.length<=1000){i:Nat}{f:List Str->D}(Z:ρ[i]? =ac (ac P))(J:∀d l,l∈L->SS d l->E ((fZ cap ρ).set 0 (ac d))=ac (f l)) :
  bH cap (itS (ao ae i)) (tpN 0) eTT E ρ=ac (.lst .own (L.map f)):=by
 obtain⟨ds,hs,a0,V⟩:=I.s;have q:∀(ds:List D)(z:List 2.10),ds.length=z.length->(∀(i:Nat)(d:D),ds[i]? =ac d->∃l,z[i]? =ac l/\SS d l)->(∀l∈z,l∈L)->gP (tpN 0) eTT E 2.94 ds=ac (z.map f):=by
  intro ds
  induction ds with
  |nil=>intro L h _ _;cases L with
   |nil=>rfl
   |cons _ _=>simp at h
  |cons d r F=>
   intro L h h1 h2;cases L with
   |nil=>simp at h
   |cons l t=>
    obtain⟨l',e,O⟩:=h1 0 d rfl;have e:l=l':=by simpa using e
    subst e;have U:=F t (by simpa using h) (λi d e=>by simpa using h1 (i+1) d (by simpa using e)) λl Y=>h2 l (by simp[Y]);simp![gP,tpN,eTT,gD,aal,J d l (h2 l (by simp)) O,U,aao,ZX]
 simp![bH,itS,ao,Z,I.v,hs,gD];rw[if_pos 1.10,q ds L a0 V λ_ h=>h];rfl
def GP{f:List Str->Bool}(L:List 2.10):lU [.lst .own (L.map λl=>.bl (f l))]=ac (.bl (L.all f))/\O8 [.lst .own (L.map λl=>.bl (f l))]=ac (.bl (L.any f)):=by
 simp[lU,O8,oM f L,acB,afO]
def yt{G:List D->Option D}(q:∀d l,SS d l->l.length<=1000->(∀x∈l,x.length<=1000)->G [d]=ac (.bl (l.all nmB)))(I:LL P L)(Y:L.length<=1000)(J:∀l∈L,l.length<=1000/\∀x∈l,x.length<=1000)(Z:ρ[4]? =ac (ac P)) :
  bH [af] (itS 2.4) (tpN 0) eTT (eAp G 2.152) ρ=ac (.lst .own (L.map λl=>.bl (l.all nmB))):=vf I Y Z λd l z O=>by
 simp[fZ,eAp,aj,au,ao,O.v,q d l O (J l z).1 (J l z).2,clean,O.b,O.o,aA,az]
def P_(hJ:JJ J js)(I:LL P L)(Y:L.length<=1000)(hx:∀l∈L,l.length<=1000/\∀x∈l,x.length<=1000)(hn:∀l∈L,∀x∈l,x∈ns)(a3:ns.length<=1000)(F:js.length<=1000)(a4:ps.length<=900)(a5:∀p∈ps,Sd1 p) :
  bV [J,.str a,.str b,pT ps,P]=ac (.bl 2.142):=by
 have V:=iK ps;have Z:=Ks (a:=a) (b:=b) hJ a4 a5;obtain⟨us,q1,q2,q3⟩:=Mj I hn a3;have a2:aZ bY [P]=ac (fpD .own us):=call_of (by simpa[fzL,I.f]using q1) (QX us).2.2.2;have a0:aZ cz [P]=ac (.bl ag):=call_of (by
  simp![fzL,I.f];simp[cz,fnP,en0,b7,eAp,aj,au,ao,eC,I.v,bx,I.t,aF,aD,aA,az,clean]) rfl
 have a1:bz [pT ps]=ac (.int ps.length):=by simp[pT,bz]
 have U:=QX us;have W:Wp (bV [J,.str a,.str b,pT ps,P]) λd=>d= .bl (jZ js a b ps L):=by
  simp_arith![bV,fnP];generalize aZ dw=GW at Z⊢;generalize aZ bY=GF at a2⊢;generalize aZ cz=GL at a0⊢;cases h1:st js b [a] a ps with
  |false=>
   rw[h1]at Z;simp_arith[sEx,bJ,dN,bW,hJ.v,V.2.2.1,Z,truth,jZ,h1]
  |true=>
   rw[h1]at Z;refine bZ (λρ=>ρ=[ac J,ac 2.70,ac 2.71,ac (pT ps),ac P,af,af]) (λQ q=>?_) ?_
   .simp_arith[sEx,bJ,dN,bW,hJ.v,V.2.2.1,Z,truth]
    exact q _ rfl
   rintro _ rfl;have o1:=yt (G:=aZ cN) (λd l hS g1 g2=>call_of (by simp![fzL,hS.f];exact SM hS g1 g2) rfl) I Y hx (ρ:=[ac J,ac 2.70,ac 2.71,ac (pT ps),ac P,af,af]) rfl;have o2:=(GP (f:=λl=>l.all nmB) L).1;generalize D.lst .own (L.map λl=>.bl (l.all nmB))=l at o1 o2;generalize bH [af] (itS 2.4) (tpN 0) eTT (eAp (aZ cN) 2.152)=E at o1⊢;by_cases h2:L.length=ps.length
   .have h2':(L.length:Int)=ps.length:=by omega
    cases O:L.all λl=>l.all nmB with
    |false=>
     rw[O]at o2;simp_arith[sEx,bJ,dN,bW,I.v,a0,I.l,V.2.2.1,a1,ne_int,h2',o1,o2,truth,jZ,O]
    |true=>
     rw[O]at o2;refine bZ (λρ=>ρ=[ac J,ac 2.70,ac 2.71,ac (pT ps),ac P,af,af]) (λQ q=>?_) ?_
     .simp_arith[sEx,bJ,dN,bW,I.v,a0,I.l,V.2.2.1,a1,ne_int,h2',o1,o2,truth]
      exact q _ rfl
     rintro _ rfl;refine bZ (λρ=>ρ=[ac J,ac 2.70,ac 2.71,ac (pT ps),ac P,ac 2.211,af]) (λQ q=>?_) ?_
     .simp_arith[sEx,bJ,dN,bW,I.v,I.l]
      exact q _ rfl
     rintro _ rfl;refine bZ (λρ=>ρ=[ac J,ac 2.70,ac 2.71,ac (pT ps),ac P,ac 2.211,ac 2.68]) (λQ q=>?_) ?_
     .simp_arith[sEx,bJ,dN,bW,I.v,a2,U]
      exact q _ rfl
     rintro _ rfl;obtain⟨l2,o3,o4⟩:=Mw q3 hJ F (ρ:=[ac J,ac 2.70,ac 2.71,ac (pT ps),ac P,ac 2.211,ac 2.68]) rfl rfl rfl;generalize bH [af,af,af,ac 5,ac 6] 2.229 2.43 eTT 2.151=E2 at o3⊢;have gb:=Yi q3 (m:=.brw) (x:=b);cases h4:(fi L b).isSome with
     |true=>
      rw[h4]at gb;simp_arith[sEx,bJ,dN,bW,U,gb,truth,jZ,h4]
     |false=>
      rw[h4]at gb;have a6:jZ js a b ps L=((decide (L.length=0)||decide (fi L a=ac 0))&&js.all (kE L)):=by
       simp![jZ,h1,O,h4,aaB h2];simp
      rw[a6];by_cases h5:L.length=0
      .have h5':¬(0:Int)<L.length:=by omega
       generalize (L.length:Int)=Li at h5' o3⊢;simp_arith[sEx,bJ,dN,bW,U,gb,gGt,h5',o3,o4];intro _;exact .inl (aeK.mp h5)
      .have h5':(0:Int)<L.length:=by omega
       rcases(show fi L a=af∨∃n,fi L a=ac n from by cases fi L a<;>simp)with h7|⟨n,h7⟩
       .have ga:ik (fpD .brw us) [.str a]=ac .non:=RP q3 (by decide) h7
        have hz:(decide (L.length=0)||decide (fi L a=ac 0))=ae:=by simp[h5,h7]
        rw[hz,aeY];generalize (L.length:Int)=Li at h5' o3⊢;simp_arith[sEx,bJ,dN,bW,U,gb,gGt,h5',ga,ne_ni]
       .have ga:=(Gu q3 (m:=.brw) (by decide) (x:=a) (d:=0)).2 n h7
        by_cases h8:n=0
        .subst h8
         have ga:ik (fpD .brw us) [.str a]=ac (.int 0):=ga;simp_arith[sEx,bJ,dN,bW,U,gb,gGt,h5',ga,ne_int,o3,o4];simp[h7]
        .have h8':¬(n:Int)=0:=by omega
         have hz:(decide (L.length=0)||decide (fi L a=ac 0))=ae:=by simp[h5,h7,h8]
         rw[hz,aeY];generalize (L.length:Int)=Li at h5' o3⊢;simp_arith[sEx,bJ,dN,bW,U,gb,gGt,h5',ga,ne_int,h8'];exact λz=>absurd z h8
   .have h2':¬(L.length:Int)=ps.length:=by omega
    simp_arith[sEx,bJ,dN,bW,I.v,a0,I.l,V.2.2.1,a1,ne_int,h2',truth,jZ,h2]
 obtain⟨_,e,rfl⟩:=W;exact e
def Qv(h:t∈adj js js.length y):ed js (t.1,t.2.1)=ac (y,t.2.2)/\Sd1 (t.1,t.2.1):=by
 obtain⟨n,j,_,h2,O⟩:=(rB js y js.length).mp h;rcases O with⟨rfl,rfl⟩|⟨rfl,rfl⟩
 .exact⟨by simp[ed,h2],.inl rfl⟩
 .exact⟨by simp[ed,h2],.inr rfl⟩
def W_(h:ed js p=ac (x,y))(hs:Sd1 p):(p.1,p.2,y)∈adj js js.length x:=by
 unfold ed at h;split at h
 .rename_i h0
  cases U:js[p.1.toNat]? with
  |none=>rw[U]at h;cases h
  |some j=>
   rw[U]at h;have Y:=(List.getElem?_eq_some_iff.mp U).1;have e:((p.1.toNat:Nat):Int)=p.1:=by omega
   refine(rB js x js.length).mpr ⟨p.1.toNat,j,Y,U,?_⟩;rcases hs with z|z
   .have h:(j.1,j.2.1)=(x,y):=by simpa[z]using h
    cases h;exact .inl ⟨rfl,by rw[e,z]⟩
   .have h:(j.2.1,j.1)=(x,y):=by simpa[z]using h
    cases h;exact .inr ⟨rfl,by rw[e,z]⟩
 .cases h
def Lk:∀{ps qs:List Pt}{x:Str},go js x (ps++qs)=(go js x ps).bind λy=>go js y qs
 |[],qs,x=>rfl
 |p::r,qs,x=>by
  rw[aaj,go,go];cases ed js p with
  |none=>rfl
  |some D=>
   obtain⟨b,e⟩:=D;simp![];split
   .exact Lk
   .rfl
def Vc(h:ed js p=ac (x,y)):go js x [p]=ac y:=by rw[go,h];simp[go]
def T3(w:Wk2 2.1 h ps y):go js h ps=ac y/\∀p∈ps,Sd1 p:=by
 induction w with
 |nil=>exact⟨rfl,by simp⟩
 |snoc w U F=>
  obtain⟨h1,h2⟩:=Qv U;exact⟨by rw[Lk,F.1];exact Vc h1,λp V=>(Ls.mp V).elim (F.2 p) λz=>by rw[aab.mp z];exact h2⟩
def KR{js:List Jt}{h:Str}:∀{qs ps:List Pt}{x y:Str},Wk2 2.1 h ps x->go js x qs=ac y->(∀q∈qs,Sd1 q)->Wk2 2.1 h (ps++qs) y
 |[],ps,x,y,w,e,_=>by rw[go]at e;cases e;simpa using w
 |q::r,ps,x,y,w,e,hs=>by
  rw[go]at e;cases V:ed js q with
  |none=>rw[V]at e;cases e
  |some D=>
   obtain⟨b,v⟩:=D;rw[V]at e;simp![]at e;split at e
   .rename_i hb
    subst hb;have:=KR (w.snoc (W_ V (hs q (by simp)))) e λz hz=>hs z (by simp[hz]);rw[show ps++q::r=(ps++[q])++r by simp];exact this
   .cases e
variable{qs:List Pt}
def Tz(e:go js h qs=ac y)(hs:∀q∈qs,Sd1 q):Wk2 2.1 h qs y:=by
 have:=KR (.nil (ad:=adj js js.length) (h:=h)) e hs;simpa using this
variable{us:List Uw}
def Lst.le(h:Lst 2.1 a us)(hn:(ky us).Nodup)(V:(y,ps)∈us)(e:go js a qs=ac y)(hs:∀q∈qs,Sd1 q):ps.length<=qs.length:=by
 obtain⟨u,hu,rfl,U⟩:=h.2 qs y (Tz e hs);rw[Ab hn V hu];exact U
def Lst.has(h:Lst 2.1 a us)(e:go js a qs=ac y)(hs:∀q∈qs,Sd1 q):y∈ky us:=by
 obtain⟨u,hu,rfl,U⟩:=h.2 qs y (Tz e hs);exact aa3.mpr ⟨u,hu,rfl⟩
def jW(us:List Uw)(k:Nat)(x:Str):Bool:=us.any λu=>decide (u.1=x)&&decide (u.2.length=k)
def Jh:jW us k x=ag↔∃ps,(x,ps)∈us/\ps.length=k:=by
 unfold jW;rw[abD];constructor
 .rintro⟨u,h1,h2⟩
  simp at h2;exact⟨u.2,by rw[←h2.1];exact h1,h2.2⟩
 .rintro⟨ps,h1,h2⟩
  exact⟨_,h1,by simp[h2]⟩
def Le(hn:(ky us).Nodup)(h:(x,ps)∈us):jW us k x=decide (ps.length=k):=by
 rw[abe,Jh,abF];exact⟨λ⟨qs,h1,h2⟩=>by rw[Ab hn h h1];exact h2,λz=>⟨ps,h,z⟩⟩
def lev(us:List Uw)(m:Nat):List (List Str):=(aaG m).map λk=>Ba ((ky us).filter (jW us k))
def lvc(z:List 2.10):aA 2.25=ag/\az 2.25=ag/\cQ 2.25=ag/\view ae 2.25= .lst .brw (z.map (lvL .brw)):=by
 have O:aF (z.map 2.162)=ag:=cF (iZ _ λl=>by simp[lvL,aA,fB]);have Z:aD (z.map 2.162)=ag:=cG (iZ _ λl=>by simp[lvL,az,cY]);have q:∀l:List Str,bI 2.7=ag:=by
  intro l
  induction l with
  |nil=>rfl
  |cons p r F=>rw[ZX,bI,F];rfl
 have V:bI (z.map 2.162)=ag:=by
  induction z with
  |nil=>rfl
  |cons l r F=>rw[ZX,bI,F (cF (iZ _ λl=>by simp[lvL,aA,fB])) (cG (iZ _ λl=>by simp[lvL,az,cY]))];simp[lvL,cQ,q]
 have h2:dW ae (z.map 2.162)=z.map (lvL .brw):=by rw[fP,Z5];exact aak λl _=>by simp[lvL,view,fO,mkV]
 exact⟨by simp[aA,O],by simp[az,Z],by simp[cQ,V],by simp[view,h2,mkV]⟩
def plT(ps:List Pt):plD (pT ps)=ag:=by
 have:∀l:List Pt,uM 2.133=ag:=by
  intro l
  induction l with
  |nil=>rfl
  |cons p r F=>rw[ZX,uM,F];rfl
 simp[pT,plD,this]
def ZR(us:List Uw):uM (us.map λu=>pT u.2)=ag:=by
 induction us with
 |nil=>rfl
 |cons u r F=>rw[ZX,uM,F,plT];rfl
def T5:∀l:List Str,uM 2.7=ag
 |[]=>rfl
 |_::r=>by rw[ZX,uM,T5 r];rfl
def zm(ps:List Pt):bz [pT ps]=ac (.int ps.length):=by simp[pT,bz]
def U6(hn:(ky us).Nodup)(Y:us.length<=60)(k:Nat):lZ 1 [af,ac 0,ac 1] (tpN 0) 2.150 2.2 [ac 2.177,ac (wM .frz us)]=ac (.lst .own (((ky us).filter (jW us k)).map D.str)):=by
 have U:((us.map (·.1)).map aaf).map kD=(ky us).map D.str:=by rw[Z5];rfl
 have q:bH [af,ac 0,ac 1] (λ_=>ac (ae,((us.map (·.1)).map aaf).map kD)) (tpN 0) 2.150 2.2 (([ac 2.177,ac (wM .frz us)].map qb).set 1 (ac (wM .scr us)))=ac (.lst .own (((ky us).filter (jW us k)).map D.str)):=by
  have I:gP (tpN 0) 2.150 2.2 [af,ac 2.177,ac (wM .scr us)] ((ky us).map D.str)=ac ((((ky us).map D.str).filter λd=>match d with|.str x=>jW us k x|_=>ae).map id):=by
   refine gF λd hd=>?_;obtain⟨x,J,rfl⟩:=List.mem_map.mp hd;obtain⟨ps,h1,h2⟩:=K6 (m:=.scr) J;have O:decide ((ps.length:Int)=(k:Int))=jW us k x:=by
    rw[Le hn h1];congr 1;exact propext ⟨λh=>by omega,λh=>by omega⟩
   have z:=(iK ps).2.2.1;simp[tpN,aN,eB,e2,ao,eAp,aj,au,view,Ub,h2,zm,eq_int,isB,aF,aD,aA,az,clean,(iK ps).2.1];exact O
  simp![bH,U,gD,Pr];rw[if_pos (by rw[jN];omega)];have F:fZ [af,ac 0,ac 1] (([ac 2.177,ac (wM .frz us)].map qb).set 1 (ac (wM .scr us)))=[af,ac 2.177,ac (wM .scr us)]:=by simp[fZ,qb,plD]
  rw[F,I,List.map_id,agk];rfl
 unfold lZ;simp![Z6,Z7,wM,ZR,aal];simp![wM]at q;rw[q];simp![T5,aal]
def Cr:∀l:List Str,strsOf 2.7=ac l
 |[]=>rfl
 |x::r=>by simp[strsOf,Cr r]
def Su{m:Nat}:(lev us m).length=m:=by simp[lev]
def LnI(S:D)(z:List Str)(k:Nat)(ρ:En):Prop:=∃x1,ρ=[ac S,x1]/\(z.take k).all nmB=ag
def N6{ss:List Str}(O:SS S ss)(J:∀x∈ss,x.length<=1000):bN [S]=ac (.bl (ss.all nmB)):=by
 have W:Wp (bN [S]) λd=>d= .bl (ss.all nmB):=by
  simp_arith![bN,fnP];refine bZ (λρ=>ρ=[ac S,af]) (λQ q=>?_) ?_
  .simp_arith[sEx,bJ,dN,bW,O.v,bx,O.t,truth]
   exact q _ rfl
  rintro _ rfl;refine nP (LnI S ss ss.length) (λd=>d= .bl (ss.all nmB)) (λQ q Z=>?_) ?_ (λd ρ' h=>⟨d,rfl,h⟩)
  .have e1':itS 2.2 [ac S,af]=ac (ag,ss.map D.str):=by simp[itS,ao,O.v,O.s]
   unfold ie;rw[e1'];simp![aQ,aN];refine iw (LnI S ss) ⟨_,rfl,by simp⟩ ?_ (λρ h=>q _ (by rwa[Pr]at h));rintro k d ρ I ⟨x1,rfl,Y⟩;rw[List.getElem?_map]at I;cases F:ss[k]? with
   |none=>rw[F]at I;cases I
   |some x=>
    rw[F]at I;cases I;have a1:=aau F;have hl:=J x a1;have a0:nmB x=ae->ss.all nmB=ae:=λz=>by
     rw[List.all_eq_false];exact⟨x,a1,by simp[z]⟩
    simp![tgN,clean,aA,az,abS,aal,aQ,aN,aaF,aaQ];obtain⟨l,V,h6⟩:=X5 (ρ:=[ac S,ac 2.89]) (i:=1) rfl hl;by_cases h1:(1:Int)<=x.length/\(x.length:Int)<=8
    .refine bZ (λρ=>ρ=[ac S,ac 2.89]) (λQ q=>?_) ?_
     .simp_arith[sEx,bJ,dN,bW,RN,truth,j9,yc hl,gLe,h1.1,h1.2]
      exact⟨rfl,q _ rfl⟩
     rintro _ rfl;generalize bH [af] (pR 2.9) (tpN 0) eTT (e2 gIn 2.2 (eC (.str "abcdefghijklmnopqrstuvwxyz")))=E at V⊢;simp_arith[sEx,bJ,dN,bW,V,h6,truth];have U:nmB x=sgB x:=by simp[nmB,show 1<=x.length by omega,show x.length<=8 by omega]
     cases h8:sgB x with
     |true=>exact⟨_,rfl,by rw[List.take_succ,F,List.all_append,Y];simp[U,h8]⟩
     |false=>exact Z _ _ (by rw[a0 (by rw[U,h8])])
    .have U:nmB x=ae:=by
      simp![nmB,Bool.and_eq_false_iff,decide_eq_false_iff_not];omega
     by_cases h9:(1:Int)<=x.length
     .have h10:¬(x.length:Int)<=8:=by omega
      simp_arith[sEx,bJ,dN,bW,RN,truth,j9,yc hl,gLe,h9,h10];exact⟨rfl,Z _ _ (by rw[a0 U])⟩
     .simp_arith[sEx,bJ,dN,bW,RN,truth,j9,yc hl,gLe,h9]
      exact⟨rfl,Z _ _ (by rw[a0 U])⟩
  rintro _ ⟨x1,rfl,h⟩;rw[acK]at h;simp_arith[sEx,bJ,dN,bW,h]
 obtain⟨_,e,rfl⟩:=W;exact e
def Tf:aZ cA [.int i]=ac (.bl ag):=by
 refine call_of ?_ rfl;have W:Wp (cA (fzL [.int i])) λd=>d= .bl ag:=by
  simp_arith[cA,sEx,bJ,dN,bW,Ye,CG]
 obtain⟨_,e,rfl⟩:=W;exact e
def Bg{pre:List Str}:gIx (.lst m ((pre++[x]).map D.str)) (.int (-1))=ac (.str x):=by
 have U:ixN ((pre++[x]).map D.str).length (-1)=ac pre.length:=by
  unfold ixN;rw[Pr,List.length_append,List.length_singleton];simp;omega
 simp![gIx,atI,U,gD];rw[aat,aa8 (by simp)];simp
def Yx:gIn 2.89 (.lst m 2.7)=ac (.bl (decide (x∈l))):=by simp[gIn,pX,scV,jr,k_]
def LsE(J:D)(a b:Str)(ps:List Pt)(met:List Str)(U V F:Option D):En:=[ac J,ac 2.70,ac 2.71,ac (pT ps),ac (.lst .own (met.map D.str)),U,V,F]
def LsI(J:D)(js:List Jt)(a b:Str)(ps:List Pt)(k:Nat)(ρ:En):Prop:=∃(pre:List Str)(x:Str)(U V F:Option D),ρ=LsE J a b ps (pre++[x]) U V F/\pre.length<=k/\st js b (pre++[x]) x (ps.drop k)=st js b [a] a ps
def GZ(O:JJ J js)(Y:ps.length<=900)(h:∀p∈ps,Sd1 p):bB [J,.str a,.str b,pT ps]=ac (.bl (st js b [a] a ps)):=by
 have W:Wp (bB [J,.str a,.str b,pT ps]) λd=>d= .bl (st js b [a] a ps):=by
  have V:=iK ps;simp_arith![bB,fnP];have b6:cD [pT ps,.ty "tuple"]=ac (.bl ag):=rfl;refine bZ (λρ=>ρ=[ac J,ac 2.70,ac 2.71,ac (pT ps),af,af,af,af]) (λQ q=>?_) ?_
  .simp_arith[sEx,bJ,dN,bW,V.2.2.1,b6,truth]
   exact q _ rfl
  rintro _ rfl;refine bZ (LsI J js a b ps 0) (λQ q=>?_) ?_
  .simp_arith[sEx,bJ,dN,bW,bA]
   exact q _ ⟨[],a,_,_,_,rfl,ZZ _,rfl⟩
  intro ρ0 h0;refine nP (LsI J js a b ps ps.length) (λd=>d= .bl (st js b [a] a ps)) (λQ q hR=>?_) ?_ (λd ρ' h=>⟨d,rfl,h⟩)
  .have e1':itS 2.230 ρ0=ac (ag,ps.map ptD):=by
    obtain⟨pre,x,x5,x6,x7,rfl,_⟩:=h0;simp![LsE,itS,ao,Z6,Z7,V.2.2.1,gD,W9]
   unfold ie;rw[e1'];simp![aQ,aN];refine iw (LsI J js a b ps) h0 ?_ (λρ h=>q _ (by rwa[Pr]at h));rintro k d ρ I ⟨pre,x,x5,x6,x7,rfl,b8,F⟩;rw[List.getElem?_map]at I;cases a3:ps[k]? with
   |none=>rw[a3]at I;cases I
   |some p=>
    rw[a3]at I;cases I;have b1:k<ps.length:=(List.getElem?_eq_some_iff.mp a3).1;have a8:Sd1 p:=h p (aau a3);have b0:ps.drop k=p::ps.drop (k+1):=by
     rw[←abo b1,(List.getElem?_eq_some_iff.mp a3).2]
    rw[b0,st]at F;have Z:view ae (ptD p)=ptD p:=rfl;have i0:gIx (ptD p) (.int 0)=ac (.int p.1):=rfl;have i1:gIx (ptD p) (.int 1)=ac (.int p.2):=rfl;have a7:aA (ptD p)=ag/\az (ptD p)=ag:=⟨rfl,rfl⟩;have b5:cD [ptD p,.ty "tuple"]=ac (.bl ag):=rfl;have b2:bz [ptD p]=ac (.int 2):=rfl;have b3:di (.int p.2) (.tup [.int 1,.int (-1)])=ac (.bl ae):=by
     rcases a8 with z|z<;>rw[z]<;>rfl
    simp![tgN,clean,a7.1,a7.2,abS,aal,aQ,aN,LsE,aaF,aaQ];refine bZ (λρ=>ρ=LsE J a b ps (pre++[x]) (ac (ptD p)) x6 x7) (λQ q=>?_) ?_
    .obtain⟨M,hM⟩:∃M,M=D.lst .own ((pre++[x]).map D.str):=⟨_,rfl⟩
     simp![LsE]at q;rw[←hM]at q⊢;simp_arith[sEx,bJ,dN,bW,-aZ,Z,b5,b2,i0,i1,Tf,truth,ne_int];exact q _ rfl
    rintro _ rfl;by_cases U:0<=p.1/\p.1<js.length
    .obtain⟨j,hj1,hj2⟩:=vp U.1 U.2
     rw[hj2]at F;refine bZ (λρ=>ρ=LsE J a b ps (pre++[x]) (ac (ptD p)) x6 x7) (λQ q=>?_) ?_
     .obtain⟨M,hM⟩:∃M,M=D.lst .own ((pre++[x]).map D.str):=⟨_,rfl⟩
      simp![LsE]at q⊢;rw[←hM]at q⊢;simp_arith[sEx,bJ,dN,bW,Z,i0,i1,O.v,O.l,j9,gLe,gLt,U.1,U.2,bx,gh,b3];exact⟨rfl,q _ rfl⟩
     rintro _ rfl;have b4:=jix O U.1 U.2 hj1;have a9:ug (.tup [.str j.1,.str j.2.1]) (.int p.2)=ac (.tup [.str (if p.2=1 then(j.1,j.2.1)else(j.2.1,j.1)).1,.str (if p.2=1 then(j.1,j.2.1)else(j.2.1,j.1)).2]):=by
      rcases a8 with z|z<;>rw[z]<;>rfl
     generalize (if p.2=1 then(j.1,j.2.1)else(j.2.1,j.1))=uv at F a9;obtain⟨u,v⟩:=uv;refine bZ (λρ=>ρ=LsE J a b ps (pre++[x]) (ac (ptD p)) (ac (.str u)) (ac (.str v))) (λQ q=>?_) ?_
     .obtain⟨M,hM⟩:∃M,M=D.lst .own ((pre++[x]).map D.str):=⟨_,rfl⟩
      simp![LsE]at q⊢;rw[←hM]at q⊢;simp_arith[sEx,bJ,dN,bW,Z,i0,i1,O.v,b4,Xj,a9];exact q _ rfl
     rintro _ rfl;have a2:=Bg (m:=.brw) (pre:=pre) (x:=x);have a6:=Yx (m:=.brw) (l:=pre++[x]) (x:=v);have a4:view ae (.lst .own ((pre++[x]).map D.str))= .lst .brw ((pre++[x]).map D.str):=by simp![view,fO];rfl
     by_cases hu:u=x/\v∉pre++[x]
     .simp![if_pos hu]at F
      refine bZ (λρ=>ρ=LsE J a b ps (pre++[x]) (ac (ptD p)) (ac (.str u)) (ac (.str v))) (λQ q=>?_) ?_
      .obtain⟨M,hM⟩:∃M,M=D.lst .own ((pre++[x]).map D.str):=⟨_,rfl⟩
       have a1:view ae M= .lst .brw ((pre++[x]).map D.str):=by rw[hM];exact a4
       simp![LsE]at q⊢;rw[←hM]at q⊢;simp![sIf,cL,eOr,eB,e2,e1,eC,gh,ao,Z6,Z7,view,a1,a2,a6,ne_str,isB,gD,aQ,aN,aaB hu.1,aac hu.2,aek,aa9,ab2];exact q _ rfl
      rintro _ rfl;simp_arith[sEx,bJ,dN,bW,LsE,bT];exact⟨by omega,pre++[x],v,ac (ptD p),ac (.str u),ac (.str v),by simp[LsE],by simp;omega,F⟩
     .simp![aag hu]at F
      rw[rC];have a0:∀ρ',Q (.ret (.bl ae) ρ'):=λρ'=>hR _ _ (by rw[←F]);obtain⟨M,hM⟩:∃M,M=D.lst .own ((pre++[x]).map D.str):=⟨_,rfl⟩;have a1:view ae M= .lst .brw ((pre++[x]).map D.str):=by rw[hM];exact a4
      simp![LsE];rw[←hM];by_cases a5:u=x
      .have hv:v∈pre++[x]:=af4.mp λz=>hu ⟨a5,z⟩
       simp![sIf,cL,b7,eOr,eB,e2,e1,eC,gh,ao,Z6,Z7,view,a1,a2,a6,ne_str,isB,gD,aQ,aN,aaB a5,aaB hv,aek,aa9,ab2,aal,clean,aA,az,abS,cI];exact a0 _
      .simp![sIf,cL,b7,eOr,eB,e2,e1,eC,gh,ao,Z6,Z7,view,a1,a2,a6,ne_str,isB,gD,aQ,aN,aac a5,afa,aal,clean,aA,az,abS,cI]
       exact a0 _
    .rw[zX U]at F
     have a0:∀ρ',Q (.ret (.bl ae) ρ'):=λρ'=>hR _ _ (by rw[←F]);obtain⟨M,hM⟩:∃M,M=D.lst .own ((pre++[x]).map D.str):=⟨_,rfl⟩;simp![LsE];rw[←hM];by_cases h1:0<=p.1
     .have h2:¬p.1<js.length:=λz=>U ⟨h1,z⟩
      simp_arith[sEx,bJ,dN,bW,Z,i0,i1,O.v,O.l,j9,gLe,gLt,h1,h2];exact⟨rfl,a0 _⟩
     .simp_arith[sEx,bJ,dN,bW,Z,i0,i1,O.v,O.l,j9,gLe,gLt,h1]
      exact⟨rfl,a0 _⟩
  rintro _ ⟨pre,x,x5,x6,x7,rfl,_,F⟩;rw[abC,st]at F;have a2:=Bg (m:=.brw) (pre:=pre) (x:=x);have a4:view ae (.lst .own ((pre++[x]).map D.str))= .lst .brw ((pre++[x]).map D.str):=by simp![view,fO];rfl
  obtain⟨M,hM⟩:∃M,M=D.lst .own ((pre++[x]).map D.str):=⟨_,rfl⟩;have a1:view ae M= .lst .brw ((pre++[x]).map D.str):=by rw[hM];exact a4
  simp![LsE];rw[←hM];simp![b7,e2,e1,eC,gh,ao,Z6,Z7,view,a1,a2,eq_str,gD,aQ,aN];simp[aN,cI,aQ,w_ite,clean,aA,az,F]
 obtain⟨_,e,rfl⟩:=W;exact e
def plN(L:List 2.10)(x:Str):Nat:=(fi L x).getD L.length
variable{p:Nat}
def Oe(h:L[p]? =ac l)(J:x∈l):plN L x<=p:=by
 obtain⟨V,rfl⟩:=List.getElem?_eq_some_iff.mp h;unfold plN;cases e:fi L x with
 |none=>
  have:=aay.mp e L[p] (abh V);exact absurd J (of_decide_eq_false this)
 |some k=>
  obtain⟨I,_,h2⟩:=aas.mp e;rw[acL];rcases afP p k with z|z
  .exact absurd (aaB J) (h2 p z)
  .exact z
def La(h:plN L x<L.length):∃l,L[plN L x]? =ac l/\x∈l:=by
 unfold plN at h⊢;cases e:fi L x with
 |none=>rw[e]at h;exact absurd h (aa7 _)
 |some k=>
  obtain⟨I,h1,_⟩:=aas.mp e;exact⟨L[k],by rw[acL];exact List.getElem?_eq_getElem I,abQ h1⟩
def HS(L:List 2.10)(x:Str):plN L x<=L.length:=by
 unfold plN;cases e:fi L x with
 |none=>exact ZZ _
 |some k=>
  obtain⟨I,_⟩:=aas.mp e;exact aca I
def hop(L:List 2.10)(p:Nat)(x y:Str):Bool:=!decide (x∈L.getD p [])||(L.take (p+2)).any λl=>decide (y∈l)
def vm:(∀p,p+1<L.length->hop L p x y=ag)↔plN L y<=plN L x+1:=by
 constructor
 .intro h
  by_cases Y:plN L x+1<L.length
  .obtain⟨l,h1,h2⟩:=La (L:=L) (x:=x) 1.10
   have O:=h _ Y;unfold hop at O;rw[ael,h1,acL,aaB h2,aek,afq,abD]at O;obtain⟨l',Z,V⟩:=O;obtain⟨k,I,e⟩:=afz Z;rw[aaD]at I;rw[List.getElem_take]at e;have:=Oe (L:=L) (x:=y) (p:=k) (l:=l') (by rw[List.getElem?_eq_getElem 1.10,e]) (abQ V);omega
  .have:=HS L y
   omega
 .intro h p hp
  unfold hop;rw[adL,af5,decide_eq_false_iff_not,abD,Classical.or_iff_not_imp_left,af4];intro J;rw[ael,List.getElem?_eq_getElem 1.10,acL]at J;have h1:=Oe (List.getElem?_eq_getElem (by omega:p<L.length)) J;obtain⟨l,h2,O⟩:=La (L:=L) (x:=y) 1.10;exact⟨l,List.mem_iff_getElem?.mpr ⟨plN L y,by rw[afU,if_pos 1.10];exact h2⟩,aaB O⟩
def uh(js:List Jt)(L:List 2.10)(p:Nat):Bool:=js.all λj=>hop L p j.1 j.2.1&&hop L p j.2.1 j.1
def KN(a b:Nat):((a:Int)-b).natAbs<=1↔b<=a+1/\a<=b+1:=by
 rcases afR a b with h|h
 .have e:((a:Int)-b).natAbs=b-a:=by rw[←Int.natAbs_neg,Int.neg_sub,←Int.ofNat_sub h];rfl
  omega
 .have e:((a:Int)-b).natAbs=a-b:=by rw[←Int.ofNat_sub h];rfl
  omega
def yz:(∀p,p+1<L.length->uh js L p=ag)↔js.all (kE L)=ag:=by
 have hn:∀j:Jt,kE L j=ag↔plN L j.2.1<=plN L j.1+1/\plN L j.1<=plN L j.2.1+1:=λj=>by
  simp![kE,plv,plN,decide_eq_true_eq];exact Iff.trans ⟨abQ,λh=>aaB h⟩ (KN _ _)
 simp![uh,abU,aaa];constructor
 .exact λh j U=>(hn j).mpr ⟨vm.mp λp V=>(h p V j U).1,vm.mp λp V=>(h p V j U).2⟩
 .exact λh p V j U=>⟨vm.mpr ((hn j).mp (h j U)).1 p V,vm.mpr ((hn j).mp (h j U)).2 p V⟩
def lvP(L:List 2.10):D:=.lst .frz 2.176
def T8(L:List 2.10):view ae (lvP L)=lvP L:=by
 simp![lvP,view];rw[show dW ae 2.176=L.map 2.35 from by rw[fP,Z5];exact aak λl _=>by simp[lvL,view,fO,mkV]];rfl
def YL(L:List 2.10)(p:Nat)(V:p+1<L.length):cutD 2.176 af (ac ((p:Int)+2))=(L.take (p+2)).map (lvL .frz):=by
 unfold cutD;have h1:HT.sIx (L.map 2.35).length 0 af=0:=rfl;have h2:HT.sIx (L.map 2.35).length (L.map 2.35).length (ac ((p:Int)+2))=p+2:=by
  show HT.sIx _ _ (ac ((p+2:Nat):Int))=_;rw[HT.sIx_nat,Pr];omega
 rw[h1,h2,ae7,Nat.sub_zero,acg]
def lvf(M:List 2.10):aF (M.map 2.35)=ag/\aD (M.map 2.35)=ag/\iV (M.map 2.35)=M.map (lvL .frz):=by
 refine⟨cF (iZ _ λl=>by simp[lvL,aA,fB]),cG (iZ _ λl=>by simp[lvL,az,cY]),?_⟩;rw[iT,Z5];exact aak λl _=>by
  show D.lst .frz (iV 2.7)=_;rw[iT,Z5];rfl
def LoE(J:D)(L:List 2.10)(p:Nat)(O:List Str)(Z U V F z I:Option D):En:=[ac J,ac (lvP L),ac (.int p),ac (.lst .own (O.map D.str)),Z,U,V,F,z,I]
def LoI(J:D)(L:List 2.10)(p k:Nat)(ρ:En):Prop:=∃Z U V F z I:Option D,ρ=LoE J L p (L.take k).flatten Z U V F z I
def LmI(J:D)(L:List 2.10)(js:List Jt)(p:Nat)(O:List Str)(k:Nat)(ρ:En):Prop:=(∃Z U V F z I:Option D,ρ=LoE J L p O Z U V F z I)/\∀i,i<k->∀j,js[i]? =ac j->hop L p j.1 j.2.1=ag/\hop L p j.2.1 j.1=ag
def LmJ(J:D)(L:List 2.10)(j:Jt)(p:Nat)(O:List Str)(k:Nat)(ρ:En):Prop:=(∃Z z I:Option D,ρ=LoE J L p O Z (ac (.str j.1)) (ac (.str j.2.1)) (ac (.int j.2.2)) z I)/\(0<k->hop L p j.1 j.2.1=ag)/\(1<k->hop L p j.2.1 j.1=ag)
def RK(O:JJ J js)(V:p+1<L.length)(hF:L.flatten.length<=1000000):cB [J,lvP L,.int p]=ac (.bl (uh js L p)):=by
 apply Wp.eq;simp_arith![cB,fnP];refine bZ (LoI J L p 0) (λQ q=>?_) ?_
 .simp_arith[sEx,bJ,dN,bW,bA]
  exact q _ ⟨_,_,_,_,_,_,rfl⟩
 rintro _ ⟨x4,x5,x6,x7,x8,x9,rfl⟩;refine bZ (LoI J L p (p+2)) (λQ q=>?_) ?_
 .have e1':itS (eSl 2.9 fW (eU (e2 cR 2.14 2.39))) (LoE J L p (L.take 0).flatten x4 x5 x6 x7 x8 x9)=ac (ag,(L.take (p+2)).map 2.35):=by
   have F:gSl (lvP L) af (ac ((p:Int)+2))=ac (.lst .own ((L.take (p+2)).map 2.35)):=by rw[←YL L p V];rfl
   generalize L.take (p+2)=M at F⊢;obtain⟨m1,m2,m3⟩:=lvf M;simp[itS,eSl,u9,ao,fW,eU,e2,eC,cR,LoE,T8,view,F,fj,clean,aA,az,m1,m2,m3]
  unfold ie;rw[e1'];simp![aQ,aN];have e:((L.take (p+2)).map 2.35).length=p+2:=by rw[Pr,aaD];omega
  refine iw (LoI J L p) ⟨_,_,_,_,_,_,rfl⟩ ?_ (λρ h=>q _ (e▸h));rintro k d ρ I ⟨x4,x5,x6,x7,x8,x9,rfl⟩;rw[List.getElem?_map]at I;cases a0:(L.take (p+2))[k]? with
  |none=>rw[a0]at I;cases I
  |some l=>
   rw[a0]at I;cases I;have a8:L[k]? =ac l:=by
    rw[afU]at a0;split at a0
    .exact a0
    .cases a0
   have b1:(L.take (k+1)).flatten=(L.take k).flatten++l:=by rw[acu,a8];simp
   have a2:(L.take k).flatten.length+l.length<=1000000:=by
    rw[←List.length_append,←b1];have e:L.flatten=(L.take (k+1)).flatten++(L.drop (k+1)).flatten:=by rw[←List.flatten_append,acC]
    rw[e,List.length_append]at hF;omega
   have Z:view ae (.lst .frz 2.7)= .lst .frz (l.map D.str):=by simp[view,fO,mkV]
   have a5:∀ne:List Str,view ae 2.148= .lst .brw (ne.map D.str):=λne=>by simp[view,fO,mkV]
   have b0:∀y4 y5 y6 y7 y8 y9,LoI J L p (k+1) (LoE J L p ((L.take k).flatten++l) y4 y5 y6 y7 y8 y9):=λy4 y5 y6 y7 y8 y9=>⟨y4,y5,y6,y7,y8,y9,by rw[b1]⟩;generalize (L.take k).flatten=ne at a2 b0⊢;simp[LoE,tgN,clean,lvL,aA,az,fB,cY,bO,e2,ao,eAp,aj,au,cI,aQ,aN,w_ite,Z,a5,ux,cR,a2];rw[←aat,if_pos ⟨fB _,cY _⟩];exact b0 _ x5 x6 x7 x8 x9
 rintro _ ⟨x4,x5,x6,x7,x8,x9,rfl⟩;have b2:∀y:Str,y∈(L.take (p+2)).flatten↔((L.take (p+2)).any λl=>decide (y∈l))=ag:=λy=>by simp[List.mem_flatten]
 obtain⟨l,Y⟩:∃l,L[p]? =ac l:=⟨L[p],List.getElem?_eq_getElem 1.10⟩;have b8:gIx (lvP L) (.int p)=ac (lvL .frz l):=by
  have h1:ixN L.length (p:Int)=ac p:=by unfold ixN;simp;omega
  simp[gIx,lvP,atI,h1,Y]
 have b4:∀x:Str,gIn 2.89 (lvL .frz l)=ac (.bl (decide (x∈l))):=λx=>Yx;have a9:∀x:Str,di 2.89 (.lst .brw ((L.take (p+2)).flatten.map D.str))=ac (.bl (!((L.take (p+2)).any λl=>decide (x∈l)))):=λx=>by
  have h:=b2 x;simp![di,pX,scV,jr,k_,gD,aao];congr 3;rw[abe,decide_eq_true_eq];exact h
 have b6:∀x y,hop L p x y=(!decide (x∈l)||(L.take (p+2)).any λl=>decide (y∈l)):=λx y=>by simp[hop,Y]
 refine nP (LmI J L js p (L.take (p+2)).flatten js.length) (λd=>d= .bl (uh js L p)) (λQ q hR=>?_) ?_ (λd ρ' h=>⟨d,rfl,h⟩)
 .have e1':itS 2.2 (LoE J L p (L.take (p+2)).flatten x4 x5 x6 x7 x8 x9)=ac (ag,js.map jD):=by simp[itS,ao,LoE,O.v,O.s]
  unfold ie;rw[e1'];simp![aQ,aN];refine iw (LmI J L js p (L.take (p+2)).flatten) ⟨⟨_,_,_,_,_,_,rfl⟩,λi hi=>absurd hi (agl i)⟩ ?_ (λρ h=>q _ (by rwa[Pr]at h));rintro k d ρ I ⟨⟨x4,x5,x6,x7,x8,x9,rfl⟩,a6⟩;rw[List.getElem?_map]at I;cases a1:js[k]? with
  |none=>rw[a1]at I;cases I
  |some j=>
   rw[a1]at I;cases I;simp![jD,LoE,tgT,aP,cg,tgN,aF,aD,clean,aA,az,abS,and_self,aal,aQ,aN,aaF,aaQ,Z4,aan,abz];generalize (L.take (p+2)).flatten=ne at a9⊢;have b3:itS 2.171 [ac J,ac (lvP L),ac (.int p),ac 2.148,x4,ac (.str j.1),ac (.str j.2.1),ac (.int j.2.2),x8,x9]=ac (ag,[.tup [.str j.1,.str j.2.1],.tup [.str j.2.1,.str j.1]]):=by
    simp[itS,eAp,aj,au,ao,bx,view,fj,clean,aF,aD,aA,az];rfl
   rw[b3];simp![aQ,aN];have a5:view ae 2.148= .lst .brw (ne.map D.str):=by simp[view,fO,mkV]
   have b5:∀{x y:Str},(x=j.1/\y=j.2.1)∨(x=j.2.1/\y=j.1)->hop L p x y=ae->uh js L p=ae:=λ{x y} a4 hh=>by
    rw[acw];intro z;have:=abU.mp z j (aau a1);rw[aaa]at this;rcases a4 with⟨rfl,rfl⟩|⟨rfl,rfl⟩
    .rw[this.1]at hh;cases hh
    .rw[this.2]at hh;cases hh
   refine iw (LmJ J L j p ne) ⟨⟨_,_,_,rfl⟩,λh=>absurd h 1.10,λh=>absurd h 1.10⟩ ?_ ?_
   .rintro i d ρ hi ⟨⟨y4,y8,y9,rfl⟩,q1,q2⟩
    obtain⟨x,y,rfl,a4,a7⟩:∃x y,d= .tup [.str x,.str y]/\((x=j.1/\y=j.2.1)∨(x=j.2.1/\y=j.1))/\(hop L p x y=ag->(0<i+1->hop L p j.1 j.2.1=ag)/\(1<i+1->hop L p j.2.1 j.1=ag)):=by
     match i,hi with
     |0,hi=>cases hi;exact⟨_,_,rfl,.inl ⟨rfl,rfl⟩,λh=>⟨λ_=>h,λz=>absurd z 1.10⟩⟩
     |1,hi=>cases hi;exact⟨_,_,rfl,.inr ⟨rfl,rfl⟩,λh=>⟨λ_=>q1 1.10,λ_=>h⟩⟩
    have hh:=b6 x y;have vS:∀x:Str,view ae (D.str x)=D.str x:=λ_=>rfl;have vI:∀n:Int,view ae (D.int n)=D.int n:=λ_=>rfl;cases hA:decide (x∈l)<;>cases hB:(L.take (p+2)).any (λl=>decide (y∈l))<;>rw[hA,hB]at hh<;>simp[LoE,tgT,aP,cg,tgN,aF,aD,clean,aA,az,aQ,aN,cI,w_ite,sIf,jO,eB,e2,ao,eC,b7,cL,T8,vS,vI,b8,b4,a5,a9,hA,hB,isB]
    .exact⟨⟨_,_,_,rfl⟩,a7 hh⟩
    .exact⟨⟨_,_,_,rfl⟩,a7 hh⟩
    .exact hR _ _ (by rw[b5 a4 hh])
    .exact⟨⟨_,_,_,rfl⟩,a7 hh⟩
   .rintro ρ ⟨⟨y4,y8,y9,rfl⟩,q1,q2⟩
    refine⟨⟨_,_,_,_,_,_,rfl⟩,λi hi j' a3=>?_⟩;by_cases e:i=k
    .subst e
     rw[a1]at a3;cases a3;exact⟨q1 (by simp),q2 (by simp)⟩
    .exact a6 i 1.10 j' a3
 rintro ρ ⟨⟨y4,y5,y6,y7,y8,y9,rfl⟩,a6⟩;have ht:uh js L p=ag:=by
  refine abU.mpr λj U=>?_;obtain⟨i,hi⟩:=acI U;have:=a6 i (List.getElem?_eq_some_iff.mp hi).1 j hi;rw[this.1,this.2];rfl
 rw[ht];simp[b7,eC,cI,aQ,aN,clean,aA,az]
def Nb{m:Nat}:∀{L:List 2.10},(∀l∈L,l.length<=m)->L.flatten.length<=L.length*m
 |[],_=>by simp
 |l::t,h=>by
  have h1:=h l (by simp);have h2:=Nb (L:=t) λz hz=>h z (by simp[hz]);rw[List.flatten_cons,List.length_append,Z4,Nat.succ_mul];omega
def DuE(J:D)(a b:Str)(ps:List Pt)(L:List 2.10)(x:Option D):En:=[ac J,ac 2.70,ac 2.71,ac (pT ps),ac (lvP L),x]
def DuI(J:D)(js:List Jt)(a b:Str)(ps:List Pt)(L:List 2.10)(k:Nat)(ρ:En):Prop:=∃x,ρ=DuE J a b ps L x/\∀p,p<k->uh js L p=ag
def Zf(hJ:JJ J js)(b2:ps.length<=900)(b3:∀p∈ps,Sd1 p)(Y:L.length<=1000)(hx:∀l∈L,l.length<=1000/\∀x∈l,x.length<=1000) :
  bG [J,.str a,.str b,pT ps,lvP L]=ac (.bl 2.142):=by
 have hP:LL (lvP L) L:=LL.lst L;have a2:=(iK ps).2.2.1;have a5:bz [pT ps]=ac (.int ps.length):=by simp[pT,bz]
 have a4:=call_of (F:=bB) (ds:=[J,.str a,.str b,pT ps]) (by simp![fzL,fz,hJ.f,(iK ps).2.2.2.1];exact GZ (b:=b) hJ b2 b3) rfl;have b5:=λ(p:Nat)(V:p+1<L.length)=>call_of (F:=cB) (ds:=[J,lvP L,.int p]) (by simp![fzL,fz,hJ.f,hP.f];exact RK hJ V (aaC (Nb λl h=>(hx l h).1) 1.10)) rfl;have b1:∀x,(L.any λl=>decide (x∈l))=(fi L x).isSome:=λx=>by rw[fi,List.findIdx?_isSome]
 have W:Wp (bG [J,.str a,.str b,pT ps,lvP L]) λd=>d= .bl (jZ js a b ps L):=by
  simp_arith![bG,fnP];generalize aZ bB=GS at a4⊢;have b0:=hP.t;have a0:=hP.v;have a1:=hP.l;refine nP (λρ=>st js b [a] a ps=ag/\ρ=DuE J a b ps L af) (λd=>d= .bl 2.142) (λQ q hR=>?_) ?_ (λd ρ' h=>⟨d,rfl,h⟩)
  .cases h1:st js b [a] a ps with
   |false=>
    rw[h1]at a4;simp[sIf,eOr,iz,gQ,eAp,aj,au,ao,eC,hJ.v,a2,view,a4,truth,b7,aQ,aN,cI,w_ite,clean,aA,az];exact hR _ _ (by simp[jZ,h1])
   |true=>
    rw[h1]at a4;simp[sIf,eOr,iz,gQ,eAp,aj,au,ao,eC,hJ.v,a2,a0,b0,bx,view,a4,truth,cL,aQ,aN,cI,w_ite,clean,aA,az,aF,aD];exact q _ ⟨h1,rfl⟩
  rintro _ ⟨h1,rfl⟩;refine nP (λρ=>(L.length=ps.length/\(L.all λl=>l.all nmB)=ag)/\ρ=DuE J a b ps L af) (λd=>d= .bl 2.142) (λQ q hR=>?_) ?_ (λd ρ' h=>⟨d,rfl,h⟩)
  .have o1:=yt (G:=aZ bN) (λd l hS g1 g2=>call_of (by simp![fzL,hS.f];exact N6 hS g2) rfl) hP Y hx (ρ:=DuE J a b ps L af) rfl
   have o2:=(GP (f:=λl=>l.all nmB) L).1;generalize D.lst .own (L.map λl=>.bl (l.all nmB))=l at o1 o2;generalize bH [af] (itS 2.4) (tpN 0) eTT (eAp (aZ bN) 2.152)=E at o1⊢;by_cases h2:L.length=ps.length
   .have h2':(L.length:Int)=ps.length:=by omega
    cases O:L.all λl=>l.all nmB with
    |false=>
     rw[O]at o2;simp![DuE]at o1;simp[sIf,DuE,eOr,iz,gQ,eB,e2,eAp,aj,au,ao,eC,a0,a1,a2,a5,ne_int,h2',o1,o2,isB,truth,b7,aQ,aN,cI,w_ite,clean,aA,az];exact hR _ _ (by simp[jZ,O])
    |true=>
     rw[O]at o2;simp![DuE]at o1;simp[sIf,DuE,eOr,iz,gQ,eB,e2,eAp,aj,au,ao,eC,a0,a1,a2,a5,ne_int,h2',o1,o2,isB,truth,cL,aQ,aN,cI,w_ite,clean,aA,az];exact q _ ⟨⟨h2,O⟩,rfl⟩
   .have h2':¬(L.length:Int)=ps.length:=by omega
    simp[sIf,DuE,eOr,eB,e2,eAp,aj,au,ao,eC,a0,a1,a2,a5,ne_int,h2',isB,b7,aQ,aN,cI,w_ite,clean,aA,az];exact hR _ _ (by simp[jZ,h2])
  rintro _ ⟨⟨h2,O⟩,rfl⟩;refine nP (λρ=>(fi L b=af/\(L.length=0∨fi L a=ac 0))/\ρ=DuE J a b ps L af) (λd=>d= .bl 2.142) (λQ q hR=>?_) ?_ (λd ρ' h=>⟨d,rfl,h⟩)
  .have o1:bH [af,ac 2] (itS 2.4) (tpN 0) eTT (e2 gIn 2.9 2.2) (DuE J a b ps L af)=ac (.lst .own (L.map λl=>.bl (decide (b∈l)))):=vf hP Y rfl λd l hm hS=>by
    simp[fZ,DuE,e2,ao,view,hS.v,hS.i]
   have o2:=(GP (f:=λl=>decide (b∈l)) L).2;rw[b1]at o2;generalize D.lst .own (L.map λl=>.bl (decide (b∈l)))=l at o1 o2;generalize bH [af,ac 2] (itS 2.4) (tpN 0) eTT (e2 gIn 2.9 2.2)=E at o1⊢;simp![DuE]at o1;cases Z:fi L b with
   |some n=>
    rw[Z]at o2;simp[sIf,DuE,eOr,gQ,eAp,aj,au,ao,eC,o1,o2,truth,b7,aQ,aN,cI,w_ite,clean,aA,az];exact hR _ _ (by simp[jZ,Z])
   |none=>
    rw[Z]at o2;cases L with
    |nil=>
     simp[sIf,DuE,eOr,jO,gQ,eB,e2,eAp,aj,au,ao,eC,o1,o2,a0,a1,gGt,isB,truth,cL,aQ,aN,cI,w_ite,clean,aA,az];exact q _ ⟨⟨Z,.inl rfl⟩,rfl⟩
    |cons l0 t=>
     have U:gIx (lvP (l0::t)) (.int 0)=ac (lvL .frz l0):=by
      have h1:ixN ((l0::t).map 2.35).length 0=ac 0:=iW (k:=0) (by simp);simp![gIx,lvP,atI,h1];rfl
     have a8:di 2.70 (lvL .frz l0)=ac (.bl (!decide (a∈l0))):=by simp[lvL,di,pX,scV,jr,k_]
     have a9:fi (l0::t) a=ac 0↔a∈l0:=by
      unfold fi;rw[ac5];by_cases z:a∈l0
      .simp[z]
      .simp[z]
     have a7:(0:Int)<((l0::t).length:Nat):=by rw[Z4];omega
     by_cases z:a∈l0
     .simp[sIf,DuE,eOr,jO,gQ,eB,e2,eAp,aj,au,ao,eC,o1,o2,a0,a1,gGt,a7,view,U,a8,z,isB,truth,cL,aQ,aN,cI,w_ite,clean,aA,az]
      exact q _ ⟨⟨Z,.inr (a9.mpr z)⟩,rfl⟩
     .simp[sIf,DuE,eOr,jO,gQ,eB,e2,eAp,aj,au,ao,eC,o1,o2,a0,a1,gGt,a7,view,U,a8,z,isB,truth,b7,aQ,aN,cI,w_ite,clean,aA,az]
      exact hR _ _ (by simp[jZ,a9,z])
  rintro _ ⟨⟨Z,h5⟩,rfl⟩;have b4:jZ js a b ps L=js.all (kE L):=by
   have:(decide (L.length=0)||decide (fi L a=ac 0))=ag:=by simpa using h5
   have h6:decide (L.length=ps.length)=ag:=aaB h2;simp![jZ,h1,h6,O,Z,this,Option.isSome_none,afa,aej,Bool.true_and]
  rw[b4];refine nP (DuI J js a b ps L (L.length-1)) (λd=>d= .bl (js.all (kE L))) (λQ q hR=>?_) ?_ (λd ρ' h=>⟨d,rfl,h⟩)
  .have e1':pJ 2.236 (DuE J a b ps L af)=ac (ag,jd 0 (L.length-1)):=by
    have:=Ky (f:=aj (e2 jb 2.154 2.0) au) (ρ:=DuE J a b ps L af) (j:=L.length-1) (by simp[DuE,aj,e2,eAp,au,ao,eC,a0,a1,jb]) 1.10 1.10;rw[this,show((L.length:Int)-1).toNat=L.length-1 by omega]
   unfold ie;rw[e1'];simp![aQ,aN];refine iw (DuI J js a b ps L) ⟨_,rfl,λp h=>absurd h (agl p)⟩ ?_ (λρ h=>q _ (by rwa[oK]at h));rintro k d ρ I ⟨x,rfl,a6⟩;obtain⟨b6,rfl⟩:=oG I;have a3:=b5 k 1.10;generalize aZ cB=GL at a3⊢;cases h6:uh js L k with
   |true=>
    rw[h6]at a3;simp[DuE,tgN,sIf,iz,gQ,eAp,aj,au,ao,hJ.v,a0,view,a3,truth,cL,aQ,aN,cI,w_ite,clean,aA,az];exact⟨_,rfl,λp V=>by
     by_cases e:p=k
     .rw[e];exact h6
     .exact a6 p 1.10⟩
   |false=>
    rw[h6]at a3;simp[DuE,tgN,sIf,iz,gQ,eAp,aj,au,ao,eC,hJ.v,a0,view,a3,truth,b7,aQ,aN,cI,w_ite,clean,aA,az];refine hR _ _ ?_;congr 1;symm;rw[acw];intro z;rw[yz.mpr z k 1.10]at h6;cases h6
  rintro _ ⟨x,rfl,a6⟩;rw[yz.mp λp V=>a6 p 1.10];simp[DuE,b7,eC,cI,aQ,aN,clean,aA,az]
 obtain⟨_,e,rfl⟩:=W;exact e
def Pw(p:Pt):Prop:=Sd1 p/\p.1.natAbs<=1000
def tO(h:ps.length+qs.length<=1000):cR (pT ps) (pT qs)=ac (pT (ps++qs)):=by
 simp[pT,cR]
 try omega
def Hu(h1:gw ds=ag):gNe 2.144 (.lst .own [])=ac (.bl (!ds.isEmpty))/\gEq 2.144 (.lst .own [])=ac (.bl ds.isEmpty):=by
 unfold gNe gEq;rw[if_pos ⟨by simpa[g_]using h1,rfl,.lst (by simp[dtL])⟩,if_pos ⟨by simpa[g_]using h1,rfl,.lst (by simp[dtL])⟩];cases ds with
 |nil=>exact⟨rfl,rfl⟩
 |cons j r=>exact⟨rfl,rfl⟩
def Wt:gIx (.lst m (ds++[d])) (.int (-1))=ac d:=by
 have U:ixN (ds++[d]).length (-1)=ac ds.length:=by
  unfold ixN;rw[List.length_append,List.length_singleton];simp;omega
 simp![gIx,atI,U,gD];simp
def Iv:∀l:List Tt,gw (l.map bD)=ag
 |[]=>rfl
 |j::r=>by simp[gw,bD,g_,Iv r]
def VH{m':Mk}{f:Str->List Tt}(U:Bes ks f)(D:m≠.scr)(x:Str):∃q,ik (cj m m' ks f) [.str x,.lst .own []]=ac (.lst q ((f x).map bD)):=by
 by_cases J:x∈ks
 .obtain⟨i,h1,h2,h3⟩:=lY J
  exact⟨m',by simp![ik,cj,dm,gD,aag D,h1,List.getElem?_map,h2,aao]⟩
 .have h2:c7 (ks.map aaf) (aaf x:Key)=af:=by
   unfold c7;rw[aay];intro y V;obtain⟨z,hz,rfl⟩:=List.mem_map.mp V;exact aac λe=>J (by cases e;exact hz)
  exact⟨.own,by simp![ik,cj,dm,gD,aag D,h2,U.e x J,aax]⟩
def LoS(J:D)(a b:Str)(ks:List Str)(f:Str->List Tt)(ps:List Pt)(met:List Str)(V F:Option D):En:=[ac J,ac 2.70,ac 2.71,ac 2.51,ac (pT ps),ac (.lst .own (met.map D.str)),V,F]
def LoT(J:D)(a b:Str)(ks:List Str)(f:Str->List Tt)(k:Nat)(ρ:En):Prop:=∃(ps:List Pt)(pre:List Str)(x:Str)(V F:Option D),ρ=LoS J a b ks f ps (pre++[x]) V F/\(∀p∈ps,Pw p)/\ps.length<=k/\pre.length<=k
def Ni(hJ:JJ J js)(Y:js.length<=900):∃ps,cC [J,.str a,.str b]=ac (pT ps)/\(∀p∈ps,Pw p)/\ps.length<=js.length:=by
 obtain⟨_,c2,ks,rfl,U⟩:=Dj hJ 1.10;have a4:aZ bK [J]=ac (cj .own .own ks 2.1):=call_of (by simpa[fzL,hJ.f]using c2) Mr.2.2.2;have W:Wp (cC [J,.str a,.str b]) λd=>∃ps,d=pT ps/\(∀p∈ps,Pw p)/\ps.length<=js.length:=by
  have b4:∀y,∀t∈adj js js.length y,Pw (t.1,t.2.1):=λy t ht=>by
   refine⟨(Qv ht).2,?_⟩;obtain⟨n,j,h1,_,O⟩:=(rB js y js.length).mp ht;rcases O with⟨_,rfl⟩|⟨_,rfl⟩<;>simp![Int.natAbs_natCast]<;>omega
  have b8:∀y,(adj js js.length y).length<=2*js.length:=λy=>vy js y _;generalize adj js js.length=f at U a4 b4 b8;have a8:=Mr (ks:=ks) (f:=f);simp_arith![cC,fnP];generalize aZ bK=GB at a4⊢;generalize hB:cj .own .own ks f=B at a4 a8;refine bZ (λρ=>ρ=[ac J,ac 2.70,ac 2.71,ac B,af,af,af,af]) (λQ q=>?_) ?_
  .simp[bO,eAp,aj,au,ao,hJ.v,a4,tgN,clean,cI,aQ,aN,w_ite,a8]
   exact q _ rfl
  rintro _ rfl;refine bZ (λρ=>ρ=[ac J,ac 2.70,ac 2.71,ac B,ac (pT []),af,af,af]) (λQ q=>?_) ?_
  .exact⟨_,rfl,q _ rfl⟩
  rintro _ rfl;subst hB;refine bZ (LoT J a b ks f 0) (λQ q=>?_) ?_
  .exact⟨_,rfl,q _ ⟨[],[],a,_,_,rfl,by simp,ZZ _,ZZ _⟩⟩
  intro ρ0 h0;refine bZ (LoT J a b ks f js.length) (λQ q=>?_) ?_
  .have e1':pJ (aj 2.231 au) ρ0=ac (ag,jd 0 js.length):=by
    obtain⟨ps,pre,x,x6,x7,rfl,_⟩:=h0;have:=Ky (f:=aj 2.231 au) (ρ:=LoS J a b ks f ps (pre++[x]) x6 x7) (j:=js.length) (by simp[LoS,aj,eAp,au,ao,hJ.v,hJ.l]) 1.10 1.10;rw[this,aa6]
   unfold ie;rw[e1'];simp![aQ,aN];refine iw (LoT J a b ks f) h0 ?_ (λρ h=>q _ (by rwa[oK]at h));rintro k d ρ I ⟨ps,pre,x,x6,x7,rfl,a2,b9,c5⟩;obtain⟨c4,rfl⟩:=oG I;simp![tgN,clean,aA,az,abS,aal,aN,LoS,aaF,aaQ];have a0:view ae (D.lst .own ((pre++[x]).map D.str))=D.lst .brw ((pre++[x]).map D.str):=by simp![view,fO];rfl
   have a6:=Bg (m:=.brw) (pre:=pre) (x:=x);have b7:∀y,di (.str y) (.lst .brw ((pre++[x]).map D.str))=ac (.bl (!decide (y∈pre++[x]))):=λy=>by simp![di,pX,scV,jr,k_,gD,aao]
   have a7:∀y,bT (.lst .own ((pre++[x]).map D.str)) [.str y]=ac (.lst .own (((pre++[x])++[y]).map D.str),.non):=λy=>by
    have:((pre++[x]).map D.str).length<1000000:=by simp;omega
    simp![bT];rw[if_pos this,aat (l₂:=[y])];rfl
   have hM:aA (D.lst .own ((pre++[x]).map D.str))=ag/\az (D.lst .own ((pre++[x]).map D.str))=ag:=⟨by simp![aA,fB];rfl,by simp![az,cY];rfl⟩;obtain⟨m2,F⟩:=VH (m:=.brw) (m':=.brw) U (by decide) x;have a1:=a8.1;obtain⟨M,b1⟩:∃M,M=D.lst .own ((pre++[x]).map D.str):=⟨_,rfl⟩;rw[←b1]at a0 a7 hM⊢;obtain⟨B,a5⟩:∃B,B=cj .own .own ks f:=⟨_,rfl⟩;rw[←a5]at a1⊢;generalize cj .brw .brw ks f=B' at a1 F;generalize D.lst .brw ((pre++[x]).map D.str)=M' at a0 a6 b7;by_cases b0:x=b
   .simp[sIf,eB,e2,e1,ao,eC,gh,a0,a6,view,ne_str,b0,isB,cL,aQ,aN]
    exact⟨ps,pre,x,_,_,by rw[b1,a5,←b0];rfl,a2,by omega,by omega⟩
   .obtain⟨fl,hfl⟩:∃fl,fl=(f x).filter λt=>!decide (t.2.2∈pre++[x]):=⟨_,rfl⟩
    have e7:bH [af,ac 5] (itS 2.155) (tpN 0) 2.169 2.2 [ac J,ac 2.70,ac 2.71,ac B,ac (pT ps),ac M,ac 2.177,x7]=ac (.lst .own (fl.map bD)):=by
     have e6:gP (tpN 0) 2.169 2.2 [af,ac M] ((f x).map bD)=ac ((((f x).map bD).filter λd=>match d with|.tup [_,.str y]=>!decide (y∈pre++[x])|_=>ae).map id):=by
      refine gF λd hd=>?_;obtain⟨t,_,rfl⟩:=List.mem_map.mp hd;have i1:gIx (bD t) (.int 1)=ac (.str t.2.2):=rfl;have Z:view ae (bD t)=bD t:=rfl;refine⟨_,rfl,?_,λ_=>rfl⟩;simp![eB,e2,ao,eC,aaQ,Z7,Z6,Z,a0,i1,b7,gD];rfl
     have hi:itS 2.155 [ac J,ac 2.70,ac 2.71,ac B,ac (pT ps),ac M,ac 2.177,x7]=ac (clean (.lst m2 ((f x).map bD)),(f x).map bD):=by
      simp[itS,eMt,ao,aj,au,e2,e1,eC,gh,eAp,bA,a1,a0,a6,F,fj,T4,aF,aD,aA,az]
     simp![bH,hi,gD,Pr];rw[if_pos (by have:=b8 x;omega),show fZ [af,ac 5] [ac J,ac 2.70,ac 2.71,ac B,ac (pT ps),ac M,ac 2.177,x7]=[af,ac M]from rfl,e6,List.map_id,agk,hfl];rfl
    generalize bH [af,ac 5] (itS 2.155) (tpN 0) 2.169 2.2=E at e7⊢;have b6:∀t∈fl,Pw (t.1,t.2.1):=λt ht=>by rw[hfl]at ht;exact b4 x t (adE.mp ht).1
    clear hfl;simp![sIf,eB,e2,e1,ao,eC,gh,Z6,Z7,gD,a0,a6,view,ne_str,aac b0,afa,isB,aal,aQ,aN];refine bZ (λρ=>ρ=[ac J,ac 2.70,ac 2.71,ac B,ac (pT ps),ac M,ac 2.177,ac (.lst .own (fl.map bD))]) (λQ q=>?_) ?_
    .simp[bO,e7,tgN,clean,aA,az,Kw,Ol,cI,aQ,aN,w_ite]
     exact q _ rfl
    rintro _ rfl;rcases afb fl with rfl|⟨fl,t,rfl⟩
    .have a3:=(Hu (m:=.brw) (ds:=([]:List D)) rfl).1
     simp[sIf,eB,e2,ao,eAp,au,bA,view,dW,mkV,a3,isB,cL,aQ,aN];exact⟨ps,pre,x,_,_,by rw[b1,a5];rfl,a2,by omega,by omega⟩
    .rw[afc]at b6⊢
     have a3:=(Hu (m:=.brw) (Iv (fl++[t]))).1;have a9:view ae (.lst .own ((fl++[t]).map bD))= .lst .brw ((fl++[t]).map bD):=by simp![view,Qy];rfl
     have c1:((fl++[t]).map bD).isEmpty=ae:=by simp
     have b2:gIx (.lst .brw ((fl++[t]).map bD)) (.int (-1))=ac (bD t):=by rw[aat];exact Wt
     have i0:gIx (bD t) (.int 0)=ac (ptD (t.1,t.2.1)):=rfl;have i1:gIx (bD t) (.int 1)=ac (.str t.2.2):=rfl;have b3:D.tup [ptD (t.1,t.2.1)]=pT [(t.1,t.2.1)]:=rfl;have c3:aA (ptD (t.1,t.2.1))=ag/\az (ptD (t.1,t.2.1))=ag:=⟨rfl,rfl⟩;have b5:=tO (ps:=ps) (qs:=[(t.1,t.2.1)]) (by simp;omega);rw[c1]at a3;obtain⟨X,hX⟩:∃X,X=D.lst .own ((fl++[t]).map bD):=⟨_,rfl⟩;rw[←hX]at a9⊢;generalize D.lst .brw ((fl++[t]).map bD)=X' at a3 a9 b2;have c0:=λps=>iK ps;simp[sIf,bO,pq,zQ,upS,ig,fJ,dU,eB,e2,e1,ao,eC,gh,eAp,aj,au,bA,bx,a9,a3,b2,i0,i1,b3,c3,c0,b5,a7,tgN,clean,aA,az,aF,aD,isB,aQ,aN,cI,w_ite,rC];exact⟨ps++[(t.1,t.2.1)],pre++[x],t.2.2,ac 2.177,ac X,by rw[a5];simp[LoS],λp V=>(Ls.mp V).elim (a2 p) λz=>by rw[aab.mp z];exact b6 t (by simp),by simp;omega,by simp;omega⟩
  rintro _ ⟨ps,pre,x,x6,x7,rfl,a2,b9,_⟩;simp![LoS,jf,Z6,Z7,aN];exact⟨ps,rfl,a2,b9⟩
 obtain⟨_,e,ps,rfl,h1,h2⟩:=W;exact⟨ps,e,h1,h2⟩
def OwE(d J:D)(a b:Str)(ps:List Pt)(h k:Int)(F:Option D):En:=[ac d,ac J,ac 2.70,ac 2.71,ac (pT ps),ac (.int h),ac 2.177,F]
def OwQ(n:Int)(J:D)(F:Nat)(a b:Str)(ps:List Pt)(q:D×List D):Prop:=∃(z:List Pt)(d':D),q=(pT z,[d',J,.str a,.str b,pT ps])/\(∀p∈z,Pw p)/\z.length<=ps.length+F+1/\Sd (n+4) d'
variable{k:Int}
def YH(h:0<=k):gSl (pT ps) af (ac k)=ac (pT (ps.take k.toNat)):=by
 obtain⟨m,rfl⟩:∃m:Nat,k=m:=⟨k.toNat,by omega⟩;simp![pT,gSl,Bf,aa6,acg]
def Hj(h:0<=k):gSl (pT ps) (ac k) af=ac (pT (ps.drop k.toNat)):=by
 obtain⟨m,rfl⟩:∃m:Nat,k=m:=⟨k.toNat,by omega⟩;simp![pT,gSl,xq,aa6,adq]
def HJ{m:Nat}:cutD ds (ac (m:Int)) (ac ((m:Int)+1))=(ds.drop m).take 1:=by
 have h1:HT.sIx ds.length 0 (ac (m:Int))=min m ds.length:=HT.sIx_nat ..;have h2:HT.sIx ds.length ds.length (ac ((m:Int)+1))=min (m+1) ds.length:=by
  show HT.sIx _ _ (ac ((m+1:Nat):Int))=_;exact HT.sIx_nat ..
 simp![cutD,h1,h2];by_cases J:m<ds.length
 .rw[acY 1.10,acY 1.10,Nat.add_sub_cancel_left]
 .rw[adv 1.10,adv 1.10,acq 1.10,acq 1.10]
  simp
def Vz(h:0<=k):gSl (pT ps) (ac k) (ac (k+1))=ac (pT ((ps.drop k.toNat).take 1)):=by
 obtain⟨m,rfl⟩:∃m:Nat,k=m:=⟨k.toNat,by omega⟩;simp![pT,gSl,HJ,aa6,acg,adq]
def Vr(hd:Sd n d)(hn:n<900000)(c0:js.length<=900)(c4:ps.length<=900)(V:∀p∈ps,Pw p):Wp (cP [d,.lst .frz 2.6,.str a,.str b,pT ps]) (OwQ n 2.156 js.length a b ps):=by
 have b2:=iK ps;have O:=JJ.lst js;obtain⟨a9,b5,b7,c2⟩:=Ni (a:=a) (b:=b) O c0;have a7:aZ cC [.lst .frz 2.6,.str a,.str b]=ac (pT a9):=call_of (by simp![fzL,fz,mkF,wC];exact b5) (by
  have:∀l:List Pt,bI 2.133=ag:=by
   intro l
   induction l with
   |nil=>rfl
   |cons p r F=>rw[ZX,bI,F];rfl
  simp[pT,cQ,this])
 unfold OwQ;generalize D.lst .frz 2.6=J at O a7⊢;clear b5;have b0:=b2.2.2.1;have a3:∀qs,Cl (pT qs):=λqs=>⟨(iK qs).1,(iK qs).2.1⟩;have a4:∀i j:Int,cR 2.72 (.int j)=ac (.int (i+j)):=λ_ _=>rfl;have b4:∀i:Int,view ae 2.72= .int i:=λ_=>rfl;refine wK rfl ?_;refine tU rfl hd 1.10 rfl 1.10 1.10 λh d1 _ _ Z=>?_;refine tU rfl Z 1.10 (m:=ps.length+1) (by simp[en0,aj,au,e2,eAp,ao,eC,b0,zm,a4]) 1.10 1.10 λk d2 a8 c3 I=>?_;show Wp (aU _ _ 2.111) _;have hT:=YH (ps:=ps) a8;have hF:=Hj (ps:=ps) (show 0<=k+1 by omega);have hG:=Hj (ps:=ps) a8;have hM:=Vz (ps:=ps) a8;obtain⟨p1,a2⟩:∃p1,p1=ps.take k.toNat:=⟨_,rfl⟩;obtain⟨p2,a6⟩:∃p2,p2=ps.drop (k+1).toNat:=⟨_,rfl⟩;obtain⟨p3,a5⟩:∃p3,p3=ps.drop k.toNat:=⟨_,rfl⟩;have l2:p1.length+p2.length<=ps.length:=by rw[a2,a6,aaD,abB];omega
 have l3:p1.length+p3.length<=ps.length:=by rw[a2,a5,aaD,abB];omega
 have m1:∀p∈p1,Pw p:=λp a0=>V p (aaO (a2▸a0));have m2:∀p∈p2,Pw p:=λp a0=>V p (abi (a6▸a0));have m3:∀p∈p3,Pw p:=λp a0=>V p (abi (a5▸a0));rw[←a2]at hT;rw[←a5]at hG hM;rw[←a6]at hF;clear a2 a6 a5;have a1:∀{l r:List Pt},(∀p∈l,Pw p)->(∀p∈r,Pw p)->∀p∈l++r,Pw p:=λh1 h2 p a0=>(Ls.mp a0).elim (h1 p) (h2 p);have b1:∀d',ao ae 4 (OwE d' J a b ps h k af)=ac (pT ps)/\ao ae 6 (OwE d' J a b ps h k af)=ac (.int k):=λd'=>by simp[OwE,ao,b0,b4]
 refine C_ rfl (λ_=>?_) (λ_=>?_)
 .exact wR (d:=pT (p1++p2)) (by simp[e2,eSl,u9,fW,eU,eC,b1,a4,hT,hF,tO (show p1.length+p2.length<=1000 by omega)]) (a3 _) ⟨_,_,rfl,_,rfl,p1++p2,d2,rfl,a1 m1 m2,by rw[List.length_append];omega,I.le 1.10⟩
 refine C_ rfl (λ_=>?_) (λ_=>?_)
 .have l4:(p3.take 1).length<=1:=by rw[aaD];omega
  exact wR (d:=pT (p1++p3.take 1++p3)) (by simp[e2,eSl,u9,fW,eU,eC,b1,a4,hT,hG,hM,tO (show p1.length+(p3.take 1).length<=1000 by omega),tO (ps:=p1++p3.take 1) (qs:=p3) (by rw[List.length_append];omega)]) (a3 _) ⟨_,_,rfl,_,rfl,_,d2,rfl,a1 (a1 m1 λp z=>m3 p (aaO z)) m3,by rw[List.length_append,List.length_append];omega,I.le 1.10⟩
 refine C_ rfl (λ_=>?_) (λ_=>?_)
 .have e6:gP 2.27 eTT 2.178 [af,af] (ps.map ptD).reverse=ac (((ps.map ptD).reverse.filter λ_=>ag).map λd=>match d with|.tup [.int i,.int j]=>.tup [.int i,.int (-j)]|_=>.non):=by
   refine gF λd hd=>?_;obtain⟨p,c1,rfl⟩:=List.mem_map.mp (acJ.mp hd);exact⟨_,rfl,rfl,λ_=>rfl⟩
  have e7:((ps.map ptD).reverse.map λd=>match d with|.tup [.int i,.int j]=>.tup [.int i,.int (-j)]|_=>.non)=(ps.reverse.map λp=>(p.1,-p.2)).map ptD:=by
   rw[←agg,Z5,Z5];rfl
  have e8:bH [af,af] (Js (aj 2.4 au)) 2.27 eTT 2.178 2.111=ac (.lst .own ((ps.reverse.map λp=>(p.1,-p.2)).map ptD)):=by
   simp![bH,Js,aj,au,b1,b2.2.1,gD,aao,aal];simp![pT,gD,IW,abw,Pr];rw[if_pos 1.10,show ∀l,fZ [af,af] l=[af,af]from λ_=>rfl,e6,filter_tt,e7];rfl
  refine wR (d:=pT (ps.reverse.map λp=>(p.1,-p.2))) (by rw[eAp,aj,e8];rfl) (a3 _) ⟨_,_,rfl,_,rfl,_,d2,rfl,λq hq=>?_,by rw[Pr,abw];omega,I.le 1.10⟩;obtain⟨p,a0,rfl⟩:=List.mem_map.mp hq;obtain⟨z1,z2⟩:=V p (acJ.mp a0);exact⟨z1.symm.imp (λz=>by simp only;omega) (λz=>by simp only;omega),z2⟩
 refine C_ rfl (λ_=>?_) (λ_=>?_)
 .have hfa:aj (e2 cR 2.160 2.39) au 2.111=ac [.int (js.length+2)]:=by simp[OwE,aj,au,e2,eAp,ao,eC,O.v,O.l,a4]
  have b6:∀i j:Int,jb 2.72 (.int j)=ac (.int (i-j)):=λ_ _=>rfl;have b8:Wp (mY bx (bQ (ee2 jb (eIo aC [0] (bF (aj (e2 cR 2.160 2.39) au))) (eUp 2.0)) (bQ (ee2 jb (eUp 2.0) (ee2 lr (eUp 2.39) (eIo aC [0] 2.192))) (bF au))) 2.111) λq=>∃(p:Pt)(d':D),q=(ptD p,OwE d' J a b ps h k af)/\Pw p/\Sd (n+4) d':=by
   refine YS (oX (qG (eG rfl I 1.10 hfa 1.10 1.10 λr3 d3 p3 q3 s3=>w_up rfl ⟨rfl,_,b6 _ _,oX (qG (w_up rfl (qG (w_up rfl (eG rfl s3 1.10 rfl 1.10 1.10 λr4 Y p4 q4 U=>⟨rfl,.int (2*r4),by simp[lr],rfl,_,b6 _ _,_,rfl,rfl,rfl,_,rfl,(r3-1,1-2*r4),Y,rfl,⟨by simp![Sd1];omega,by simp only;omega⟩,U.le 1.10⟩)))))⟩)))
  obtain⟨_,e,p,Y,rfl,b9,U⟩:=b8;refine mZ ⟨_,e,⟨rfl,rfl⟩,?_⟩;have b3:bx [ptD p]=ac (pT [p]):=rfl;refine wR (d:=pT (p1++[p]++p2)) ?_ (a3 _) ⟨_,_,rfl,_,rfl,_,Y,rfl,a1 (a1 m1 (by simpa using b9)) m2,by rw[List.length_append,List.length_append,List.length_singleton];omega,U⟩;show e2 _ _ _ (OwE Y J a b ps h k (ac (ptD p)))=_;simp[OwE,e2,eSl,u9,fW,eU,eC,ao,eAp,aj,au,b0,b4,a4,hT,hF,show view ae (ptD p)=ptD p from rfl,b3,tO (ps:=p1) (qs:=[p]) (by simp;omega),tO (ps:=p1++[p]) (qs:=p2) (by simp;omega)]
 refine C_ rfl (λ_=>?_) (λ_=>?_)
 .generalize aZ cC=GL at a7⊢
  exact wR (d:=pT a9) (by simp[OwE,eAp,aj,au,ao,O.v,view,a7]) (a3 _) ⟨_,_,rfl,_,rfl,a9,d2,rfl,b7,by omega,I.le 1.10⟩
 exact⟨_,rfl,_,rfl,ps,d2,rfl,V,by omega,I.le 1.10⟩
def nm4:List Str:=["lone","No","abcdefghi",""]
def zH:List Str:=jL++nm4
def zU:∀x∈zH,x.length<=9/\(reprText x).length<=11:=by decide +kernel
def Gl(K:Nat)(l:List Str):Prop:=l.length<=K/\∀x∈l,x∈zH
def Gl.le{K q:Nat}(h:Gl K l)(I:K<=q):Gl q l:=⟨aaC h.1 I,h.2⟩
variable{k:Nat}
def Gp{K:Nat}(h:∀l∈L,Gl K l)(Y:Gl K l):∀m∈L.set k l,Gl K m:=λm J=>(aes J).elim (h m) λe=>e▸Y
def T_(m k:Mk)(J:mkF m= .frz)(I:mkF k= .frz)(L:List 2.10):fzL 2.125=L.map (lvL .frz):=by
 rw[gq,Z5];exact aak λl _=>by simp![abR,lvL,fz,oJ,I]
def PJ(k:Mk)(I:k= .own∨k= .frz)(L:List 2.10):aF 2.125=ag/\aD 2.125=ag:=
 ⟨cF (iZ _ λl=>by rcases I with rfl|rfl<;>simp[lvL,aA,fB]),cG (iZ _ λl=>by rcases I with rfl|rfl<;>simp[lvL,az,cY])⟩
def zu(k:Mk):∀L:List 2.10,gw 2.125=ag
 |[]=>rfl
 |l::r=>by simp[gw,lvL,g_,oH,zu k r]
structure Fzl(R:D)(L:List (List Str)):Prop where
 f:fz R=lvP L
 b:aA R=ag
 o:az R=ag
structure Ml(ds:List D)(L:List (List Str)):Prop where
 f:fzL ds=L.map 2.35
 b:aF ds=ag
 o:aD ds=ag
 l:ds.length=L.length
def Ml.lv(k:Mk)(I:k= .own∨k= .frz)(L:List 2.10):Ml 2.125 L:=⟨T_ .own k rfl (by rcases I with rfl|rfl<;>rfl) L,(PJ k I L).1,(PJ k I L).2,Pr _⟩
def Ml.fzl(h:Ml ds L):Fzl 2.40 L:=⟨by rw[fz,h.f];rfl,by rw[aA,h.b];rfl,by rw[az,h.o];rfl⟩
def Ml.add{a b:List D}{A B:List 2.10}(h1:Ml a A)(h2:Ml b B)(Y:A.length+B.length<=2000):cR (.lst .own a) (.lst .own b)=ac (.lst .own (a++b))/\Ml (a++b) (A++B):=by
 refine⟨if_pos ⟨by decide,by decide,by rw[h1.l,h2.l];omega⟩,by rw[gq,aat,←gq,←gq,h1.f,h2.f,aat],by rw[jw,h1.b,h2.b];rfl,by rw[jy,h1.o,h2.o];rfl,by rw[List.length_append,List.length_append,h1.l,h2.l]⟩
def Fzl.lst(k:Mk)(I:k= .own∨k= .frz)(L:List 2.10):Fzl (.lst .own 2.125) L:=by
 obtain⟨h1,h2⟩:=PJ k I L;exact⟨by rw[fz,T_ .own k rfl (by rcases I with rfl|rfl<;>rfl)];rfl,by rw[aA,h1];rfl,by rw[az,h2];rfl⟩
def KQ{l':List Str}(Z:ρ[4]? =ac (ac 2.25))(I:z[k]? =ac l)(hop:op (lvL .own l) es=ac (lvL .own l',res))(q:aF es=ag/\aD es=ag) :
  upS op 4 [k] es ρ=ac (res,ρ.set 4 (ac (.lst .own ((z.set k l').map 2.162)))):=by
 have F:fJ [k] 2.25=ac (lvL .own l):=by simp[fJ,kids,I]
 have hs:dU [k] (lvL .own l') 2.25= .lst .own ((z.set k l').map 2.162):=by simp[dU,kids,I,uR,adO]
 simp[upS,Z,F,q,hop,hs]
def QZ(Z:ρ[4]? =ac (ac 2.25))(q:ρ[6]? =ac 2.8)(I:k<z.length):xJ 4 (ig 4) 2.23 ρ=ac [k]:=by
 have U:ixP 2.25 2.177=ac k:=by simp![ixP,Pr];exact iW I
 simp[xJ,ig,ao,Z,q,view,fJ,U,kids,I]
def Wq{K j:Nat}{g:List Str}(U:j<L.length)(I:L[k]? =ac (g++[y]))(h:∀l∈L,Gl K l)(hK:K<1000):∃L':List 2.10,Jy (L.map 2.162) j k=ac (L'.map 2.162)/\L'.length=L.length/\∀l∈L',Gl (K+1) l:=by
 have a3:=(List.getElem?_eq_some_iff.mp I).1;have a0:=h _ (aau I);have F:Gl K g:=⟨by have:=a0.1;simp at this;omega,λx J=>a0.2 x (by simp[J])⟩;obtain⟨e,V⟩:∃e,(L.set k g)[j]? =ac e:=⟨(L.set k g)[j]'(by simpa using U),List.getElem?_eq_getElem (by simpa using U)⟩;have a2:=Gp (k:=k) h F;have a1:=a2 e (aau V);refine⟨(L.set k g).set j (e++[y]),?_,by simp,?_⟩
 .have h1:ixN (L.map 2.162).length (j:Int)=ac j:=by rw[Pr];exact iW U
  have h2:ixN (L.map 2.162).length (k:Int)=ac k:=by rw[Pr];exact iW a3
  have O:(L.map 2.162)[k]? =ac (.lst .own ((g++[y]).map D.str)):=by rw[List.getElem?_map,I];rfl
  obtain⟨e0,Z⟩:∃e0,(L.map 2.162)[j]? =ac (.lst .own e0):=⟨(L[j].map D.str),by rw[List.getElem?_map,List.getElem?_eq_getElem U];rfl⟩;have h5:((g++[y]).map D.str)[((g++[y]).map D.str).length-1]? =ac (.str y):=by simp
  have q:(.lst .own ((g++[y]).map D.str).dropLast:D)=lvL .own g:=by simp[lvL]
  have h7:((L.map 2.162).set k (lvL .own g))[j]? =ac (.lst .own (e.map D.str)):=by rw[←adO,List.getElem?_map,V];rfl
  have h8:(e.map D.str).length<1000000:=by rw[Pr];have:=a1.1;omega
  simp![Jy,h1,h2,gD,O,Z,h5,q,h7];rw[if_pos h8,adO,adO];simp[lvL]
 .exact Gp (λl Y=>(a2 l Y).le 1.10) ⟨by have:=a1.1;simp;omega,λx J=>by
   rcases Ls.mp J with z|z
   .exact a1.2 x z
   .exact a0.2 x (by simp[aab.mp z])⟩
def Vt{r:Int}(z:0<=r)(h1:r<l.length):∃w∈l,gIx (.lst m 2.7) (.int r)=ac (.str w):=by
 obtain⟨k,rfl⟩:∃k:Nat,r=k:=⟨r.toNat,by omega⟩;have I:k<l.length:=by omega
 have U:ixN (l.map D.str).length (k:Int)=ac k:=by rw[Pr];exact iW I
 exact⟨l[k],abh I,by simp![gIx,atI,U,gD,List.getElem?_map,List.getElem?_eq_getElem I,aao]⟩
def Pb(L:List 2.10):gSl (lvP L) af (ac (k:Int))=ac (.lst .own ((L.take k).map 2.35))/\gSl (lvP L) (ac (k:Int)) af=ac (.lst .own ((L.drop k).map 2.35)):=by
 simp![lvP,gSl,Bf,xq,acg,adq];exact⟨trivial,trivial⟩
def Qu{f:α->β}:∀{l:List α}{i:Nat},(l.map f).eraseIdx i=(l.eraseIdx i).map f
 |[],i=>rfl
 |a::r,0=>rfl
 |a::r,i+1=>by simp[Qu]
def Yz(L:List 2.10):gSl (lvP L) (ac (k:Int)) (ac ((k:Int)+1))=ac (.lst .own (((L.drop k).take 1).map 2.35)):=by
 simp![lvP,gSl,HJ,acg,adq]
def OlE(d N P:D)(h:Int)(S:D)(w:Str)(k:Int):En:=[ac d,ac N,ac P,ac (.int h),ac S,ac (.str w),ac 2.177]
def OlQ(n:Int)(N:D)(K:Nat)(L:List 2.10)(q:D×List D):Prop:=∃(R:D)(z:List 2.10)(d':D),q=(R,[d',N,lvP L])/\Fzl R z/\z.length<=L.length+1/\(∀l∈z,Gl (K+1) l)/\Sd (n+5) d'
def Wc    {K:Nat}  (hd:Sd n d) (hn:n < 900000) (e0:∀ x∈ns,x∈jL) (e5:ns.length<=14) (Y:L.length<=900) (F:∀ l∈L,Gl K l) (hK:K<=900):Wp (b_ [d,.lst .frz 2.21,lvP L]) (OlQ n 2.172 K L):=by
  have hP:LL (lvP L) L:=LL.lst L
  have hN:=SS.lst ns
  have b7:cR 2.172 (.lst .own (nm4.map D.str))=ac (.lst .own ((ns++nm4).map D.str)):=by
    rw [aat]
    exact if_pos ⟨by decide,by decide,by rw [Pr,Pr]; simp [nm4]; omega⟩
  have d6:(ns++nm4).length=ns.length + 4:=by simp [nm4]
  have c7:∀ x∈ns++nm4,x∈zH:=λ x J=>(Ls.mp J).elim (λ z=>ZV _ (e0 x z)) (W2 _)
  have a8:∀ i j:Int,cR 2.72 (.int j)=ac (.int (i + j)):=λ _ _=>rfl
  have b0:∀ i:Int,view ae 2.72 = .int i:=λ _=>rfl
  unfold OlQ
  generalize D.lst .frz 2.21=N at hN b7 ⊢
  have c3:=hP.v
  obtain ⟨P,c0⟩:∃ P,P=lvP L:=⟨_,rfl⟩
  rw [← c0] at c3 ⊢
  obtain ⟨c9,c8,_,a4⟩:=lvc L
  have b2:bz [.lst .brw (L.map (lvL .brw))]=ac (.int L.length):=by simp [bz]
  have a7:=(Hu (m:=.brw) (zu .brw L)).2
  rw [show (L.map (lvL .brw)).isEmpty=L.isEmpty by cases L <;> rfl] at a7
  have c2:=(Fzl.lst .own 2.81 L).f
  have b1:=λ (k:Nat) (l:List Str) (I:k < L.length) (a3:L[k]? = ac l)=>(show gIx (.lst .brw (L.map (lvL .brw))) 2.177=ac (lvL .brw l) by
    have h1:ixN (L.map (lvL .brw)).length (k:Int)=ac k:=by rw [Pr]; exact iW I
    simp only [gIx,atI,h1,gD,List.getElem?_map,a3,aao])
  generalize b9:D.lst .own (L.map 2.162)=S at c9 c8 a4 c2
  generalize D.lst .brw (L.map (lvL .brw))=S' at a4 b2 a7 b1
  refine wK rfl ?_
  refine tU rfl hd 1.10 rfl 1.10 1.10 λ h d1 _ _ s1=>?_
  refine gR S [ac d1,ac N,ac P,ac (.int h),ac S,af,af] ?_ ⟨c9,c8⟩ ?_
  · rw [← b9]
    exact vf hP 1.10 (by rw [c0]; rfl) λ d l hm hS=>by simp [fZ,eAp,aj,au,ao,hS.v,hS.g.1,lvL]
  refine mZ (qG (w_up (d:=.lst .own ((ns++nm4).map D.str)) (by simp only [e2,ao,Z6,Z7,hN.v,gD]; exact b7) (eG rfl s1 1.10 (m:=ns.length + 4) (by simp [aj,au,e2,eAp,ao,eC,hN.v,hN.l,a8]) 1.10 1.10 λ r1 d2 p1 q1 s2=>?_)))
  obtain ⟨w,hw,d8⟩:=Vt (m:=.own) (l:=ns++nm4) p1 (by rw [d6]; omega)
  refine ⟨by simp only [az,cY]; rfl,_,d8,⟨rfl,rfl⟩,?_⟩
  refine tU rfl s2 1.10 (m:=L.length + 1) (by simp [aj,au,e2,eAp,ao,eC,a4,b2,a8]) 1.10 1.10 λ k d3 e1 d7 s3=>?_
  obtain ⟨k,rfl⟩:∃ k':Nat,k=k':=⟨k.toNat,by omega⟩
  show Wp (aU _ _ (OlE d3 N P h S w k)) _
  have hw:=c7 w hw
  have a5:=λ l Y=>(F l Y).le (show K<=K + 1 by omega)
  have h3:∀ {d' R:D} {k:Nat} {c:Int},eB (e2 gEq 2.230 (eC (.int c))) (OlE d' N P h R w k)=ac (decide (h=c)):=wD rfl
  have a6:∀ {A B:List 2.10},(∀ l∈A,Gl (K + 1) l)->(∀ l∈B,Gl (K + 1) l)->∀ l∈A++B,Gl (K + 1) l:=λ h1 h2 p d0=>(Ls.mp d0).elim (h1 p) (h2 p)
  have c5:∀ {d':D} {k:Nat},g8 4 (OlE d' N P h S w k)=ac (OlE d' N P h (lvP L) w k):=by simp [g8,OlE,c2]
  have c6:∀ b,view b (lvP L)=lvP L:=by rw [← c0]; exact c3
  have U:∀ {d':D} {k:Nat},ao ae 4 2.149=ac (lvP L)/\ao ae 6 2.149=ac 2.177/\ao ae 5 2.149=ac (.str w):=by simp [OlE,ao,c6,view]
  by_cases O:h=0∨L=[]
  · refine Bw (rM ?_ ?_)
    · by_cases h0:h=0
      · rw [eOr,h3,aaB h0]; rfl
      · rw [O.resolve_left h0] at a7
        rw [eOr,h3,aac h0]
        simp [OlE,eB,e2,ao,isB,a4,eAp,au,bA,a7]
    refine Gz c5 ?_
    have t1:=(Pb L (k:=k)).1
    have t3:gSl (lvP L) (ac ((k:Int) + 1)) af=_:=(Pb L (k:=k + 1)).2
    have mA:=Ml.lv .frz 2.203 2.212
    have mC:=Ml.lv .frz 2.203 (L.drop (k + 1))
    have lA:(L.take k).length + (L.drop (k + 1)).length<=L.length:=by rw [aaD,abB]; omega
    have gA:∀ l∈L.take k,Gl (K + 1) l:=λ l Y=>a5 l (aaO Y)
    have gC:∀ l∈L.drop (k + 1),Gl (K + 1) l:=λ l Y=>a5 l (abi Y)
    generalize (L.take k).map 2.35=A' at t1 mA
    generalize (L.drop (k + 1)).map 2.35=C' at t3 mC
    generalize L.take k=A at mA lA gA
    generalize L.drop (k + 1)=C at mC lA gC
    refine Qm (qG (qG (w_up (by simp only [eSl,u9,fW,eU,U,gD]; exact t1) (qG (w_up (d:=.lst .own [.lst .own [.str w]]) (by simp [eAp,aj,au,U,bA]) (eG rfl s3 1.10 rfl 1.10 1.10 λ r4 d4 p4 q4 s4=>?_))))))
    obtain ⟨x,X,J,mX,lX,gX⟩:∃ x X,DR (.lst .own [.lst .own [.str w]]) (.int r4)=ac (.lst .own x)/\Ml x X/\X.length<=1/\∀ l∈X,Gl (K + 1) l:=by
      have Z:r4=0∨r4=1:=by omega
      rcases Z with rfl | rfl
      · exact ⟨[],[],rfl,⟨rfl,rfl,rfl,rfl⟩,by simp,by simp⟩
      · exact ⟨_,[[w]],rfl,⟨rfl,rfl,rfl,rfl⟩,by simp,λ l Y=>by rw [aab.mp Y]; exact ⟨by simp,λ x J=>by rw [aab.mp J]; exact hw⟩⟩
    obtain ⟨a1,m1⟩:=mA.add mX 1.10
    obtain ⟨a2,m2⟩:=m1.add mC (by rw [List.length_append]; omega)
    have hR:=m2.fzl
    exact ⟨rfl,_,J,by rw [az,mA.o]; rfl,_,a1,w_up (by
      show eSl _ _ _ (OlE d4 N P h (lvP L) w k)=_
      simp only [eSl,u9,fW,eU,e2,eC,U,a8,gD]
      exact t3) ⟨by rw [az,m1.o]; rfl,_,a2,⟨hR.b,hR.o⟩,_,_,rfl,_,rfl,_,_,d4,rfl,hR,by rw [List.length_append,List.length_append]; omega,a6 (a6 gA gX) gC,s4.le 1.10⟩⟩
  obtain ⟨h0,d9⟩:h≠0/\0 < L.length:=⟨λ z=>O 2.29,by cases L with | nil=>exact absurd 2.203 O | cons _ _=>simp⟩
  refine vM (Iz ?_) ?_
  · have c4:gEq S' (.lst .own [])=ac (.bl ae):=by
      rw [a7]
      cases L with
      | nil=>exact absurd d9 (by simp)
      | cons _ _=>rfl
    rw [eOr,h3,aac h0]
    simp [OlE,eB,e2,ao,isB,a4,eAp,au,bA,c4]
  obtain ⟨k',b4,I⟩:∃ k':Nat,ul [.int k,.int ((L.length:Int) - 1)]=ac (.int k')/\k' < L.length:=by
    refine ⟨min k (L.length - 1),?_,by omega⟩
    simp only [ul]
    congr 2
    split <;> omega
  refine gR (.int k') 2.134 (by simp [OlE,eAp,aj,au,e2,ao,eC,b0,a4,b2,jb,b4]) ⟨rfl,rfl⟩ ?_
  clear b4 d7 e1 k
  obtain ⟨l,a3⟩:∃ l,L[k']? = ac l:=⟨L[k'],List.getElem?_eq_getElem I⟩
  have a0:=F l (aau a3)
  have b1:=b1 k' l I a3
  have c1:bz [lvL .brw l]=ac (.int l.length):=by simp [lvL,bz]
  have e3:gNe (lvL .brw l) (.lst .own [])=ac (.bl (!l.isEmpty)):=by
    have:=(Hu (m:=.brw) (oH l)).1
    rw [show (l.map D.str).isEmpty=l.isEmpty by cases l <;> rfl] at this
    exact this
  have b8:∀ {d'},e2 gIx 2.4 2.23 (OlE d' N P h S w k')=ac (lvL .brw l):=by simp [OlE,e2,ao,b0,a4,b1]
  have b3:∀ c:Int,jO (eB (e2 gEq 2.230 (eC (.int c)))) (eB 2.164) 2.134=ac (decide (h=c) && !l.isEmpty):=λ c=>by
    have hn:eB 2.164 2.134=ac (!l.isEmpty):=by
      rw [eB,e2,b8]
      simp [eAp,au,bA,e3,isB]
    unfold jO
    rw [h3,hn]
    by_cases z:h=c <;> simp [z]
  have e4:=λ (l':List Str) (h:Gl (K + 1) l')=>Gp (k:=k') a5 h
  have a9:∀ d':D,(OlE d' N P h S w k')[4]? = ac (ac (.lst .own (L.map 2.162))):=λ _=>by rw [b9]; rfl
  have b5:=λ d'=>QZ (a9 d') (by rfl) I
  refine bZ (λ ρ=>∃ (R:D) (L':List 2.10) (d':D),Fzl R L'/\L'.length<=L.length + 1/\(∀ l∈L',Gl (K + 1) l)/\Sd (n + 5) d'/\ρ=OlE d' N P h R w k') (λ Q hQ=>?_) ?_
  · have b6:∀ {l':List Str} {d':D},Gl (K + 1) l'->Sd (n + 5) d'->Q (.nx ((OlE d' N P h S w k').set 4 (ac (.lst .own ((L.set k' l').map 2.162))))):=λ {l' d'} h1 h2=>hQ _ ⟨_,L.set k' l',d',Fzl.lst .own 2.81 _,by simp,e4 _ h1,h2,rfl⟩
    by_cases h4:h < 4
    · refine rM (by simp [OlE,eB,e2,ao,eC,b0,gLt,h4,isB]) (MF (b5 d3) (oX (eG rfl s3 1.10 (m:=l.length + 1) (by rw [aj,e2,eAp,aj,b8]; simp [au,eC,c1,a8]) 1.10 (by have:=a0.1; omega) λ r4 d4 p4 q4 s4=>⟨([.str w],OlE d4 N P h S w k'),rfl,rfl,?_⟩)))
      obtain ⟨i,rfl⟩:∃ i:Nat,r4=i:=⟨r4.toNat,by omega⟩
      have hop:jU (lvL .own l) [.int i,.str w]=ac (lvL .own (l.take i++w :: l.drop i),.non):=by
        have h1:wF (l.map D.str).length (i:Int)=i:=by unfold wF; rw [aag 1.10,Pr,aa6]; omega
        have h2:(l.map D.str).length < 1000000/\-(2 ^ 63)<=(i:Int)/\(i:Int) < 2 ^ 63:=by rw [Pr]; have:=a0.1; omega
        simp only [lvL,jU]
        rw [if_pos h2,h1]
        simp
      exact ⟨_,KQ (a9 d4) a3 hop ⟨rfl,rfl⟩,b6 ⟨by have:=a0.1; simp; omega,λ x J=>by
        rcases Ls.mp J with z | z
        · exact a0.2 x (aaO z)
        · rcases Z2.mp z with rfl | z
          · exact hw
          · exact a0.2 x (abi z)⟩ (s4.le 1.10)⟩
    refine xn (by simp [OlE,eB,e2,ao,eC,b0,gLt,h4,isB]) ?_
    by_cases V:(decide (h=4) && !l.isEmpty)=ag
    · have e6:0 < l.length:=by cases l with | nil=>simp at V | cons _ _=>simp
      refine rM (by rw [b3,V]) (MF (b5 d3) (oX (eG rfl s3 1.10 (m:=l.length) (by rw [aj,eAp,aj,b8]; simp [au,c1]) 1.10 (by have:=a0.1; omega) λ r4 d4 p4 q4 s4=>⟨([],OlE d4 N P h S w k'),rfl,rfl,?_⟩)))
      obtain ⟨i,rfl⟩:∃ i:Nat,r4=i:=⟨r4.toNat,by omega⟩
      have hop:my (lvL .own l) [.int i]=ac (lvL .own (l.eraseIdx i),.str (l[i]'(by omega))):=by
        have h1:ixN (l.map D.str).length (i:Int)=ac i:=by rw [Pr]; exact iW 1.10
        have h2:(l.map D.str).length < 1000000:=by rw [Pr]; have:=a0.1; omega
        simp only [lvL,my]
        rw [if_pos h2,h1,gD,List.getElem?_map,List.getElem?_eq_getElem 1.10]
        simp [Qu]
      exact ⟨_,KQ (a9 d4) a3 hop ⟨rfl,rfl⟩,b6 ⟨by have:=a0.1; have:=List.length_eraseIdx_le l i; omega,λ x J=>a0.2 x (List.mem_of_mem_eraseIdx J)⟩ (s4.le 1.10)⟩
    refine xn (by rw [b3,acw.mpr V]) ?_
    by_cases h6:(decide (h=5) && !l.isEmpty)=ag
    · refine rM (by rw [b3,h6]) ?_
      rcases afb l with rfl | ⟨g,y,rfl⟩
      · simp at h6
      rw [afc] at a3
      obtain ⟨_,e,i,d4,rfl,hi,s4⟩:Wp (eIo aC [0] (bF (aj 2.154 au)) 2.134) λ q=>∃ (i:Nat) (d':D),q=(.int i,OlE d' N P h S w k')/\i < L.length/\Sd (n + 5) d':=
        eG rfl s3 1.10 (m:=L.length) (by simp [OlE,eAp,aj,au,ao,a4,b2]) 1.10 1.10 λ r4 d4 p4 q4 s4=>⟨r4.toNat,d4,by rw [show ((r4.toNat:Nat):Int)=r4 by omega]; rfl,by omega,s4.le 1.10⟩
      obtain ⟨L',m1,m2,m3⟩:=Wq hi a3 F 1.10
      refine ⟨.nx (OlE d4 N P h (.lst .own (L'.map 2.162)) w k'),?_,hQ _ ⟨_,L',d4,Fzl.lst .own 2.81 _,by omega,m3,s4,rfl⟩⟩
      unfold LK
      rw [e,gD]
      simp only [OlE,Z6,Z7,← b9,ao,view,m1]
      rfl
    refine xn (by rw [b3,acw.mpr h6]) ?_
    by_cases h7:h=6
    · exact rM (by rw [h3,aaB h7]) ⟨_,Ny (a9 d3) (es:=[]) rfl ⟨rfl,rfl⟩ (d':=.lst .own (L.reverse.map 2.162)) (r:=.non) (by rw [agg]; rfl),hQ _ ⟨_,L.reverse,d3,Fzl.lst .own 2.81 _,by simp,λ l Y=>a5 l (acJ.mp Y),s3.le 1.10,rfl⟩⟩
    refine xn (by rw [h3,aac h7]) ?_
    refine Gz c5 ?_
    obtain ⟨t1,t2⟩:=Pb L (k:=k')
    have t3:=Yz L (k:=k')
    have mA:=Ml.lv .frz 2.203 (L.take k')
    have mB:=Ml.lv .frz 2.203 ((L.drop k').take 1)
    have mC:=Ml.lv .frz 2.203 (L.drop k')
    have lA:(L.take k').length + (L.drop k').length<=L.length:=by rw [aaD,abB]; omega
    have lB:((L.drop k').take 1).length<=1:=by rw [aaD]; omega
    obtain ⟨a1,m1⟩:=mA.add mB 1.10
    obtain ⟨a2,m2⟩:=m1.add mC (by rw [List.length_append]; omega)
    have hR:=m2.fzl
    refine ⟨_,Gy (by simp only [e2,eSl,u9,fW,eU,eC,U,a8,t1,t2,t3,a1,gD]; exact a2) ⟨hR.b,hR.o⟩,hQ _ ⟨_,_,d3,hR,by rw [List.length_append,List.length_append]; omega,a6 (a6 (λ l Y=>a5 l (aaO Y)) λ l Y=>a5 l (abi (aaO Y))) λ l Y=>a5 l (abi Y),s3.le 1.10,rfl⟩⟩
  rintro _ ⟨R,L',d5,hF,h1,h2,s5,rfl⟩
  exact ⟨_,rfl,_,rfl,R,L',d5,rfl,hF,h1,h2,s5⟩
def Vf(h:kE L j=ag):plN L j.2.1<=plN L j.1+1/\plN L j.1<=plN L j.2.1+1:=(KN _ _).mp (abQ h)
def K1{js:List Jt}{L:List 2.10}(h:js.all (kE L)=ag):∀{qs:List Pt}{x y:Str},go js x qs=ac y->plN L y<=plN L x+qs.length
 |[],x,y,e=>by rw[go]at e;cases e;exact ZZ _
 |q::r,x,y,e=>by
  rw[go]at e;cases V:ed js q with
  |none=>rw[V]at e;cases e
  |some D=>
   obtain⟨b,v⟩:=D;rw[V]at e;simp![]at e;split at e
   .rename_i hb
    subst hb;have h1:=K1 h e;have h2:plN L v<=plN L b+1:=by
     unfold ed at V;split at V
     .cases hj:js[q.1.toNat]? with
      |none=>rw[hj]at V;cases V
      |some j=>
       rw[hj]at V;have hn:=Vf (abU.mp h j (aau hj));have V:(if q.2=1 then(j.1,j.2.1)else(j.2.1,j.1))=(b,v):=by simpa using V
       split at V
       .cases V;exact hn.1
       .cases V;exact hn.2
     .cases V
    rw[Z4];omega
   .cases e
def Q8(hn:(ky us).Nodup)(I:Lst 2.1 a us)(hs:∀p∈ps,Sd1 p)(h:jZ js a b ps L=ag):∃qs,(b,qs)∈us/\qs.length=ps.length:=by
 simp![jZ,aaa,decide_eq_true_eq,adL,af5,Option.isSome_eq_false_iff,Option.isNone_iff_eq_none]at h;obtain⟨⟨⟨h1,h2,_⟩,O,Z⟩,V⟩:=h;have F:=((Oc (by simp)).mp h1).1;obtain⟨⟨y,qs⟩,hu,e⟩:=List.mem_map.mp (I.has F hs);have e:y=b:=e;subst e;refine⟨qs,hu,Nat.le_antisymm (I.le hn hu F hs) ?_⟩;have q:=K1 V (T3 (I.1 _ hu)).1;have U:plN L y=L.length:=by unfold plN;rw[O];rfl
 have D:plN L a=0:=by
  rcases Z with z|z
  .have:=HS L a;omega
  .unfold plN;rw[z];rfl
 rw[U,D]at q;simp only at q;omega
def Rj(J:m≠.scr):∃ps,ik (wM m us) [.str x,.tup []]=ac (pT ps)/\((x,ps)∈us∨ps=[]/\x∉ky us):=by
 by_cases h:x∈us.map (·.1)
 .obtain⟨i,h1,h2,h3⟩:=lY h
  rw[Pr]at h3;refine⟨us[i].2,?_,.inl ?_⟩
  .simp![ik,wM,aag J,dm,gD,h1]
   rw[List.getElem?_map,List.getElem?_eq_getElem h3];rfl
  .have:us[i].1=x:=by rw[List.getElem?_map,List.getElem?_eq_getElem h3]at h2;simpa using h2
   rw[←this];exact abh h3
 .have h2:c7 ((us.map (·.1)).map aaf) (aaf x:Key)=af:=by
   unfold c7;rw[aay];intro y V;obtain⟨z,hz,rfl⟩:=List.mem_map.mp V;exact aac λe=>h (by cases e;exact hz)
  exact⟨[],by simp![ik,wM,aag J,dm,gD,h2];rfl,.inr ⟨rfl,h⟩⟩
def sX:∀{ds:List D}{m:Nat},(∀e∈ds,tz e<=m)->tzL ds<=ds.length*(m+2)
 |[],m,_=>by simp[tzL]
 |d::r,m,h=>by
  have h1:=h d (by simp);have h2:=sX (ds:=r) λe V=>h e (by simp[V]);rw[tzL,Z4,Nat.succ_mul];omega
def sZ:∀{ds:List D}{m:Nat},(∀e∈ds,dz e<=m)->dzL ds<=m
 |[],m,_=>by simp[dzL]
 |d::r,m,h=>by
  have h1:=h d (by simp);have h2:=sZ (ds:=r) λe V=>h e (by simp[V]);rw[dzL];omega
def Jc:∀l:List Pt,gw 2.133=ag
 |[]=>rfl
 |j::r=>by simp[gw,ptD,g_,Jc r]
def Ih:∀l:List 2.10,gw (l.map lvT)=ag
 |[]=>rfl
 |j::r=>by simp[gw,lvT,g_,oH,Ih r]
def Wa(hS:S=lvP L∨S= .tup 2.77)(F:js.length<=28)(U:∀j∈js,(j.1∈zH/\j.2.1∈zH)/\j.2.2.natAbs<=10000000000000)(J:∀p∈ps,Pw p)(a5:ps.length<=100)(q:∀l∈L,Gl 30 l)(a4:L.length<=30):∃x,ur [.lst .own [.lst .frz 2.6,pT ps,S]]=ac (.str x):=by
 have t1:tzL 2.6<=(js.map jD).length*(60+2):=sX λe V=>by
  obtain⟨j,a0,rfl⟩:=List.mem_map.mp V;obtain⟨⟨h1,h2⟩,O⟩:=U j a0;have Z:=(zU _ h1).2;have h5:=(zU _ h2).2;simp![jD,tz,tzL];rw[if_pos 1.10];omega
 have t2:tzL (ps.map ptD)<=(ps.map ptD).length*(60+2):=sX λe V=>by
  obtain⟨p,a2,rfl⟩:=List.mem_map.mp V;obtain⟨h1,h2⟩:=J p a2;simp![ptD,tz,tzL];rw[if_pos 1.10,if_pos (by rcases h1 with h|h<;>omega)];omega
 have t3:∀l∈L,tzL 2.7<=2000/\dzL 2.7<=1:=λl Y=>by
  have z:=q l Y;have h1:tzL 2.7<=(l.map D.str).length*(60+2):=sX λe V=>by
   obtain⟨x,a3,rfl⟩:=List.mem_map.mp V;have Z:=(zU _ (z.2 x a3)).2;simp![tz];omega
  rw[Pr]at h1;have:=z.1;exact⟨by omega,sZ λe V=>by
   obtain⟨j,a0,rfl⟩:=List.mem_map.mp V;simp[dz]⟩
 have z1:dzL 2.6<=1:=sZ λe V=>by
  obtain⟨j,a0,rfl⟩:=List.mem_map.mp V;simp[jD,dz,dzL]
 have I:dzL (ps.map ptD)<=1:=sZ λe V=>by
  obtain⟨j,a0,rfl⟩:=List.mem_map.mp V;simp[ptD,dz,dzL]
 rw[Pr]at t1 t2;have a1:tz S<=70000/\dz S<=4/\g_ S=ag:=by
  rcases hS with rfl|rfl
  .have h1:tzL 2.176<=(L.map 2.35).length*(2004+2):=sX λe V=>by
    obtain⟨l,Y,rfl⟩:=List.mem_map.mp V;have:=(t3 l Y).1;simp![lvL,tz];omega
   have h2:dzL 2.176<=2:=sZ λe V=>by
    obtain⟨l,Y,rfl⟩:=List.mem_map.mp V;have:=(t3 l Y).2;simp![lvL,dz];omega
   rw[Pr]at h1;exact⟨by simp![lvP,tz];omega,by simp![lvP,dz];omega,by rw[lvP,g_];exact zu .frz L⟩
  .have h1:tzL 2.77<=(L.map lvT).length*(2004+2):=sX λe V=>by
    obtain⟨l,Y,rfl⟩:=List.mem_map.mp V;have:=(t3 l Y).1;simp![lvT,tz];omega
   have h2:dzL 2.77<=2:=sZ λe V=>by
    obtain⟨l,Y,rfl⟩:=List.mem_map.mp V;have:=(t3 l Y).2;simp![lvT,dz];omega
   rw[Pr]at h1;exact⟨by simp![tz];omega,by simp![dz];omega,by rw[g_];exact Ih L⟩
 refine RZ ?_ ?_ ?_
 .simp[g_,gw,HR,pT,Jc,a1]
 .simp![tz,tzL,pT]
  have:=a1.1;omega
 .simp![dz,dzL,pT]
  have:=a1.2.1;omega
def Zi(hn:(ky us).Nodup)(Y:us.length<=60)(V:ρ[5]? =ac (ac (wM .frz us)))(q:ρ[6]? =ac 2.78)(U:ps.length<=1000) :
  bH [af,ac 5] (pJ (aj 2.179 au)) (tpN 0) eTT (eAp jX (aj (lZ 1 [af,ac 0,ac 1] (tpN 0) 2.150 2.2) au)) ρ=ac (.lst .own ((lev us ps.length).map 2.162)):=by
 have F:pJ (aj 2.179 au) ρ=ac (ag,jd 0 ps.length):=by
  have z:=iK ps;have:=Ky (f:=aj 2.179 au) (ρ:=ρ) (j:=ps.length) (by simp[aj,eAp,au,ao,q,z,zm,az]) 1.10 1.10;rw[this,aa6]
 have a0:∀k,jX [.lst .own (((ky us).filter (jW us k)).map D.str)]=ac (lvL .own (Ba ((ky us).filter (jW us k)))):=λk=>by
  simp![jX,Cr];have:((ky us).filter (jW us k)).length<=us.length:=aaC (afd _ _) (by rw[jN];exact ZZ _);rw[if_pos (by rw[Pr];omega)];rfl
 simp![bH,F,gD,oK];rw[if_pos 1.10];have I:gP (tpN 0) eTT (eAp jX (aj (lZ 1 [af,ac 0,ac 1] (tpN 0) 2.150 2.2) au)) (fZ [af,ac 5] ρ) (jd 0 ps.length)=ac (((jd 0 ps.length).filter λ_=>ag).map λd=>match d with|.int i=>lvL .own (Ba ((ky us).filter (jW us i.toNat)))|_=>.non):=by
  refine gF λd hd=>?_;obtain⟨i,hi⟩:=acI hd;obtain⟨_,rfl⟩:=oG hi;have O:=U6 hn Y i;have J:az (.lst .own (((ky us).filter (jW us i)).map D.str))=ag:=by simp[az,cY]
  generalize lZ 1 [af,ac 0,ac 1] (tpN 0) 2.150 2.2=E at O⊢;simp[fZ,V,tpN,aN,eTT,eAp,aj,au,O,a0 i,clean,aA,az,cY]
 rw[I,filter_tt];have Z:(jd 0 ps.length).map (λd=>match d with|.int i=>lvL .own (Ba ((ky us).filter (jW us i.toNat)))|_=>.non)=(lev us ps.length).map (lvL .own):=by
  rw[jd,lev,Z5,Z5];refine aak λk _=>?_;simp![abR,Int.zero_add,aa6]
 rw[Z,aao]
def RtE(d N J:D)(a b:Str)(U:D)(w:List Pt)(P z I O Z V q Y F:Option D):En:=[ac d,ac N,ac J,ac 2.70,ac 2.71,ac U,ac (pT w),P,z,I,O,Z,V,q,Y,F]
def RtQ(n:Int)(N J:D)(a b:Str)(q:D×List D):Prop:=∃d',q=(.bl ag,[d',N,J,.str a,.str b])/\Sd (n+150) d'
def RoI(n:Int)(N J:D)(a b:Str)(U:D)(w:List Pt)(P:D)(k:Nat)(ρ:En):Prop:=∃(d':D)(z I O Z V q Y F:Option D),ρ=RtE d' N J a b U w (ac P) z I O Z V q Y F/\Sd (n+25*k) d'
def RpI(n:Int)(N J:D)(a b:Str)(U:D)(w:List Pt)(P z O V q Y F:Option D)(c:Nat)(ρ:En):Prop:=∃(d':D)(ps:List Pt)(Z:Option D),ρ=RtE d' N J a b U w P z 2.78 O Z V q Y F/\(∀p∈ps,Pw p)/\ps.length<=15+29*c/\Sd (n+1+4*c) d'
def RlI(n:Int)(N J:D)(a b:Str)(U:D)(w:List Pt)(P z I V q Y F:Option D)(c:Nat)(ρ:En):Prop:=∃(d' R:D)(L:List 2.10)(Z:Option D),ρ=RtE d' N J a b U w P z I (ac R) Z V q Y F/\Fzl R L/\L.length<=15+c/\(∀l∈L,Gl (20+c) l)/\Sd (n+1+5*c) d'
def Yn{n:Int}{d N:D}{js:List Jt}{a b:Str}{U:D}{w ps:List Pt}{P z a5 a6 a4 a3 Y F:Option D}(hd:Sd n d)(hn:n<800000)(a9:js.length<=28)(V:∀p∈ps,Pw p)(b1:ps.length<=15){Q:Fl->Prop}(q:∀c ρ,c<=2->RpI n N 2.156 a b U w P z a5 a4 a3 Y F c ρ->Q (.nx ρ)) :
  Wp (lw (j5 (bQ (eIo aC [0] 2.56) (bF au))) (tgN 11) (dD (eIo cP [0] 2.191) (tgN 9)) (RtE d N 2.156 a b U w P z 2.78 a5 a6 a4 a3 Y F)) Q:=by
 have a0:=λ{n:Int}{d:D}{ps:List Pt}(h1:Sd n d)(h2:n<900000)(h3:ps.length<=900)(Z:∀p∈ps,Pw p)=>Vr (a:=a) (b:=b) h1 h2 (show js.length<=900 by omega) h3 Z;have hJ:=JJ.lst js;generalize D.lst .frz 2.6=J at hJ a0 q⊢;generalize cP=F2 at a0⊢;refine Fq (RpI n N J a b U w P z a5 a4 a3 Y F) rfl hd 1.10 rfl 1.10 1.10 (λd' s=>⟨d',ps,a6,rfl,V,by omega,s.le 1.10⟩) ?_ (λc ρ O=>q c ρ 1.10);rintro c ρ O ⟨d2,ps,a8,rfl,h1,h2,I⟩;have a1:=iK ps;refine kJ (Jp rfl (as:=[J,.str a,.str b,pT ps]) (by simp[RtE,aj,au,ao,view,hJ.v,a1]) ⟨by simp[aF,aA,hJ.b,a1],by simp[aD,az,hJ.o,a1]⟩ ?_);rw[show fzL [J,.str a,.str b,pT ps]=[J,.str a,.str b,pT ps]by simp[fzL,fz,hJ.f,a1]];refine(a0 I 1.10 1.10 h1).mono ?_;rintro _ ⟨a2,d',rfl,a7,b0,s5⟩;exact⟨d',_,rfl,_,Ay ⟨(iK a2).1,(iK a2).2.1⟩,_,rfl,d',a2,_,rfl,a7,by omega,s5.le (by push_cast;omega)⟩
def Y9{n:Int}{d J:D}{ns:List Str}{a b:Str}{U:D}{w:List Pt}{L:List 2.10}{P x8 x9 a7 a2 a1 Y F:Option D}(hd:Sd n d)(hn:n<800000)(b4:∀x∈ns,x∈jL)(b2:ns.length<=14)(hL:∀l∈L,Gl 20 l)(b5:L.length<=15){Q:Fl->Prop}(q:∀c ρ,c<=2->RlI n 2.172 J a b U w P x8 x9 a2 a1 Y F c ρ->Q (.nx ρ)) :
  Wp (lw (j5 (bQ (eIo aC [0] 2.56) (bF au))) (tgN 11) (sFz 10 (dD (eIo b_ [0] (bF (aj 2.9 (aj (ao ae 10) au)))) (tgN 10))) (RtE d 2.172 J a b U w P x8 x9 (ac (lvP L)) a7 a2 a1 Y F)) Q:=by
 have a0:=λ{n:Int}{d:D}{K:Nat}{L:List 2.10}(h1:Sd n d)(h2:n<900000)(h3:L.length<=900)(Z:∀l∈L,Gl K l)(V:K<=900)=>Wc h1 h2 b4 b2 h3 Z V;have z:=SS.lst ns;generalize D.lst .frz 2.21=N at z a0 q⊢;generalize b_=F2 at a0⊢;have b3:=LL.lst L;obtain⟨p1,p2,_⟩:=lvf L;refine Fq (RlI n N J a b U w P x8 x9 a2 a1 Y F) rfl hd 1.10 rfl 1.10 1.10 (λd' s=>⟨d',lvP L,L,a7,rfl,⟨b3.f,by rw[lvP,aA,p1];rfl,by rw[lvP,az,p2];rfl⟩,by omega,hL,s.le 1.10⟩) ?_ (λc ρ O=>q c ρ 1.10);rintro c ρ O ⟨d2,R,L,b1,rfl,hF,h1,h2,I⟩;have hP:=LL.lst L;have a8:∀b,view b (lvP L)=lvP L:=hP.v;have a6:fz (lvP L)=lvP L:=hP.f;obtain⟨m1,m2,_⟩:=lvf L;have a3:aA (lvP L)=ag/\az (lvP L)=ag:=⟨by rw[lvP,aA,m1];rfl,by rw[lvP,az,m2];rfl⟩;have b0:g8 10 ((RtE d2 N J a b U w P x8 x9 (ac R) b1 a2 a1 Y F).set 11 2.112)=ac (RtE d2 N J a b U w P x8 x9 (ac (lvP L)) 2.112 a2 a1 Y F):=by simp[g8,RtE,hF.f]
 refine Gz b0 ?_;have a4:=a0 I 1.10 1.10 h2 1.10;unfold OlQ at a4;generalize lvP L=P' at a8 a6 a3 a4;refine kJ (Jp rfl (as:=[N,P']) (by simp[RtE,aj,au,ao,z.v,a8]) ⟨by simp[aF,z.b,a3],by simp[aD,z.o,a3]⟩ ?_);rw[show fzL [N,P']=[N,P']by simp[fzL,z.f,a6]];refine a4.mono ?_;rintro _ ⟨R',L',d',rfl,a5,b6,a9,s5⟩;exact⟨d',_,rfl,_,Ay ⟨a5.b,a5.o⟩,_,rfl,d',R',L',_,rfl,a5,by omega,a9,s5.le (by push_cast;omega)⟩
def Wu{N U z R:D}{w:List Pt}(h:E (RtE d N J a b z w af af af af af af af af af)=ac R)(Y:fz U=z)(O:aA R=ag/\az R=ag)(q:Q (.nx (RtE d N J a b z w (ac R) af af af af af af af af))):Wp (sFz 5 (bO E (tgN 7)) (RtE d N J a b U w af af af af af af af af af)) Q:=by
 simp![RtE]at h;simp[sFz,g8,RtE,Y,bO,h,tgN,clean,O,cI,aQ,aN,w_ite];exact q
def R5(hd:Sd n d)(hn:n<700000)(b8:∀x∈ns,x∈jL)(hl:ns.length<=14)(b0:∀j∈js,Jk ns j)(e9:js.length<=28)(Y:a∈ns++[("lone":Str)]):Wp (fV [d,.lst .frz 2.21,.lst .frz 2.6,.str a,.str b]) (RtQ n 2.172 2.156 a b):=by
 have hj:∀j∈js,j.1∈ns++[("lone":Str)]/\j.2.1∈ns++[("lone":Str)]:=λj h=>⟨ZV _ (b0 j h).1.1,ZV _ (b0 j h).1.2⟩;have g1:∀j∈js,(j.1∈zH/\j.2.1∈zH)/\j.2.2.natAbs<=10000000000000:=λj h=>⟨⟨ZV _ (b8 _ (b0 j h).1.1),ZV _ (b8 _ (b0 j h).1.2)⟩,(b0 j h).2⟩;have i0:(ns++[("lone":Str)]).length<=15:=by simp;omega
 have h8:∀x∈ns++[("lone":Str)],x∈zH:=λx hx=>by
  rcases Ls.mp hx with z|z
  .exact ZV _ (b8 x z)
  .rw[aab.mp z];decide +kernel
 have hJ:=JJ.lst js;obtain⟨dB,qB,ks,rfl,g2⟩:=Dj (JJ.lst js) 1.10;obtain⟨dL,qL,us,rfl,c1,f9,f0,b2⟩:=Tr g2 qB Y hj 1.10;have e3:=qJ c1 f0;rw[jN]at e3;have d6:aZ cH [.lst .frz 2.6,.str a]=ac (wM .own us):=call_of (by simpa[fzL,fz,wC,mkF]using qL) (Wm us);obtain⟨w,Z,f3⟩:=Rj (us:=us) (m:=.brw) (x:=b) (by decide);have c5:w.length<=15/\∀p∈w,Pw p:=by
  rcases f3 with z|⟨rfl,_⟩
  .obtain⟨h2,h3⟩:=T3 (f9.1 _ z)
   have h1:=b2 _ z;exact⟨aaC h1 1.10,λp V=>⟨h3 p V,by have:=Qq h2 p V;omega⟩⟩
  .exact⟨by simp,by simp⟩
 obtain⟨L0,d0⟩:∃L0,L0=lev us w.length:=⟨_,rfl⟩;have e0:L0.length<=15:=by rw[d0,Su];exact c5.1
 have f8:∀l∈L0,Gl 20 l:=λl h=>by
  rw[d0]at h;obtain⟨k,_,rfl⟩:=List.mem_map.mp h;refine⟨?_,λx hx=>h8 x (f0 x (adE.mp ((yL _).subset hx)).1)⟩;have:=afd (jW us k) (ky us);rw[(yL _).length_eq];rw[jN]at this;omega
 have e7:=λ{ps:List Pt}{L:List 2.10}(h1:ps.length<=900)(h2:∀p∈ps,Sd1 p)(h3:L.length<=1000)(h4:∀l∈L,l.length<=1000/\∀x∈l,x.length<=1000)=>call_of (F:=bG) (ds:=[.lst .frz 2.6,.str a,.str b,pT ps,lvP L]) (by
  simp![fzL,fz,mkF,wC,(LL.lst L).f,(iK ps).2.2.2.1,show fz (lvP L)=lvP L from(LL.lst L).f];exact Zf (a:=a) (b:=b) hJ h1 h2 h3 h4) rfl
 have c9:=λ{J S:D}{ps:List Pt}{L:List 2.10}(hJ:J= .lst .frz 2.6∨J= .tup 2.6)(hS:LL S L)(h1:ps.length<=900)(h2:∀p∈ps,Sd1 p)(h3:L.length<=1000)(h4:∀l∈L,l.length<=1000/\∀x∈l,x.length<=1000)(h5:∀l∈L,∀x∈l,x∈zH)=>call_of (F:=bV) (ds:=[J,.str a,.str b,pT ps,S]) (by
  have f6:JJ J js:=by rcases hJ with rfl|rfl;exact JJ.lst js;exact JJ.tup js
  simp![fzL,fz,f6.f,hS.f,(iK ps).2.2.2.1];exact P_ (a:=a) (b:=b) f6 hS h3 h4 h5 (by decide +kernel) 1.10 h1 h2) rfl
 have b1:=hJ.v;have d8:aA (D.lst .frz 2.6)=ag/\az (D.lst .frz 2.6)=ag:=⟨hJ.b,hJ.o⟩;have c3:=λ{n:Int}{d N U:D}{w ps:List Pt}{P x8 d1 a7 a4 a3 a2 a1:Option D}(hd:Sd n d)(hn:n<800000)(V:∀p∈ps,Pw p)(d7:ps.length<=15)=>@Yn n d N js a b U w ps P x8 d1 a7 a4 a3 a2 a1 hd hn e9 V d7;have c2:=λ{n:Int}{d J U:D}{w:List Pt}{L:List 2.10}{P x8 x9 a7 a4 a3 a2 a1:Option D}(hd:Sd n d)(hn:n<800000)(hL:∀l∈L,Gl 20 l)(c6:L.length<=15)=>@Y9 n d J ns a b U w L P x8 x9 a7 a4 a3 a2 a1 hd hn b8 hl hL c6;obtain⟨J,a6⟩:∃J,J=D.lst .frz (js.map jD):=⟨_,rfl⟩;obtain⟨N,f5⟩:∃N,N=D.lst .frz (ns.map D.str):=⟨_,rfl⟩;unfold RtQ;rw[←a6,←f5];rw[←a6]at d6 b1 d8 c3;rw[←f5]at c2;have i1:JJ J js:=by rw[a6];exact hJ
 have f1:=QT (us:=us) (m:=.own) 2.81;have e1:=Qh (us:=us);have f4:fz 2.146=wM .frz us:=U8 (by decide);have b4:=λps=>iK ps;have b9:∀x:Str,view ae 2.89= .str x:=λ_=>rfl;have g7:∀i:Int,view ae 2.72= .int i:=λ_=>rfl;refine wK rfl ?_;refine gR 2.146 [ac d,ac N,ac J,ac 2.70,ac 2.71,ac 2.146,af,af,af,af,af,af,af,af,af,af] (by simp![en0,eAp,aj,au,ao,ZX,aax,aaj,Z6,Z7,b1,b9,gD];exact d6) f1 ?_;refine gR (pT w) (RtE d N J a b 2.146 w af af af af af af af af af) (by simp[eMt,eAp,aj,au,ao,bx,b9,e1,Z]) ⟨(iK w).1,(iK w).2.1⟩ ?_;obtain⟨U,c4⟩:∃U,U=wM .frz us:=⟨_,rfl⟩;refine bZ (λρ=>ρ=RtE d N J a b U w (ac (.lst .own (L0.map 2.162))) af af af af af af af af) (λQ q=>?_) ?_
 .have e8:=Zi (ρ:=RtE d N J a b U w af af af af af af af af af) (ps:=w) c1 1.10 (by rw[c4];rfl) rfl 1.10
  rw[←d0]at e8;have e5:=lvc L0;exact Wu e8 (f4.trans c4.symm) ⟨e5.1,e5.2.1⟩ (q _ rfl)
 rintro _ rfl;clear f4 f1 e1 d6 qL qB c4;refine bZ (RoI n N J a b U w (lvP L0) 6) (λQ q=>?_) ?_
 .have b7:g8 7 (RtE d N J a b U w (ac (.lst .own (L0.map 2.162))) af af af af af af af af)=ac (RtE d N J a b U w 2.52 af af af af af af af af):=by
   have:=(Fzl.lst .own 2.81 L0).f;simp[g8,RtE,this]
  have g4:pJ (aj 2.132 au) (RtE d N J a b U w 2.52 af af af af af af af af)=ac (ag,jd 0 6):=Ky (j:=6) (by simp[aj,eC,au]) 1.10 1.10;refine Gz b7 (N8 (RoI n N J a b U w (lvP L0)) g4 ⟨d,_,_,_,_,_,_,_,_,rfl,by simpa using hd⟩ ?_ (λρ h=>q _ (by rwa[oK]at h)));rintro k x ρ I ⟨d2,x8,x9,d1,a7,a4,a3,a2,a1,rfl,s2⟩;obtain⟨i2,rfl⟩:=oG I;refine⟨_,Ay ⟨rfl,rfl⟩,?_⟩;refine vM (ρ':=RtE d2 N J a b U w 2.52 2.8 (ac (pT w)) 2.52 a7 a4 a3 a2 a1) ?_ ?_
  .obtain⟨m1,m2,_⟩:=lvf L0
   have a5:aA (lvP L0)=ag/\az (lvP L0)=ag:=⟨by rw[lvP,aA,m1];rfl,by rw[lvP,az,m2];rfl⟩;have a9:∀b,view b (lvP L0)=lvP L0:=(LL.lst L0).v;simp[RtE,bJ,aj,au,ao,b4,a9,a5,aP,tgN,cg,clean,aF,aD]
  refine bZ (λρ=>∃(ps:List Pt)(d3:D)(a0:Option D),(∀p∈ps,Pw p)/\ps.length<=100/\Sd (n+25*k+9) d3/\ρ=RtE d3 N J a b U w 2.52 2.8 2.78 2.52 a0 a4 a3 a2 a1) (λQ q=>?_) ?_
  .refine c3 s2 1.10 c5.2 c5.1 ?_
   rintro c _ O ⟨d3,ps,a0,rfl,h1,h2,s3⟩;exact q _ ⟨ps,d3,a0,h1,by omega,s3.le 1.10,rfl⟩
  rintro _ ⟨ps,d3,a0,e6,d7,s3,rfl⟩;refine bZ (λρ=>∃(R:D)(L:List 2.10)(d4:D)(a0:Option D),Fzl R L/\L.length<=30/\(∀l∈L,Gl 30 l)/\Sd (n+25*k+20) d4/\ρ=RtE d4 N J a b U w 2.52 2.8 2.78 (ac R) a0 a4 a3 a2 a1) (λQ q=>?_) ?_
  .refine c2 s3 1.10 f8 e0 ?_
   rintro c _ O ⟨d4,R,L,a0,rfl,hF,h1,h2,s4⟩;exact q _ ⟨R,L,d4,a0,hF,by omega,λl hl=>(h2 l hl).le 1.10,s4.le 1.10,rfl⟩
  clear s2 s3 a0;rintro _ ⟨R,L,d4,a0,hF,c6,b6,s4,rfl⟩;have hP:LL (lvP L) L:=LL.lst L;have a9:=hP.v;obtain⟨m1,m2,_⟩:=lvf L;have a5:aA (lvP L)=ag/\az (lvP L)=ag:=⟨by rw[lvP,aA,m1];rfl,by rw[lvP,az,m2];rfl⟩;have b3:∀p∈ps,Sd1 p:=λp V=>(e6 p V).1;have f7:∀l∈L,l.length<=1000/\∀x∈l,x.length<=1000:=λl h=>⟨by have:=(b6 l h).1;omega,λx hx=>by have:=(zU x ((b6 l h).2 x hx)).1;omega⟩;have b5:=e7 (ps:=ps) (L:=L) 1.10 b3 1.10 f7;obtain⟨du,a8⟩:∃du,du=jZ js a b ps L:=⟨_,rfl⟩;rw[←a8,←a6]at b5;have c0:aA (D.tup 2.77)=ag/\az (D.tup 2.77)=ag:=⟨by rw[aA];exact cF (iZ _ λl=>(SS.tup l).b),by rw[az];exact cG (iZ _ λl=>(SS.tup l).o)⟩;have g9:Cl (lvP L):=a5;have b7:g8 10 (RtE d4 N J a b U w 2.52 2.8 2.78 (ac R) a0 a4 a3 a2 a1)=ac (RtE d4 N J a b U w 2.52 2.8 2.78 (ac (lvP L)) a0 a4 a3 a2 a1):=by simp[g8,RtE,hF.f]
  refine bZ (λρ=>∃(S:D)(d5:D),(S=lvP L∨S= .tup 2.77)/\Sd (n+25*k+21) d5/\ρ=RtE d5 N J a b U w 2.52 2.8 2.78 (ac (lvP L)) a0 (ac S) a3 a2 a1) (λQ q=>?_) ?_
  .have o1:bH [af] (itS (ao ae 10)) (tpN 0) eTT (eAp jk 2.152) (RtE d4 N J a b U w 2.52 2.8 2.78 (ac (lvP L)) a0 a4 a3 a2 a1)=ac (.lst .own 2.77):=vf hP 1.10 rfl λd l hm hS=>by simp[fZ,eAp,aj,au,ao,hS.v,hS.g.2,hS.o,lvT]
   refine Gz b7 (kJ (qG (w_up (d:=.lst .own [lvP L,.tup 2.77]) ?_ (eG rfl s4 1.10 rfl 1.10 1.10 λr3 d5 p3 q3 s5=>?_))))
   .rw[eAp,aj,aj,eAp,aj,o1]
    simp[RtE,ao,a9,au,jk,bA]
   refine⟨by simp![az,aD]at a5 c0⊢;rw[a5.2,c0.2];rfl,?_⟩;by_cases h3:r3=0
   .exact⟨lvP L,by rw[h3];rfl,_,Ay g9,q _ ⟨_,d5,.inl rfl,s5.le 1.10,rfl⟩⟩
   .exact⟨.tup 2.77,by rw[show r3=1 by omega];rfl,_,Ay c0,q _ ⟨_,d5,.inr rfl,s5.le 1.10,rfl⟩⟩
  clear b7 s4 d4 hF R;rintro _ ⟨S,d5,hS,s5,rfl⟩;have c8:LL S L:=by rcases hS with rfl|rfl;exact LL.lst L;exact LL.tup L
  have h7:aA S=ag/\az S=ag:=by rcases hS with rfl|rfl;exact a5;exact c0
  obtain⟨P',g6⟩:∃P',P'=lvP L:=⟨_,rfl⟩;rw[←g6]at b5 a9 a5⊢;generalize aZ bG=GD at b5⊢;refine gR (.bl du) (RtE d5 N J a b U w 2.52 2.8 2.78 (ac P') a0 (ac S) (ac (.bl du)) a2 a1) (by simp[RtE,eAp,aj,au,ao,a9,b4,b1,b9,b5]) ⟨rfl,rfl⟩ ?_;obtain⟨kx,g0⟩:=Wa hS e9 g1 e6 d7 b6 c6;rw[←a6]at g0;have c7:∀f2 e4,eAp ur 2.170 (RtE d5 N J a b U w 2.52 2.8 2.78 (ac P') a0 (ac S) (ac (.bl du)) f2 e4)=ac (.str kx):=λf2 e4=>by
   simp[RtE,eAp,aj,au,ao,b4,b1,c8.v,bA,g0,aA,az,aF,aD,d8,h7]
  generalize eAp ur 2.170=ER at c7⊢;refine gR (.str kx) (RtE d5 N J a b U w 2.52 2.8 2.78 (ac P') a0 (ac S) (ac (.bl du)) (ac (.str kx)) a1) (c7 _ _) ⟨rfl,rfl⟩ ?_;obtain⟨J',h6,d9⟩:∃J',gIx (.lst .own [J,.tup 2.6]) (.int ((k:Int) % 2))=ac J'/\(J'= .lst .frz 2.6∨J'= .tup 2.6):=by
   have:(k:Int) % 2=0∨(k:Int) % 2=1:=by omega
   rcases this with z|z<;>rw[z]
   .exact⟨_,rfl,.inl a6⟩
   .exact⟨_,rfl,.inr rfl⟩
  have b2:=c9 d9 c8 1.10 b3 1.10 f7 λl h=>(b6 l h).2;rw[←a8]at b2;have h0:jk [J]=ac (.tup 2.6):=by rw[a6];rfl
  have h9:az J'=ag:=by rcases d9 with rfl|rfl;exact(JJ.lst js).o;exact(JJ.tup js).o
  generalize aZ bV=GD at b2⊢;refine gR (.bl du) (RtE d5 N J a b U w 2.52 2.8 2.78 (ac P') a0 (ac S) (ac (.bl du)) (ac (.str kx)) (ac (.bl du))) (by simp[eAp,aj,au,e2,eC,ao,RtE,b1,b4,c8.v,b9,g7,bA,h0,mV,h6,b2]) ⟨rfl,rfl⟩ ?_;have g3:cD [.bl du,.ty "bool"]=ac (.bl ag):=rfl;have g5:du=ag->ps.length=w.length:=λz=>by
   obtain⟨qs,h1,h2⟩:=Q8 c1 f9 b3 (a8▸z);rcases f3 with h|⟨_,h⟩
   .rw[Ab c1 h h1,h2]
   .exact absurd (aa3.mpr ⟨_,h1,rfl⟩) h
  refine vM (Iz ?_) ?_
  .cases du with
   |false=>simp[eOr,iz,jO,gQ,eB,e2,eC,ao,eAp,aj,au,RtE,view,g3,truth,Ue,isB]
   |true=>simp[eOr,iz,jO,gQ,eB,e2,eC,ao,eAp,aj,au,RtE,view,g3,truth,Ue,b4,zm,ne_int,g5 rfl,isB]
  refine xn ?_ ⟨_,rfl,d5,_,_,_,_,_,_,_,_,rfl,s5.le (by push_cast;omega)⟩;rw[eB,e2,c7];simp[ao,RtE,view,ne_str,isB]
 rintro _ ⟨d2,x8,x9,d1,a7,a4,a3,a2,a1,rfl,s2⟩;exact⟨_,rfl,_,rfl,d2,rfl,s2.le 1.10⟩
def LgE(s d:D)(q z Z U V F:Option D):En:=[ac s,ac d,q,z,Z,U,V,F]
def LgI(s:D)(k:Nat)(ρ:En):Prop:=∃(d:D)(q z Z U V F:Option D),ρ=LgE s d q z Z U V F/\Sd (1+2000*k) d
def LgJ(s:D)(n:Int)(q N J:D)(k:Nat)(ρ:En):Prop:=∃(d:D)(U V F:Option D),ρ=LgE s d (ac q) (ac N) (ac J) U V F/\Sd (n+200*k) d
def Nx(h:Sd n d):cQ d=ag:=by
 obtain⟨cs,t,rfl,_⟩:=h;have:∀l:List Int,bI (l.map D.int)=ag:=by
  intro l
  induction l with
  |nil=>rfl
  |cons p r F=>rw[ZX,bI,F];rfl
 simp[cQ,bI,this]
def UV(l:List Jt):bI (l.map jD)=ag:=by
 induction l with
 |nil=>rfl
 |cons p r F=>rw[ZX,bI,F];rfl
def Ph(ns:List Int)(h:ns.length<=63):qy [.lst .scr 2.86]=ac (.bl ag):=by
 obtain⟨d0,a9,s0⟩:=RQ h;have a8:fzL 2.86=ns.map D.int:=by rw[gq,Z5];rfl
 have a2:aZ eX [.lst .scr 2.86]=ac d0:=call_of (by simpa[fzL,fz,mkF,a8]using a9) (Nx s0);have a4:view ae (D.lst .scr 2.86)=D.lst .scr (ns.map D.int):=by simp[view,oU,mkV]
 apply Wp.eq;generalize D.lst .scr 2.86=S at a2 a4⊢;refine XN rfl ?_;refine gR d0 (LgE S d0 af af af af af af) (by simp![en0,eAp,aj,au,ao,ZX,aax,aaj,Z7,a4,gD];exact a2) s0.cl ?_;refine bZ (λ_=>True) (λQ q=>?_) (λρ _=>⟨_,rfl,rfl⟩);refine Ov (LgI S) (qG (w_up rfl (eG rfl s0 1.10 rfl 1.10 1.10 λz d1 p1 q1 Z=>⟨rfl,.int (1+z),rfl,(1+z).toNat,by simp only;rw[show(((1+z).toNat:Nat):Int)=1+z by omega],by omega,⟨d1,_,_,_,_,_,_,rfl,Z.le 1.10⟩,λk ρ I=>?_,λρ _=>q _ trivial⟩)));rintro⟨d2,x2,x3,x4,U,V,F,rfl,s2⟩;have b6:k<=1:=by omega
 refine mZ (Jp rfl rfl ⟨rfl,rfl⟩ ((QG s2 1.10).mono ?_));rintro _ ⟨ms,d3,rfl,b1,_,a3,s3⟩;refine⟨d3,_,rfl,⟨fB _,cY _⟩,?_⟩;have a5:view ae (D.lst .own 2.188)= .lst .brw (ms.map D.str):=by simp![view,fO];rfl
 have a7:fzL [D.lst .brw 2.188]=[.lst .frz 2.188]:=by simp[fzL,fz,oJ,mkF]
 refine mZ ?_;have b4:Wp (eIo dM [1] (bF 2.5) (LgE S d3 2.8 2.60 x4 U V F)) λp=>∃(js:List Jt)(d4:D),p=(.lst .own 2.6,LgE S d4 2.8 2.60 x4 U V F)/\(∀j∈js,Jk ms j)/\js.length<=28/\Sd (1+2000*k+1004) d4:=by
  refine Xp rfl (as:=[.lst .brw 2.188]) (by simp[LgE,aj,au,ao,a5]) (by simp[aD,az,cY]) ?_;rw[a7];refine(Gk s3 1.10 a3).mono ?_;rintro _ ⟨js,d4,rfl,h1,h2,s4⟩;exact⟨d4,_,rfl,by simp[cQ,UV],Nx s4,js,d4,rfl,h1,by omega,s4.le 1.10⟩
 obtain⟨_,e,js,d4,rfl,b3,b0,s4⟩:=b4;refine⟨_,e,⟨vO _,uw _⟩,?_⟩;have b2:g8 4 (LgE S d4 2.8 2.60 (ac (.lst .own 2.6)) U V F)=ac (LgE S d4 2.8 2.60 (ac 2.156) U V F):=by simp[g8,LgE,fz,wC,mkF]
 have a6:g8 3 (LgE S d4 2.8 2.60 (ac 2.156) U V F)=ac (LgE S d4 2.8 (ac (.lst .frz 2.188)) (ac 2.156) U V F):=by simp[g8,LgE,fz,oJ,mkF]
 have hN:=SS.lst ms;have O:=JJ.lst js;refine Gz b2 (Gz a6 (N8 (LgJ S (1+2000*k+1004) 2.177 (.lst .frz 2.188) 2.156) (items:=jd 0 3) (Ky (j:=3) rfl 1.10 1.10) ⟨d4,_,_,_,rfl,by simpa using s4⟩ ?_ ?_))
 .rintro i x ρ hi ⟨d6,y5,y6,y7,rfl,s6⟩
  obtain⟨b5,rfl⟩:=oG hi;have a0:=Zb (ns:=ms) s6 1.10 1.10;unfold Tw at a0;have a1:=λ{n:Int}{d:D}{a b:Str}(h1:Sd n d)(h2:n<700000)(Y:a∈ms++[("lone":Str)])=>R5 (b:=b) h1 h2 b1 a3 b3 b0 Y;unfold RtQ at a1;generalize D.lst .frz 2.188=N at hN a0 a1⊢;generalize D.lst .frz 2.6=J at O a1⊢;refine⟨_,Ay ⟨rfl,rfl⟩,?_⟩;refine Qs (kJ (Jp rfl (as:=[N]) (by simp[LgE,aj,au,ao,hN.v]) ⟨by simp[aF,hN.b],by simp[aD,hN.o]⟩ ?_));rw[show fzL [N]=[N]by simp[fzL,hN.f]];refine a0.mono ?_;rintro _ ⟨a,b,d7,rfl,Y,_,s7⟩;refine⟨d7,_,rfl,LgE S d7 2.8 (ac N) (ac J) (ac 2.72) (ac 2.70) (ac 2.71),rfl,_,rfl,?_⟩;obtain⟨_,e,d8,rfl,s8⟩:Wp (eIo fV [1] 2.217 (LgE S d7 2.8 (ac N) (ac J) (ac 2.72) (ac 2.70) (ac 2.71))) λp=>∃d8,p=(.bl ag,LgE S d8 2.8 (ac N) (ac J) (ac 2.72) (ac 2.70) (ac 2.71))/\Sd (1+2000*k+1004+200*i+200) d8:=by
   refine Jp rfl (as:=[N,J,.str a,.str b]) (by simp[LgE,aj,au,ao,hN.v,O.v,view]) ⟨by simp[aF,aA,hN.b,O.b],by simp[aD,az,hN.o,O.o]⟩ ?_;rw[show fzL [N,J,.str a,.str b]=[N,J,.str a,.str b]by simp[fzL,fz,hN.f,O.f]];refine(a1 s7 1.10 Y).mono ?_;rintro _ ⟨d8,rfl,s8⟩;exact⟨d8,_,rfl,d8,rfl,s8.le 1.10⟩
  refine⟨.nx (LgE S d8 2.8 (ac N) (ac J) (ac 2.72) (ac 2.70) (ac 2.71)),?_,d8,_,_,_,rfl,s8.le (by push_cast;omega)⟩;simp[uH,DN,CN,e,truth,cL,az]
 .rintro ρ ⟨d6,y5,y6,y7,rfl,s6⟩
  rw[oK]at s6;exact⟨_,rfl,d6,_,_,_,_,_,_,rfl,s6.le (by push_cast;omega)⟩
section
variable{P:Program}{w:World}{K:PySem.W.Frag}{mg:Str->Option Value}{base:Heap}{x qual:Str}{st:Stmt}{f:Addr}{fd:FuncData}{N ps:List Str}{body:En->Option Fl}
def qP(k:Nat)(ob:Nat->Bool)(F:Fun K x qual st f fd)(S:bh N ps (aK st))
 (U:(∀_:Unit,N.Nodup)->∀(cdv:Value)(A:aaK)(outer:List Env)(s:jl)(H:Hp)(E:XK),jM k 2.26->o5 (λ_:Unit=>(xV CX0 P w K mg base N qual (aK st) f cdv A outer s H E).nox) ⟨K,mg⟩ ob (λ_=>ae) (iM st) body) :
 dZ P w K mg base CX0 (k+1) f fd ps (spP ⟨K,mg⟩ (fnP ps.length N.length body)):=okP F S (U λ_=>S.nd)
def qI(k:Nat)(ob pr:Nat->Bool)(F:Fun K x qual st f fd)(S:bh N ps (aK st))
 (U:(∀_:Unit,N.Nodup)->∀(cdv:Value)(A:aaK)(outer:List Env)(s:jl)(H:Hp)(E:XK),jM k 2.26->o5 (λ_:Unit=>(xV CX0 P w K mg base N qual (aK st) f cdv A outer s H E).nox) ⟨K,mg⟩ ob pr (iM st) body) :
 dZ P w K mg base CX0 (k+1) f fd ps (spI ⟨K,mg⟩ ob pr (fnI pr ps.length N.length body)):=okI F S (U λ_=>S.nd)
end
def top(i:Nat):Stmt:=ad_.main.body.getD i (.Pass ⟨0,0,0,0⟩)
abbrev sF(n:List (Str×PySem.NameKind)):PySem.Scope:={kind:=.function,names:=n,isGenerator:=ae,isCoroutine:=ae}
local macro_rules
 |`(tactic|trivial)=>`(tactic|first|exact⟨rfl,by decide +kernel,by decide +kernel,by decide +kernel,rfl,by decide +kernel⟩|exact⟨rfl,rfl,rfl,by decide +kernel,rfl,by decide +kernel,by decide +kernel⟩)
open PySem.W (Frag nsIn fnOf keepIn codeIn mg_of mg_none_of)
abbrev nl0:List Str:=["thing"]
abbrev nl1:List Str:=["_law_script"]
abbrev nl2:List Str:=["_law_thing"]
abbrev nl3:List Str:=["_law_state","_law_names_here"]
abbrev nl4:List Str:=["_law_level"]
abbrev nl5:List Str:=["joinings","way"]
abbrev nl6:List Str:=["joinings","one","other","way"]
abbrev nl7:List Str:=["_law_state","_law_many"]
abbrev nl8:List Str:=["_law_state","_law_names_here","_law_spots","_law_found","_law_turn","_law_k","_law_j","_law_step","_law_way","_law_one","_law_other"]
abbrev nl9:List Str:=["_law_joinings_here"]
abbrev Vk:List Str:=["_law_joinings_here","_law_start"]
abbrev WD:List Str:=["_law_joinings_here","_law_one","_law_other","_law_way"]
abbrev Vy:List Str:=["_law_joinings_here","_law_levels","_law_place"]
abbrev W6:List Str:=["_law_joinings_here","_law_one","_law_other","_law_way","_law_levels","_law_place"]
abbrev VD:List Str:=["_law_joinings_here","_law_one","_law_other","_law_way","_law_levels"]
abbrev WY:List Str:=["joining","side"]
abbrev Wd:List Str:=["joinings","name","way"]
abbrev W4:List Str:=["joinings","one","other","way","levels","many","places"]
abbrev Ws:List Str:=["joinings","one","other","way","levels"]
abbrev Xe:List Str:=["_law_joinings_here","_law_one","_law_other"]
abbrev U3:List Str:=["_law_state","_law_joinings_here","_law_one","_law_other","_law_way"]
abbrev Wg:List Str:=["_law_state","_law_names_here","_law_levels"]
abbrev Va:List Str:=["_law_state","_law_names_here","_law_joinings_here","_law_one","_law_other","_law_ways","_law_way","_law_levels","_law_turn","_law_paper","_law_shown","_law_again","_law_handed","_law_due","_law_kept","_law_found"]
abbrev WL:List Str:=["_law_state","_law_names_here","_law_joinings_here","_law_one","_law_other"]
abbrev Wv:List Str:=["_law_level","_law_ways"]
abbrev Xw:List Str:=["begin","end","step","many","places"]
abbrev Xl:List Str:=["_law_joinings_here","_law_one","_law_other","_law_beside_here","_law_way","_law_met","_law_turn","_law_further"]
abbrev Yh:List Str:=["_law_state","_law_joinings_here","_law_one","_law_other","_law_way","_law_how","_law_at","_law_pair"]
abbrev X3:List Str:=["_law_state","_law_names_here","_law_levels","_law_how","_law_some","_law_word","_law_at"]
abbrev Yw:List Str:=["_law_name","_law_level","_law_ways"]
abbrev ob0:Nat->Bool:=λi=>i==0
abbrev gJ(P:aad)(w:World)(K:Frag)(mg:Str->Option Value)(base:Heap):Prop:=Cal P w K mg base 1 "_law_take" nl7 (spI ⟨K,mg⟩ ob0 ob0 aC)
abbrev pQ(P:aad)(w:World)(K:Frag)(mg:Str->Option Value)(base:Heap):Prop:=Cal P w K mg base 1 "_law_beside" nl9 (spP ⟨K,mg⟩ bK)
abbrev uL(P:aad)(w:World)(K:Frag)(mg:Str->Option Value)(base:Heap):Prop:=Cal P w K mg base 1 "_law_is_whole" nl2 (spP ⟨K,mg⟩ cA)
abbrev qx(P:aad)(w:World)(K:Frag)(mg:Str->Option Value)(base:Heap):Prop:=Cal P w K mg base 2 "_law_is_straight" WD (spP ⟨K,mg⟩ bB)
abbrev uD(P:aad)(w:World)(K:Frag)(mg:Str->Option Value)(base:Heap):Prop:=Cal P w K mg base 1 "_law_leads_on" Vy (spP ⟨K,mg⟩ cB)
abbrev tD(P:aad)(w:World)(K:Frag)(mg:Str->Option Value)(base:Heap):Prop:=Cal P w K mg base 1 "_law_are_names" nl2 (spP ⟨K,mg⟩ bN)
abbrev DK(P:aad)(w:World)(K:Frag)(mg:Str->Option Value)(base:Heap):Prop:=Cal P w K mg base 1 "is_couple" nl0 (spP ⟨K,mg⟩ eY)
abbrev Et(P:aad)(w:World)(K:Frag)(mg:Str->Option Value)(base:Heap):Prop:=Cal P w K mg base 1 "is_number" nl0 (spP ⟨K,mg⟩ dh)
abbrev Jd(P:aad)(w:World)(K:Frag)(mg:Str->Option Value)(base:Heap):Prop:=Cal P w K mg base 2 "is_pair" nl0 (spP ⟨K,mg⟩ cV)
abbrev PN(P:aad)(w:World)(K:Frag)(mg:Str->Option Value)(base:Heap):Prop:=Cal P w K mg base 1 "ends" WY (spP ⟨K,mg⟩ dF)
abbrev Bb(P:aad)(w:World)(K:Frag)(mg:Str->Option Value)(base:Heap):Prop:=Cal P w K mg base 1 "are_unlike" ["things"] (spP ⟨K,mg⟩ dI)
abbrev Qp(P:aad)(w:World)(K:Frag)(mg:Str->Option Value)(base:Heap):Prop:=Cal P w K mg base 3 "is_way" nl0 (spP ⟨K,mg⟩ gm)
abbrev X8(P:aad)(w:World)(K:Frag)(mg:Str->Option Value)(base:Heap):Prop:=Cal P w K mg base 2 "led" Wd (spP ⟨K,mg⟩ iu)
abbrev EY(P:aad)(w:World)(K:Frag)(mg:Str->Option Value)(base:Heap):Prop:=Cal P w K mg base 2 "names_met" nl5 (spP ⟨K,mg⟩ eZ)
abbrev ut(P:aad)(w:World)(K:Frag)(mg:Str->Option Value)(base:Heap):Prop:=Cal P w K mg base 1 "is_listed" nl0 (spP ⟨K,mg⟩ cz)
abbrev J6(P:aad)(w:World)(K:Frag)(mg:Str->Option Value)(base:Heap):Prop:=Cal P w K mg base 1 "is_name" nl0 (spP ⟨K,mg⟩ cX)
abbrev wA(P:aad)(w:World)(K:Frag)(mg:Str->Option Value)(base:Heap):Prop:=Cal P w K mg base 1 "first_places" ["levels"] (spP ⟨K,mg⟩ bY)
abbrev Cq(P:aad)(w:World)(K:Frag)(mg:Str->Option Value)(base:Heap):Prop:=Cal P w K mg base 4 "shows_way" nl6 (spP ⟨K,mg⟩ dw)
abbrev Dk(P:aad)(w:World)(K:Frag)(mg:Str->Option Value)(base:Heap):Prop:=Cal P w K mg base 2 "are_names" nl0 (spP ⟨K,mg⟩ cN)
abbrev xQ(P:aad)(w:World)(K:Frag)(mg:Str->Option Value)(base:Heap):Prop:=Cal P w K mg base 2 "_law_longer" Xe (spP ⟨K,mg⟩ cC)
abbrev sI(P:aad)(w:World)(K:Frag)(mg:Str->Option Value)(base:Heap):Prop:=Cal P w K mg base 2 "_law_least_ways" Vk (spP ⟨K,mg⟩ cH)
abbrev rT(P:aad)(w:World)(K:Frag)(mg:Str->Option Value)(base:Heap):Prop:=Cal P w K mg base 3 "_law_fewest_due" VD (spP ⟨K,mg⟩ bG)
abbrev xg(P:aad)(w:World)(K:Frag)(mg:Str->Option Value)(base:Heap):Prop:=Cal P w K mg base 5 "shows_fewest" Ws (spP ⟨K,mg⟩ bV)
abbrev sY(P:aad)(w:World)(K:Frag)(mg:Str->Option Value)(base:Heap):Prop:=Cal P w K mg base 3 "_law_other_way" U3 (spI ⟨K,mg⟩ ob0 ob0 cP)
abbrev pK(P:aad)(w:World)(K:Frag)(mg:Str->Option Value)(base:Heap):Prop:=Cal P w K mg base 2 "_law_other_levels" Wg (spI ⟨K,mg⟩ ob0 ob0 b_)
abbrev Bd(P:aad)(w:World)(K:Frag)(mg:Str->Option Value)(base:Heap):Prop:=Cal P w K mg base 1 "_law_begin" nl1 (spP ⟨K,mg⟩ eX)
abbrev zp(P:aad)(w:World)(K:Frag)(mg:Str->Option Value)(base:Heap):Prop:=Cal P w K mg base 2 "_law_names" ["_law_state"] (spI ⟨K,mg⟩ ob0 ob0 gV)
abbrev uW(P:aad)(w:World)(K:Frag)(mg:Str->Option Value)(base:Heap):Prop:=Cal P w K mg base 2 "_law_joinings" nl3 (spI ⟨K,mg⟩ ob0 ob0 dM)
abbrev Fz(P:aad)(w:World)(K:Frag)(mg:Str->Option Value)(base:Heap):Prop:=Cal P w K mg base 2 "_law_two" nl3 (spI ⟨K,mg⟩ ob0 ob0 iH)
abbrev zq(P:aad)(w:World)(K:Frag)(mg:Str->Option Value)(base:Heap):Prop:=Cal P w K mg base 6 "_law_right" WL (spI ⟨K,mg⟩ ob0 ob0 fV)
noncomputable abbrev nJ:Stmt:=top 21
noncomputable abbrev qm:Stmt:=top 22
noncomputable abbrev m7:Stmt:=top 23
noncomputable abbrev gO:Stmt:=top 24
noncomputable abbrev tK:Stmt:=top 27
noncomputable abbrev mD:Stmt:=top 25
noncomputable abbrev jB:Stmt:=top 26
noncomputable abbrev j8:Stmt:=top 28
noncomputable abbrev iU:Stmt:=top 29
noncomputable abbrev jY:Stmt:=top 31
noncomputable abbrev il:Stmt:=top 30
noncomputable abbrev fU:Stmt:=top 32
noncomputable abbrev j6:Stmt:=top 18
noncomputable abbrev lV:Stmt:=top 13
noncomputable abbrev nY:Stmt:=top 10
noncomputable abbrev nO:Stmt:=top 8
noncomputable abbrev uf:Stmt:=top 11
noncomputable abbrev su:Stmt:=top 12
noncomputable abbrev FJ:Stmt:=top 5
noncomputable abbrev Pg:Stmt:=top 6
noncomputable abbrev kO:Stmt:=top 14
noncomputable abbrev nA:Stmt:=top 15
noncomputable abbrev oE:Stmt:=top 9
noncomputable abbrev oO:Stmt:=top 3
noncomputable abbrev kY:Stmt:=top 17
noncomputable abbrev gM:Stmt:=top 19
noncomputable abbrev jR:Stmt:=top 34
noncomputable abbrev ir:Stmt:=top 35
noncomputable abbrev gf:Stmt:=top 36
noncomputable abbrev jH:Stmt:=top 37
noncomputable abbrev Om:Stmt:=top 38
structure Blt(mg:Str->Option Value):Prop where
 abs:mg "abs"=af
 all:mg "all"=af
 any:mg "any"=af
 bool_:mg "bool"=af
 divmod:mg "divmod"=af
 enumerate:mg "enumerate"=af
 int_:mg "int"=af
 isinstance:mg "isinstance"=af
 len:mg "len"=af
 list_:mg "list"=af
 min:mg "min"=af
 range:mg "range"=af
 repr:mg "repr"=af
 reversed:mg "reversed"=af
 set_:mg "set"=af
 sorted:mg "sorted"=af
 str_:mg "str"=af
 tuple:mg "tuple"=af
def aM{A:aaK}(r:jM k A):A.units+1<cLine:=by have:=r.units;omega
section
variable{P:Program}{w:World}{K:Frag}{mg:Str->Option Value}{base:Heap}
def zV:bh ["_law_script","_law_cells"] nl1 (aK nJ):=by trivial
def zR{f:Addr}{fd:aap}(F:Fun K "_law_begin" "_law_begin" nJ f fd)(B:Blt mg):dZ P w K mg base CX0 1 f fd nl1 (spP ⟨K,mg⟩ eX):=
 qP 0 (λi=>ae) F zV λnd _ _ _ _ _ _ Z=>(aB (bu 1 nd (jA ww (λ_=>rfl) (λ_=>B.list_) ad9 (aa (dg slb 2.159 dR (cO aH)) aq)))
  (aB (bM (a_ (cb_eq _ (λ_=>rfl) Z.units) 2.33 (d_ aq)) (aG (bu 1 nd (d_ (aa aH aq)))) bf)
  (aG (JX 1))))
def Dy:bh ["_law_state","_law_many","_law_turn","_law_spot","_law_cell","_law_digit","_law_mixed"] nl7 (aK qm):=by trivial
def Dg{f:Addr}{fd:aap}(F:Fun K "_law_take" "_law_take" qm f fd)(B:Blt mg):dZ P w K mg base CX0 1 f fd nl7 (spI ⟨K,mg⟩ ob0 ob0 aC):=
 qI 0 ob0 ob0 F Dy λnd _ _ _ _ _ _ Z=>(aB (bu 2 nd (bR cu (cT 1.13 (ak ag 0) jx) aH))
  (aB (mq 2.31 (qY (rO (λ_=>aM Z)) (gY 0) jx))
  (aB (bu 3 nd (bR qN 2.31 (aL bw (λ_=>rfl) (λ_=>B.len) aaw (aa (cT 1.13 (ak ag 0) jx) aq))))
  (aB (bu 4 nd (cT 1.13 (cT 1.13 (ak ag 0) jx) 2.163))
  (aB (bM (a_ TY 2.18 (bR W0 aH aH)) (aB (mq (aL G4 (λ_=>rfl) (λ_=>B.divmod) boot_divmod (aa 2.18 2.173)) (gU (λ_=>rfl) (bc (qY (rO (λ_=>aM Z)) (BK (λ_=>aM Z) (gY 0) jx) 2.163) (bc (aX 5 nd) fQ))))
  (aG (iY 5))) bf)
  (aB (bu 6 nd (bR qN (bR lW (bR cu (bR cu (bR qN 2.18 aH) (bR lW (bR lW 2.31 2.31) aH)) aH) aH) aH))
  (aB (bu 6 nd (bR qN (bR lW 2.34 2.34) aH))
  (aG (aV (bR qN (bR Rz (bR qN (bR lW (bR cu 2.34 (bR lW 2.31 aH)) aH) aH) aH) 2.33))))))))))
def Aj:bh ["_law_state","_law_many","_law_some","_law_first"] ["_law_state"] (aK m7):=by trivial
def zZ{f:Addr}{fd:aap}(F:Fun K "_law_names" "_law_names" m7 f fd)(B:Blt mg)(D:gJ P w K mg base):dZ P w K mg base CX0 2 f fd ["_law_state"] (spI ⟨K,mg⟩ ob0 ob0 gV):=
 qI 1 ob0 ob0 F Aj λnd _ _ _ _ _ _ Z=>(aB (dG 1 nd (m9 1.13 (R7 (bU (dq aH) (bU (dq aH) (bU (dq aH) (bU (dq aH) (bU (dq aH) (bU (dq aH) (bU (lO cu (dq aH) (bj 0 (λ_=>D) 1.11 2.32)) (bU (bj 0 (λ_=>D) 1.11 2.32) (aY aq)))))))))) (bj 0 (λ_=>D) 1.11 2.32)))
  (aB (bu 2 nd (yO Kr PySem.F.plainAttrs_str PySem.F.slot_str_split PySem.F.type_str_split jx (aa jx aq)))
  (aB (dG 3 nd (bj 0 (λ_=>D) 1.11 (aY (aa (aL bw (λ_=>rfl) (λ_=>B.len) aaw (aa 2.31 aq)) aq))))
  (aG (aV (dg slb (bR cu (dg slb 2.31 (cO 2.163) dR) (dg slb 2.31 dR (cO 2.163))) dR (cO 2.33)))))))
def uX:bh nl8 nl3 (aK gO):=by trivial
def pZ:Scope:=sF [(".0",.local),("_law_name",.local),("_law_take",.globalImplicit),("_law_state",.free)]
def sG:(["_law_name","_law_state"]:List Str).Nodup:=by decide +kernel
def rY:cJ (aK gO) nl8 ["_law_name","_law_state"] pZ [af,ac 0]:=by trivial
def p_:Scope:=sF [(".0",.local),("_law_spot",.local)]
def qQ:(["_law_spot"]:List Str).Nodup:=by decide +kernel
def rE:cJ (aK gO) nl8 ["_law_spot"] p_ [af]:=by trivial
def vd{f:Addr}{fd:aap}(F:Fun K "_law_joinings" "_law_joinings" gO f fd)(B:Blt mg)(D:gJ P w K mg base):dZ P w K mg base CX0 2 f fd nl3 (spI ⟨K,mg⟩ ob0 ob0 dM):=
 qI 1 ob0 ob0 F uX λnd _ _ _ _ _ _ Z=>(aB (Kd 2 [af,ac 0] ob0 nd (λ_=>rfl) (λ_=>rfl) (λ_=>rY) (Sw rfl) 2.135 (dJ 2.33) (JS 0 (λ_=>sG)) e_ (lO m6 (bj 1 (λ_=>D) 1.11 2.32) (dq aH)))
  (aB (BV (Ci (cb_eq _ (λ_=>rfl) Z.units) (bj 0 (λ_=>D) 1.11 2.32) (dq aH)) (aG (rW 2 [af] ob0 nd (λ_=>rfl) (λ_=>rfl) (λ_=>rE) 2.135 (dJ 2.31) (b8 0 (λ_=>qQ)) e_ (bR lW 2.159 aH))) bf)
  (aB (bu 3 nd (d_ aq))
  (aB (qZ (λ_=>aaz) (λ_=>rfl) (vh (λ_=>rfl) (λ_=>B.range) (bU (bj 0 (λ_=>D) 1.11 (aY (aa (bR cu (bR lW aH (aL bw (λ_=>rfl) (λ_=>B.len) aaw 2.173)) aH) aq))) (aY aq))) (aX 4 nd) (aB (Ma 5 6 (λ_=>rfl) nd (bU (bj 0 (λ_=>D) 1.11 (aY (aa (aL bw (λ_=>rfl) (λ_=>B.len) aaw 2.173) aq))) (bU (bj 0 (λ_=>D) 1.11 (aY (aa (aL bw (λ_=>rfl) (λ_=>B.len) aaw 2.173) aq))) (aY aq))))
  (aB (bu 7 nd (bR m6 (cT 1.13 2.31 2.34) (cT 1.13 2.31 2.53)))
  (aB (BV (Ci (cb_eq _ (λ_=>rfl) Z.units) (bj 0 (λ_=>D) 1.11 2.32) (dq aH)) (aG (dG 7 nd (lO m6 (bj 0 (λ_=>D) 1.11 2.32) (dq aH)))) bf)
  (aB (sE qu aaW abM abN (gY 3) (aa (eQ (aa (cT 1.13 2.33 2.53) (aa (cT 1.13 2.33 2.34) 2.109))) aq))
  (aB (dG 8 nd (bj 0 (λ_=>D) 1.11 2.32))
  (aB (bM (a_ (cb_eq _ (λ_=>rfl) Z.units) (ak ae 8) aH) (aG (vY (m9 1.13 (dq 2.163) (bj 0 (λ_=>D) 1.11 (aY (aa (aL bw (λ_=>rfl) (λ_=>B.len) aaw 2.24) aq)))) (qY (rO (λ_=>aM Z)) (gY 3) 2.126))) bf)
  (aG (bM (a_ (cb_eq _ (λ_=>rfl) Z.units) (ak ae 8) aH) (aB (vY (m9 1.13 (dq 2.163) (bj 0 (λ_=>D) 1.11 (aY (aa (aL bw (λ_=>rfl) (λ_=>B.len) aaw 2.24) aq)))) (gU (λ_=>rfl) (bc (aX 9 nd) (bc (aX 10 nd) (bc (aX 7 nd) fQ)))))
  (aG (mq (eQ (aa (ak ae 10) (aa (ak ae 9) (aa (lF jq (ak ae 7)) aq)))) (qY (rO (λ_=>aM Z)) (gY 3) 2.126)))) bf)))))))))
  (aG (iY 3))))))
def GX:bh ["_law_state","_law_names_here","_law_some","_law_one","_law_other"] nl3 (aK tK):=by trivial
def Ge{f:Addr}{fd:aap}(F:Fun K "_law_two" "_law_two" tK f fd)(B:Blt mg)(D:gJ P w K mg base):dZ P w K mg base CX0 2 f fd nl3 (spI ⟨K,mg⟩ ob0 ob0 iH):=
 qI 1 ob0 ob0 F GX λnd _ _ _ _ _ _ Z=>(aB (bu 2 nd (bR cu 2.33 (d_ (aa jx aq))))
  (aB (dG 3 nd (m9 1.13 (dq 2.31) (bj 0 (λ_=>D) 1.11 (aY (aa (aL bw (λ_=>rfl) (λ_=>B.len) aaw (aa 2.31 aq)) aq)))))
  (aB (dG 4 nd (m9 1.13 (dq 2.31) (bj 0 (λ_=>D) 1.11 (aY (aa (aL bw (λ_=>rfl) (λ_=>B.len) aaw (aa 2.31 aq)) aq)))))
  (aG (Ds (Hi (bU (dq 2.163) (bU (m9 1.13 (dq (d_ (aa 2.18 2.24))) (G8 Ry (λ_=>rfl) (λ_=>B.int_) boot_int (bU (Tc (cb_eq _ (λ_=>rfl) Z.units) (bj 0 (λ_=>D) 1.11 2.32) (dq aH)) (aY aq)))) (aY aq)))))))))
def xX:bh ["_law_joinings_here","_law_found","_law_number","_law_one","_law_other","_law_step"] nl9 (aK mD):=by trivial
def xT{f:Addr}{fd:aap}(F:Fun K "_law_beside" "_law_beside" mD f fd)(B:Blt mg):dZ P w K mg base CX0 1 f fd nl9 (spP ⟨K,mg⟩ bK):=
 qP 0 (λi=>ae) F xX λnd _ _ _ _ _ _ Z=>(aB (bu 1 nd vq)
  (aB (gn (λ_=>aaz) (λ_=>rfl) (El (λ_=>rfl) (λ_=>B.enumerate) 2.17) (gU (λ_=>rfl) (bc (aX 2 nd) (bc (gU (λ_=>rfl) (bc (aX 3 nd) (bc (aX 4 nd) (bc (aX 5 nd) fQ)))) fQ))) (aB (Ii 1 (aa 2.163 (aa (d_ aq) aq)) (aa (eQ (aa (eQ (aa 2.31 (aa aH aq))) 2.167)) aq))
  (aG (Ii 1 (aa 2.18 (aa (d_ aq) aq)) (aa (eQ (aa (eQ (aa 2.31 (aa 2.126 aq))) 2.24)) aq)))))
  (aG (iY 1))))
def sS:bh ["_law_joinings_here","_law_start","_law_beside_here","_law_found","_law_here","_law_further","_law_name","_law_pair","_law_other","_law_way"] Vk (aK jB):=by trivial
def rK{f:Addr}{fd:aap}(F:Fun K "_law_least_ways" "_law_least_ways" jB f fd)(B:Blt mg)(I:pQ P w K mg base):dZ P w K mg base CX0 2 f fd Vk (spP ⟨K,mg⟩ cH):=
 qP 1 (λi=>ae) F sS λnd _ _ _ _ _ _ Z=>(aB (bu 2 nd (cZ (λ_=>I) 1.11 2.17))
  (aB (bu 3 nd (Io (zg 2.33 (eQ aq) CK)))
  (aB (bu 4 nd (Io (zg 2.33 (eQ aq) CK)))
  (aB (J5 1000000 (λ_=>aaz) (Rf (a_ (Ve _ (λ_=>rfl) Z.units) 2.18 vq)) (aB (bu 5 nd vq)
  (aB (jP 2 (jP 4 (Qa 4 (λ_=>aaz) (λ_=>rfl) (aX 6 nd) (aG (gn (λ_=>aaz) (λ_=>rfl) (dJ (QD (λ_=>aM Z) 2.31 (aa 2.34 (aa (d_ aq) aq)))) (gU (λ_=>rfl) (bc (aX 7 nd) (bc (aX 8 nd) fQ))) (aB (bu 9 nd (bR cu 2.183 (eQ 2.109)))
  (aG (bM (gZ (lQ (a_ (lE (λ_=>aM Z)) (ak ae 8) 2.163) (j0 (gZ (fY (a_ (lE (λ_=>aM Z)) (ak ae 8) 2.53) (f9 (a_ (UJ _ (λ_=>rfl) Z.units) (ak ae 9) (cT 1.13 2.53 (ak ae 8))))))))) (aG (mq (ak ae 9) (qY (rO (λ_=>aM Z)) (gY 5) (ak ae 8)))) bf))))))))
  (aB (jP 5 (sE Py aaX PySem.F.slot_dict_update PySem.F.type_dict_update (gY 3) 2.198))
  (aG (bu 4 nd 2.53))))))
  (aG (iY 3))))))
def uC:bh nl2 nl2 (aK j8):=by trivial
def uI{f:Addr}{fd:aap}(F:Fun K "_law_is_whole" "_law_is_whole" j8 f fd)(B:Blt mg):dZ P w K mg base CX0 1 f fd nl2 (spP ⟨K,mg⟩ cA):=
 qP 0 (λi=>ae) F uC λnd _ _ _ _ _ _ Z=>(aG (aV (ou (aL cW (λ_=>rfl) (λ_=>B.isinstance) aaU (aa 2.159 (aa (jG (λ_=>rfl) (λ_=>B.int_) boot_int) aq))) (tQ (LR (aL cW (λ_=>rfl) (λ_=>B.isinstance) aaU (aa 2.159 (aa (jG (λ_=>rfl) (λ_=>B.bool_) boot_bool) aq))))))))
def pW:bh ["_law_joinings_here","_law_one","_law_other","_law_way","_law_met","_law_pair","_law_begin_here","_law_end"] WD (aK iU):=by trivial
def qj{f:Addr}{fd:aap}(F:Fun K "_law_is_straight" "_law_is_straight" iU f fd)(B:Blt mg)(q:uL P w K mg base):dZ P w K mg base CX0 2 f fd WD (spP ⟨K,mg⟩ bB):=
 qP 1 (λi=>ae) F pW λnd _ _ _ _ _ _ Z=>(aB (bM (dY (eO (aL cW (λ_=>rfl) (λ_=>B.isinstance) aaU (aa 2.163 (aa (jG (λ_=>rfl) (λ_=>B.tuple) abW) aq))))) 2.28 bf)
  (aB (bu 4 nd (d_ 2.173))
  (aB (gn (λ_=>aaz) (λ_=>rfl) (dJ 2.163) (aX 5 nd) (aB (bM (gZ (fY (dY (eO (aL cW (λ_=>rfl) (λ_=>B.isinstance) aaU (aa 2.53 (aa (jG (λ_=>rfl) (λ_=>B.tuple) abW) aq))))) (fY (a_ (kh _ (λ_=>rfl) Z.units) (aL bw (λ_=>rfl) (λ_=>B.len) aaw 2.198) aH) (fY (dY (eO (cZ (λ_=>q) 1.11 (aa 2.181 aq)))) (f9 (dY (eO (cZ (λ_=>q) 1.11 (aa 2.181 aq))))))))) 2.28 bf)
  (aB (bM (gZ (fY (dY (yU Ig CW aH 2.181 (aL bw (λ_=>rfl) (λ_=>B.len) aaw 2.17))) (f9 (a_ (lE (λ_=>aM Z)) 2.181 (eQ (aa aH (aa 2.126 aq))))))) 2.28 bf)
  (aB (mq (Ss (dg slb (cT 1.13 2.159 2.181) dR (cO aH)) 2.181) (gU (λ_=>rfl) 2.80))
  (aB (bM (gZ (fY (a_ (kh _ (λ_=>rfl) Z.units) 2.34 (cT 1.13 2.18 2.126)) (f9 (a_ (vA (λ_=>aM Z)) (ak ae 7) 2.18)))) 2.28 bf)
  (aG (sE qu aaW abM abN (gY 4) 2.109)))))))
  (aG (aV (nj (cb_eq _ (λ_=>rfl) Z.units) (cT 1.13 2.18 2.126) 2.31))))))
def uV:bh ["_law_joinings_here","_law_levels","_law_place","_law_near","_law_level","_law_one","_law_other","_law_step","_law_begin_here","_law_end"] Vy (aK jY):=by trivial
def uQ{f:Addr}{fd:aap}(F:Fun K "_law_leads_on" "_law_leads_on" jY f fd)(B:Blt mg):dZ P w K mg base CX0 1 f fd Vy (spP ⟨K,mg⟩ cB):=
 qP 0 (λi=>ae) F uV λnd _ _ _ _ _ _ Z=>(aB (bu 3 nd (d_ aq))
  (aB (gn (λ_=>aaz) (λ_=>rfl) (dJ (dg slb 2.33 dR (cO (bR cu 2.31 aH)))) (aX 4 nd) (aG (bu 3 nd (bR cu 2.163 (jA ww (λ_=>rfl) (λ_=>B.list_) ad9 2.167)))))
  (aB (gn (λ_=>aaz) (λ_=>rfl) (dJ 2.159) (gU (λ_=>rfl) (bc (aX 5 nd) 2.80)) (aG (gn (λ_=>aaz) (λ_=>rfl) (dJ (eQ (aa (eQ (aa 2.53 (aa 2.34 aq))) (aa (eQ (aa 2.34 2.198)) aq)))) (gU (λ_=>rfl) (bc (aX 8 nd) (bc (aX 9 nd) fQ))) (aG (bM (gZ (lQ (a_ (vA (λ_=>aM Z)) (ak ae 8) (cT 1.13 2.33 2.31)) (j0 (a_ (lE (λ_=>aM Z)) (ak ae 9) 2.163)))) 2.28 bf)))))
  2.28)))
def sW:bh ["_law_thing","_law_name"] nl2 (aK il):=by trivial
def o9:Scope:=sF [(".0",.local),("_law_sign",.local)]
def qe:(["_law_sign"]:List Str).Nodup:=by decide +kernel
def qF:cJ (aK il) ["_law_thing","_law_name"] ["_law_sign"] o9 [af]:=by trivial
def tV{f:Addr}{fd:aap}(F:Fun K "_law_are_names" "_law_are_names" il f fd)(B:Blt mg):dZ P w K mg base CX0 1 f fd nl2 (spP ⟨K,mg⟩ bN):=
 qP 0 (λi=>ae) F sW λnd _ _ _ _ _ _ Z=>(aB (bM (dY (eO (aL cW (λ_=>rfl) (λ_=>B.isinstance) aaU (aa 2.159 (aa (eQ (aa (jG (λ_=>rfl) (λ_=>B.list_) ad9) (aa (jG (λ_=>rfl) (λ_=>B.tuple) abW) aq))) aq))))) 2.28 bf)
  (aB (gn (λ_=>aaz) (λ_=>rfl) (dJ 2.159) (aX 1 nd) (aB (bM (gZ (fY (dY (eO (aL cW (λ_=>rfl) (λ_=>B.isinstance) aaU (aa 2.33 (aa (jG (λ_=>rfl) (λ_=>B.str_) boot_str) aq))))) (f9 (dY (yU Ig Ig aH (aL bw (λ_=>rfl) (λ_=>B.len) aaw 2.173) aH))))) 2.28 bf)
  (aG (bM (dY (eO (aL (mF (λ_=>rfl)) (λ_=>rfl) (λ_=>B.all) adY (aa (iJ [af] ob0 (λ_=>rfl) (λ_=>rfl) (λ_=>qF) 2.135 (Hc 2.33) (b8 0 (λ_=>qe)) e_ (nj (vA (λ_=>aM Z)) 2.159 jx)) aq)))) 2.28 bf))))
  2.28))
def sH:bh W6 VD (aK fU):=by trivial
def m5:Scope:=sF [(".0",.local),("_law_level",.local),("_law_are_names",.globalImplicit)]
def o8:(nl4:List Str).Nodup:=by decide +kernel
def o7:cJ (aK fU) W6 nl4 m5 [af]:=by trivial
def nW:Scope:=sF [(".0",.local),("_law_level",.local),("_law_other",.free)]
def o6:(["_law_level","_law_other"]:List Str).Nodup:=by decide +kernel
def ph:cJ (aK fU) W6 ["_law_level","_law_other"] nW [af,ac 2]:=by trivial
def qW{f:Addr}{fd:aap}(F:Fun K "_law_fewest_due" "_law_fewest_due" fU f fd)(B:Blt mg)(q:qx P w K mg base)(D:uD P w K mg base)(z:tD P w K mg base):dZ P w K mg base CX0 3 f fd VD (spP ⟨K,mg⟩ bG):=
 qP 2 (λi=>ae) F sH λnd _ _ _ _ _ _ Z=>(aB (bM (gZ (fY (dY (eO (cZ (λ_=>q) 1.11 (aa 2.159 2.218)))) (f9 (dY (eO (aL cW (λ_=>rfl) (λ_=>B.isinstance) aaU (aa 2.18 (aa (eQ (aa (jG (λ_=>rfl) (λ_=>B.list_) ad9) (aa (jG (λ_=>rfl) (λ_=>B.tuple) abW) aq))) aq)))))))) 2.28 bf)
  (aB (bM (gZ (fY (a_ (kh _ (λ_=>rfl) Z.units) (aL bw (λ_=>rfl) (λ_=>B.len) aaw 2.167) (aL bw (λ_=>rfl) (λ_=>B.len) aaw 2.24)) (f9 (dY (eO (aL (mF (λ_=>rfl)) (λ_=>rfl) (λ_=>B.all) adY (aa (iJ [af] ob0 (λ_=>rfl) (λ_=>rfl) (λ_=>o7) 2.135 (dJ 2.18) (b8 0 (λ_=>o8)) e_ (cZ (λ_=>z) 1.11 2.17)) aq))))))) 2.28 bf)
  (aB (bM (gZ (fY (eO (aL (QV (λ_=>rfl)) (λ_=>rfl) (λ_=>B.any) boot_any (aa (iJ [af,ac 2] ob0 (λ_=>rfl) (λ_=>rfl) (λ_=>ph) 2.135 (dJ 2.18) (b8 0 (λ_=>o6)) e_ (nj (vA (λ_=>aM Z)) 2.33 2.159)) aq))) (f9 (gZ (lQ (a_ Lj (aL bw (λ_=>rfl) (λ_=>B.len) aaw 2.167) aH) (j0 (a_ (lE (λ_=>aM Z)) 2.33 (cT 1.13 2.18 aH)))))))) 2.28 bf)
  (aB (gn (λ_=>aaz) (λ_=>rfl) (vK (λ_=>rfl) (λ_=>B.range) (aa (bR m6 (aL bw (λ_=>rfl) (λ_=>B.len) aaw 2.167) aH) aq)) (aX 5 nd) (aG (bM (dY (eO (cZ (λ_=>D) 1.11 (aa 2.159 (aa 2.18 2.198))))) 2.28 bf)))
  2.28))))
def uz:bh ["levels","places","place","level","name"] ["levels"] (aK j6):=by trivial
def uZ{f:Addr}{fd:aap}(F:Fun K "first_places" "first_places" j6 f fd)(B:Blt mg):dZ P w K mg base CX0 1 f fd ["levels"] (spP ⟨K,mg⟩ bY):=
 qP 0 (λi=>ae) F uz λnd _ _ _ _ _ _ Z=>(aB (bu 1 nd vq)
  (aB (gn (λ_=>aaz) (λ_=>rfl) (El (λ_=>rfl) (λ_=>B.enumerate) 2.17) (gU (λ_=>rfl) (bc (aX 2 nd) (bc (aX 3 nd) fQ))) (aG (jP 3 (gn (λ_=>aaz) (λ_=>rfl) (dJ 2.163) (aX 4 nd) (aG (sE R6 aaX adW adX (gY 1) (aa 2.18 (aa 2.31 aq))))))))
  (aG (iY 1))))
def xU:bh ["things"] ["things"] (aK lV):=by trivial
def xF{f:Addr}{fd:aap}(F:Fun K "are_unlike" "are_unlike" lV f fd)(B:Blt mg):dZ P w K mg base CX0 1 f fd ["things"] (spP ⟨K,mg⟩ dI):=
 qP 0 (λi=>ae) F xU λnd _ _ _ _ _ _ Z=>(aG (aV (nj (cb_eq _ (λ_=>rfl) Z.units) (G_ (λ_=>rfl) (λ_=>B.len) (λ_=>B.set_) 2.17) (aL bw (λ_=>rfl) (λ_=>B.len) aaw 2.17))))
def zP:bh nl0 nl0 (aK nY):=by trivial
def Az{f:Addr}{fd:aap}(F:Fun K "is_couple" "is_couple" nY f fd)(B:Blt mg):dZ P w K mg base CX0 1 f fd nl0 (spP ⟨K,mg⟩ eY):=
 qP 0 (λi=>ae) F zP λnd _ _ _ _ _ _ Z=>(aG (aV (ou (aL cW (λ_=>rfl) (λ_=>B.isinstance) aaU (aa 2.159 (aa (jG (λ_=>rfl) (λ_=>B.tuple) abW) aq))) (tQ (nj (cb_eq _ (λ_=>rfl) Z.units) (aL bw (λ_=>rfl) (λ_=>B.len) aaw 2.17) aH)))))
def zO:bh nl0 nl0 (aK nO):=by trivial
def z_{f:Addr}{fd:aap}(F:Fun K "is_number" "is_number" nO f fd)(B:Blt mg):dZ P w K mg base CX0 1 f fd nl0 (spP ⟨K,mg⟩ dh):=
 qP 0 (λi=>ae) F zO λnd _ _ _ _ _ _ Z=>(aG (aV (ou (aL cW (λ_=>rfl) (λ_=>B.isinstance) aaU (aa 2.159 (aa (jG (λ_=>rfl) (λ_=>B.int_) boot_int) aq))) (tQ (LR (aL cW (λ_=>rfl) (λ_=>B.isinstance) aaU (aa 2.159 (aa (jG (λ_=>rfl) (λ_=>B.bool_) boot_bool) aq))))))))
def G9:bh nl0 nl0 (aK uf):=by trivial
def G5{f:Addr}{fd:aap}(F:Fun K "is_pair" "is_pair" uf f fd)(B:Blt mg)(z:DK P w K mg base)(q:Et P w K mg base):dZ P w K mg base CX0 2 f fd nl0 (spP ⟨K,mg⟩ cV):=
 qP 1 (λi=>ae) F G9 λnd _ _ _ _ _ _ Z=>(aG (aV (ou (cZ (λ_=>z) 1.11 2.17) (ou (cZ (λ_=>q) 1.11 (aa 2.124 aq)) (ou (cZ (λ_=>q) 1.11 (aa 2.124 aq)) (tQ (nj (vA (λ_=>aM Z)) 2.124 (eQ (aa aH (aa 2.126 aq))))))))))
def Ka:bh nl0 nl0 (aK su):=by trivial
def zY:Scope:=sF [(".0",.local),("pair",.local),("is_pair",.globalImplicit)]
def Cv:(["pair"]:List Str).Nodup:=by decide +kernel
def Do:cJ (aK su) nl0 ["pair"] zY [af]:=by trivial
def Jv{f:Addr}{fd:aap}(F:Fun K "is_way" "is_way" su f fd)(B:Blt mg)(q:Jd P w K mg base):dZ P w K mg base CX0 3 f fd nl0 (spP ⟨K,mg⟩ gm):=
 qP 2 (λi=>ae) F Ka λnd _ _ _ _ _ _ Z=>(aG (aV (ou (aL cW (λ_=>rfl) (λ_=>B.isinstance) aaU (aa 2.159 (aa (jG (λ_=>rfl) (λ_=>B.tuple) abW) aq))) (tQ (aL (mF (λ_=>rfl)) (λ_=>rfl) (λ_=>B.all) adY (aa (iJ [af] ob0 (λ_=>rfl) (λ_=>rfl) (λ_=>Do) 2.135 (dJ 2.159) (b8 0 (λ_=>Cv)) e_ (cZ (λ_=>q) 1.11 2.17)) aq))))))
def Rp:bh ["joining","side","one","other","step"] WY (aK FJ):=by trivial
def Rv{f:Addr}{fd:aap}(F:Fun K "ends" "ends" FJ f fd)(B:Blt mg):dZ P w K mg base CX0 1 f fd WY (spP ⟨K,mg⟩ dF):=
 qP 0 (λi=>ae) F Rp λnd _ _ _ _ _ _ Z=>(aB (mq 2.159 (gU (λ_=>rfl) (bc (aX 2 nd) (bc (aX 3 nd) (bc (aX 4 nd) fQ)))))
  (aB (bM (a_ (cb_eq _ (λ_=>rfl) Z.units) 2.33 aH) (aG (aV (eQ (aa 2.31 2.24)))) bf)
  (aG (aV (eQ (aa 2.163 (aa 2.31 aq)))))))
def WW:bh ["joinings","name","way","here","number","side","begin","end"] Wd (aK Pg):=by trivial
def Wy{f:Addr}{fd:aap}(F:Fun K "led" "led" Pg f fd)(B:Blt mg)(q:PN P w K mg base):dZ P w K mg base CX0 2 f fd Wd (spP ⟨K,mg⟩ iu):=
 qP 1 (λi=>ae) F WW λnd _ _ _ _ _ _ Z=>(aB (bu 3 nd 2.33)
  (aB (gn (λ_=>aaz) (λ_=>rfl) (dJ 2.31) (gU (λ_=>rfl) (bc (aX 4 nd) (bc (aX 5 nd) fQ))) (aB (bM (gZ (fY (a_ CW 2.18 aH) (f9 (a_ TY 2.18 (aL bw (λ_=>rfl) (λ_=>B.len) aaw 2.17))))) (aG (aV Ox)) bf)
  (aB (mq (cZ (λ_=>q) 1.11 (aa (cT 1.13 2.159 2.18) 2.198)) (gU (λ_=>rfl) 2.80))
  (aB (bM (a_ (kh _ (λ_=>rfl) Z.units) 2.34 2.163) (aG (aV Ox)) bf)
  (aG (bu 3 nd (ak ae 7)))))))
  (aG (iY 3))))
def Ag:bh nl5 nl5 (aK kO):=by trivial
def uP:Scope:=sF [(".0",.local),("number",.local),("side",.local),("ends",.globalImplicit),("joinings",.free)]
def m_:(["number","side","joinings"]:List Str).Nodup:=by decide +kernel
def vH:cJ (aK kO) nl5 ["number","side","joinings"] uP [af,af,ac 0]:=by trivial
def BP{f:Addr}{fd:aap}(F:Fun K "names_met" "names_met" kO f fd)(B:Blt mg)(q:PN P w K mg base):dZ P w K mg base CX0 2 f fd nl5 (spP ⟨K,mg⟩ eZ):=
 qP 1 (λi=>ae) F Ag λnd _ _ _ _ _ _ Z=>(aG (aV (iJ [af,af,ac 0] (λi=>i==0||i==1) (λ_=>rfl) (λ_=>rfl) (λ_=>vH) 2.135 (dJ 2.33) (wB (λ_=>rfl) (iy (b8 0 (λ_=>m_)) (iy (b8 1 (λ_=>m_)) ud))) e_ (cT 1.13 (cZ (λ_=>q) 1.11 (aa (cT 1.13 2.31 2.159) 2.173)) aH))))
def Bh:bh nl6 nl6 (aK nA):=by trivial
def BR{f:Addr}{fd:aap}(F:Fun K "shows_way" "shows_way" nA f fd)(B:Blt mg)(q:Bb P w K mg base)(D:Qp P w K mg base)(I:X8 P w K mg base)(z:EY P w K mg base):dZ P w K mg base CX0 4 f fd nl6 (spP ⟨K,mg⟩ dw):=
 qP 3 (λi=>ae) F Bh λnd _ _ _ _ _ _ Z=>(aB (bM (gZ (fY (dY (eO (cZ (λ_=>D) 1.11 2.24))) (f9 (a_ (kh _ (λ_=>rfl) Z.units) (cZ (λ_=>I) 1.11 (aa 2.159 (aa 2.33 2.24))) 2.31)))) 2.28 bf)
  (aG (aV (cZ (λ_=>q) 1.11 (aa (bR cu (d_ 2.173) (cZ (λ_=>z) 1.11 (aa 2.159 2.24))) aq)))))
def Bm:bh nl0 nl0 (aK oE):=by trivial
def zz{f:Addr}{fd:aap}(F:Fun K "is_listed" "is_listed" oE f fd)(B:Blt mg):dZ P w K mg base CX0 1 f fd nl0 (spP ⟨K,mg⟩ cz):=
 qP 0 (λi=>ae) F Bm λnd _ _ _ _ _ _ Z=>(aG (aV (aL cW (λ_=>rfl) (λ_=>B.isinstance) aaU (aa 2.159 (aa (eQ (aa (jG (λ_=>rfl) (λ_=>B.list_) ad9) (aa (jG (λ_=>rfl) (λ_=>B.tuple) abW) aq))) aq)))))
def Fi:bh nl0 nl0 (aK oO):=by trivial
def xH:Scope:=sF [(".0",.local),("sign",.local),("LETTERS",.globalImplicit)]
def zF:(["sign"]:List Str).Nodup:=by decide +kernel
def zr:cJ (aK oO) nl0 ["sign"] xH [af]:=by trivial
def Fo{f:Addr}{fd:aap}(F:Fun K "is_name" "is_name" oO f fd)(B:Blt mg)(q:Glb mg "LETTERS" (.str "abcdefghijklmnopqrstuvwxyz"))(z:Glb mg "LONGEST" (.int 8)):dZ P w K mg base CX0 1 f fd nl0 (spP ⟨K,mg⟩ cX):=
 qP 0 (λi=>ae) F Fi λnd _ _ _ _ _ _ Z=>(aB (bM (dY (eO (aL cW (λ_=>rfl) (λ_=>B.isinstance) aaU (aa 2.159 (aa (jG (λ_=>rfl) (λ_=>B.str_) boot_str) aq))))) 2.28 bf)
  (aB (bM (gZ (fY (a_ CW (aL bw (λ_=>rfl) (λ_=>B.len) aaw 2.17) aH) (f9 (a_ Lj (aL bw (λ_=>rfl) (λ_=>B.len) aaw 2.17) (Kv z))))) 2.28 bf)
  (aG (aV (aL (mF (λ_=>rfl)) (λ_=>rfl) (λ_=>B.all) adY (aa (iJ [af] ob0 (λ_=>rfl) (λ_=>rfl) (λ_=>zr) 2.135 (Hc 2.159) (b8 0 (λ_=>zF)) e_ (nj (vA (λ_=>aM Z)) 2.159 (MN q))) aq))))))
def zA:bh nl0 nl0 (aK kY):=by trivial
def uT:Scope:=sF [(".0",.local),("name",.local),("is_name",.globalImplicit)]
def vJ:(["name"]:List Str).Nodup:=by decide +kernel
def vW:cJ (aK kY) nl0 ["name"] uT [af]:=by trivial
def Bc{f:Addr}{fd:aap}(F:Fun K "are_names" "are_names" kY f fd)(B:Blt mg)(U:ut P w K mg base)(q:J6 P w K mg base):dZ P w K mg base CX0 2 f fd nl0 (spP ⟨K,mg⟩ cN):=
 qP 1 (λi=>ae) F zA λnd _ _ _ _ _ _ Z=>(aG (aV (ou (cZ (λ_=>U) 1.11 2.17) (tQ (aL (mF (λ_=>rfl)) (λ_=>rfl) (λ_=>B.all) adY (aa (iJ [af] ob0 (λ_=>rfl) (λ_=>rfl) (λ_=>vW) 2.135 (dJ 2.159) (b8 0 (λ_=>vJ)) e_ (cZ (λ_=>q) 1.11 2.17)) aq))))))
def uF:bh W4 Ws (aK gM):=by trivial
def qM:Scope:=sF [(".0",.local),("level",.local),("are_names",.globalImplicit)]
def q_:(["level"]:List Str).Nodup:=by decide +kernel
def rn:cJ (aK gM) W4 ["level"] qM [af]:=by trivial
def qz:Scope:=sF [(".0",.local),("begin",.local),("end",.local),("step",.local),("abs",.globalImplicit),("many",.free),("places",.free)]
def iQ:(Xw:List Str).Nodup:=by decide +kernel
def rR:cJ (aK gM) W4 Xw qz [af,af,af,ac 5,ac 6]:=by trivial
def uK{f:Addr}{fd:aap}(F:Fun K "shows_fewest" "shows_fewest" gM f fd)(B:Blt mg)(q:wA P w K mg base)(D:Cq P w K mg base)(U:ut P w K mg base)(z:Dk P w K mg base):dZ P w K mg base CX0 5 f fd Ws (spP ⟨K,mg⟩ bV):=
 qP 4 (λi=>ae) F uF λnd _ _ _ _ _ _ Z=>(aB (bM (dY (eO (cZ (λ_=>D) 1.11 (aa 2.159 2.218)))) 2.28 bf)
  (aB (bM (gZ (fY (dY (eO (cZ (λ_=>U) 1.11 2.167))) (fY (a_ (kh _ (λ_=>rfl) Z.units) (aL bw (λ_=>rfl) (λ_=>B.len) aaw 2.167) (aL bw (λ_=>rfl) (λ_=>B.len) aaw 2.24)) (f9 (dY (eO (aL (mF (λ_=>rfl)) (λ_=>rfl) (λ_=>B.all) adY (aa (iJ [af] ob0 (λ_=>rfl) (λ_=>rfl) (λ_=>rn) 2.135 (dJ 2.18) (b8 0 (λ_=>q_)) e_ (cZ (λ_=>z) 1.11 2.17)) aq)))))))) 2.28 bf)
  (aB (bu 5 nd (aL bw (λ_=>rfl) (λ_=>B.len) aaw 2.167))
  (aB (bu 6 nd (cZ (λ_=>q) 1.11 2.167))
  (aB (bM (gZ (fY (a_ (vA (λ_=>aM Z)) 2.31 2.34) (f9 (gZ (lQ (a_ Lj 2.53 aH) (j0 (a_ (kh _ (λ_=>rfl) Z.units) (yO (rN (λ_=>aM Z)) aaX aaT abG 2.34 2.173) aH))))))) 2.28 bf)
  (aG (aV (aL (mF (λ_=>rfl)) (λ_=>rfl) (λ_=>B.all) adY (aa (iJ [af,af,af,ac 5,ac 6] (λi=>i==0||i==1||i==2) (λ_=>rfl) (λ_=>rfl) (λ_=>rR) 2.135 (dJ 2.159) (wB (λ_=>rfl) (iy (b8 0 (λ_=>iQ)) (iy (b8 1 (λ_=>iQ)) (iy (b8 2 (λ_=>iQ)) ud)))) e_ (nj Ig (aL Td (λ_=>rfl) (λ_=>B.abs) boot_abs (aa (bR m6 (yO (rN (λ_=>aM Z)) aaX aaT abG 2.18 (aa 2.159 2.24)) (yO (rN (λ_=>aM Z)) aaX aaT abG 2.18 (aa 2.33 2.24))) aq)) aH)) aq)))))))))
def xY:bh Xl Xe (aK jR):=by trivial
def tW:Scope:=sF [(".0",.local),("_law_edge",.local),("_law_met",.free)]
def uN:(["_law_edge","_law_met"]:List Str).Nodup:=by decide +kernel
def uB:cJ (aK jR) Xl ["_law_edge","_law_met"] tW [af,ac 5]:=by trivial
def xM{f:Addr}{fd:aap}(F:Fun K "_law_longer" "_law_longer" jR f fd)(B:Blt mg)(I:pQ P w K mg base):dZ P w K mg base CX0 2 f fd Xe (spP ⟨K,mg⟩ cC):=
 qP 1 (λi=>ae) F xY λnd _ _ _ _ _ _ Z=>(aB (bu 3 nd (cZ (λ_=>I) 1.11 2.17))
  (aB (bu 4 nd (eQ aq))
  (aB (bu 5 nd (d_ 2.173))
  (aB (gn (λ_=>aaz) (λ_=>rfl) (vK (λ_=>rfl) (λ_=>B.range) (aa (aL bw (λ_=>rfl) (λ_=>B.len) aaw 2.17) aq)) (aX 6 nd) (aG (bM (a_ (kh _ (λ_=>rfl) Z.units) (cT 1.13 2.53 2.126) 2.31) (aB (rW 7 [af,ac 5] ob0 nd (λ_=>rfl) (λ_=>rfl) (λ_=>uB) 2.135 (dJ (yO (rN (λ_=>aM Z)) aaX aaT abG 2.163 (aa (cT 1.13 2.53 2.126) (aa (d_ aq) aq)))) (b8 0 (λ_=>uN)) (Ek (a_ (lE (λ_=>aM Z)) 2.124 2.33)) 2.159)
  (aG (bM (a_ (kh _ (λ_=>rfl) Z.units) (ak ae 7) (d_ aq)) (aB (bu 4 nd (bR cu 2.18 (eQ 2.199)))
  (aG (sE qu aaW abM abN (gY 5) 2.199))) bf))) bf)))
  (aG (iY 4))))))
def t_:bh Yh U3 (aK ir):=by trivial
def pF:Scope:=sF [(".0",.local),("_law_number",.local),("_law_side",.local)]
def kj:(["_law_number","_law_side"]:List Str).Nodup:=by decide +kernel
def pY:cJ (aK ir) Yh ["_law_number","_law_side"] pF [af,af]:=by trivial
def tL{f:Addr}{fd:aap}(F:Fun K "_law_other_way" "_law_other_way" ir f fd)(B:Blt mg)(D:gJ P w K mg base)(q:xQ P w K mg base):dZ P w K mg base CX0 3 f fd U3 (spI ⟨K,mg⟩ ob0 ob0 cP):=
 qI 2 ob0 ob0 F t_ λnd _ _ _ _ _ _ Z=>(aB (dG 5 nd (bj 0 (λ_=>D) 1.11 2.32))
  (aB (dG 6 nd (bj 0 (λ_=>D) 1.11 (aY (aa (bR cu (aL bw (λ_=>rfl) (λ_=>B.len) aaw 2.167) aH) aq))))
  (aB (bM (a_ (cb_eq _ (λ_=>rfl) Z.units) 2.53 aH) (aG (aV (bR cu 2.235 2.180))) bf)
  (aB (bM (a_ (cb_eq _ (λ_=>rfl) Z.units) 2.53 aH) (aG (aV 2.161)) bf)
  (aB (bM (a_ (cb_eq _ (λ_=>rfl) Z.units) 2.53 aH) (aG (aV (jA oR (λ_=>rfl) (λ_=>B.tuple) abW (aa (iJ [af,af] (λi=>i==0||i==1) (λ_=>rfl) (λ_=>rfl) (λ_=>pY) 2.135 (Qi (λ_=>rfl) (λ_=>B.reversed) 2.167) (wB (λ_=>rfl) (iy (b8 0 (λ_=>kj)) (iy (b8 1 (λ_=>kj)) ud))) e_ (eQ (aa 2.159 (aa (lF jq 2.33) aq)))) aq)))) bf)
  (aB (bM (a_ (cb_eq _ (λ_=>rfl) Z.units) 2.53 aH) (aB (dG 7 nd (Hi (bU (lO m6 (bj 0 (λ_=>D) 1.11 (aY (aa (bR cu (aL bw (λ_=>rfl) (λ_=>B.len) aaw 2.173) aH) aq))) (dq aH)) (bU (lO m6 (dq aH) (lO lW (dq aH) (bj 0 (λ_=>D) 1.11 2.32))) (aY aq)))))
  (aG (aV (bR cu (bR cu 2.235 (eQ 2.109)) 2.180)))) bf)
  (aB (bM (a_ (cb_eq _ (λ_=>rfl) Z.units) 2.53 aH) (aG (aV (cZ (λ_=>q) 1.11 2.218))) bf)
  (aG (iY 4)))))))))
def pI:bh X3 Wg (aK gf):=by trivial
def mH:Scope:=sF [(".0",.local),("_law_level",.local),("list",.globalImplicit)]
def mR:(nl4:List Str).Nodup:=by decide +kernel
def mW:cJ (aK gf) X3 nl4 mH [af]:=by trivial
def o_{f:Addr}{fd:aap}(F:Fun K "_law_other_levels" "_law_other_levels" gf f fd)(B:Blt mg)(D:gJ P w K mg base):dZ P w K mg base CX0 2 f fd Wg (spI ⟨K,mg⟩ ob0 ob0 b_):=
 qI 1 ob0 ob0 F pI λnd _ _ _ _ _ _ Z=>(aB (dG 3 nd (bj 0 (λ_=>D) 1.11 2.32))
  (aB (rW 4 [af] ob0 nd (λ_=>rfl) (λ_=>rfl) (λ_=>mW) 2.135 (dJ 2.31) (b8 0 (λ_=>mR)) e_ (jA ww (λ_=>rfl) (λ_=>B.list_) ad9 2.17))
  (aB (dG 5 nd (m9 1.13 (dq (bR cu 2.33 (d_ (aa jx (aa jx (aa jx (aa jx aq))))))) (bj 0 (λ_=>D) 1.11 (aY (aa (bR cu (aL bw (λ_=>rfl) (λ_=>B.len) aaw 2.173) aH) aq)))))
  (aB (dG 6 nd (bj 0 (λ_=>D) 1.11 (aY (aa (bR cu (aL bw (λ_=>rfl) (λ_=>B.len) aaw 2.167) aH) aq))))
  (aB (bM (gZ (fY (a_ (cb_eq _ (λ_=>rfl) Z.units) 2.163 aH) (f9 (a_ (cb_eq _ (λ_=>rfl) Z.units) 2.18 (d_ aq))))) (aG (jP 4 (Ds (lO cu (lO cu (dq 2.235) (LQ slb (dq (d_ (aa (d_ 2.198) aq))) (bj 0 (λ_=>D) 1.11 2.32))) (dq 2.180))))) bf)
  (aB (bu 6 nd (aL (Mi (λ_=>rfl)) (λ_=>rfl) (λ_=>B.min) boot_min (aa 2.34 (aa (bR m6 (aL bw (λ_=>rfl) (λ_=>B.len) aaw 2.167) aH) aq))))
  (aB (bM (a_ CW 2.163 aH) (aG (Ea GK aaW PySem.F.slot_list_insert PySem.F.type_list_insert (BK (λ_=>aM Z) (gY 4) 2.34) (bU (bj 0 (λ_=>D) 1.11 (aY (aa (bR cu (aL bw (λ_=>rfl) (λ_=>B.len) aaw (aa 2.183 aq)) aH) aq))) (aY 2.198)) (show KpS 4 _ from by repeat first|exact FW|exact zK|apply xu|apply FZ|apply O9|apply Qc|(apply Ff rfl)|apply Fe))) (aG (bM (gZ (lQ (a_ (cb_eq _ (λ_=>rfl) Z.units) 2.163 aH) (j0 (a_ (kh _ (λ_=>rfl) Z.units) 2.183 (d_ aq))))) (aG (Ea Km aaW ae9 ae_ (BK (λ_=>aM Z) (gY 4) 2.34) (bU (bj 0 (λ_=>D) 1.11 (aY (aa (aL bw (λ_=>rfl) (λ_=>B.len) aaw (aa 2.183 aq)) aq))) (aY aq)) (show KpS 4 _ from by repeat first|exact FW|exact zK|apply xu|apply FZ|apply O9|apply Qc|(apply Ff rfl)|apply Fe))) (aG (bM (gZ (lQ (a_ (cb_eq _ (λ_=>rfl) Z.units) 2.163 aH) (j0 (a_ (kh _ (λ_=>rfl) Z.units) 2.183 (d_ aq))))) (aG (R3 4 (λ_=>aM Z) (bj 0 (λ_=>D) 1.11 (aY (aa (aL bw (λ_=>rfl) (λ_=>B.len) aaw 2.167) aq))) (show KpS 4 _ from by repeat first|exact FW|exact zK|apply xu|apply FZ|apply O9|apply Qc|(apply Ff rfl)|apply Fe) 2.34)) (aG (bM (a_ (cb_eq _ (λ_=>rfl) Z.units) 2.163 aH) (aG (NB Dv aaW PySem.F.slot_list_reverse PySem.F.type_list_reverse (gY 4))) (aG (jP 4 (bu 4 nd 2.161))))))))))
  (aG (iY 4)))))))))
def zG:bh Va WL (aK jH):=by trivial
def mL:Scope:=sF [(".0",.local),("_law_level",.cell),("sorted",.globalImplicit),("_law_ways",.free)]
def vX:(Wv:List Str).Nodup:=by decide +kernel
def wy:cJ (aK jH) Va Wv mL [af,ac 5]:=by trivial
def uO:Scope:=sF [(".0",.local),("_law_name",.local),("len",.globalImplicit),("_law_level",.free),("_law_ways",.free)]
def wZ:(Yw:List Str).Nodup:=by decide +kernel
def vC:cJ (mL) Wv Yw uO [af,ac 0,ac 1]:=by trivial
def uG:Scope:=sF [(".0",.local),("_law_level",.local),("tuple",.globalImplicit)]
def wj:(nl4:List Str).Nodup:=by decide +kernel
def wV:cJ (aK jH) Va nl4 uG [af]:=by trivial
def Ao{f:Addr}{fd:aap}(F:Fun K "_law_right" "_law_right" jH f fd)(B:Blt mg)(z:sI P w K mg base)(q:rT P w K mg base)(J:xg P w K mg base)(D:gJ P w K mg base)(I:sY P w K mg base)(V:pK P w K mg base):dZ P w K mg base CX0 6 f fd WL (spI ⟨K,mg⟩ ob0 ob0 fV):=
 qI 5 ob0 ob0 F zG λnd _ _ _ _ _ _ Z=>(aB (bu 5 nd (cZ (λ_=>z) 1.11 (aa 2.31 2.24)))
  (aB (bu 6 nd (yO (rN (λ_=>aM Z)) aaX aaT abG 2.53 (aa 2.18 (aa (eQ aq) aq))))
  (aB (jP 5 (rW 7 [af,ac 5] ob0 nd (λ_=>rfl) (λ_=>rfl) (λ_=>wy) 2.135 (vK (λ_=>rfl) (λ_=>B.range) (aa (aL bw (λ_=>rfl) (λ_=>B.len) aaw (aa 2.34 aq)) aq)) (b8 0 (λ_=>vX)) e_ (aL Ex (λ_=>rfl) (λ_=>B.sorted) boot_sorted (aa (Lg 1 [af,ac 0,ac 1] ob0 (λ_=>rfl) (λ_=>rfl) (λ_=>vC.rel) 2.135 (b8 0 (λ_=>wZ)) (Ek (a_ (cb_eq _ (λ_=>rfl) Z.units) (aL bw (λ_=>rfl) (λ_=>B.len) aaw (aa (cT 1.13 2.31 2.159) aq)) 2.33)) 2.159) aq))))
  (aB (jP 7 (gn (λ_=>aaz) (λ_=>rfl) (vK (λ_=>rfl) (λ_=>B.range) (aa aH aq)) (aX 8 nd) (aB (S7 9 10 (λ_=>rfl) nd (aa 2.34 2.109))
  (aB (qZ (λ_=>aaz) (λ_=>rfl) (vh (λ_=>rfl) (λ_=>B.range) (bU (bj 0 (λ_=>D) 1.11 2.32) (aY aq))) (aX 11 nd) (aG (dG 9 nd (bj 0 (λ_=>I) 1.11 (aY (aa 2.31 (aa 2.163 (aa 2.18 (aa (ak ae 9) aq)))))))))
  (aB (qZ (λ_=>aaz) (λ_=>rfl) (vh (λ_=>rfl) (λ_=>B.range) (bU (bj 0 (λ_=>D) 1.11 2.32) (aY aq))) (aX 11 nd) (aG (jP 10 (dG 10 nd (bj 0 (λ_=>V) 1.11 (aY (aa 2.33 (aa (ak ae 10) aq))))))))
  (aB (jP 10 (dG 12 nd (m9 1.13 (dq (d_ (aa (ak ae 10) (aa (jA oR (λ_=>rfl) (λ_=>B.tuple) abW (aa (iJ [af] ob0 (λ_=>rfl) (λ_=>rfl) (λ_=>wV) 2.135 (dJ (ak ae 10)) (b8 0 (λ_=>wj)) e_ (jA oR (λ_=>rfl) (λ_=>B.tuple) abW 2.17)) aq)) aq)))) (bj 0 (λ_=>D) 1.11 2.32))))
  (aB (bu 13 nd (cZ (λ_=>q) 1.11 (aa 2.31 (aa 2.163 (aa 2.18 (aa (ak ae 9) (aa (ak ae 10) aq)))))))
  (aB (bu 14 nd (aL (Dq _ (λ_=>rfl) Z.gd Z.units) (λ_=>rfl) (λ_=>B.repr) boot_repr (aa (d_ (aa 2.31 2.113)) aq)))
  (aB (bu 15 nd (cZ (λ_=>J) 1.11 (aa (cT 1.13 (d_ (aa 2.31 (aa (jA oR (λ_=>rfl) (λ_=>B.tuple) abW (aa 2.31 aq)) aq))) (bR qN (ak ae 8) aH)) (aa 2.163 (aa 2.18 2.113)))))
  (aB (bM (gZ (fY (dY (eO (aL cW (λ_=>rfl) (λ_=>B.isinstance) aaU (aa (ak ae 15) (aa (jG (λ_=>rfl) (λ_=>B.bool_) boot_bool) aq))))) (fY (a_ (kh _ (λ_=>rfl) Z.units) (ak ae 15) (ak ae 13)) (f9 (gZ (lQ (eO (ak ae 13)) (j0 (a_ (kh _ (λ_=>rfl) Z.units) (aL bw (λ_=>rfl) (λ_=>B.len) aaw (aa (ak ae 9) aq)) (aL bw (λ_=>rfl) (λ_=>B.len) aaw (aa 2.34 aq)))))))))) 2.28 bf)
  (aG (bM (a_ (kh _ (λ_=>rfl) Z.units) (aL (Dq _ (λ_=>rfl) Z.gd Z.units) (λ_=>rfl) (λ_=>B.repr) boot_repr (aa (d_ (aa 2.31 2.113)) aq)) (ak ae 14)) 2.28 bf))))))))))))
  2.28))))
def Vo:bh ["_law_script","_law_state","_law_turn","_law_names_here","_law_joinings_here","_law_again","_law_one","_law_other"] nl1 (aK Om):=by trivial
def Wo{f:Addr}{fd:aap}(F:Fun K "law" "law" Om f fd)(B:Blt mg)(z:Bd P w K mg base)(I:zp P w K mg base)(q:uW P w K mg base)(D:gJ P w K mg base)(O:Fz P w K mg base)(J:zq P w K mg base):dZ P w K mg base CX0 7 f fd nl1 (spP ⟨K,mg⟩ qy):=
 qP 6 (λi=>i==1) F Vo λnd _ _ _ _ _ _ Z=>(aB (bu 1 nd (cZ (λ_=>z) 1.11 2.17))
  (aB (qZ (λ_=>aaz) (λ_=>rfl) (vh (λ_=>rfl) (λ_=>B.range) (bU (lO cu (dq aH) (bj 1 (λ_=>D) 1.11 2.32)) (aY aq))) (aX 2 nd) (aB (dG 3 nd (bj 1 (λ_=>I) 1.11 (aY aq)))
  (aB (dG 4 nd (bj 1 (λ_=>q) 1.11 (aY 2.24)))
  (aG (jP 4 (jP 3 (gn (λ_=>aaz) (λ_=>rfl) (vK (λ_=>rfl) (λ_=>B.range) (aa aH aq)) (aX 5 nd) (aB (vY (bj 1 (λ_=>O) 1.11 (aY 2.24)) (gU (λ_=>rfl) 2.80))
  (aG (BV (Oa (K5 (bj 1 (λ_=>J) 1.11 (aY (aa 2.163 (aa 2.18 (aa 2.34 2.109))))))) 2.28 bf))))))))))
  2.28))
end
section
variable{K:Frag}{x m qual c:Str}{st:Stmt}{f C:Addr}{oc:Value}{od an:Option Addr}{osl:Array (Option Value)}{kV doc pm cdv ct:Value}{fl:List Str}
structure Tp(K:Frag)(x:Str)(st:Stmt):Prop where
 ex:∃f fd,nsIn K aaZ x=ac (ac 2.219)/\Fun K x x st f fd
def tp_mk(a:nsIn K aaZ x=ac (ac 2.219))(l:K.lookup f=ac ⟨oc,od,.func 2.115,osl⟩)(c:codeIn K cdv x=ag)(k:keepIn K 2.219=ag):Tp K x st:=⟨f,_,a,WM l c k⟩
def al_nil{P:Str->Prop}:∀x∈([]:List Str),P x:=λ_ h=>by cases h
def al_cons{P:Str->Prop}{a:Str}{l:List Str}(h:P a)(t:∀x∈l,P x):∀x∈a::l,P x:=List.forall_mem_cons.mpr ⟨h,t⟩
end
section
variable(P:Program)(w:World){K:Frag}{mg:Str->Option Value}(base:Heap){h:Heap}(Xi:K.In h)(Gi:h.Ns mainGlobals mg){x m qual c:Str}{st:Stmt}{C:Addr}{fl ps:List Str}{k:Nat}{sp:Sp}
include Xi Gi
theorem YX(t:Tp K x st)(ok:∀{f fd},Fun K x x st f fd->dZ P w K mg base CX0 k f fd ps sp)(U:∀(kV doc pm:Value)(an:Option Addr)(cdv ct:Value)(us:List Value),us.length=ps.length->bindArgs 2.115 ⟨us,[]⟩=pure (ps.zip us)):Cal P w K mg base k x ps sp:=
 let⟨f,fd,a,F⟩:=t.ex;⟨f,fd,ok F,mg_of Xi Gi a,F.kp,F.binds U⟩
end
variable{h:Heap}
def jj{K:Frag}(X:K.In h)(G:h.Ns aaZ mg)(z:∀x∈l,nsIn K aaZ x=ac af)(J:l.contains x=ag):mg x=af:=mg_none_of X G (z x (List.contains_iff_mem.mp J))
def Ep:∀ns:List Int,aJ G H W 2.86 2.100 []
 |[]=>.nil
 |x::r=>aJ.cons (M:=[]) (M':=[]) dX (Ep r)
def Vp{K:Frag}{a:Addr}{ns:List Int}{Q:VK}{E:XK}(Y:ns.length<=63)(F:SqL K H a 2.100)(q:∀H',Q (.bl ag) H'):spP ⟨K,mg⟩ qy [.ref a] H Q E:=by
 refine⟨[.lst .scr 2.86],λ_=>False,?_,?_,?_,λ_ z=>z.elim,.bl ag,Ph ns Y,λv H' L s r O nd c=>?_⟩
 .refine aJ.one (M:=[]) ?_
  rw[Rep];refine⟨a,_,[],rfl,Ep ns,?_,rfl,rfl⟩;rcases F with z|z
  .exact .inl ⟨z,⟨λz=>z,λz=>z,λz=>z⟩⟩
  .exact .inr ⟨_,rfl,z⟩
 .simp[aF,aA,cF (ds:=ns.map D.int) (by simp[aA])]
 .simp[aD,az,cG (ds:=ns.map D.int) (by simp[az])]
 .rw[(mG r).1];exact q H'
variable{P:List Value->Prop}
def un1(h:∀q,P [q]):∀us:List Value,us.length=1->P us
 |[q],_=>h q
def un2(h:∀q O,P [q,O]):∀us:List Value,us.length=2->P us
 |[q,O],_=>h q O
def un3(h:∀q O F,P [q,O,F]):∀us:List Value,us.length=3->P us
 |[q,O,F],_=>h q O F
def un4(h:∀q O F z,P [q,O,F,z]):∀us:List Value,us.length=4->P us
 |[q,O,F,z],_=>h q O F z
def un5(h:∀q O F z D,P [q,O,F,z,D]):∀us:List Value,us.length=5->P us
 |[q,O,F,z,D],_=>h q O F z D
def Lh(K:Frag):Sp:=λJ H Q _=>∃(a:Addr)(ns:List Int),J=[.ref a]/\SqL K H a 2.100/\ns.length<=63/\∀H',Q (.bl ag) H'
variable{l:aeM}
theorem all_mk{K:Frag}{fa:Addr}{e4 d5:Tok}(X:K.In h)(G:h.Ns aaZ mg)(d9:mg "law"=ac (.ref fa))
  (t1:Tp K "_law_begin" nJ)
  (t2:Tp K "_law_take" qm)
  (t3:Tp K "_law_names" m7)
  (t4:Tp K "_law_joinings" gO)
  (t5:Tp K "_law_two" tK)
  (t6:Tp K "_law_beside" mD)
  (t7:Tp K "_law_least_ways" jB)
  (t8:Tp K "_law_is_whole" j8)
  (t9:Tp K "_law_is_straight" iU)
  (d6:Tp K "_law_leads_on" jY)
  (f0:Tp K "_law_are_names" il)
  (e6:Tp K "_law_fewest_due" fU)
  (f1:Tp K "first_places" j6)
  (e1:Tp K "are_unlike" lV)
  (e7:Tp K "is_couple" nY)
  (f2:Tp K "is_number" nO)
  (d7:Tp K "is_pair" uf)
  (d2:Tp K "is_way" su)
  (e3:Tp K "ends" FJ)
  (c8:Tp K "led" Pg)
  (e0:Tp K "names_met" kO)
  (c9:Tp K "shows_way" nA)
  (d4:Tp K "is_listed" oE)
  (d1:Tp K "is_name" oO)
  (e5:Tp K "are_names" kY)
  (d8:Tp K "shows_fewest" gM)
  (e9:Tp K "_law_longer" jR)
  (d3:Tp K "_law_other_way" ir)
  (e2:Tp K "_law_other_levels" gf)
  (e8:Tp K "_law_right" jH)
  (d0:Tp K "law" Om)
  (g1:nsIn K aaZ "LETTERS"=ac (ac (.str "abcdefghijklmnopqrstuvwxyz" e4)))
  (Z:nsIn K aaZ "LONGEST"=ac (ac (.int 8 d5)))
  (z:∀x:Str,x∈(["abs","all","any","bool","divmod","enumerate","int","isinstance","len","list","min","range","repr","reversed","set","sorted","str","tuple"]:List Str)->nsIn K aaZ x=ac af) :
  ∃fd:aap,(∀(s:jl)(v:Value),ae1 s fd ⟨[v],[]⟩ [("_law_script",v)])/\∀base:Heap,K.In base->base.Ns aaZ mg->dZ l.prog w K mg base CX0 7 fa fd nl1 (Lh K):=by
 obtain⟨f,fd,a,F⟩:=d0.ex;cases d9.symm.trans (mg_of X G a);have B:Blt mg:=⟨jj X G z rfl,jj X G z rfl,jj X G z rfl,jj X G z rfl,jj X G z rfl,jj X G z rfl,jj X G z rfl,jj X G z rfl,jj X G z rfl,jj X G z rfl,jj X G z rfl,jj X G z rfl,jj X G z rfl,jj X G z rfl,jj X G z rfl,jj X G z rfl,jj X G z rfl,jj X G z rfl⟩;have c4:Glb mg "LETTERS" (.str "abcdefghijklmnopqrstuvwxyz"):=⟨_,mg_of X G g1,⟨_,rfl⟩⟩;have c3:Glb mg "LONGEST" (.int 8):=⟨_,mg_of X G Z,⟨_,rfl⟩⟩;refine⟨fd,λs v=>by obtain⟨_,_,_,_,_,_,_,_,_,rfl,_⟩:=F.ex;exact .of_eq rfl,λbase _ _=>?_⟩;have T:=@YX l.prog w K mg base h X G;have b4:=T t1 (λF=>zR F B) λ_ _ _ _ _ _=>un1 λ_=>rfl;have D:=T t2 (λF=>Dg F B) λ_ _ _ _ _ _=>un2 λ_ _=>rfl;have b5:=T t3 (λF=>zZ F B D) λ_ _ _ _ _ _=>un1 λ_=>rfl;have a6:=T t4 (λF=>vd F B D) λ_ _ _ _ _ _=>un2 λ_ _=>rfl;have c2:=T t5 (λF=>Ge F B D) λ_ _ _ _ _ _=>un2 λ_ _=>rfl;have I:=T t6 (λF=>xT F B) λ_ _ _ _ _ _=>un1 λ_=>rfl;have a2:=T t7 (λF=>rK F B I) λ_ _ _ _ _ _=>un2 λ_ _=>rfl;have a8:=T t8 (λF=>uI F B) λ_ _ _ _ _ _=>un1 λ_=>rfl;have a0:=T t9 (λF=>qj F B a8) λ_ _ _ _ _ _=>un4 λ_ _ _ _=>rfl;have a9:=T d6 (λF=>uQ F B) λ_ _ _ _ _ _=>un3 λ_ _ _=>rfl;have a3:=T f0 (λF=>tV F B) λ_ _ _ _ _ _=>un1 λ_=>rfl;have a1:=T e6 (λF=>qW F B a0 a9 a3) λ_ _ _ _ _ _=>un5 λ_ _ _ _ _=>rfl;have a7:=T f1 (λF=>uZ F B) λ_ _ _ _ _ _=>un1 λ_=>rfl;have b0:=T e1 (λF=>xF F B) λ_ _ _ _ _ _=>un1 λ_=>rfl;have b7:=T e7 (λF=>Az F B) λ_ _ _ _ _ _=>un1 λ_=>rfl;have b6:=T f2 (λF=>z_ F B) λ_ _ _ _ _ _=>un1 λ_=>rfl;have c0:=T d7 (λF=>G5 F B b7 b6) λ_ _ _ _ _ _=>un1 λ_=>rfl;have c6:=T d2 (λF=>Jv F B c0) λ_ _ _ _ _ _=>un1 λ_=>rfl;have c5:=T e3 (λF=>Rv F B) λ_ _ _ _ _ _=>un2 λ_ _=>rfl;have c7:=T c8 (λF=>Wy F B c5) λ_ _ _ _ _ _=>un3 λ_ _ _=>rfl;have b8:=T e0 (λF=>BP F B c5) λ_ _ _ _ _ _=>un2 λ_ _=>rfl;have b9:=T c9 (λF=>BR F B b0 c6 c7 b8) λ_ _ _ _ _ _=>un4 λ_ _ _ _=>rfl;have U:=T d4 (λF=>zz F B) λ_ _ _ _ _ _=>un1 λ_=>rfl;have c1:=T d1 (λF=>Fo F B c4 c3) λ_ _ _ _ _ _=>un1 λ_=>rfl;have b2:=T e5 (λF=>Bc F B U c1) λ_ _ _ _ _ _=>un1 λ_=>rfl;have a5:=T d8 (λF=>uK F B a7 b9 U b2) λ_ _ _ _ _ _=>un5 λ_ _ _ _ _=>rfl;have b1:=T e9 (λF=>xM F B I) λ_ _ _ _ _ _=>un3 λ_ _ _=>rfl;have a4:=T d3 (λF=>tL F B D b1) λ_ _ _ _ _ _=>un5 λ_ _ _ _ _=>rfl;have V:=T e2 (λF=>o_ F B D) λ_ _ _ _ _ _=>un3 λ_ _ _=>rfl;have b3:=T e8 (λF=>Ao F B a2 a1 a5 D a4 V) λ_ _ _ _ _ _=>un5 λ_ _ _ _ _=>rfl;exact dZ.imp (Wo F B b4 b5 a6 D c2 b3) λJ H Q E ⟨a,ns,e,O,Y,q⟩=>by subst e;exact Vp Y O q
def walk{q:aad}{V:(Str->Option Value)->Heap->Prop}{U:World->Heap->Prop}{d:DefRec}{K:Params->Frag}(hn:l.most=ac 63)(D:d.params.defaults=[])
  (Z:∀(w:World)(h:Heap),U w h->(K w.params).In h)
  (F:∀(w:World)(mg:Str->Option Value)(fa:Addr)(h:Heap),(K w.params).In h->h.Ns aaZ mg->mg d.name=ac (.ref fa)->
   ∃fd:aap,(∀(s:jl)(u:Value),ae1 s fd ⟨[u],[]⟩ [("_law_script",u)])/\∀base:Heap,(K w.params).In base->base.Ns aaZ mg->dZ l.prog w (K w.params) mg base CX0 7 fa fd nl1 (Lh (K w.params))) :
  agv q I V U l.row.toRowW d [] (λf J=>agi f J):=
 L2.walk_of (n:=63) (k:=7) (x:="_law_script") (CX:=λ_=>CX0) (sp:=λw=>Lh (K w.params)) hn (by decide) D ⟨rfl,by decide,by decide,rfl⟩ Z F (λ_ _ a ns Y _ O=>⟨a,ns,rfl,O,Y,λ_=>rfl⟩) λ_ _ _ _ _ z=>z
end Jb
end
namespace PySem.W.Fast
def tw11466777248327503628:=0
def tw14004703242779807003:=0
def tw5861597878917630065:=0
def tw14359131171028897227:=0
def tw4009712677593417520:=0
def tw17395646670231070099:=0
def tw17790362208885835537:=0
def tw11063854528173343251:=0
def tw13449370197738717034:=0
def tw982607478563915689:=0
def tw5721361014663125616:=0
def tw15003656396332412782:=0
def tw2490013706220002573:=0
def tw1814205264205500875:=0
def tw16515642070010536999:=0
def tw5348691075244403202:=0
def tw5782448253500253637:=0
def tw15964853314704546302:=0
def tw11191289607009590010:=0
def tw4941047776967692695:=0
def tw5165398168638303532:=0
def tw9870949977873295581:=0
def tw3601411088065410454:=0
def tw6775692742241709055:=0
def tw6511649527747954775:=0
def tw5206274997414499179:=0
def tw5854242636561555165:=0
def tw7984282778723588636:=0
def tw10643501303096715983:=0
def tw2021319735761258834:=0
def tw12949930143412610527:=0
def tw8660980951835696708:=0
def tw10124676474856090090:=0
def tw18181420248776274874:=0
def tw15488761767779370954:=0
def tw16506060996689557434:=0
def tw6674759631168512552:=0
def tw11561920402209000121:=0
def tw8091517648550441656:=0
def tw4160076113429995496:=0
def tw8631527022806366541:=0
def tw12743918977908643064:=0
def tw2586258128869053717:=0
def tw2094968730298600206:=0
def tw14974214828914692100:=0
def tw9649407742955238552:=0
def tw12820439375751790043:=0
def tw11397271659356784413:=0
def tw18230287315555847686:=0
def tw18153828498757651056:=0
def tw1474872336680302867:=0
def tw10738110063346789707:=0
def tw12111507854979818178:=0
def tw1672021704113934078:=0
def tw5380675328092685662:=0
def tw9302994955147224269:=0
def tw12627915793621703093:=0
def tw6797342609829137091:=0
def tw3482418862391810849:=0
def tw16108882536378091367:=0
def tw14604976204971328073:=0
def tw541765282036974736:=0
def tw8948885001516525015:=0
def tw15801737380949129258:=0
def tw60865618857861717:=0
def tw15188822730321045129:=0
def tw6693338603143978134:=0
def tw973867668201154097:=0
def tw15302044099365255145:=0
def tw10157428941654319871:=0
def tw1444448658208857844:=0
def tw14561471870918546385:=0
def tw17714046178912228147:=0
def tw2461316275910198104:=0
def tw3826346007066888141:=0
def tw13796229138548283303:=0
def tw12606706811001479940:=0
def tw5320475277737443074:=0
def tw7369479204315665213:=0
def tw14517247459145468630:=0
def tw3390588787342911443:=0
def tw5831642409705471200:=0
def tw18409551060151992113:=0
def tw5022834640293548422:=0
def tw13589795727986623172:=0
def tw6794212227172948911:=0
def tw11335065411683199380:=0
def tw11828382971378916906:=0
def tw13211496047789475823:=0
def tw8388152526076439850:=0
def tw464102059173792119:=0
def tw18285213533202103303:=0
def tw11403563081956423888:=0
def tw1513880449304228993:=0
def tw15545078272690755569:=0
def tw15581363114767561839:=0
def tw474402452192226053:=0
def tw8642143842482380076:=0
def tw10371512098161004491:=0
def tw4591661853133241467:=0
def tw6488183208455126587:=0
def tw8283457996143236094:=0
def tw8446615393250538960:=0
def tw11853242035235228635:=0
def tw14786169772093485483:=0
def tw11219449987474813633:=0
def tw2689987119499886811:=0
def tw5327499430422738546:=0
def tw1820964966012348411:=0
def tw5584612336474838443:=0
def tw17100818793347082146:=0
def tw4500456719372797060:=0
def tw12053193637157872241:=0
def tw5881730099723298719:=0
def tw93949940766399026:=0
def tw3589470921756469877:=0
def tw9503479996318726956:=0
def tw12523392910477573529:=0
def tw14890322685771305300:=0
def tw435473552046700062:=0
def tw2452128174170882750:=0
def tw11455739113095931593:=0
def tw2745258955535471421:=0
def tw2696154551900947478:=0
def tw15590412080960899464:=0
def tw7168679262863767948:=0
def tw13467732614644675539:=0
def tw16992293584607958337:=0
def tw5591386448543751315:=0
def tw1274422808370187957:=0
def tw893837610670610127:=0
def tw10135196008926692756:=0
def tw17740172419863698951:=0
def tw8358191227579234469:=0
def tw7470458839680146807:=0
def tw10109632652090281738:=0
def tw8509653480022238168:=0
def tw3499935000022155185:=0
def tw7847380071960917443:=0
def tw12327225772148166980:=0
def tw17188014014330571588:=0
def tw16212378848370240287:=0
def tw16633119482145785512:=0
def tw2264386539008841480:=0
def tw13979185784228247090:=0
def tw17033792916555323292:=0
def tw4684767370639355379:=0
def tw15663020218812835746:=0
def tw13774600629024703911:=0
def tw2405138809105154705:=0
def tw14522829770093059768:=0
def tw7212260513778715358:=0
def tw17166658738986606299:=0
def tw16242812654791304911:=0
def tw12748482688959861257:=0
def tw16222014238332637193:=0
def tw6764707833230025935:=0
def tw6309586200046989885:=0
def tw10617476093247740178:=0
def tw10582025696442956389:=0
def tw6561126817904579298:=0
def tw2092971387947266463:=0
def tw10969286402164656107:=0
def tw13231979490069431943:=0
def tw14314339582547488394:=0
def tw3987562599097813746:=0
def tw2472111722629264825:=0
def tw1375776992596504922:=0
def tw14166989067090292604:=0
def tw11081895320004485276:=0
def tw294588734553092788:=0
def tw13475959103757132963:=0
def tw3850590833265671447:=0
def tw6467475529607983951:=0
def tw9565597132487021427:=0
def tw5735425743522718872:=0
def tw13543498178785123322:=0
def tw12833970269586419984:=0
def tw7572850705049660197:=0
def tw10187709371135568414:=0
def tw7611423626543708450:=0
def tw1118992272509608110:=0
def tw15191966237524474861:=0
def tw6278409663565256262:=0
def tw11382265722174230964:=0
def tw16268085413439511282:=0
end PySem.W.Fast
open PySem PySem.W PyProof.Rows
set_option maxRecDepth 100000 in
set_option maxHeartbeats 0 in
theorem PySem.Challenge.cw_joinback_k12_papers_of_fewest_ways_holds : PySem.Challenge.rw_joinback_k12_papers_of_fewest_ways.Holds := by
 w_on;o_law;k_head;(case hw=>w_witness2)
 k_fill
 refine Jb.walk (l:=PySem.Challenge.rw_joinback_k12_papers_of_fewest_ways) rfl rfl (λw h Y=>PySem.W.kIn_of Y) ?F
 case F=>
  intro w mg fa h KX G hmg;refine' Jb.all_mk KX G hmg ?_ ?_ ?_ ?_ ?_ ?_ ?_ ?_ ?_ ?_ ?_ ?_ ?_ ?_ ?_ ?_ ?_ ?_ ?_ ?_ ?_ ?_ ?_ ?_ ?_ ?_ ?_ ?_ ?_ ?_ ?_ ?_ ?_ ?_
  all_goals repeat' (first|(refine' Jb.tp_mk ?_ ?_ ?_ ?_)|(refine' Jb.mp_mk ?_ ?_ ?_ ?_ ?_)|(refine' Jb.cp_mk ?_ ?_ ?_ ?_ ?_ ?_ ?_ ?_)|(refine' Jb.al_cons ?_ ?_)|exact Jb.al_nil|k_is)
