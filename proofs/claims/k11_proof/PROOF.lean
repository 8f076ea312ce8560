import PyProof.Rows.All
import Wide.All
import OpenK.AllK
import Wide.FinOn
import Lean
import PyProof.EqAt
import PyProof.EqKinds
import PyProof.TupleCall
import KE.KDictList
import KE.KMinBuiltin
import KE.KSortTup
import PyProof.AttrMissHeap
import PyProof.NeKinds
import PyProof.Rows.CallKwBuiltin
import PyProof.StrWalks
import PyProof.TupleIter
import PyProof.TupleOfSeq
import PySem.Challenge.RW_joinback_k11_levels
set_option Elab.async false
set_option linter.all false
set_option compiler.extract_closed false
set_option genSizeOf false
set_option bootstrap.genMatcherCode false
set_option maxRecDepth 100000
set_option hygiene false
set_option hygiene false
local macro_rules
 |`(tactic|show 1)=>`(tactic|(repeat(any_goals(first|assumption|wp_step))))
 |`(tactic|show 2)=>`(tactic|(refine aav F.jb_slot_seti.plain F.jb_entry_seti (F.jb_slot_seti.check _ _ _ _ _ _ _ _ z (F.jb_args_seti _) ?_);unfold Builtin.«set_iterator.__next__» lU at *))
 |`(tactic|show 3)=>`(tactic|(intro pins s σ H x y v u Q I rx B h;obtain⟨i,j,rfl,rfl,q⟩:=h;obtain⟨t,rfl⟩:=rx;obtain⟨t',rfl⟩:=B))
 |`(tactic|show 4)=>`(tactic|(have q1:=q.from m1;have a0:∀{ρ2:En}{σ2:L2.St}{H2:Hp}{S2:Ad},Mv P H1 H2 σ σ2 S S2 []->LtB ag H1 (wn ob S Fr) H2 (wn ob S2 Fr):=λm=>uf (vy Z m);refine⟨λi m σ2 H2=>i+m=items.length/\∃ρ2 S2,Sta G H2 ob ρ2 σ2 S2 Fr/\Mv P H1 H2 σ σ2 S S2 []/\forL tg body (items.drop i) ρ2=ac r,⟨items.length,by omega,ρ,S,Z,.refl,e⟩,?_⟩;rintro i m σ2 H2 ⟨a5,ρ2,S2,O,m2,e2⟩;by_cases B:i<items.length))
 |`(tactic|show 5)=>`(tactic|(have w2:WOk H2 (W.add (L++M)):=w.add (Z.trans O) λa Y=>(Yl.mp Y).elim (λz=>let⟨o,h,m⟩:=rx.dom a z;⟨o,O a o h,m⟩) (B.dom a);refine I dx ds d e x ys H2 (W.add (L++M)) L M (rx.up u2) (B.up u3) (dR nx ny a0) (w.tmp λa Y=>(Yl.mp Y).elim (fx a) λz=>Z.none' (F a z)) w2 Q λv H3 L3 s3 r3 f3 n3=>?_;refine q v H3 L3 ((Z.trans O).trans s3) ?_ (λa Y=>(f3 a Y).elim (λz=>?_) λz=>(Z.trans O).none' z) n3))
 |`(tactic|show 6)=>`(tactic|(obtain⟨x,rfl,rx⟩:=r.inv1;rw[Rep]at rx;obtain⟨a,ys,M,rfl,Z,hs⟩:=rx))
local macro_rules
 |`(1.10)=>`((by omega))
 |`(1.11)=>`((λ_=>Z.mono (by decide)))
 |`(1.12)=>`((adj js js.length))
 |`(1.13)=>`((model X.prog X.w))
 |`(1.14)=>`((bM X N' scope C Y H fp))
 |`(1.15)=>`((.ListComp elt [⟨target,iter,ifs,0⟩] scope pos))
 |`(1.16)=>`((model prog w))
 |`(1.17)=>`((.lst .frz (L.map (lvL .frz))))
 |`(1.18)=>`((e2 gLe (eAp n_ (aj (e2 jf (eMt iW (ao ae 4) (aj (ao ae 0) (aj (ao ae 3) aA))) (eMt iW (ao ae 4) (aj (ao ae 1) (aj (ao ae 3) aA)))) aA)) (eC (.int 1))))
 |`(1.19)=>`((λQ I=>?_))
 |`(1.20)=>`((.lst .own (L.map (lvL .own))))
 |`(1.21)=>`((x==("__debug__":Str)))
 |`(1.22)=>`((.DictComp kx vx [⟨target,iter,ifs,0⟩] scope pos))
 |`(1.23)=>`((eB (e2 gEq (eAp bT (aj (e2 gIx (ao ae 2) (ao ae 0)) aA)) (ao ae 1))))
 |`(1.24)=>`(((e::es).length+([]:List aa0).length+(if([]:List aa0).isEmpty then 0 else 1)<30))
 |`(1.25)=>`((aj (ao ae 0) aA))
 |`(1.26)=>`((.lst .frz (js.map jD)))
 |`(1.27)=>`((eB (e2 iU (eAp G4 (aj (ao ae 0) (aj (ao ae 1) (aj (ao ae 2) (aj (ao ae 5) (aj (ao ae 7) aA)))))) (eC (.bl ag)))))
 |`(1.28)=>`((ixb (λ_=>aW Z)))
set_option hygiene true
local macro_rules
 |`(tactic|simp![$x,*]$[$l:location]?)=>`(tactic|simp only[$x,*]$[$l:location]?)
set_option hygiene true
open Lean.Parser.Command Lean.Parser.Term in
local macro_rules
 |`(command|def $i:declId $s:optDeclSig := $v)=>`(command|noncomputable def $i $s := $v)
 |`(command|def $i:declId $s:optDeclSig $[$a:matchAlt]*)=>`(command|noncomputable def $i $s:optDeclSig $[$a:matchAlt]*)
section
def YH:=@if_pos
def Y4:=@if_neg
def Y6:=@if_true
def Zc:=@decide_eq_false
def aaL:=@decide_eq_true
def aaN:=@decide_eq_true_iff
def aaT:=@getElem?_pos
def abo:=@if_false
open Option renaming bind_some->gD,map_some->Y9,isSome_iff_exists->aaq,getD_some->abP,getD_none->acC,isSome_map->ado,map_eq_some_iff->ad5,map->aew,isSome_some->aeR,none_or->afC
open PySem renaming wpAny_bind->W2,Shared->Ym,wpAny_pure->Yq,sizeLine->Yx,starEach->YD,Program->Y7,compareOp->Zf,FuncData->Zh,Around->Zx,foldedSetIterable->ZL,mainGlobals->ZQ,assignEach->Z1,backTo->Z4,boot_len->Z6,wpAny_mono->Z9,wpAny_newObj_type->aac,rawInt->aaf,cellsFrom->aag,binaryOp->aah,sysModules->aao,wpAny_holding->aas,codeAny_call_builtin->aav,wpAny_callSpecial?_slot->aax,bootBuiltins->aaD,wpAny_Call_Name_kw->aaJ,NameKind->aaP,codeAny_builtin->aaU,wpAny_setState_of->aaX,mem_of_lookup->aaZ,Keyword->aa0,tupleKind_room_in1->aa4,wpAny_setField_rec->aa5,wpAny_passesOwn->aa7,codeAny->aa8,valueAt->aa_,attributeBase->abd,swapsWith->abk,SetTable->abr,wpAny_askSetting->abt,wpAny_standAt->abv
open PySem renaming swapsWithSole->abw,wpAny_rule->abx,pickOrder->abz,keywordEach->abA,wpAny_truthy_bool->abF,codeAny_mono->abG,scanBound->abJ,behindInMarks->abR,plainId_quiet->abU,sliceBounds->abV,unsupported->abW,letOwnedTupleGo->ab0,assign->ab5,pyNext->ab6,call_meetsIn->ab_,wpAny_comprehension_free->aca,holding->ach,wpAny_pyIter_enum->acq,wpAny_of_eq->acw,swappedStores->acz,backToKw->acD,tupleKind->acF,PassesOwn->acH,wpAny_execs_nil->acM,newFunctionEnv->acT,firstArgMember->acX,sizeLine_eq->ac0,pyIter->ac5,wpAny_letOwnedTupleGo_enum->adh,wpAny_attempt->adl,wpAny_pyIter_list->adp,wpAny_load->adv,call_meets->adw,callerA->adz,newList->adA,Paired->adB,noFill_tuple_add->adD,relayAll->adG,wpAny_call_entry->adH,wpAny_isInstance->adI
open PySem renaming exec_Assign_arm->adV,pushCells->adX,seqItems?->adY,wpAny_ite_split->ad0,wpAny_pyNext_list_item->ad1,wpAny_Call_method_late->ad4,richCompare_meets_room->ad9,isTrue->ad_,wpAny_pyNext_list_end->aea,BindsTo->aec,stored->aee,wpAny_runValue->aeh,builtinLookup_eq_fast->aei,isSubtype_type->aej,setNext->ael,ItemsOf->aen,dictSetDefault->aeq,PlainAttrs->aer,assignInOrder->aez,seq_tuple_add->aeA,wpAny_handled->aeB,holding->aeD,concat_meets->aeO,seqIndex_neg->aeP,relabel->ae0,collect->ae2,list_append->ae6,seqIndex_of->afc,wpAny_throw->afd,call->afr,Fin->afE
open List renaming mem_append->Yl,mem_append_right->Yn,getElem?_eq_getElem->Yo,mem_map->Yr,map_cons->Ys,length_map->Yt,mem_cons->Yu,mem_append_left->Yv,map_map->Yw,length_cons->Yy,mem_singleton->Yz,getElem?_cons_succ->YJ,map->YK,getElem?_cons_zero->YL,map_congr_left->YT,cons_append->YW,length_nil->YX,mem_of_getElem?->Y0,nodup_cons->Y5,mem_cons_of_mem->Y8,map_nil->Y_,append_nil->Za,replicate->Zb,length_append->Zd,set_cons_succ->Ze,findIdx?_eq_some_iff_getElem->Zg,getElem?_append_left->Zm,findIdx?_eq_none_iff->Zn,mem_cons_self->Zo,set_cons_zero->Zq,map_append->Zt,Perm->Zu,range->Zw,nodup_append->Zz,getElem?_eq_none->ZD,sublist_append_right->ZK,getElem?_append_right->ZM,lookup_cons->ZP,getElem_cons_drop->ZS,getElem?_set_self->Z_
open List renaming length_take->aaa,drop_length->aai,getElem_mem->aaj,Sublist->aal,getElem?_set->aan,sublist_append_left->aar,ext_getElem?->aaz,take_add_one->aaA,getElem_of_mem->aaC,length->aaF,take_of_length_le->aaG,take_length->aaI,take_append_drop->aaM,find?_cons->aaQ,append_assoc->aaW,length_eq_zero_iff->aaY,all_eq_true->aa1,drop_eq_getElem_cons->abi,mem_of_mem_take->abj,mem_range->abl,length_drop->abn,any_eq_true->abq,foldl_cons->aby,eq_nil_of_length_eq_zero->abE,all_map->abH,set_append_right->abI,getElem?_of_mem->abM,pairwise_append->abO,not_mem_nil->abQ,all_cons->abT,map_id->abX,filterMap_cons->abY,of_mem_zip->ab1,getElem?_eq_none_iff->ab3,pairwise_iff_getElem->ab4,set_eq_of_length_le->acd,pairwise_cons->ace,range_succ_eq_map->acv,eraseIdx_append_of_length_le->acx,drop_of_length_le->acy
open List renaming any_cons->acA,nil_sublist->acE,length_singleton->acI,mem_iff_getElem?->acJ,contains_iff_mem->acK,length_filter_le->acL,getElem?_mapIdx->acN,mem_filterMap->ac6,findIdx?_cons->ac9,zip_cons_cons->ada,getElem?_inj->adq,getElem_inj->adC,zip->adF,getElem?_replicate->adO,pairwise_singleton->adS,mem_filter->adU,drop_eq_nil_of_le->ad6,pairwise_lt_range->ad7,mapM_cons->aef,perm_append_comm->aeg,getElem?_toArray->aem,length_eraseIdx->aev,findIdx?_append->aey,getElem?_range->aeF,length_pos_iff->aeH,set_set->aeW,map_set->aeX,take_sublist->ae5,length_range->ae8,pairwise_map->ae_,map_fst_zip->afm,map_snd_zip->afn,length_set->afp,drop_zero->afB
open PySem.Heap renaming get?_push_of_some->Yp,lt_size->YF,get?_push_size->YG,get?_update_other->ZR,size_push->Z7,SameBut->aaO,get?_update_self->aa9
open Nat renaming le_refl->YB,lt_of_lt_of_le->YQ,ne_of_lt->YZ,le_trans->ZJ,lt_irrefl->ZW,lt_succ_of_lt->aay,ne_of_gt->aaE,sub_self->aaR,zero_add->aaS,le_of_lt->aa3,lt_succ_self->abp,le_succ->abC,le_of_succ_le->acp,min_eq_left->acP,zero_le->ac1,eq_zero_or_pos->ac_,succ_le_succ->adE,min_eq_right->adM,not_lt_zero->adZ,not_succ_le_self->aeu,lt_of_le_of_lt->aeT,lt_or_ge->aeV,succ_ne_self->afl
open PySem.W renaming Frag->YC,kia_one->aae,fnOf->ab7,kitx_list->acn,kitx_dict->aco,kitOne->acR,keepIn->acS,kitAny->acU,methodObj->adm,instObj->adT,OpenLaw->adW,cellsFrom_some->ad2,lookIn->aeb,codeIn->aed,kitx_float->aeM,kitx_tuple->aeN,kitx_none->ae3,kitx_bool->ae4,plainGet->afg,kitx_int->afh,kitx_str->afi,kitx_own->afj,findIn->afv,WalkO->afH
open Sum renaming inr->YM,inl->ady
open Bool renaming and_eq_true->YS,false_ne_true->Zi,false_eq_true->ZV,and_self->aam,eq_iff_iff->aap,or_eq_true->ab2,and_true->adk,and_eq_true_iff->aet,not_eq_true'->afa,false_and->afu,and_assoc->afx,and_false->afy
open Array renaming getD_eq_getD_getElem?->Zj,length_toList->Z0,getElem?_toList->aaK,getElem_toList->abN,toList_push->adt,getElem?_eq_none->ad8
open PySem.Value renaming ref->Zk,none->Z8,type->aau,bool->acg,int->ac2,str->ac3,float->afb,isStrOf->afG
open Option.some renaming inj->Zr,injEq->abe
open PySem.PassesOwn renaming never->Zv
open Ne renaming symm->Zy
open Or renaming inr->ZC,inl->aab
open PySem.Builtin.Str renaming occurrences->ZF,strKind->abZ,partsBetween->acb
open PySem.F renaming plainAttrs_list->ZG,slot_list_append->ZX,type_list_append->ZZ,slot_dict_get->Z3,plainAttrs_dict->Z5,slot_tuple_iterator_next->aak,type_dict_get->abb,called_set->abu,entry_dict_get->abD,args_tuple_add_2->ab8,entry_tuple_add->acj,plain_list_iadd->acs,slot_tuple_add->acu,args_tuple_iterator_next_1->acV,slot_dict_setdefault->acY,type_dict_setdefault->acZ,entry_tuple_iterator_next->ac8,plain_extend_loop->adx,args_dict_get_2->adP,args_dict_get_3->adQ,entry_proto_collect->aeo,plain_proto_collect->aep,args_list_append_2->aes,entry_list_append->aeE,slot_list_append->aeQ,entry_list_iadd->ae9
open True renaming intro->Z2
open Int renaming toNat_natCast->aad,emod_lt_of_pos->acf,emod_nonneg->acO,fmod_eq_emod_of_nonneg->adf,fdiv_eq_ediv_of_nonneg->adg
open Function renaming comp->aat
open PySem.Around renaming under_plainId->aaw
open PyProof.Rows renaming callWith_type1->aaB,boot_isinstance->aaV,envOfC->abS,boot_tuple->aci,AllBare->acG,sortedS->acW,assignInOrder_cons->ac4,boot_all->adN,subscriptTail_builtinR->ad3,sortedS_of_pairwise->aeI,boot_list->aeY,IntsAre->aeZ,boot_sorted->afe
open PySem.NameKind renaming cell->aaH,free->acB
open PySem.Obj renaming mapSeq->aa2,data_mapDictKeys->aex,data_mapFields->aeS,putSet->aft
open PySem.Builtin.List renaming listExtendWith->aa6,listLengthHint->abK,listTooLong->ab9,listSameRef->adJ
open ForInStep renaming yield->aba
open List.Sublist renaming refl->abf
open False renaming elim->abg
open PySem.Builtin.SmallTypes renaming nextOf->abh,stopIteration->adi,ownedTupleFields->ae1,newRecord->afw
open PySem.SetTable renaming grown->abm,insertAt->ae7,Probe->afz,fits->afK
open PySem.Calls renaming callWith_builtin->abB,evalArgs_plain->abL,spliced_cons->ac7,Name_function_global->ade,spliced_nil->adn
open PyProof.Rows.F renaming plain_set_update_loop->ack,entry_set_update_loop->adR
open PySem.SetTable.below renaming go->acr
open PySem.Heap.SameBut renaming update->acQ
open PySem.Paired renaming length->adb
open PySem.SetTable.probe renaming go->adu
open PySem.AutoSeq1 renaming sub_tuple_tuple->adK
open PySem.SeqAt.EqAt renaming int_int->adL,int_str->aeK,str_int->aeL,same->afF
open List.Perm renaming refl->aek
open Prod.mk renaming injEq->aeC
open Std.Legacy.Range renaming forIn_eq_forIn_range'->aeG,size->afP
open PySem.Challenge renaming pw_joinback_k11_levels->aeJ
open PySem.pickOrder renaming go->aeU
open PySem.IsL renaming update->afk
open PySem.SeqAt renaming EqAt->afo
open PySem.Heap.DictOf renaming new->afq
open List.cons renaming injEq->afs
open PySem.Builtin.Frozenset renaming updateFrom->afA,newClass->afI,addrOf->afL,sizeOf->afM,slot0->afN
open PySem.Flow renaming next->afD
open PySem.Shared renaming TypeIs->afJ
open Sum.inr renaming inj->afO
open Option renaming some->ac,none->af
open Bool renaming true->ag,false->ae
open PySem
variable{XP:(Str->Option Value)->Heap->Prop}{a it f dx:Addr}{A:Around}{osl:Array (Option Value)}{g' g:Array GenState}{xs:Array Nat}{items:Array Value}{b:Bool}{op:CmpOp}{d:DefRec}{d':Drawn}{env:Env}{e c tg elt target:Expr}{h h' base:Heap}{C:Int->Int->Prop}{pins:List (Addr×Obj)}{U:List (Option Expr)}{us:List (Str×Nat)}{ch M fp L:List Addr}{es O ifs elts:List Expr}{p js:List Nat}{body:List Stmt}{N ps l ks a0 ns N' S ys:List Str}{its:List Value}{t' i j n tk m ep x1:Nat}{ob pr:Nat->Bool}{tn:Nat->Heap->Prop}{o:Obj}{pos pos' apos p2 cpos pos2 tpos p1 q1 q2 ypos:Pos}{prog:Program}{R:Result->Shared->Prop}{z scope:Scope}{s:Shared}{x y qual name:Str}{Z mg:Str->Option Value}{q:Str->Option aaP}{T:String}{κ α β ι:Type}{u v oc v' u':Value}{RR:Value->Addr->Result->Ym->Prop}{E:Value->Shared->Prop}{Q:Value->Ym->Prop}{w:World}{YP:World->Heap->Prop}{P:Y7}{s':Ym}{fd:Zh}
namespace L2
open PySem PySem.Spec PyProof.Rows
abbrev Key:=Sum Int Str
def oG:Key->Value->Bool
 |.inl k,v=>Value.isInt k v
 |.inr x,v=>afG x v
def XN(w:World):Key->Int
 |.inl k=>hashInt k
 |.inr x=>hashStr w x
theorem cB:∀{k:Key}{v:Value},oG k v=ag->(∃i t,k=ady i/\v=ac2 i t)∨(∃x t,k=YM x/\v=ac3 x t)
 |.inl i,v,h=>by
  obtain⟨t,e⟩:=Value.isInt_shape (k:=i) (v:=v) h;exact .inl ⟨i,t,rfl,e⟩
 |.inr x,v,h=>by
  obtain⟨t,e⟩:=Value.isStrOf_shape (x:=x) (v:=v) h;exact .inr ⟨x,t,rfl,e⟩
theorem Iw(i:Int)(t:Tok):oG (.inl i) (.int i t)=ag:=by simp[oG,Value.isInt]
theorem Jg(x:Str)(t:Tok):oG (.inr x) (.str x t)=ag:=by simp[oG,afG]
theorem T_(a b:Int):decide ((ady a:Key)=ady b)=(a==b):=by
 by_cases e:a=b
 .subst e;simp
 .have h:¬(ady a:Key)=ady b:=λq=>e (Sum.inl.inj q)
  rw[Zc h];exact(beq_eq_false_iff_ne.mpr e).symm
theorem Vs(a b:Str):decide ((YM a:Key)=YM b)=decide (a=b):=by
 by_cases e:a=b
 .subst e;simp
 .have h:¬(YM a:Key)=YM b:=λq=>e (afO q)
  rw[Zc h,Zc e]
theorem Sq(a:Int)(b:Str):decide ((ady a:Key)=YM b)=ae:=Zc (λq=>nomatch q)
theorem T3(a:Str)(b:Int):decide ((YM a:Key)=ady b)=ae:=Zc (λq=>nomatch q)
noncomputable def bz(prog:Y7)(w:World):PySem.KeyKind prog w Key where
 is:=oG
 hash:=XN w
 inj:=λv a b Y U=>by
  rcases cB Y with⟨i,t,rfl,rfl⟩|⟨x,t,rfl,rfl⟩
  .rcases cB U with⟨j,u,rfl,e⟩|⟨y,u,rfl,e⟩
   .injection e with e1 _;rw[e1]
   .exact nomatch e
  .rcases cB U with⟨j,u,rfl,e⟩|⟨y,u,rfl,e⟩
   .exact nomatch e
   .injection e with e1 _;rw[e1]
 byValue:=λk v h=>by
  rcases cB h with⟨i,t,rfl,rfl⟩|⟨x,t,rfl,rfl⟩<;>rfl
 pyHash:=λB h=>by
  rcases cB B with⟨i,t,rfl,rfl⟩|⟨x,t,rfl,rfl⟩
  .exact wpAny_pyHash_int h
  .exact wpAny_pyHash_str h
 eqBool:=λhu B h=>by
  rcases cB hu with⟨i,t,rfl,rfl⟩|⟨x,t,rfl,rfl⟩
  .rcases cB B with⟨j,u,rfl,rfl⟩|⟨y,u,rfl,rfl⟩
   .rw[T_]at h;exact wpAny_eqBool_int h
   .rw[Sq]at h;exact aeK i t y u _ _ _ _ h
  .rcases cB B with⟨j,u,rfl,rfl⟩|⟨y,u,rfl,rfl⟩
   .rw[T3]at h;exact aeL x t j u _ _ _ _ h
   .rw[Vs]at h;exact wpAny_eqBool_str h
 «strs»:=λk x t v h=>by
  rcases cB h with⟨i,u,rfl,e⟩|⟨y,u,rfl,e⟩
  .exact nomatch e
  .injection e with e1 _
   subst e1;cases v<;>rfl
theorem DW(prog:Y7)(w:World)(i:Int)(t:Tok):(bz prog w).is (.inl i) (.int i t)=ag:=Iw i t
theorem Cr(prog:Y7)(w:World)(x:Str)(t:Tok):(bz prog w).is (.inr x) (.str x t)=ag:=Jg x t
inductive V where
 |non|bl (b:Bool)|int (i:Int)|str (x:Str)|byt (b:Array UInt8)|flt (b:UInt64)|ref (a:Addr)|ty (n:String)
 deriving DecidableEq
def RelV:V->Value->Prop
 |.non,u=>u=Z8
 |.bl b,u=>u=acg b
 |.int i,u=>∃t,u=ac2 i t
 |.str x,u=>∃t,u=ac3 x t
 |.byt b,u=>∃t,u=Value.bytes b t
 |.flt b,u=>∃t,u=afb b t
 |.ref a,u=>u=Zk a
 |.ty n,u=>u=aau n
noncomputable abbrev Vals:List V->List Value->Prop:=adB RelV
variable{xs:List V}{us:List Value}
theorem Vals.length(r:Vals xs us):xs.length=us.length:=adb r
theorem Vals.get:∀{xs:List V}{us:List Value}{i:Nat}{x:V},Vals xs us->xs[i]? =ac x->∃u,us[i]? =ac u/\RelV x u
 |_,_,_,_,.nil,e=>by simp at e
 |_,_,0,_,.cons r _,e=>by simp at e;subst e;exact⟨_,rfl,r⟩
 |_,_,i+1,x,.cons _ t,e=>by
  obtain⟨u,h1,h2⟩:=Vals.get (i:=i) (x:=x) t (by simpa using e);exact⟨u,by simpa using h1,h2⟩
theorem Vals.set{x:V}(r:RelV x u):∀{xs:List V}{us:List Value}(i:Nat),Vals xs us->Vals (xs.set i x) (us.set i u)
 |_,_,_,.nil=>.nil
 |_,_,0,.cons _ t=>.cons r t
 |_,_,i+1,.cons q t=>.cons q (Vals.set r i t)
theorem Vals.append:∀{xs ys:List V}{us q:List Value},Vals xs us->Vals ys q->Vals (xs++ys) (us++q)
 |_,_,_,_,.nil,s=>s
 |_,_,_,_,.cons r t,s=>.cons r (Vals.append t s)
theorem Vals.take:∀{xs:List V}{us:List Value}(n:Nat),Vals xs us->Vals (xs.take n) (us.take n)
 |_,_,0,_=>.nil
 |_,_,_+1,.nil=>.nil
 |_,_,n+1,.cons r t=>.cons r (Vals.take n t)
theorem Vals.drop:∀{xs:List V}{us:List Value}(n:Nat),Vals xs us->Vals (xs.drop n) (us.drop n)
 |_,_,0,r=>r
 |_,_,_+1,.nil=>.nil
 |_,_,n+1,.cons _ t=>Vals.drop n t
def lW:Option V->Option Value->Prop
 |some v,ac u=>RelV v u
 |none,af=>True
 |_,_=>False
def KV:List (κ×V)->List (κ×Value)->Prop:=adB λ(p:κ×V)(q:κ×Value)=>p.1=q.1/\RelV p.2 q.2
def kV:Key->V
 |.inl i=>.int i
 |.inr x=>.str x
inductive HO where
 |lst (xs:List V)
 |tup (xs:List V)
 |dK (kvs:List (Key×V))|dT (kvs:List (List Key×V))
 |set (S:Int->Bool) (n:Nat)
 |ins (C dx:Addr) (fs:List (Str×V))
 |own (x:Addr)
 |xd (fs:List (Str×V))
 |met (f x:Addr)
 |rng (lo hi:Int)
 |frz (o:Obj) (u:HO)
 |tbl (ps:Array Value)
 |ext (φ:Heap->Prop)
abbrev Hp:=Addr->Option HO
def upd(H:Hp)(a:Addr)(o:HO):Hp:=λb=>if b=a then ac o else H b
variable{H:Hp}{o:HO}
theorem aQ:upd H a o a=ac o:=by unfold upd;rw[YH rfl]
variable{b:Addr}
theorem aK(h:b≠a):upd H a o b=H b:=by unfold upd;rw[Y4 h]
theorem kE{u:HO}(h:H a=ac o)(h':H b=ac u)(d:o≠u):a≠b:=by
 intro e;subst e;rw[h]at h';exact d (Zr h')
theorem bG(h:H a=ac o)(h':H b=af):a≠b:=by
 intro e;subst e;rw[h]at h';cases h'
def o7(h:Heap)(a:Addr)(items:Array Value):Prop:=∃o,h.get? a=ac o/\o.cls= .type "tuple"/\∃n,o.data= .seq items n/\o.dict=af
theorem o7.new(h:Heap)(items:Array Value):o7 (h.push {cls:=.type "tuple",data:=.seq items}) h.objs.size items:=⟨_,YG _ rfl,rfl,_,rfl,rfl⟩
theorem o7.t(x:o7 h a items):IsTup h a items:=let⟨o,e,c,n,d,_⟩:=x;⟨o,e,c,n,d⟩
section
variable(P:Program)(w:World)
def cG(H:Hp)(h:Heap)(a:Addr):HO->Prop
 |.lst xs=>xs.length<=Yx/\∃(its:List Value)(n:Nat),Vals xs its/\h.get? a=ac {cls:=.type "list",data:=.seq its.toArray n}
 |.tup xs=>xs.length<=Yx/\∃its:List Value,Vals xs its/\o7 h a its.toArray
 |.dK kvs=>kvs.length<=Yx/\(a==aao)=ae/\∃O,KV kvs O/\h.DictOf (bz P w) a O
 |.dT kvs=>kvs.length<=Yx/\(a==aao)=ae/\∃xs:List (List Key×Addr×Value),
  adB (λ(p:List Key×V)(q:List Key×Addr×Value)=>p.1=q.1/\H q.2.1=ac (.tup (p.1.map kV))/\RelV p.2 q.2.2) kvs xs/\
  ∃o es ep,h.get? a=ac o/\o.ExactDict/\o.data= .dict es ep/\es.toList=xs.map (entryOfKey (acF (bz P w)))/\(xs.map (·.1)).Nodup
 |.set S n=>h.SetOf (intKind P w) a S n
 |.ins C dx fs=>H dx=ac (.own a)/\fs.length<=1000/\dx≠a/\h.get? a=ac (adT C dx)/\
  ∃Z,h.Ns1 dx Z/\(∀f,lW (fs.lookup f) (Z f))/\PySem.Within Z (fs.map (·.1))
 |.own _=>∃o,h.get? a=ac o
 |.xd fs=>∃Z,h.Ns1 a Z/\∀f,lW (fs.lookup f) (Z f)
 |.rng lo hi=>∃t u v,h.get? a=ac {cls:=.type "range",data:=.fields #[.int lo t,.int hi u,.int 1 v]}
 |.frz o u=>h.get? a=ac o/\cG H h a u
 |.tbl ps=>h.get? a=ac {cls:=.none,data:=.fields ps}
 |.met f x=>h.get? a=ac (adm (.ref f) (.ref x))
 |.ext B=>B h/\(∃o,h.get? a=ac o)/\∀h1 h2:Heap,B h1->(∀o,h1.get? a=ac o->h2.get? a=ac o)->B h2
def HOk(H:Hp)(h:Heap):Prop:=∀a o,H a=ac o->cG P w H h a o
end
variable{P:Program}
theorem cG.lt(x:cG P w H h a o):a<h.objs.size:=by
 cases o with
 |lst xs=>obtain⟨_,_,_,_,e⟩:=x;exact YF e
 |tup xs=>obtain⟨_,_,_,p⟩:=x;exact p.t.lt
 |dK kvs=>obtain⟨_,_,_,_,o,_,_,e,_⟩:=x;exact YF e
 |dT kvs=>obtain⟨_,_,_,_,o,_,_,e,_⟩:=x;exact YF e
 |set S n=>obtain⟨o,_,_,_,e,_⟩:=x;exact YF e
 |ins C dx fs=>obtain⟨_,_,_,e,_⟩:=x;exact YF e
 |own y=>obtain⟨_,e⟩:=x;exact YF e
 |xd fs=>obtain⟨_,⟨_,_,_,e,_⟩,_⟩:=x;exact YF e
 |rng lo hi=>obtain⟨_,_,_,e⟩:=x;exact YF e
 |frz ob u=>obtain⟨e,_⟩:=x;exact YF e
 |tbl ps=>exact YF (show h.get? a=ac _ from x)
 |met f y=>exact YF (show h.get? a=ac _ from x)
 |ext B=>obtain⟨_,⟨_,e⟩,_⟩:=x;exact YF e
theorem Paired.mapP{F G:α->β->Prop}:∀{l₁:List α}{l₂:List β},adB F l₁ l₂->(∀a b,F a b->G a b)->adB G l₁ l₂
 |_,_,.nil,_=>.nil
 |_,_,.cons r t,f=>.cons (f _ _ r) (Paired.mapP t f)
variable{H':Hp}
theorem cG.stay(x:cG P w H h a o)(k:∀b u,(b=a∨H b=ac (.own a))->h.get? b=ac u->h'.get? b=ac u)
  (I:∀b,H b=ac (.own a)->H' b=ac (.own a)) (U:∀b xs,H b=ac (.tup xs)->H' b=ac (.tup xs)):cG P w H' h' a o:=by
 induction o with
 |lst xs=>obtain⟨z,its,n,r,e⟩:=x;exact⟨z,its,n,r,k _ _ (.inl rfl) e⟩
 |tup xs=>obtain⟨z,its,r,ob,e,c⟩:=x;exact⟨z,its,r,ob,k _ _ (.inl rfl) e,c⟩
 |dK kvs=>obtain⟨z,y,O,r,ob,es,ep,e,c⟩:=x;exact⟨z,y,O,r,ob,es,ep,k _ _ (.inl rfl) e,c⟩
 |dT kvs=>
  obtain⟨z,y,xs,r,ob,es,ep,e,c⟩:=x;exact⟨z,y,xs,Paired.mapP r λp q z=>⟨z.1,U _ _ z.2.1,z.2.2⟩,ob,es,ep,k _ _ (.inl rfl) e,c⟩
 |set S n=>obtain⟨ob,es,ep,t,e,c⟩:=x;exact⟨ob,es,ep,t,k _ _ (.inl rfl) e,c⟩
 |ins C dx fs=>
  obtain⟨d,z,Y,e,Z,⟨od,es,ep,e2,c⟩,r⟩:=x;exact⟨I _ d,z,Y,k _ _ (.inl rfl) e,Z,⟨od,es,ep,k _ _ (.inr d) e2,c⟩,r⟩
 |own y=>obtain⟨ob,e⟩:=x;exact⟨ob,k _ _ (.inl rfl) e⟩
 |xd fs=>obtain⟨Z,⟨od,es,ep,e,c⟩,r⟩:=x;exact⟨Z,⟨od,es,ep,k _ _ (.inl rfl) e,c⟩,r⟩
 |rng lo hi=>obtain⟨t,u,v,e⟩:=x;exact⟨t,u,v,k _ _ (.inl rfl) e⟩
 |frz ob u F=>obtain⟨e,q⟩:=x;exact⟨k _ _ (.inl rfl) e,F q⟩
 |tbl ps=>
  have e:h.get? a=ac {cls:=.none,data:=.fields ps}:=x;show h'.get? a=ac {cls:=.none,data:=.fields ps};exact k a _ (.inl rfl) e
 |met f y=>
  have e:h.get? a=ac (adm (.ref f) (.ref y)):=x;show h'.get? a=ac (adm (.ref f) (.ref y));exact k a _ (.inl rfl) e
 |ext B=>obtain⟨p,⟨o,e⟩,st⟩:=x;exact⟨st _ _ p λo q=>k _ _ (.inl rfl) q,⟨o,k _ _ (.inl rfl) e⟩,st⟩
theorem HOk.lt(x:HOk P w H h)(e:H a=ac o):a<h.objs.size:=(x a o e).lt
theorem HOk.fresh(x:HOk P w H h)(e:h.objs.size<=a):H a=af:=by
 cases q:H a with
 |none=>rfl
 |some u=>exact absurd (YQ (x.lt q) e) (ZW _)
theorem HOk.kept(x:HOk P w H h)(k:∀b u,h.get? b=ac u->h'.get? b=ac u):HOk P w H h':=λa o e=>
 (x a o e).stay (λb u _ q=>k b u q) (λ_ q=>q) λ_ _ q=>q
theorem HOk.laid(x:HOk P w H h)(k:∀b u,h.get? b=ac u->h'.get? b=ac u)(V:h.objs.size<=a)(new:cG P w (upd H a o) h' a o):HOk P w (upd H a o) h':=λb u e=>by
 have hn:=x.fresh V;by_cases U:b=a
 .subst U;rw[aQ]at e;cases e;exact new
 .rw[aK U]at e
  exact(x b u e).stay (λc v _ q=>k c v q) (λc q=>by rw[aK (bG q hn)];exact q) λc xs q=>by rw[aK (bG q hn)];exact q
def Rd(H:Hp)(a:Addr)(u:HO):Prop:=H a=ac u∨∃o,H a=ac (.frz o u)
theorem Rd.ok{P:Y7}{u:HO}(r:Rd H a u)(x:HOk P w H h):cG P w H h a u:=by
 rcases r with r|⟨o,r⟩
 .exact x a u r
 .obtain⟨_,q⟩:=x a _ r
  exact q
def Mut:Option HO->Prop
 |some (.lst _)=>True
 |some (.dK _)=>True
 |some (.dT _)=>True
 |some (.set _ _)=>True
 |some (.ins _ _ _)=>True
 |some (.ext _)=>True
 |_=>False
variable{x e:Addr}{o':HO}
theorem HOk.write(ok:HOk P w H h)(mu:Mut (H x))(O:e=x∨H e=ac (.own x))(k:∀b u,b≠e->h.get? b=ac u->h'.get? b=ac u)(Y:∃u,h'.get? e=ac u)
  (new:cG P w (upd H x o') h' x o'):HOk P w (upd H x o') h':=λb u q=>by
 have F:∀c y,H c=ac (.own y)->c≠x:=λc y r z=>by subst z;rw[r]at mu;exact mu
 have V:∀c xs,H c=ac (.tup xs)->c≠x:=λc xs r z=>by subst z;rw[r]at mu;exact mu
 by_cases U:b=x
 .subst U;rw[aQ]at q;cases q;exact new
 .rw[aK U]at q
  by_cases I:b=e
  .have q':H b=ac (.own x):=by
    rcases O with z|z
    .exact absurd (I.trans z) U
    .rw[I];exact z
   rw[q]at q';cases q';obtain⟨v,Z⟩:=Y;exact⟨v,by rw[I];exact Z⟩
  .refine(ok b u q).stay (λc v B r=>k c v ?_ r) (λc r=>by rw[aK (F c b r)];exact r) λc xs r=>by rw[aK (V c xs r)];exact r
   rcases B with rfl|B
   .exact I
   .rintro rfl
    rcases O with z|z
    .exact F c b B z
    .rw[B]at z;cases z;exact U rfl
structure Un(fs ex:List Addr)(H H':Hp)(h h':Heap):Prop where
 keep:∀b o,h.get? b=ac o->H b=af->b∉fs->b∉ex->h'.get? b=ac o
 slot:∀b o,h.get? b=ac o->H b=af->b∈fs->b∉ex->∃sl,h'.get? b=ac {o with slots:=sl}
 free:∀b o,h.get? b=ac o->H b=af->b∉ex->H' b=af
 there:∀b o,h.get? b=ac o->b∉ex->∃o',h'.get? b=ac o'
 tups:∀b xs,H b=ac (.tup xs)->H' b=ac (.tup xs)
 frzs:∀b o u,H b=ac (.frz o u)->H' b=ac (.frz o u)
 tbls:∀b ps,H b=ac (.tbl ps)->∃more,H' b=ac (.tbl (ps++more))
section
variable{fs fs' ex ex':List Addr}{H H1 H2:Hp}{h h1 h2 h':Heap}{a x e:Addr}{o:HO}
theorem Un.any(u:Un fs ex H H1 h h1){b:Addr}{ob:Obj}(q:h.get? b=ac ob)(n:H b=af)(F:b∉ex):∃sl,h1.get? b=ac {ob with slots:=sl}:=by
 by_cases U:b∈fs
 .exact u.slot b ob q n U F
 .exact⟨ob.slots,u.keep b ob q n U F⟩
theorem Un.kept(k:∀b u,h.get? b=ac u->h'.get? b=ac u):Un fs ex H H h h':=
 ⟨λb ob q _ _ _=>k b ob q,λb ob q _ _ _=>⟨ob.slots,k b ob q⟩,λ_ _ _ n _=>n,λb ob q _=>⟨ob,k b ob q⟩,λ_ _ q=>q,λ_ _ _ q=>q,λ_ ps q=>⟨#[],by rw[q];simp⟩⟩
theorem Un.refl:Un fs ex H H h h:=Un.kept λ_ _ q=>q
theorem Un.laid(k:∀b u,h.get? b=ac u->h'.get? b=ac u)(V:h.objs.size<=a)(hn:H a=af):Un fs ex H (upd H a o) h h' where
 keep:=λb u q _ _ _=>k b u q
 slot:=λb u q _ _ _=>⟨u.slots,k b u q⟩
 free:=λb u q n _=>by rw[aK (YZ (YQ (YF q) V))];exact n
 there:=λb u q _=>⟨u,k b u q⟩
 tups:=λb xs q=>by rw[aK (bG q hn)];exact q
 frzs:=λb u xs q=>by rw[aK (bG q hn)];exact q
 tbls:=λb ps q=>⟨#[],by rw[aK (bG q hn),q];simp⟩
theorem Un.write(mu:Mut (H x))(O:e=x∨H e=ac (.own x))(k:∀b u,b≠e->h.get? b=ac u->h'.get? b=ac u)(Y:∃u,h'.get? e=ac u):Un fs ex H (upd H x o) h h':=by
 have F:∀b,H b=af->b≠x:=λb n z=>by subst z;rw[n]at mu;exact mu
 have U:∀b,H b=af->b≠e:=λb n z=>by
  subst z;rcases O with r|r
  .exact F b n r
  .rw[n]at r;cases r
 have V:∀b u,H b=ac u->¬Mut (ac u)->b≠x:=λb u q Z z=>by subst z;rw[q]at mu;exact Z mu
 refine⟨λb u q n _ _=>k b u (U b n) q,λb u q n _ _=>⟨u.slots,k b u (U b n) q⟩,λb u q n _=>by rw[aK (F b n)];exact n,λb u q _=>?_,
  λb xs q=>by rw[aK (V b _ q λz=>z)];exact q,λb u xs q=>by rw[aK (V b _ q λz=>z)];exact q,λb ps q=>⟨#[],by rw[aK (V b _ q λz=>z),q];simp⟩⟩
 by_cases I:b=e
 .subst I;exact Y
 .exact⟨u,k b u I q⟩
end
def trk(h:Heap)(H:Hp):List Addr:=(Zw h.objs.size).filter λa=>(H a).isSome
def A_(h:Heap)(H:Hp):Heap:=PySem.W.hideAll h (trk h H)
theorem Ij(h:Heap)(H:Hp):(A_ h H).objs.size=h.objs.size:=PySem.W.hideAll_size _ _
variable{o:Obj}
theorem J6(e:h.get? b=ac o)(n:H b=af):(A_ h H).get? b=ac o:=
 PySem.W.hideAll_get _ e λV=>by
  have q:(H b).isSome=ag:=(adU.mp V).2;rw[n]at q;simp at q
theorem Q4(e:(A_ h H).get? b=ac o):h.get? b=ac o/\H b=af:=by
 have e':h.get? b=ac o:=PySem.W.of_hideAll (trk h H) e;refine⟨e',?_⟩;cases q:H b with
 |none=>rfl
 |some x=>
  have V:b∈trk h H:=adU.mpr ⟨abl.mpr (YF e'),by simp[q]⟩;have z:(A_ h H).get? b=af:=PySem.W.hideAll_none (trk h H) V;rw[z]at e;cases e
def Ph(g h:Heap)(L:Addr):List (Addr×Obj):=(Zw h.objs.size).filterMap λa=>if a=L∨(g.get? a).isSome=ag then af else(h.get? a).map λo=>(a,o)
def rest(g h:Heap)(L d:Addr):List (Addr×Obj):=(Ph g h L).filter λp=>decide (p.1≠d)
structure Mod(K:PySem.W.Frag)(mg:Str->Option Value)(base:Heap):Prop where
 kin:K.In base
 glob:base.Ns ZQ mg
 blt:∃mb,base.Ns builtinsNs mb/\∀x:Str,x≠"__name__"->mb x=aaD x
 nolimit:base.NoLimit
structure Cx where
 prog:Y7
 w:World
 K:YC
 mg:Str->Option Value
 base:Heap
 A:Zx
 N:List Str
 s₀:Ym
 H₀:Hp
 env:Env
 outer:List Env
 stack:List Env
 ex:List Addr
 fn:Str->Bool
 calm:Bool
 pn:List (Addr×Obj)
 xe:Value->Ym->Prop
def frs(l:List Env):List Addr:=l.filterMap (·.frame)
noncomputable abbrev Cx.fs(X:Cx):List Addr:=frs X.outer
def Vis(z:Scope)(x:Str):Prop:=z.names.lookup x=ac .local∨z.names.lookup x=ac .cell∨z.names.lookup x=ac .free
def Loc(z:Scope)(x:Str):Prop:=z.names.lookup x=ac .local∨z.names.lookup x=ac .cell
def Look(env:Env)(h:Heap)(m:Str->Option Value)(x:Str)(u:Value):Prop:=
 (env.kindOf x=ac .local/\m x=ac u)∨((env.kindOf x=ac .cell∨env.kindOf x=ac .free)/\∃c,env.cells.lookup x=ac c/\h.IsCell c (ac u))
structure Cx.Ok(X:Cx):Prop where
 mod:Mod X.K X.mg X.base
 kind:X.env.scope.kind= .function
 glob:X.env.globals=ZQ
 blt:X.env.builtins=builtinsNs
 above:X.s₀.heap.objs.size<=X.env.locals
 inj:∀x y c,X.env.cells.lookup x=ac c->X.env.cells.lookup y=ac c->x=y
 has:∀x,(X.env.kindOf x=ac .cell∨X.env.kindOf x=ac .free)->∃c,X.env.cells.lookup x=ac c
 cab:∀x c,X.fn x=ag->X.env.cells.lookup x=ac c->X.s₀.heap.objs.size<=c
 hd:X.calm=ag->X.A.handled=af
 frames:X.A.frames=ac X.stack
 stk:X.stack=X.outer∨(X.stack=X.env::X.outer/\X.env.frame=ac X.env.locals)
 exf:∀b∈X.ex,b≠X.env.locals/\∀x c,X.env.cells.lookup x=ac c->c≠b
 bs:∀b o,X.base.get? b=ac o->X.s₀.heap.get? b=ac o/\X.H₀ b=af
 bsz:X.base.objs.size<=X.s₀.heap.objs.size
 noex:∀b o,X.base.get? b=ac o->b∉X.ex
 exfs:∀b∈X.ex,b∉X.fs
 funs:X.s₀.heap.FunFrames X.base X.outer
 frf:∀b∈X.fs,X.H₀ b=af
structure Inv(X:Cx)(pins:List (Addr×Obj))(σ:List (Option V))(H:Hp)(s:Shared):Prop where
 ok:X.Ok
 os:s.os=X.s₀.os
 bare:acG s.gens
 base:Un X.fs X.ex X.H₀ H X.s₀.heap s.heap
 loc:∃m,s.heap.Ns X.env.locals m/\∀(i:Nat)(x:Str)(v:V),X.N[i]? =ac x->σ[i]? =ac (ac v)->Vis X.env.scope x->∃u,RelV v u/\Look X.env s.heap m x u
 cell:∀x c,X.env.cells.lookup x=ac c->∃v,s.heap.IsCell c v
 free:H X.env.locals=af
 freeC:∀x c,X.env.cells.lookup x=ac c->H c=af
 pin:∀p∈X.pn++pins,s.heap.get? p.1=ac p.2/\H p.1=af/\p.1≠X.env.locals/\p.1∉X.fs/\∀v,p.2.data≠.cell v
 hok:HOk X.prog X.w H s.heap
 len:σ.length=X.N.length
variable{X:Cx}
theorem Cx.Ok.nofr(ok:X.Ok)(e:X.base.get? b=ac o):b∉X.fs:=λU=>by
 have:=(ok.funs.mem U).1;rw[e]at this;cases this
variable{σ:List (Option V)}
theorem Inv.bs(I:Inv X pins σ H s):∀b o,X.base.get? b=ac o->s.heap.get? b=ac o/\H b=af:=λb o e=>
 ⟨I.base.keep b o (I.ok.bs b o e).1 (I.ok.bs b o e).2 (I.ok.nofr e) (I.ok.noex b o e),I.base.free b o (I.ok.bs b o e).1 (I.ok.bs b o e).2 (I.ok.noex b o e)⟩
theorem Inv.bk(I:Inv X pins σ H s):∀b o,X.base.get? b=ac o->s.heap.get? b=ac o:=λb o e=>(I.bs b o e).1
theorem Inv.mod(I:Inv X pins σ H s):Mod X.K X.mg X.base:=I.ok.mod
theorem Inv.kIn(I:Inv X pins σ H s):X.K.In s.heap:=I.ok.mod.kin.keeps I.bk
theorem Inv.lt(I:Inv X pins σ H s):X.env.locals<s.heap.objs.size:=let⟨_,hn,_⟩:=I.loc;hn.lt
theorem Inv.sz(I:Inv X pins σ H s):X.s₀.heap.objs.size<=s.heap.objs.size:=ZJ I.ok.above (aa3 I.lt)
theorem Inv.nofs(I:Inv X pins σ H s)(h:s.heap.objs.size<=a):a∉X.fs:=λU=>by
 obtain⟨_,o,q,_⟩:=I.ok.funs.mem U;exact absurd (YQ (YF q) (ZJ I.sz h)) (ZW _)
theorem Inv.cne(I:Inv X pins σ H s):∀x c,X.env.cells.lookup x=ac c->c≠X.env.locals:=λx c e z=>by
 obtain⟨v,o,B,hd⟩:=I.cell x c e;obtain⟨m,⟨o',es,ep,q,F,_⟩,_⟩:=I.loc;rw[z,q]at B;cases B;rw[F]at hd;cases hd
theorem Inv.funs(I:Inv X pins σ H s):s.heap.FunFrames X.base X.outer:=by
 have all:∀(l:List Env),(∀b∈frs l,b∈X.fs)->X.s₀.heap.FunFrames X.base l->s.heap.FunFrames X.base l:=by
  intro l
  induction l with
  |nil=>intro _ _;trivial
  |cons env r V=>
   intro hs F;obtain⟨O,⟨L,o,Y,hn,B,hd⟩,Z⟩:=F;have q:L∈X.fs:=hs L (by unfold frs;rw[abY,Y];exact Zo);obtain⟨sl,e⟩:=I.base.slot L o B (I.ok.frf L q) q λz=>I.ok.exfs L z q;exact⟨O,⟨L,_,Y,hn,e,hd⟩,V (λb U=>hs b (by unfold frs;rw[abY,Y];exact Y8 _ U)) Z⟩
 exact all X.outer (λ_ U=>U) I.ok.funs
theorem Inv.stack(I:Inv X pins σ H s):s.heap.FunFrames X.base X.stack:=by
 rcases I.ok.stk with e|⟨e,Y⟩
 .rw[e];exact I.funs
 .rw[e]
  obtain⟨m,hn,_⟩:=I.loc;refine .cons (by rw[I.ok.kind];decide) Y hn ?_ I.funs;exact Heap.get?_none_of_le (ZJ I.ok.bsz I.ok.above)
theorem Inv.stkSub(I:Inv X pins σ H s):∀b∈frs X.stack,b∈X.env.locals::X.fs:=λb U=>by
 rcases I.ok.stk with e|⟨e,Y⟩
 .rw[e]at U;exact Y8 _ U
 .rw[e]at U
  unfold frs at U;rw[abY,Y]at U;exact U
theorem Inv.stkFree(I:Inv X pins σ H s):∀b∈frs X.stack,H b=af:=λb U=>by
 rcases Yu.mp (I.stkSub b U)with e|U
 .rw[e];exact I.free
 .obtain⟨_,o,ho,_⟩:=I.ok.funs.mem U
  exact I.base.free b o ho (I.ok.frf b U) λz=>I.ok.exfs b z U
theorem Inv.step(I:Inv X pins σ H s)
  (Y:∀b∈ch,(b∈X.ex∨X.s₀.heap.objs.size<=b)/\b≠X.env.locals/\(∀x c,X.env.cells.lookup x=ac c->c≠b)/\∀p∈X.pn++pins,p.1≠b)
  (keep:∀b o,b≠X.env.locals->b∉X.fs->b∉ch->s.heap.get? b=ac o->H b=af->h'.get? b=ac o)
  (slot:∀b o,b≠X.env.locals->b∈X.fs->b∉ch->s.heap.get? b=ac o->H b=af->∃sl,h'.get? b=ac {o with slots:=sl}) (free:∀b o,b∉ch->s.heap.get? b=ac o->H b=af->H' b=af)
  (there:∀b o,b∉ch->s.heap.get? b=ac o->∃o',h'.get? b=ac o')
  (tups:∀b xs,H b=ac (.tup xs)->H' b=ac (.tup xs)) (frzs:∀b o u,H b=ac (.frz o u)->H' b=ac (.frz o u)) (tbls:∀b ps,H b=ac (.tbl ps)->∃more,H' b=ac (.tbl (ps++more)))
  (ns:∀m,s.heap.Ns X.env.locals m->h'.Ns X.env.locals m) (hok:HOk X.prog X.w H' h') (hg:acG g') :
  Inv X pins σ H' {s with heap:=h',gens:=g',drawn:=d',toks:=t'}:=by
 have a3:∀b o,X.s₀.heap.get? b=ac o->b≠X.env.locals:=λb o e=>YZ (YQ (YF e) I.ok.above);have a2:∀b o,X.s₀.heap.get? b=ac o->b∉X.ex->b∉ch:=λb o e F U=>by
  rcases(Y b U).1 with z|z
  .exact F z
  .exact absurd (YQ (YF e) z) (ZW _)
 have a0:∀x c,X.env.cells.lookup x=ac c->∀v,s.heap.IsCell c v->h'.IsCell c v:=λx c e v ⟨o,ho,hd⟩=>by
  have a1:c∉ch:=λz=>(Y c z).2.2.1 x c e rfl;by_cases B:c∈X.fs
  .obtain⟨sl,q⟩:=slot c o (I.cne x c e) B a1 ho (I.freeC x c e)
   exact⟨_,q,hd⟩
  .exact⟨o,keep c o (I.cne x c e) B a1 ho (I.freeC x c e),hd⟩
 refine⟨I.ok,I.os,hg,⟨λb o e n U F=>?_,λb o e n U F=>?_,λb o e n F=>?_,λb o e F=>?_,λb xs e=>tups b xs (I.base.tups b xs e),λb o xs e=>frzs b o xs (I.base.frzs b o xs e),λb ps e=>?_⟩,?_,λx c e=>?_,?_,λx c e=>?_,λp V=>?_,hok,I.len⟩
 .exact keep b o (a3 b o e) U (a2 b o e F) (I.base.keep b o e n U F) (I.base.free b o e n F)
 .obtain⟨sl,e1⟩:=I.base.slot b o e n U F
  obtain⟨a4,e2⟩:=slot b _ (a3 b o e) U (a2 b o e F) e1 (I.base.free b o e n F);exact⟨a4,e2⟩
 .obtain⟨o',e1⟩:=I.base.there b o e F
  exact free b o' (a2 b o e F) e1 (I.base.free b o e n F)
 .obtain⟨o',e1⟩:=I.base.there b o e F
  exact there b o' (a2 b o e F) e1
 .obtain⟨m1,e1⟩:=I.base.tbls b ps e
  obtain⟨O,e2⟩:=tbls b _ e1;exact⟨m1++O,by rw[e2,Array.append_assoc]⟩
 .obtain⟨m,hn,hl⟩:=I.loc
  refine⟨m,ns m hn,λi x v e1 e2 Z=>?_⟩;obtain⟨u,r,l⟩:=hl i x v e1 e2 Z;refine⟨u,r,?_⟩;rcases l with l|⟨k,c,e,z⟩
  .exact .inl l
  .exact .inr ⟨k,c,e,a0 x c e _ z⟩
 .obtain⟨v,z⟩:=I.cell x c e
  exact⟨v,a0 x c e v z⟩
 .obtain⟨m,⟨o,_,_,ho,_⟩,_⟩:=I.loc
  exact free _ o (λz=>(Y _ z).2.1 rfl) ho I.free
 .obtain⟨v,o,ho,hd⟩:=I.cell x c e
  exact free c o (λz=>(Y c z).2.2.1 x c e rfl) ho (I.freeC x c e)
 .obtain⟨e,n,ne,nf,d⟩:=I.pin p V
  have a1:p.1∉ch:=λz=>(Y p.1 z).2.2.2 p V rfl;exact⟨keep p.1 p.2 ne nf a1 e n,free p.1 p.2 a1 e n,ne,nf,d⟩
theorem Inv.un(I:Inv X pins σ H s)(u:Un X.fs [] H H' s.heap h')(hok:HOk X.prog X.w H' h'):Inv X pins σ H' {s with heap:=h',toks:=t'}:=by
 obtain⟨m,⟨o,es,ep,Y,r⟩,_⟩:=id I.loc;obtain⟨sl,O⟩:=u.any Y I.free (by simp);exact I.step (g':=s.gens) (d':=s.drawn) (ch:=[]) (λ_ z=>nomatch z) (λb o _ U _ e n=>u.keep b o e n U (by simp)) (λb o _ U _ e n=>u.slot b o e n U (by simp)) (λb o _ e n=>u.free b o e n (by simp)) (λb o _ e=>u.there b o e (by simp)) u.tups u.frzs u.tbls (λm' V=>by
  obtain⟨o',B,F,q,Z⟩:=V;rw[Y]at q;cases q;exact⟨_,B,F,O,Z⟩) hok I.bare
theorem Inv.call(I:Inv X pins σ H s)(u:Un (frs X.stack) ch H H' s.heap h')(hok:HOk X.prog X.w H' h')(F:acG g')
  (Y:∀b∈ch,(b∈X.ex∨X.s₀.heap.objs.size<=b)/\b≠X.env.locals/\(∀x c,X.env.cells.lookup x=ac c->c≠b)/\∀p∈X.pn++pins,p.1≠b) :
  Inv X pins σ H' {s with heap:=h',gens:=g',drawn:=d',toks:=t'}:=by
 obtain⟨m,⟨o,es,ep,ho,r⟩,_⟩:=id I.loc;obtain⟨sl,O⟩:=u.any ho I.free λz=>(Y _ z).2.1 rfl;exact I.step (ch:=ch) Y (λb o O U B e n=>u.keep b o e n (λz=>(Yu.mp (I.stkSub b z)).elim O U) B) (λb o _ _ B e n=>u.any e n B) (λb o B e n=>u.free b o e n B) (λb o B e=>u.there b o e B) u.tups u.frzs u.tbls (λm' V=>by
  obtain⟨o',a0,a1,q,Z⟩:=V;rw[ho]at q;cases q;exact⟨_,a0,a1,O,Z⟩) hok F
theorem Inv.turned(I:Inv X pins σ H s)(k:∀b o,b≠it->s.heap.get? b=ac o->h'.get? b=ac o)(hn:H it=af)(O:it≠X.env.locals)
  (h1:it∈X.ex∨X.s₀.heap.objs.size<=it) (h2:∀x c,X.env.cells.lookup x=ac c->c≠it) (Y:∀p∈X.pn++pins,p.1≠it):Inv X pins σ H {s with heap:=h',toks:=t'}:=by
 have F:∀b u,H b=ac u->b≠it:=λb u e z=>by rw[z,hn]at e;cases e
 refine I.step (g':=s.gens) (d':=s.drawn) (ch:=[it]) (λb U=>?_) (λb o _ _ B e _=>k b o (λz=>B (by simp[z])) e) (λb o _ _ B e _=>⟨o.slots,k b o (λz=>B (by simp[z])) e⟩) (λ_ _ _ _ n=>n)
  (λb o B e=>⟨o,k b o (λz=>B (by simp[z])) e⟩) (λ_ _ e=>e) (λ_ _ _ e=>e) (λb ps e=>⟨#[],by rw[e];simp⟩) (λm V=>?_) (λb u e=>?_) I.bare
 .have e:b=it:=by simpa using U
  subst e;exact⟨h1,O,h2,Y⟩
 .obtain⟨o,es,ep,ho,r⟩:=V
  exact⟨o,es,ep,k _ o (Zy O) ho,r⟩
 .refine(I.hok b u e).stay (λc v B q=>k c v ?_ q) (λ_ q=>q) λ_ _ q=>q
  rcases B with z|z
  .rw[z];exact F b u e
  .exact F c _ z
theorem Inv.tok(I:Inv X pins σ H s)(t:Nat):Inv X pins σ H {s with toks:=t}:=I.un (h':=s.heap) (t':=t) Un.refl I.hok
theorem Inv.kept(I:Inv X pins σ H s)(k:∀b u,s.heap.get? b=ac u->h'.get? b=ac u):Inv X pins σ H {s with heap:=h',toks:=t'}:=I.un (Un.kept k) (I.hok.kept k)
theorem Inv.laid{o:HO}(I:Inv X pins σ H s)(k:∀b u,s.heap.get? b=ac u->h'.get? b=ac u)(V:s.heap.objs.size<=a)(new:cG X.prog X.w (upd H a o) h' a o) :
 Inv X pins σ (upd H a o) {s with heap:=h',toks:=t'}:=I.un (Un.laid k V (I.hok.fresh V)) (I.hok.laid k V new)
theorem Inv.write{o:HO}(I:Inv X pins σ H s)(mu:Mut (H x))(O:e=x∨H e=ac (.own x))(k:∀b u,b≠e->s.heap.get? b=ac u->h'.get? b=ac u)(Y:∃u,h'.get? e=ac u)
 (new:cG X.prog X.w (upd H x o) h' x o):Inv X pins σ (upd H x o) {s with heap:=h',toks:=t'}:=I.un (Un.write mu O k Y) (I.hok.write mu O k Y new)
theorem Inv.weak{F:List (Option V)}(I:Inv X pins σ H s)(Z:F.length=σ.length)(w:∀(i:Nat) v,F[i]? =ac (ac v)->σ[i]? =ac (ac v)):Inv X pins F H s:=
 ⟨I.ok,I.os,I.bare,I.base,let⟨m,hn,hl'⟩:=I.loc;⟨m,hn,λi x v e1 e2 q=>hl' i x v e1 (w i v e2) q⟩,I.cell,I.free,I.freeC,I.pin,I.hok,Z.trans I.len⟩
theorem Inv.pins_of{q:List (Addr×Obj)}(I:Inv X pins σ H s)(h:∀p∈q,s.heap.get? p.1=ac p.2/\H p.1=af/\p.1≠X.env.locals/\p.1∉X.fs/\∀v,p.2.data≠.cell v):Inv X q σ H s:=
 ⟨I.ok,I.os,I.bare,I.base,I.loc,I.cell,I.free,I.freeC,λp V=>(Yl.mp V).elim (λz=>I.pin p (Yv _ z)) (h p),I.hok,I.len⟩
variable{x:Str}
theorem Dm(z:N.Nodup)(a:N[i]? =ac x)(b:N[j]? =ac x):i=j:=by
 obtain⟨h1,e1⟩:=List.getElem?_eq_some_iff.mp a;obtain⟨h2,e2⟩:=List.getElem?_eq_some_iff.mp b;exact(adC z).mp (e1.trans e2.symm)
variable{M:Model}{A:Zx}{E:Value->Ym->Prop}{Q:Unit->Ym->Prop}
theorem JC{v:V}(I:Inv X pins σ H s)(hN:X.N.Nodup)(hi:X.N[i]? =ac x)(F:Loc X.env.scope x)(r:RelV v u)
  (h:∀s',Inv X pins (σ.set i (ac v)) H s'->(∃a,aaO a s.heap s'.heap/\(a=X.env.locals∨X.env.cells.lookup x=ac a))->Q () s') (hf:X.fn x=ag∨X.env.scope.names.lookup x=ac .local:=by first|exact .inl rfl|exact .inr rfl|assumption):wpAny M A (storeName X.env x u) Q E s:=by
 obtain⟨m,hn,Z⟩:=id I.loc;have a6:(X.env.scope.kind== .class||(X.env.scope.kind== .module&&X.env.locals !=X.env.globals))=ae:=by rw[I.ok.kind];rfl
 have a2:i<σ.length:=by rw[I.len];exact(List.getElem?_eq_some_iff.mp hi).1
 have cne:=I.cne;have a0:∀{a:Addr}{h':Heap},(∃o,s.heap.get? a=ac o/\H a=af)->aaO a s.heap h'->HOk X.prog X.w H h':=λ{a h'} Y hs b ob e=>by
  obtain⟨_,_,a1⟩:=Y;refine(I.hok b ob e).stay (λc w' B q=>(hs.2 c ?_).trans q) (λ_ q=>q) λ_ _ q=>q;rintro rfl;rcases B with rfl|B
  .rw[a1]at e;cases e
  .rw[a1]at B;cases B
 rcases F with O|O
 .refine wpAny_storeName_local O hn (λh' a7 hs=>?_) a6
  obtain⟨oL,_,_,a8,_⟩:=id hn;refine h _ ⟨I.ok,I.os,I.bare,⟨λb o e n U F=>?_,λb o e n U F=>?_,I.base.free,λb o e F=>?_,I.base.tups,I.base.frzs,I.base.tbls⟩,⟨_,a7,λj y v' e1 e2 e3=>?_⟩,λy c e=>?_,I.free,I.freeC,λp hp=>?_,a0 ⟨oL,a8,I.free⟩ hs,by simpa using I.len⟩ ⟨_,hs,.inl rfl⟩
  .exact(hs.2 b (YZ (YQ (YF e) I.ok.above))).trans (I.base.keep b o e n U F)
  .obtain⟨sl,e1⟩:=I.base.slot b o e n U F
   exact⟨sl,(hs.2 b (YZ (YQ (YF e) I.ok.above))).trans e1⟩
  .obtain⟨o',e1⟩:=I.base.there b o e F
   exact⟨o',(hs.2 b (YZ (YQ (YF e) I.ok.above))).trans e1⟩
  .by_cases hj:j=i
   .subst hj
    rw[hi]at e1;cases e1;rw[Z_ a2]at e2;cases e2;exact⟨u,r,.inl ⟨O,by simp⟩⟩
   .rw[List.getElem?_set_ne (Zy hj)]at e2
    obtain⟨u',r',q⟩:=Z j y v' e1 e2 e3;refine⟨u',r',?_⟩;rcases q with⟨k,e⟩|⟨k,c,e,z⟩
    .refine .inl ⟨k,?_⟩
     have:y≠x:=λe=>hj (Dm hN e1 (e▸hi));simp[this,e]
    .exact .inr ⟨k,c,e,z.sameBut hs (cne y c e)⟩
  .obtain⟨w',z⟩:=I.cell y c e
   exact⟨w',z.sameBut hs (cne y c e)⟩
  .obtain⟨e,n,ne,nf,d⟩:=I.pin p hp
   exact⟨(hs.2 p.1 ne).trans e,n,ne,nf,d⟩
 .have hfn:X.fn x=ag:=by
   rcases hf with z|z
   .exact z
   .rw[z]at O;cases O
  obtain⟨c,B⟩:=I.ok.has x (.inl O);obtain⟨w',z⟩:=I.cell x c B;refine wpAny_storeName_cell I.ok.kind O B z (λh' a4 hs=>?_);obtain⟨oc,a3,a5⟩:=id z;refine h {s with heap:=h'} ⟨I.ok,I.os,I.bare,⟨λb o e n U F=>?_,λb o e n U F=>?_,I.base.free,λb o e F=>?_,I.base.tups,I.base.frzs,I.base.tbls⟩,⟨m,hn.sameBut hs (Zy (cne x c B)),λj y v' e1 e2 e3=>?_⟩,λy c' e=>?_,I.free,I.freeC,λp hp=>?_,a0 ⟨oc,a3,I.freeC x c B⟩ hs,by simpa using I.len⟩ ⟨c,hs,.inr B⟩
  .exact(hs.2 b (YZ (YQ (YF e) (I.ok.cab x c hfn B)))).trans (I.base.keep b o e n U F)
  .obtain⟨sl,e1⟩:=I.base.slot b o e n U F
   exact⟨sl,(hs.2 b (YZ (YQ (YF e) (I.ok.cab x c hfn B)))).trans e1⟩
  .obtain⟨o',e1⟩:=I.base.there b o e F
   exact⟨o',(hs.2 b (YZ (YQ (YF e) (I.ok.cab x c hfn B)))).trans e1⟩
  .by_cases hj:j=i
   .subst hj
    rw[hi]at e1;cases e1;rw[Z_ a2]at e2;cases e2;exact⟨u,r,.inr ⟨.inl O,c,B,a4⟩⟩
   .rw[List.getElem?_set_ne (Zy hj)]at e2
    obtain⟨u',r',q⟩:=Z j y v' e1 e2 e3;refine⟨u',r',?_⟩;rcases q with q|⟨k,c',e,z'⟩
    .exact .inl q
    .refine .inr ⟨k,c',e,z'.sameBut hs ?_⟩
     rintro rfl;exact hj (Dm hN e1 (I.ok.inj _ _ _ e B▸hi))
  .by_cases hcc:c'=c
   .subst hcc;exact⟨_,a4⟩
   .obtain⟨w2,z2⟩:=I.cell y c' e
    exact⟨w2,z2.sameBut hs hcc⟩
  .obtain⟨e,n,ne,nf,d⟩:=I.pin p hp
   refine⟨(hs.2 p.1 ?_).trans e,n,ne,nf,d⟩;intro q;rw[q,a3]at e;have q':oc=p.2:=Zr e;exact d w' (by rw[←q'];exact a5)
theorem m9{v:V}(I:Inv X pins σ H s)(z:X.N.Nodup)(hi:X.N[i]? =ac x)(F:Loc X.env.scope x)(r:RelV v u)
  (h:∀s',Inv X pins (σ.set i (ac v)) H s'->Q () s') (Y:X.fn x=ag∨X.env.scope.names.lookup x=ac .local:=by first|exact .inl rfl|exact .inr rfl|assumption):wpAny M A (storeName X.env x u) Q E s:=
 JC I z hi F r (λs' Z _=>h s' Z) Y
theorem Inv.call'(I:Inv X pins σ H s)(q:s'.os=s.os)(u:Un (frs X.stack) ch H H' s.heap s'.heap)(hok:HOk X.prog X.w H' s'.heap)(F:acG s'.gens)
  (Y:∀b∈ch,(b∈X.ex∨X.s₀.heap.objs.size<=b)/\b≠X.env.locals/\(∀x c,X.env.cells.lookup x=ac c->c≠b)/\∀p∈X.pn++pins,p.1≠b):Inv X pins σ H' s':=by
 obtain⟨h',g',d',t',o'⟩:=s';have e:o'=s.os:=q;subst e;exact I.call (g':=g') (t':=t') (d':=d') u hok F Y
abbrev XK:=Value->Option Addr->Hp->Prop
abbrev St:=List (Option V)
abbrev VK:=V->Hp->Prop
abbrev TE:=St->Hp->VK->Prop
abbrev TT:=St->Hp->(Bool->Hp->Prop)->Prop
abbrev TA:=St->Hp->(List V->Hp->Prop)->Prop
structure Ends where
 nx:St->Hp->Prop
 rt:VK
 bk:St->Hp->Prop:=λ_ _=>False
 ct:St->Hp->Prop:=λ_ _=>False
abbrev TS:=Ends->St->Hp->Prop
def EP(X:Cx)(pins:List (Addr×Obj))(σ:St)(Q:VK)(u:Value)(s':Ym):Prop:=∃v H',Inv X pins σ H' s'/\RelV v u/\Q v H'
def TP(X:Cx)(pins:List (Addr×Obj))(σ:St)(Q:Bool->Hp->Prop)(b:Bool)(s':Ym):Prop:=∃H',Inv X pins σ H' s'/\Q b H'
def AP(X:Cx)(pins:List (Addr×Obj))(σ:St)(Q:List V->Hp->Prop)(us:List Value)(s':Ym):Prop:=∃O H',Inv X pins σ H' s'/\Vals O us/\Q O H'
def SP(X:Cx)(pins:List (Addr×Obj))(D:Ends)(f:Flow)(s':Ym):Prop:=
 match f with
 |.next=>∃F H',Inv X pins F H' s'/\D.nx F H'
 |.brk=>∃F H',Inv X pins F H' s'/\D.bk F H'
 |.cont=>∃F H',Inv X pins F H' s'/\D.ct F H'
 |.ret u=>∃v F H',Inv X pins F H' s'/\RelV v u/\D.rt v H'
def PE(X:Cx)(e:Expr)(t:TE):Prop:=
 ∀(pins:List (Addr×Obj))(s:Ym)(σ:St)(H:Hp)(Q:VK),Inv X pins σ H s->t σ H Q->wpAny 1.13 X.A (eval e X.env) (EP X pins σ Q) X.xe s
def PT(X:Cx)(e:Expr)(t:TT):Prop:=
 ∀(pins:List (Addr×Obj))(s:Ym)(σ:St)(H:Hp)(Q:Bool->Hp->Prop),Inv X pins σ H s->t σ H Q->wpAny 1.13 X.A (ad_ e X.env (eval e X.env)) (TP X pins σ Q) X.xe s
def PW(X:Cx)(e:Expr)(t:TT):Prop:=
 ∀(F:Sem Value)(pins:List (Addr×Obj))(s:Ym)(σ:St)(H:Hp)(Q:Bool->Hp->Prop),Inv X pins σ H s->t σ H Q->wpAny 1.13 X.A (ad_ e X.env F) (TP X pins σ Q) X.xe s
variable{e:Expr}
theorem PW.pt{t:TT}(h:PW X e t):PT X e t:=h _
def PA(X:Cx)(es:List Expr)(t:TA):Prop:=
 ∀(pos:Pos)(pins:List (Addr×Obj))(s:Ym)(σ:St)(H:Hp)(Q:List V->Hp->Prop),Inv X pins σ H s->t σ H Q->wpAny 1.13 X.A (spliced (Z4 pos (YD es X.env))) (AP X pins σ Q) X.xe s
def PS(X:Cx)(st:Stmt)(t:TS):Prop:=
 ∀(pins:List (Addr×Obj))(s:Ym)(σ:St)(H:Hp)(D:Ends),Inv X pins σ H s->t D σ H->wpAny 1.13 X.A (exec st X.env) (SP X pins D) X.xe s
def PSs(X:Cx)(st:List Stmt)(t:TS):Prop:=
 ∀(pins:List (Addr×Obj))(s:Ym)(σ:St)(H:Hp)(D:Ends),Inv X pins σ H s->t D σ H->wpAny 1.13 X.A (execs st X.env) (SP X pins D) X.xe s
theorem thn{t:Sem α}{Q V:α->Ym->Prop}{s:Ym}(h:wpAny M A t Q E s)(I:∀a s,Q a s->V a s):wpAny M A t V E s:=Z9 h I λ_ _ x=>x
section
variable{X:Cx}
def Ab(i:Nat):TE:=λσ H Q=>∃v,σ[i]? =ac (ac v)/\Q v H
def tC(v:V):TE:=λ_ H Q=>Q v H
theorem rH{i:Nat}{x:Str}{pos:Pos}(z:X.N[i]? =ac x)(U:Vis X.env.scope x)(hd:1.21=ae:=by decide)(F:(x==("__classdict__":Str))=ae:=by decide):PE X (.Name x pos) (Ab i):=by
 intro pins s σ H Q I h;obtain⟨v,e,h⟩:=h;obtain⟨m,hn,Z⟩:=I.loc;obtain⟨u,r,l⟩:=Z i x v z e U;have fin:EP X pins σ Q u s:=⟨v,H,I,r,h⟩;rcases l with⟨O,V⟩|⟨O,c,B,q⟩
 .exact wpAny_Name (wpAny_loadName_local I.ok.kind O hn V fin) hd
 .rcases O with O|O
  .exact wpAny_Name (wpAny_loadName_cell I.ok.kind O B q fin) hd
  .exact wpAny_Name (wpAny_loadName_free I.ok.kind O B q fin F) hd
theorem J7{i j pos}:PE X (.Constant (.int i) j pos) (tC (.int i)):=λ_ _ _ H _ I h=>wpAny_Constant_int ⟨.int i,H,I.tok _,⟨_,rfl⟩,h⟩
theorem Wh{b j pos}:PE X (.Constant (.bool b) j pos) (tC (.bl b)):=λ_ _ _ H _ I h=>Constant_bool ⟨.bl b,H,I,rfl,h⟩
theorem Vx{j pos}:PE X (.Constant .none j pos) (tC .non):=λ_ _ _ H _ I h=>Constant_none ⟨.non,H,I,rfl,h⟩
theorem FZ{x j pos}:PE X (.Constant (.str x) j pos) (tC (.str x)):=λ_ _ _ H _ I h=>Calls.Constant_str ⟨.str x,H,I.tok _,⟨_,rfl⟩,h⟩
def Gl(X:Cx)(x:Str):Prop:=X.env.kindOf x=ac .globalImplicit
theorem Ha{E:Value->Ym->Prop}{pins:List (Addr×Obj)}{s:Ym}{σ:St}{H:Hp}{x:Str}{u:Value}{pos:Pos}{Q:Value->Ym->Prop}(I:Inv X pins σ H s)(F:Gl X x)(V:X.mg x=ac u)(h:Q u s)
  (hd:1.21=ae:=by decide):wpAny 1.13 X.A (eval (.Name x pos) X.env) Q E s:=
 ade I.ok.kind F (Calls.loadGlobal_global (by rw[I.ok.glob];exact I.mod.glob.keeps I.bk) V h) hd
theorem lC{E:Value->Ym->Prop}{pins:List (Addr×Obj)}{s:Ym}{σ:St}{H:Hp}{x:Str}{u:Value}{pos:Pos}{Q:Value->Ym->Prop}(I:Inv X pins σ H s)(F:Gl X x)(V:X.mg x=af)(B:aaD x=ac u)(h:Q u s)
  (hn:x≠"__name__":=by decide) (hd:1.21=ae:=by decide):wpAny 1.13 X.A (eval (.Name x pos) X.env) Q E s:=by
 obtain⟨q,h1,h2⟩:=I.mod.blt;exact ade I.ok.kind F (Calls.loadGlobal_builtin (by rw[I.ok.glob];exact I.mod.glob.keeps I.bk) V (by rw[I.ok.blt];exact h1.keeps I.bk) ((h2 x hn).trans B) h) hd
theorem Hr{x:Str}{v:V}{u:Value}{pos:Pos}(F:Gl X x)(q:X.mg x=ac u)(r:RelV v u)(hd:1.21=ae:=by decide):PE X (.Name x pos) (tC v):=
 λ_ _ _ H _ I h=>Ha I F q ⟨v,H,I,r,h⟩ hd
theorem Q_{x:Str}{v:V}{u:Value}{pos:Pos}(F:Gl X x)(q:X.mg x=af)(B:aaD x=ac u)(r:RelV v u)(hn:x≠"__name__":=by decide)(hd:1.21=ae:=by decide):PE X (.Name x pos) (tC v):=
 λ_ _ _ H _ I h=>lC I F q B ⟨v,H,I,r,h⟩ hn hd
variable{a b:Expr}{ta tb:TE}{pos:Pos}
variable{tA tB':TT}{rest:List Expr}
def Xb(t u:TT):TT:=λσ H Q=>t σ H λc H1=>if c=ag then u σ H1 Q else Q ae H1
def tOr(t u:TT):TT:=λσ H Q=>t σ H λc H1=>if c=ag then Q ag H1 else u σ H1 Q
def Wr(t:TT):TT:=λσ H Q=>t σ H λc H1=>Q (!c) H1
theorem Rj(Y:PT X a tA):PW X (.BoolOp .And [a] pos) tA:=by
 intro q pins s σ H Q I h;refine isTrue_and (thn (Y pins s σ H Q I h) λc Z e=>?_);cases c with
 |true=>exact isTrue_and_nil e
 |false=>exact e
theorem S9(Y:PT X a tA):PW X (.BoolOp .Or [a] pos) tA:=by
 intro q pins s σ H Q I h;refine isTrue_or (thn (Y pins s σ H Q I h) λc Z e=>?_);cases c with
 |false=>exact isTrue_or_nil e
 |true=>exact e
theorem Ub(Y:PT X a tA)(U:PW X (.BoolOp .And (b::rest) pos) tB'):PW X (.BoolOp .And (a::b::rest) pos) (Xb tA tB'):=by
 intro q pins s σ H Q I h;refine isTrue_and (thn (Y pins s σ H _ I h) λc Z ⟨H1,B,q1⟩=>?_);cases c with
 |true=>exact U q pins Z σ H1 Q B q1
 |false=>exact⟨H1,B,q1⟩
theorem V6(Y:PT X a tA)(U:PW X (.BoolOp .Or (b::rest) pos) tB'):PW X (.BoolOp .Or (a::b::rest) pos) (tOr tA tB'):=by
 intro q pins s σ H Q I h;refine isTrue_or (thn (Y pins s σ H _ I h) λc Z ⟨H1,B,q1⟩=>?_);cases c with
 |true=>exact⟨H1,B,q1⟩
 |false=>exact U q pins Z σ H1 Q B q1
theorem Ss(Y:PT X a tA):PT X (.UnaryOp .Not a pos) (Wr tA):=by
 intro pins s σ H Q I h;exact isTrue_not (Y pins s σ H (λc H1=>Q (!c) H1) I h)
def RV(ta tb:TE):TE:=λσ H Q=>ta σ H λx H1=>∃c,x= .bl c/\if c=ag then tb σ H1 Q else Q (.bl ae) H1
def Rw(ta:TE):TE:=λσ H Q=>ta σ H λx H1=>∃c,x= .bl c/\Q (.bl (!c)) H1
theorem Uq{op}{t:TE}(h:PE X a t):PE X (.BoolOp op [a] pos) t:=λpins s σ H Q I O=>BoolOp_one (h pins s σ H Q I O)
theorem R_(Y:PE X a ta)(U:PE X (.BoolOp .And (b::rest) pos) tb):PE X (.BoolOp .And (a::b::rest) pos) (RV ta tb):=by
 intro pins s σ H Q I h;refine BoolOp_and (thn (Y pins s σ H _ I h) λv Z ⟨x,H1,B,z,q1⟩=>?_);obtain⟨c,rfl,q1⟩:=q1;cases z;refine abF ?_;cases c with
 |true=>exact U pins Z σ H1 Q B q1
 |false=>exact⟨.bl ae,H1,B,rfl,q1⟩
theorem Tc(Y:PE X a ta):PE X (.UnaryOp .Not a pos) (Rw ta):=by
 intro pins s σ H Q I h;refine UnaryOp_ (thn (Y pins s σ H _ I h) λv Z ⟨x,H1,B,z,q1⟩=>?_);obtain⟨c,rfl,q1⟩:=q1;cases z;exact not_of (abF ⟨.bl (!c),H1,B,rfl,q1⟩)
end
def SqL(K:YC)(H:Hp)(a:Addr)(xs:List V):Prop:=
 Rd H a (.lst xs)∨
  ∃(o:Obj)(its:Array Value)(n:Nat),K.lookup a=ac o/\o.cls= .type "list"/\o.dict=af/\o.data= .seq its n/\its.size<=Yx/\Vals xs its.toList
def SqT(K:YC)(H:Hp)(a:Addr)(xs:List V):Prop:=
 Rd H a (.tup xs)∨
  ∃(o:Obj)(its:Array Value)(n:Nat),K.lookup a=ac o/\o.cls= .type "tuple"/\o.data= .seq its n/\its.size<=Yx/\Vals xs its.toList
def X6:Value->Option V
 |.none=>ac .non
 |.bool b=>ac (.bl b)
 |.int i _=>ac (.int i)
 |.str x _=>ac (.str x)
 |.bytes b _=>ac (.byt b)
 |.float b _=>ac (.flt b)
 |.ref a=>ac (.ref a)
 |.type n=>ac (.ty n)
 |_=>af
theorem RelV.abs{x:V}(r:RelV x u):X6 u=ac x:=by
 cases x with
 |non=>cases r;rfl
 |bl _=>cases r;rfl
 |int _=>obtain⟨t,rfl⟩:=r;rfl
 |str _=>obtain⟨t,rfl⟩:=r;rfl
 |byt _=>obtain⟨t,rfl⟩:=r;rfl
 |flt _=>obtain⟨t,rfl⟩:=r;rfl
 |ref _=>cases r;rfl
 |ty _=>cases r;rfl
theorem RelV.inj{x y:V}(r:RelV x u)(q:RelV y u):x=y:=Zr (r.abs.symm.trans q.abs)
theorem Vals.inj:∀{xs ys:List V}{us:List Value},Vals xs us->Vals ys us->xs=ys
 |_,_,_,.nil,.nil=>rfl
 |_,_,_,.cons r t,.cons r' t'=>by rw[r.inj r',Vals.inj t t']
theorem SqL.of{K:YC}(h:H a=ac (.lst xs)):SqL K H a xs:=.inl (.inl h)
theorem SqT.of{K:YC}(h:H a=ac (.tup xs)):SqT K H a xs:=.inl (.inl h)
variable{σ:St}
theorem Inv.list(I:Inv X pins σ H s)(h:SqL X.K H a xs):∃its:List Value,Vals xs its/\PlainL s.heap a its.toArray/\xs.length<=Yx:=by
 rcases h with h|⟨o,its,n,O,B,hd,hs,hz,r⟩
 .obtain⟨z,its,n,r,e⟩:=h.ok I.hok
  exact⟨its,r,⟨_,n,e,rfl,rfl,rfl⟩,z⟩
 .refine⟨its.toList,r,⟨o,n,I.kIn a o O,B,hd,by simpa using hs⟩,?_⟩
  have e:=r.length;simp![Z0]at e;omega
theorem Inv.tuple(I:Inv X pins σ H s)(h:SqT X.K H a xs):∃its:List Value,Vals xs its/\IsTup s.heap a its.toArray/\xs.length<=Yx:=by
 rcases h with h|⟨o,its,n,O,B,hs,hz,r⟩
 .obtain⟨z,its,r,p⟩:=h.ok I.hok
  exact⟨its,r,p.t,z⟩
 .refine⟨its.toList,r,⟨o,I.kIn a o O,B,n,by simpa using hs⟩,?_⟩
  have e:=r.length;simp![Z0]at e;omega
variable{ys:List V}
theorem Inv.list_inj(I:Inv X pins σ H s)(h:SqL X.K H a xs)(h':SqL X.K H a ys):xs=ys:=by
 obtain⟨its,r,⟨o,n,e,_,_,d⟩,_⟩:=I.list h;obtain⟨its',Z,⟨o',B,e',_,_,d'⟩,_⟩:=I.list h';rw[e]at e';cases e';rw[d]at d';injection d' with d1 _;have:its=its':=by simpa using congrArg Array.toList d1
 subst this;exact r.inj Z
theorem Inv.tuple_inj(I:Inv X pins σ H s)(h:SqT X.K H a xs)(h':SqT X.K H a ys):xs=ys:=by
 obtain⟨its,r,⟨o,e,_,n,d⟩,_⟩:=I.tuple h;obtain⟨its',Z,⟨o',e',_,B,d'⟩,_⟩:=I.tuple h';rw[e]at e';cases e';rw[d]at d';injection d' with d1 _;have:its=its':=by simpa using congrArg Array.toList d1
 subst this;exact r.inj Z
abbrev Cx.wish(X:Cx)(E:Value->Ym->Prop):Cx:={X with xe:=E}
abbrev Cx.nox(X:Cx):Cx:=X.wish λ_ _=>False
theorem Cx.Ok.wish(ok:X.Ok)(E:Value->Ym->Prop):(X.wish E).Ok:=
 ⟨ok.mod,ok.kind,ok.glob,ok.blt,ok.above,ok.inj,ok.has,ok.cab,ok.hd,ok.frames,ok.stk,ok.exf,ok.bs,ok.bsz,ok.noex,ok.exfs,ok.funs,ok.frf⟩
theorem Cx.Ok.unwish(ok:(X.wish E).Ok):X.Ok:=
 ⟨ok.mod,ok.kind,ok.glob,ok.blt,ok.above,ok.inj,ok.has,ok.cab,ok.hd,ok.frames,ok.stk,ok.exf,ok.bs,ok.bsz,ok.noex,ok.exfs,ok.funs,ok.frf⟩
theorem Inv.wish(I:Inv X pins σ H s)(E:Value->Ym->Prop):Inv (X.wish E) pins σ H s:=⟨I.ok.wish E,I.os,I.bare,I.base,I.loc,I.cell,I.free,I.freeC,I.pin,I.hok,I.len⟩
variable{E:Value->Shared->Prop}
theorem Inv.unwish(I:Inv (X.wish E) pins σ H s):Inv X pins σ H s:=⟨I.ok.unwish,I.os,I.bare,I.base,I.loc,I.cell,I.free,I.freeC,I.pin,I.hok,I.len⟩
theorem SP.unwish{D:Ends}{f:Flow}(h:SP (X.wish E) pins D f s'):SP X pins D f s':=by
 cases f with
 |next=>obtain⟨F,H',I,q⟩:=h;exact⟨F,H',I.unwish,q⟩
 |brk=>obtain⟨F,H',I,q⟩:=h;exact⟨F,H',I.unwish,q⟩
 |cont=>obtain⟨F,H',I,q⟩:=h;exact⟨F,H',I.unwish,q⟩
 |ret u=>obtain⟨v,F,H',I,r,q⟩:=h;exact⟨v,F,H',I.unwish,r,q⟩
theorem PSs.nox{st:List Stmt}{t:TS}(h:PSs X.nox st t):PSs X st t:=λpins s σ H D I O=>
 Z9 (h pins s σ H D (I.wish _) O) (λ_ _ q=>q.unwish) λ_ _ z=>abg z
section
variable{X:Cx}{st:Stmt}{rest:List Stmt}{t u:TS}{e:Expr}{te:TE}{pos:Pos}
def RP:TS:=λD σ H=>D.nx σ H
def Qe(t u:TS):TS:=λD σ H=>t {D with nx:=u D} σ H
theorem Rk:PSs X [] RP:=λ_ _ σ H _ I h=>acM ⟨σ,H,I,h⟩
theorem Lf(h1:PS X st t)(h2:PSs X rest u):PSs X (st::rest) (Qe t u):=by
 intro pins s σ H D I h;refine wpAny_execs_cons (thn (h1 pins s σ H {D with nx:=u D} I h) λf Z q=>?_);cases f with
 |next=>
  obtain⟨F,H',z,q⟩:=q;exact h2 pins Z F H' D z q
 |ret v=>exact q
 |brk=>exact q
 |cont=>exact q
theorem O8(h1:PS X st t):PSs X [st] t:=by
 intro pins s σ H D I h;refine wpAny_execs_cons (thn (h1 pins s σ H D I h) λf Z q=>?_);cases f with
 |next=>exact acM q
 |ret v=>exact q
 |brk=>exact q
 |cont=>exact q
theorem Inv.quiet{pins:List (Addr×Obj)}{σ:St}{H:Hp}{s:Ym}(I:Inv X pins σ H s):interactive X.env=ae:=by simp[interactive,I.ok.kind]
def Ni(te:TE):TS:=λD σ H=>te σ H λ_ H1=>D.nx σ H1
theorem HS(O:PE X e te)(hs:abk e af pos.line X.env=pure ae:=by rfl):PS X (.Expr e pos) (Ni te):=by
 intro pins s σ H D I h;exact wpAny_Expr_any (thn (O pins s σ H _ I h) λv Z ⟨x,H1,B,z,q1⟩=>⟨σ,H1,B,q1⟩) I.quiet hs
def Qp(te:TE):TS:=λD σ H=>te σ H D.rt
theorem zT(O:PE X e te):PS X (.Return (ac e) pos) (Qp te):=by
 intro pins s σ H D I h;exact wpAny_Return_some (thn (O pins s σ H _ I h) λv Z ⟨x,H1,B,z,q1⟩=>⟨x,σ,H1,B,z,q1⟩)
def WN(c:TT)(t u:TS):TS:=λD σ H=>c σ H λb H1=>if b=ag then t D σ H1 else u D σ H1
theorem RX{c:Expr}{a b:List Stmt}{tc:TT}(B:PT X c tc)(Y:PSs X a t)(U:PSs X b u):PS X (.If c a b pos) (WN tc t u):=by
 intro pins s σ H D I h;refine wpAny_If (thn (B pins s σ H _ I h) λd Z ⟨H1,q,q1⟩=>?_);cases d with
 |true=>exact Y pins Z σ H1 D q q1
 |false=>exact U pins Z σ H1 D q q1
end
abbrev TG:=V->St->Hp->(St->Hp->Prop)->Prop
abbrev TGs:=List V->St->Hp->(St->Hp->Prop)->Prop
def PG(X:Cx)(target:Expr)(t:TG):Prop:=
 ∀(pins:List (Addr×Obj))(s:Ym)(σ:St)(H:Hp)(v:V)(u:Value)(Q:St->Hp->Prop),Inv X pins σ H s->RelV v u->t v σ H Q->
  wpAny 1.13 X.A (ab5 target X.env u) (λ_ s'=>∃F H',Inv X pins F H' s'/\Q F H') X.xe s
def PGs(X:Cx)(z:List Expr)(t:TGs):Prop:=
 ∀(pins:List (Addr×Obj))(s:Ym)(σ:St)(H:Hp)(O:List V)(us:List Value)(Q:St->Hp->Prop),Inv X pins σ H s->Vals O us->t O σ H Q->
  wpAny 1.13 X.A (aez ((Z1 z X.env).map (·.2)) us) (λ_ s'=>∃F H',Inv X pins F H' s'/\Q F H') X.xe s
abbrev Im:=V->V->V->Hp->(Hp->Prop)->Prop
def Qk(X:Cx)(t:Im):Prop:=
 ∀(pins:List (Addr×Obj))(s:Ym)(σ:St)(H:Hp)(o i v:V)(O B u:Value)(Q:Hp->Prop),Inv X pins σ H s->RelV o O->RelV i B->RelV v u->t o i v H Q->
  wpAny 1.13 X.A (setItem O B u) (λ_ s'=>∃H',Inv X pins σ H' s'/\Q H') X.xe s
def sH(i:Nat):TG:=λv σ H Q=>Q (σ.set i (ac v)) H
theorem ur(z:X.N.Nodup)(hi:X.N[i]? =ac x)(F:Loc X.env.scope x)(Y:X.fn x=ag∨X.env.scope.names.lookup x=ac .local:=by first|exact .inl rfl|exact .inr rfl|assumption):PG X (.Name x pos) (sH i):=by
 intro pins s σ H v u Q I r h;exact wpAny_assign_Name (m9 I z hi F r (λs' Z=>⟨_,H,Z,h⟩) Y)
def QR:TGs:=λO σ H Q=>O=[]/\Q σ H
def Lb(t:TG)(u:TGs):TGs:=λO σ H Q=>∃v r,O=v::r/\t v σ H λF H'=>u r F H' Q
theorem Hk:PGs X [] QR:=by
 intro pins s σ H O us Q I r h;obtain⟨e,h⟩:=h;subst e;cases r;exact assignInOrder_nil ⟨σ,H,I,h⟩
theorem Dk{t:TG}{u:TGs}(h1:PG X e t)(h2:PGs X es u)
  (hs:(Z1 (e::es) X.env).map (·.2)=ab5 e X.env::(Z1 es X.env).map (·.2):=by rfl):PGs X (e::es) (Lb t u):=by
 intro pins s σ H O us Q I r h;obtain⟨v,z,e1,h⟩:=h;subst e1;cases r with
 |cons r q=>
  rw[hs];refine ac4 (thn (h1 pins s σ H _ _ _ I r h) λ_ Z ⟨U,H1,B,q1⟩=>?_);exact h2 pins Z U H1 _ _ Q B q q1
def SX(K:YC)(n:Nat)(t:TGs):TG:=λv σ H Q=>∃a xs,v= .ref a/\SqT K H a xs/\xs.length=n/\t xs σ H Q
variable{k:Nat}
theorem KR{t:TGs}(B:X.calm=ag)(h:PGs X es t)
  (hn:(Z1 es X.env).length=n:=by rfl) (Y:(Z1 es X.env).findIdx? (·.1)=af:=by rfl):PG X (.Tuple es k pos) (SX X.K n t):=by
 intro pins s σ H v u Q I r O;obtain⟨a,xs,e1,U,Z,O⟩:=O;subst e1;cases r;obtain⟨its,q,V,hz⟩:=I.tuple U;refine assign_Tuple_tuple (I.ok.hd B) V (by simp[hn,←Z,q.length]) Y λh' F=>?_;have z:Inv X pins σ H {s with heap:=h'}:=I.kept (t':=s.toks) λb o e=>F b o (YZ (YF e)) e;exact h pins _ σ H xs _ Q z (by simpa using q) O
def jf(to q:TE)(t:Im):TG:=λv σ H Q=>to σ H λo H1=>q σ H1 λi H2=>t o i v H2 λY=>Q σ Y
theorem Vn{o i:Expr}{to ti:TE}{t:Im}(ho:PE X o to)(hi:PE X i ti)(hs:Qk X t)
  (Y:∀v,ab5 (.Subscript o i pos) X.env v=(do
   let ov ←ach [v] (eval o X.env)
   let iv ←ach [v,ov] (eval i X.env)
   standAt pos
   ach [v,ov,iv] (setItem ov iv v)
   release [v,ov,iv] []):=by intro _;rfl):PG X (.Subscript o i pos) (jf to ti t):=by
 intro pins s σ H v u Q I r h;rw[Y];refine W2 (aas (thn (ho pins s σ H _ I h) λov Z ⟨x,H1,B,z,q1⟩=>?_));refine W2 (aas (thn (hi pins Z σ H1 _ B q1) λiv O ⟨y,H2,V,q,q2⟩=>?_));refine W2 (abv (W2 (aas (thn (hs pins O σ H2 x y v ov iv u _ V z q r q2) λ_ s3 ⟨H3,U,F⟩=>?_))));exact wpAny_release ⟨σ,H3,U,F⟩
def Kz(te:TE)(g:TG):TS:=λD σ H=>te σ H λx H1=>g x σ H1 D.nx
variable{te:TE}{g:TG}
theorem Ou(O:PE X e te)(F:PG X tg g)(hs:abw [tg] e pos.line X.env=pure ae:=by rfl)(U:acz [tg] e X.env=pure af:=by rfl)
  (h1:(Z1 [tg] X.env).map (·.2)=[ab5 tg X.env]:=by rfl):PS X (.Assign [tg] e pos) (Kz te g):=by
 intro pins s σ H D I h;refine wpAny_Assign_stores (thn (O pins s σ H _ I h) λv Z ⟨x,H1,B,z,q1⟩=>?_) hs U;rw[h1];exact thn (F pins Z σ H1 x v _ B z q1) λ_ V q=>q
theorem NT(q:X.N.Nodup)(hi:X.N[i]? =ac x)(F:Loc X.env.scope x)(O:PE X e te)(hs:abk e (ac (.Name x pos')) pos.line X.env=pure ae:=by rfl)(Y:X.fn x=ag∨X.env.scope.names.lookup x=ac .local:=by first|exact .inl rfl|exact .inr rfl|assumption) :
  PS X (.Assign [.Name x pos'] e pos) (Kz te (sH i)):=by
 intro pins s σ H D I h;refine wpAny_Assign_Name (thn (O pins s σ H _ I h) λv Z ⟨y,H1,B,z,q1⟩=>?_) hs;exact m9 B q hi F z (λU V=>⟨_,H1,V,q1⟩) Y
def VJ(i j:Nat)(ta:TA):TS:=λD σ H=>ta σ H λO H1=>∃v w,O=[v,w]/\D.nx ((σ.set i (ac v)).set j (ac w)) H1
variable{a:Expr}{ta:TA}
theorem Ux{b:Expr}{px py pt:Pos}{kt k2 pt2}(B:X.calm=ag)(hN:X.N.Nodup)(hi:X.N[i]? =ac x)(V:X.N[j]? =ac y)(a0:i≠j)
  (F:X.env.scope.names.lookup x=ac .local) (hy:X.env.scope.names.lookup y=ac .local) (Y:PA X [a,b] ta)
  (hw:acz [.Tuple [.Name x px,.Name y py] kt pt] (.Tuple [a,b] k2 pt2) X.env=pure (ac [x,y]))
  (hs:abw [.Tuple [.Name x px,.Name y py] kt pt] (.Tuple [a,b] k2 pt2) pos.line X.env=pure ae:=by rfl) :
  PS X (.Assign [.Tuple [.Name x px,.Name y py] kt pt] (.Tuple [a,b] k2 pt2) pos) (VJ i j ta):=by
 intro pins s σ H D I h;rw[adV];refine W2 (abv ?_);rw[hs];refine W2 (Yq ?_);rw[Y4 (by decide)];refine W2 (Tuple_ (thn (Y _ pins s σ H _ I h) λus Z ⟨O,H1,I1,z,q1⟩=>?_));obtain⟨v,w,e1,q1⟩:=q1;subst e1;obtain⟨u1,u2,rfl,U,a2⟩:∃u1 u2,us=[u1,u2]/\RelV v u1/\RelV w u2:=by
  cases z with
  |cons p q=>
   cases q with
   |cons p' q'=>
    cases q';exact⟨_,_,rfl,p,p'⟩
 refine aac ?_ (by show 2<=Yx;decide);have I2:Inv X pins σ H1 {Z with heap:=Z.heap.push {cls:=.type "tuple",data:=.seq [u1,u2].toArray}}:=I1.kept (t':=Z.toks) λb o e=>Yp _ e;rw[hw];refine W2 (Yq ?_);show wpAny 1.13 X.A (do rule "assign.swapped-stores";let items ←unpackItems (.ref Z.heap.objs.size) 2 af;aez [λv=>bindName X.env y v,λv=>bindName X.env x v] items.reverse;pure afD) _ _ _;refine W2 (abx (W2 (unpackItems_tuple (items:=#[u1,u2]) (I.ok.hd B) (IsTup.new Z.heap _) λh' a1=>?_)));have I3:=I2.kept (h':=h') (t':=Z.toks) λb o e=>a1 b o (YZ (YF e)) e;show wpAny _ _ (aez [λv=>bindName X.env y v,λv=>bindName X.env x v] [u2,u1] >>=λ_=>pure afD) _ _ _;refine W2 (ac4 (wpAny_bindName (m9 I3 hN V (.inl hy) a2 (λs2 I4=>?_) (.inr hy))));refine ac4 (wpAny_bindName (m9 I4 hN hi (.inl F) U (λs3 I5=>assignInOrder_nil (Yq ?_)) (.inr F)));rw[List.set_comm _ _ (Zy a0)]at I5;exact⟨_,H1,I5,q1⟩
def KQ(c:TT)(tb:TS):TS:=λD σ H=>∃W:Nat->St->Hp->Prop,(∃m,W m σ H)/\∀m σ H,W m σ H->
 c σ H λb H1=>if b=ag then ∃N:St->Hp->Prop,(∀F H',N F H'->∃m',m'<m/\W m' F H')/\tb {D with nx:=N,ct:=N,bk:=D.nx} σ H1 else D.nx σ H1
variable{tb:TS}
theorem Nt{tc:TT}(V:acH 1.13 X.A X.env X.xe)(B:PT X c tc)(U:PSs X body tb):PS X (.While c body [] pos) (KQ tc tb):=by
 intro pins s σ H D I h;obtain⟨W,⟨m0,w0⟩,a1⟩:=h;refine wpAny_While (codeAny_whileLoop (λn s'=>∃F H',Inv X pins F H' s'/\W n F H') ?_ m0 ⟨σ,H,I,w0⟩);rintro n Z ⟨a0,H1,I1,w1⟩;refine aa7 V (thn (B pins Z a0 H1 _ I1 (a1 n a0 H1 w1)) λb O ⟨H2,I2,q2⟩=>?_);cases b with
 |true=>
  obtain⟨N,hN,q2⟩:=q2;rw[YH rfl];refine aa7 V (thn (U pins O a0 H2 _ I2 q2) λf z q3=>?_);cases f with
  |next=>
   obtain⟨q,Y,I3,n3⟩:=q3;obtain⟨m',hm,w3⟩:=hN q Y n3;exact⟨m',hm,q,Y,I3,w3⟩
  |cont=>
   obtain⟨q,Y,I3,n3⟩:=q3;obtain⟨m',hm,w3⟩:=hN q Y n3;exact⟨m',hm,q,Y,I3,w3⟩
  |brk=>exact q3
  |ret v=>exact q3
 |false=>
  rw[Y4 Zi];exact acM ⟨a0,H2,I2,q2⟩
structure It where
 go:Nat->Hp->Prop
 yld:Nat->Hp->V->Hp->Prop
 stop:Nat->Hp->Prop
def lB(X:Cx)(pins:List (Addr×Obj))(H:Hp)(b:Addr):Prop:=
 H b=af/\b≠X.env.locals/\b∉X.fs/\(b∈X.ex∨X.s₀.heap.objs.size<=b)/\(∀x c,X.env.cells.lookup x=ac c->c≠b)/\∀p∈X.pn++pins,p.1≠b
variable{s:Ym}
theorem Inv.fpOk(I:Inv X pins σ H s)(U:s.heap.objs.size<=b)(hn:H' b=af):lB X pins H' b:=by
 refine⟨hn,aaE (YQ I.lt U),I.nofs U,.inr (ZJ I.sz U),λx c e z=>?_,λp V z=>?_⟩
 .obtain⟨v,q⟩:=I.cell x c e
  exact absurd (YQ q.lt (by rw[z];exact U)) (ZW _)
 .exact absurd (YQ (YF (I.pin p V).1) (by rw[z];exact U)) (ZW _)
structure Turn(P:Program)(w:World)(K:PySem.W.Frag)(tg:Expr)(J:It)(fp:List Addr)(it:Addr)(tn:Nat->Heap->Prop):Prop where
 mem:it∈fp
 obj:∀i h,tn i h->∀b∈fp,∃o,h.get? b=ac o/\∀v,o.data≠.cell v
 keep:∀i h h',tn i h->(∀b∈fp,∀o,h.get? b=ac o->h'.get? b=ac o)->tn i h'
 item:∀(X:Cx),X.prog=P->X.w=w->X.K=K->X.calm=ag->∀(i:Nat)(pins:List (Addr×Obj))(s:Ym)(σ:St)(H:Hp)(E:Value->Ym->Prop),Inv X pins σ H s->(∀b∈fp,lB X pins H b)->tn i s.heap->J.go i H->
  wpAny (model P w) X.A (ab6 (.ref it)) (λr s1=>∃u,r=ac u/\
   wpAny (model P w) X.A (ab0 tg (.ref it) u) (λ_ s2=>∃x H',Inv X pins σ H' s2/\RelV x u/\J.yld i H x H'/\tn (i+1) s2.heap/\∀b∈fp,H' b=af) E s1) E s
 done:∀(X:Cx),X.prog=P->X.w=w->X.K=K->X.calm=ag->∀(i:Nat)(pins:List (Addr×Obj))(s:Ym)(σ:St)(H:Hp)(E:Value->Ym->Prop),Inv X pins σ H s->(∀b∈fp,lB X pins H b)->tn i s.heap->J.stop i H->
  wpAny (model P w) X.A (ab6 (.ref it)) (λr s1=>r=af/\Inv X pins σ H s1) E s
 self:∀(A:Zx)(i:Nat)(s:Ym)(Q:Value->Ym->Prop)(E:Value->Ym->Prop),tn i s.heap->Q (.ref it) s->wpAny (model P w) A (ac5 (.ref it)) Q E s
abbrev TI:=St->Hp->(It->Hp->Prop)->Prop
def PIE(X:Cx)(pins:List (Addr×Obj))(σ:St)(tg:Expr)(R:It->Hp->Prop)(z:Value)(O:Ym):Prop:=
 ∃(it:Addr)(fp:List Addr)(q:Nat->Heap->Prop)(J:It)(H':Hp),z= .ref it/\Inv X pins σ H' O/\Turn X.prog X.w X.K tg J fp it q/\q 0 O.heap/\(∀b∈fp,lB X pins H' b)/\R J H'
def PI(X:Cx)(tg iter:Expr)(wi:TI):Prop:=
 ∀(pins:List (Addr×Obj))(s:Ym)(σ:St)(H:Hp)(R:It->Hp->Prop),Inv X pins σ H s->wi σ H R->
  wpAny 1.13 X.A (eval iter X.env) (λv Z=>wpAny 1.13 X.A (ac5 v) (PIE X pins σ tg R) X.xe Z) X.xe s
theorem Bx   {E:Value->Ym->Prop}      {n:String} {O:Array Value}  (I:s.heap.get? it=ac o) (B:o.cls = .type n) (hd:o.data = .fields O)
    (hn:["enumerate", "zip", "dict_itemiterator", "dict_reverseitemiterator", "odict_iterator", "itertools.zip_longest", "itertools.pairwise"].contains n=ae) (q:Q () s):wpAny M A (ab0 tg (.ref it) u) Q E s:=by
  unfold ab0
  cases tg <;> first
    | exact Yq q
    | (cases u <;> first
        | exact Yq q
        | (refine W2 (adv I ?_)
           rw [B,hd]
           show wpAny M A (if (["enumerate", "zip", "dict_itemiterator", "dict_reverseitemiterator", "odict_iterator", "itertools.zip_longest", "itertools.pairwise"].contains n && O[0]? == ac (aaf _))=ag then _ else _) Q E s
           rw [Y4 (by intro h; rw [hn,afu] at h; cases h)]
           exact Yq q))
def Itl(K:YC)(a:Addr):It:=
 ⟨λi H=>∃xs x,SqL K H a xs/\xs[i]? =ac x,λi H x H'=>H'=H/\∀xs,SqL K H a xs->xs[i]? =ac x,λi H=>∃xs,SqL K H a xs/\xs.length<=i⟩
def Itt(K:YC)(a:Addr):It:=
 ⟨λi H=>∃xs x,SqT K H a xs/\xs[i]? =ac x,λi H x H'=>H'=H/\∀xs,SqT K H a xs->xs[i]? =ac x,λi H=>∃xs,SqT K H a xs/\xs.length<=i⟩
def Itr(lo:Int)(n:Nat):It:=⟨λi _=>i<n,λi H x H'=>H'=H/\x= .int (lo+i),λi _=>n<=i⟩
variable{P:Y7}
theorem Ib{K:YC}(a it:Addr):Turn P w K tg (Itl K a) [it] it (λi h=>h.IsListIter it a i)where
 mem:=by simp
 obj:=λi h st b U=>by
  have e:b=it:=by simpa using U
  subst e;obtain⟨o,e,c,d⟩:=st;exact⟨o,e,λv z=>by rw[d]at z;cases z⟩
 keep:=λi h h' st k=>st.at λo e=>k it (by simp) o e
 item:=by
  intro X hP O q B i pins s σ H E I Y st hg;subst hP O q;obtain⟨xs,x,hq,F⟩:=hg;obtain⟨its,rv,p,hz⟩:=I.list hq;obtain⟨u,hu,ru⟩:=rv.get F;obtain⟨f0,f1,f2,f3,f4,f5⟩:=Y it (by simp);refine ad1 st p.isList (x:=u) (by simpa using hu) λh' a0 sb=>?_;have I1:Inv X pins σ H {s with heap:=h'}:=I.turned (t':=s.toks) (λb o U e=>(sb.2 b U).trans e) f0 f1 f3 f4 f5;obtain⟨o,e,c,d⟩:=id a0;exact⟨u,rfl,Bx (s:={s with heap:=h'}) e c d (by decide) ⟨x,H,I1,ru,⟨rfl,λys V=>by rw[I.list_inj V hq];exact F⟩,a0,λb U=>(Y b U).1⟩⟩
 done:=by
  intro X hP O q B i pins s σ H E I Y st hg;subst hP O q;obtain⟨xs,hq,F⟩:=hg;obtain⟨its,rv,p,hz⟩:=I.list hq;obtain⟨f0,f1,f2,f3,f4,f5⟩:=Y it (by simp);have Z:=rv.length;exact aea (I.ok.hd B) st p.isList (by simp;omega) λh' eb=>⟨rfl,I.turned (t':=s.toks) (λb o U e=>eb b o U e) f0 f1 f3 f4 f5⟩
 self:=λ_ _ _ _ _ st h=>wpAny_pyIter_listiter st h
theorem Ek{K:YC}(a it:Addr):Turn P w K tg (Itt K a) [it] it (λi h=>h.IsTupleIter it a i)where
 mem:=by simp
 obj:=λi h st b U=>by
  have e:b=it:=by simpa using U
  subst e;obtain⟨o,e,c,d⟩:=st;exact⟨o,e,λv z=>by rw[d]at z;cases z⟩
 keep:=λi h h' st k=>st.at λo e=>k it (by simp) o e
 item:=by
  intro X hP O q B i pins s σ H E I Y st hg;subst hP O q;obtain⟨xs,x,hq,F⟩:=hg;obtain⟨its,rv,p,hz⟩:=I.tuple hq;obtain⟨u,hu,ru⟩:=rv.get F;obtain⟨f0,f1,f2,f3,f4,f5⟩:=Y it (by simp);refine wpAny_pyNext_tuple_item st (show s.heap.IsTuple a its.toArray from p) (x:=u) (by simpa using hu) λh' a0 sb=>?_;have I1:Inv X pins σ H {s with heap:=h'}:=I.turned (t':=s.toks) (λb o U e=>(sb.2 b U).trans e) f0 f1 f3 f4 f5;obtain⟨o,e,c,d⟩:=id a0;exact⟨u,rfl,Bx (s:={s with heap:=h'}) e c d (by decide) ⟨x,H,I1,ru,⟨rfl,λys V=>by rw[I.tuple_inj V hq];exact F⟩,a0,λb U=>(Y b U).1⟩⟩
 done:=by
  intro X hP O q B i pins s σ H E I Y st hg;subst hP O q;obtain⟨xs,hq,F⟩:=hg;obtain⟨its,rv,p,hz⟩:=I.tuple hq;obtain⟨f0,f1,f2,f3,f4,f5⟩:=Y it (by simp);have Z:=rv.length;exact wpAny_pyNext_tuple_end (I.ok.hd B) st (show s.heap.IsTuple a its.toArray from p) (by simp;omega) λh' eb=>⟨rfl,I.turned (t':=s.toks) (λb o U e=>eb b o U e) f0 f1 f3 f4 f5⟩
 self:=λ_ _ _ _ _ st h=>wpAny_pyIter_tupleiter st h
theorem F_{K:YC}(it:Addr)(lo:Int)(n:Nat):Turn P w K tg (Itr lo n) [it] it (λi h=>IsRangeIter h it (lo+(i:Nat)*1) ((n:Int)-(i:Nat)) 1)where
 mem:=by simp
 obj:=λi h st b U=>by
  have e:b=it:=by simpa using U
  subst e;exact⟨_,st,λv z=>by
   have z':Data.fields _=Data.cell v:=z;cases z'⟩
 keep:=λi h h' st k=>k it (by simp) _ st
 item:=by
  intro X hP O q B i pins s σ H E I Y st F;subst hP O q;obtain⟨f0,V,f2,Z,f4,f5⟩:=Y it (by simp);have W:=Walks.range (prog:=X.prog) (w:=X.w) (I.ok.hd B) it lo 1 n;refine W.item i s _ _ F st λv h' tk hv a0 kk=>?_;obtain⟨t,rfl⟩:=hv;have I1:Inv X pins σ H {s with heap:=h',toks:=tk}:=I.turned (λb o U e=>kk b o (by simpa using U) e) f0 V Z f4 f5;refine⟨_,rfl,Bx (s:={s with heap:=h',toks:=tk}) (n:="range_iterator") a0 rfl rfl (by decide) ⟨.int (lo+i),H,I1,⟨t,?_⟩,⟨rfl,rfl⟩,a0,λb U=>(Y b U).1⟩⟩;rw[Int.mul_one]
 done:=by
  intro X hP O q B i pins s σ H E I Y st F;subst hP O q;obtain⟨f0,V,f2,Z,f4,f5⟩:=Y it (by simp);exact wpAny_pyNext_range_end (I.ok.hd B) st (by have:n<=i:=F;omega) λh' eb=>⟨rfl,I.turned (t':=s.toks) (λb o U e=>eb b o U e) f0 V Z f4 f5⟩
 self:=λ_ _ _ _ _ st h=>wpAny_pyIter_rangeiter st h
theorem Ny{R:It->Hp->Prop}{E:Value->Ym->Prop}{lo hi:Int}{t u v:Tok}(I:Inv X pins σ H s)(h1: -(2 ^ 62)<=lo)(h2:lo<2 ^ 62)(Y: -(2 ^ 62)<=hi)(F:hi<2 ^ 62)
  (q:R (Itr lo (hi-lo).toNat) H):wpAny 1.13 X.A (ac5 (.ref s.heap.objs.size)) (PIE X pins σ tg R) E {s with heap:=s.heap.push {cls:=.type "range",data:=.fields #[.int lo t,.int hi u,.int 1 v]},toks:=tk}:=by
 refine wpAny_pyIter_range (IsRange.new ..) (small_one h1 h2 Y F) ?_;have B:Inv X pins σ H {s with heap:=s.heap.push {cls:=.type "range",data:=.fields #[.int lo t,.int hi u,.int 1 v]},toks:=tk}:=I.kept λb o e=>Yp _ e;refine⟨(s.heap.push {cls:=.type "range",data:=.fields #[.int lo t,.int hi u,.int 1 v]}).objs.size,[(s.heap.push {cls:=.type "range",data:=.fields #[.int lo t,.int hi u,.int 1 v]}).objs.size],_,_,H,rfl,
  B.kept (t':=tk) λb o e=>Yp _ e,F_ _ lo (hi-lo).toNat,?_,λb U=>?_,q⟩
 .have e1:lo+((0:Nat):Int)*1=lo:=by simp
  have e2:(((hi-lo).toNat:Nat):Int)-((0:Nat):Int)=Builtin.Range.rangeSize lo hi 1:=by rw[rangeSize_one];split<;>omega
  show IsRangeIter _ _ (lo+((0:Nat):Int)*1) ((((hi-lo).toNat:Nat):Int)-((0:Nat):Int)) 1;rw[e1,e2];exact YG _ rfl
 .have e:b=(s.heap.push {cls:=.type "range",data:=.fields #[.int lo t,.int hi u,.int 1 v]}).objs.size:=by simpa using U
  subst e;exact B.fpOk (YB _) (B.hok.fresh (YB _))
def Lq(ta:TA):TI:=λσ H R=>ta σ H λO H1=>∃j:Int,O=[.int j]/\-(2 ^ 62)<=j/\j<2 ^ 62/\R (Itr 0 j.toNat) H1
theorem xJ{p:Pos}(F:Gl X "range")(V:X.mg "range"=af)(Y:PA X [a] ta)(hs:YD [a] X.env=[(ae,eval a X.env)]:=by rfl):PI X tg (.Call (.Name "range" p) [a] [] pos) (Lq ta):=by
 intro pins s σ H R I h;refine Call_ (lC I F V boot_range (aaB (thn (Y pos pins s σ H _ I h) λus Z ⟨O,H1,B,z,q1⟩=>?_) hs rfl));obtain⟨j,e,q1,q2,q⟩:=q1;subst e;cases z with
 |cons r U=>
  cases U;obtain⟨t,rfl⟩:=r;exact call_range_1 (Ny B 1.10 1.10 q1 q2 (by simpa using q))
def KD(wi:TI)(g:TG)(tb:TS):TS:=λD σ H=>wi σ H λJ H1=>∃W:Nat->Nat->St->Hp->Prop,(∃m,W 0 m σ H1)/\∀i m σ H,W i m σ H->
 (J.stop i H/\D.nx σ H)∨(J.go i H/\∃N:St->Hp->Prop,(∀F H',N F H'->∃m',m'<m/\W (i+1) m' F H')/\∀x H',J.yld i H x H'->g x σ H' λσ2 H2=>tb {D with nx:=N,ct:=N,bk:=D.nx} σ2 H2)
def j0(fp:List Addr)(h:Heap):List (Addr×Obj):=fp.filterMap λb=>(h.get? b).map λo=>(b,o)
theorem dU(U:b∈fp)(e:h.get? b=ac o):(b,o)∈j0 fp h:=ac6.mpr ⟨b,U,by rw[e];rfl⟩
theorem rB{p:Addr×Obj}(V:p∈j0 fp h):p.1∈fp/\h.get? p.1=ac p.2:=by
 obtain⟨b,U,e⟩:=ac6.mp V;cases q:h.get? b with
 |none=>rw[q]at e;cases e
 |some o=>
  rw[q]at e;have e':(b,o)=p:=Zr e;subst e';exact⟨U,q⟩
theorem Inv.pinned(I:Inv X pins σ H s)(Y:∀b∈fp,lB X pins H b)(O:∀b∈fp,∃o,s.heap.get? b=ac o/\∀v,o.data≠.cell v):Inv X (pins++j0 fp s.heap) σ H s:=
 I.pins_of λp V=>(Yl.mp V).elim (λz=>I.pin p (Yn _ z)) λz=>by
  obtain⟨U,e⟩:=rB z;obtain⟨q,B,F,_⟩:=Y p.1 U;obtain⟨o,e',d⟩:=O p.1 U;rw[e]at e';cases e';exact⟨e,q,B,F,d⟩
theorem Inv.unpinned{pl:List (Addr×Obj)}(I:Inv X (pins++pl) σ H s):Inv X pins σ H s:=I.pins_of λp V=>I.pin p (Yn _ (Yv _ V))
theorem Bg{iter:Expr}{wi:TI}(V:acH 1.13 X.A X.env X.xe)(B:X.calm=ag)(hi:PI X tg iter wi)(hg:PG X tg g)(U:PSs X body tb)
  (hs:∀x,ZL iter X.env x=pure x:=by intro _;rfl):PS X (.For tg iter body [] pos) (KD wi g tb):=by
 intro pins s σ H D I h;refine wpAny_For (thn (hi pins s σ H _ I h) λv s1 h1=>thn h1 λb2 O h2=>?_) hs;obtain⟨it,fp,tn,J,H2,e,I2,T,a8,f2,W,⟨m0,w0⟩,a7⟩:=h2;subst e;have a1:∀{H':Hp},(∀b∈fp,H' b=af)->∀b∈fp,lB X pins H' b:=λhn b U=>⟨hn b U,(f2 b U).2⟩;refine codeAny_forLoop_any (λn s'=>∃i F H',Inv X pins F H' s'/\tn i s'.heap/\(∀b∈fp,H' b=af)/\W i n F H') ?_ m0 ⟨0,σ,H2,I2,a8,λb U=>(f2 b U).1,w0⟩;rintro n z ⟨i,a3,Y,I3,a5,a6,w3⟩;rcases a7 i n a3 Y w3 with⟨stop,qn⟩|⟨go,N,hN,step⟩
 .refine aa7 V (thn (T.done X rfl rfl rfl B i pins z a3 Y X.xe I3 (a1 a6) a5 stop) λr q ⟨Z,I4⟩=>?_)
  subst Z;exact acM ⟨a3,Y,I4,qn⟩
 .refine aa7 V (thn (T.item X rfl rfl rfl B i pins z a3 Y X.xe I3 (a1 a6) a5 go) λr q ⟨u,Z,h4⟩=>?_)
  subst Z;refine aa7 V (thn h4 λ_ s5 ⟨x,H5,I5,r5,y5,a4,a9⟩=>?_);have b0:=I5.pinned (a1 a9) (T.obj _ _ a4);refine aa7 V (thn (hg _ s5 a3 H5 x u _ b0 r5 (step x H5 y5)) λ_ s6 ⟨b1,H6,I6,q6⟩=>?_);refine aa7 V (thn (U _ s6 b1 H6 _ I6 q6) λf s7 q7=>?_);have a2:∀{a0:St}{H7:Hp},Inv X (pins++j0 fp s5.heap) a0 H7 s7->N a0 H7->∃m,m<n/\∃i F H',Inv X pins F H' s7/\tn i s7.heap/\(∀b∈fp,H' b=af)/\W i m F H':=λ{a0 H7} I7 n7=>by
   obtain⟨m',hm,w7⟩:=hN a0 H7 n7;refine⟨m',hm,i+1,a0,H7,I7.unpinned,T.keep _ _ _ a4 λb U o e=>(I7.pin (b,o) (Yn _ (Yn _ (dU U e)))).1,λb U=>?_,w7⟩;obtain⟨o,e,d⟩:=T.obj _ _ a4 b U;exact(I7.pin (b,o) (Yn _ (Yn _ (dU U e)))).2.1
  cases f with
  |next=>obtain⟨a0,H7,I7,n7⟩:=q7;exact a2 I7 n7
  |cont=>obtain⟨a0,H7,I7,n7⟩:=q7;exact a2 I7 n7
  |brk=>obtain⟨a0,H7,I7,q7⟩:=q7;exact⟨a0,H7,I7.unpinned,q7⟩
  |ret v=>obtain⟨x7,a0,H7,I7,r7,q7⟩:=q7;exact⟨x7,a0,H7,I7.unpinned,r7,q7⟩
abbrev R2:=V->V->Hp->VK->Prop
def OpR(X:Cx)(f:Value->Value->Sem Value)(r:R2):Prop:=
 ∀(pins:List (Addr×Obj))(s:Ym)(σ:St)(H:Hp)(x y:V)(v u:Value)(Q:VK),Inv X pins σ H s->RelV x v->RelV y u->r x y H Q->
  wpAny 1.13 X.A (f v u) (EP X pins σ Q) X.xe s
def UnR(X:Cx)(f:Value->Sem Value)(r:V->Hp->VK->Prop):Prop:=
 ∀(pins:List (Addr×Obj))(s:Ym)(σ:St)(H:Hp)(x:V)(v:Value)(Q:VK),Inv X pins σ H s->RelV x v->r x H Q->
  wpAny 1.13 X.A (f v) (EP X pins σ Q) X.xe s
def gh(X:Cx)(f:Value)(r:List V->Hp->VK->Prop):Prop:=
 ∀(pins:List (Addr×Obj))(s:Ym)(σ:St)(H:Hp)(xs:List V)(us:List Value)(Q:VK),Inv X pins σ H s->Vals xs us->r xs H Q->
  wpAny 1.13 X.A (call f us) (EP X pins σ Q) X.xe s
def X8(X:Cx)(r:V->Hp->(Bool->Hp->Prop)->Prop):Prop:=
 ∀(pins:List (Addr×Obj))(s:Ym)(σ:St)(H:Hp)(x:V)(v:Value)(Q:Bool->Hp->Prop),Inv X pins σ H s->RelV x v->r x H Q->
  wpAny 1.13 X.A (truthy v) (TP X pins σ Q) X.xe s
def tOp(r:R2)(ta tb:TE):TE:=λσ H Q=>ta σ H λx H1=>tb σ H1 λy H2=>r x y H2 Q
def tUn(r:V->Hp->VK->Prop)(ta:TE):TE:=λσ H Q=>ta σ H λx H1=>r x H1 Q
def rI(C:Int->Int->Prop)(g:Int->Int->V):R2:=λx y H Q=>∃i j,x= .int i/\y= .int j/\C i j/\Q (g i j) H
def rI0(g:Int->Int->V):R2:=λx y H Q=>∃i j,x= .int i/\y= .int j/\Q (g i j) H
def rU(g:Int->V):V->Hp->VK->Prop:=λx H Q=>∃i,x= .int i/\Q (g i) H
variable{b:Expr}{f:Value->Value->Sem Value}{ta tb:TE}
theorem Ul(Y:PE X a ta)(U:PE X b tb){R:V->V->Hp->Prop}(I:Inv X pins σ H s)
  (h:ta σ H λx H1=>tb σ H1 λy H2=>R x y H2) {Q:Value->Ym->Prop} 
  (hf:∀v u O x y H2,Inv X pins σ H2 O->RelV x v->RelV y u->R x y H2->wpAny 1.13 X.A (f v u) Q X.xe O) :
  wpAny 1.13 X.A (eval a X.env) (λv B=>wpAny 1.13 X.A (eval b X.env) (λu F=>wpAny 1.13 X.A (f v u) Q X.xe F) X.xe B) X.xe s:=by
 refine thn (Y pins s σ H _ I h) λv Z ⟨x,H1,I1,z,q1⟩=>?_;refine thn (U pins Z σ H1 _ I1 q1) λu O ⟨y,H2,I2,q,q2⟩=>?_;exact hf v u O x y H2 I2 z q q2
variable{r:R2}
theorem RG{op:Operator}(z:OpR X (aah op) r)(Y:PE X a ta)(U:PE X b tb):PE X (.BinOp a op b pos) (tOp r ta tb):=by
 intro pins s σ H Q I h;exact wpAny_BinOp (Ul Y U I h λv u O x y H2 V rx B q=>z pins O σ H2 x y v u Q V rx B q)
theorem WK{op:UnaryOp}{r:V->Hp->VK->Prop}(q:UnR X (unaryOp op) r)(Y:PE X a ta):PE X (.UnaryOp op a pos) (tUn r ta):=by
 intro pins s σ H Q I h;exact UnaryOp_ (thn (Y pins s σ H _ I h) λv Z ⟨x,H1,B,z,q1⟩=>q pins Z σ H1 x v Q B z q1)
variable{g:Int->Int->Int}
theorem opI
  (z:∀(i j:Int)(t u:Tok)(s:Ym)(Q:Value->Ym->Prop)(E:Value->Ym->Prop),C i j->Q (.int (g i j) s.toks) {s with toks:=s.toks+1}->wpAny 1.13 X.A (f (.int i t) (.int j u)) Q E s) :
  OpR X f (rI C λi j=>.int (g i j)):=by
 intro pins s σ H x y v u Q I rx F h;obtain⟨i,j,rfl,rfl,B,q⟩:=h;obtain⟨t,rfl⟩:=rx;obtain⟨t',rfl⟩:=F;exact z i j t t' s _ _ B ⟨.int (g i j),H,I.tok _,⟨_,rfl⟩,q⟩
theorem Xf
  (z:∀(i j:Int)(t u:Tok)(s:Ym)(Q:Value->Ym->Prop)(E:Value->Ym->Prop),Q (.int (g i j) s.toks) {s with toks:=s.toks+1}->wpAny 1.13 X.A (f (.int i t) (.int j u)) Q E s) :
  OpR X f (rI0 λi j=>.int (g i j)):=by
 show 3;exact z i j t t' s _ _ ⟨.int (g i j),H,I.tok _,⟨_,rfl⟩,q⟩
theorem Qf{g:Int->Int->Bool}
  (z:∀(i j:Int)(t u:Tok)(s:Ym)(Q:Value->Ym->Prop)(E:Value->Ym->Prop),Q (.bool (g i j)) s->wpAny 1.13 X.A (f (.int i t) (.int j u)) Q E s) :
  OpR X f (rI0 λi j=>.bl (g i j)):=by
 show 3;exact z i j t t' s _ _ ⟨.bl (g i j),H,I,rfl,q⟩
def XF(i j:Int):Prop:=0<j/\j<1073741824
def X4(i j:Int):Prop:=0<=j/\j<=1000000/\i.natAbs<2 ^ 64
def UV(i j:Int):Prop:=(-(2 ^ 64)<i/\i<2 ^ 64)∨(-(2 ^ 64)<j/\j<2 ^ 64)
theorem UV.ok{i j:Int}(h:UV i j):IntMulOk i j:=by
 rcases h with⟨h1,h2⟩|⟨h1,h2⟩
 .exact .of_left (intBits_le_64 h1 h2)
 .exact .of_right (intBits_le_64 h1 h2)
theorem Ti:OpR X (aah .Add) (rI0 λi j=>.int (i+j)):=Xf λ_ _ _ _ _ _ _ q=>add_int q
theorem Ue:OpR X (aah .Sub) (rI0 λi j=>.int (i-j)):=Xf λ_ _ _ _ _ _ _ q=>sub_int q
theorem TY:OpR X (aah .Mult) (rI UV λi j=>.int (i*j)):=opI λ_ _ _ _ _ _ _ B q=>mul_int q B.ok
theorem Vt:OpR X (aah .Mod) (rI (λ_ j=>0<j) λi j=>.int (i % j)):=opI λi j _ _ _ _ _ B q=>by
 have h1:(0:Int)<j:=B;exact mod_int' 1.10 (by rw[adf i 1.10];exact q)
theorem U_:OpR X (aah .Pow) (rI X4 λi j=>.int (i ^ j.toNat)):=opI λ_ _ _ _ _ _ _ B q=>pow_int_small B.1 B.2.1 B.2.2 q
theorem unI{f:Value->Sem Value}{g:Int->Int}
  (z:∀(i:Int)(t:Tok)(s:Ym)(Q:Value->Ym->Prop)(E:Value->Ym->Prop),Q (.int (g i) s.toks) {s with toks:=s.toks+1}->wpAny 1.13 X.A (f (.int i t)) Q E s) :
  UnR X f (rU λi=>.int (g i)):=by
 intro pins s σ H x v Q I rx h;obtain⟨i,rfl,q⟩:=h;obtain⟨t,rfl⟩:=rx;exact z i t s _ _ ⟨.int (g i),H,I.tok _,⟨_,rfl⟩,q⟩
theorem Sx:UnR X (unaryOp .USub) (rU λi=>.int (-i)):=unI λ_ _ _ _ _ q=>neg_int q
theorem yX{Q:VK}{k k':Bool}(I:Inv X pins σ H s)(q:Q (.bl k) H)(e:k=k'):EP X pins σ Q (.bool k') s:=by
 subst e;exact⟨.bl k,H,I,rfl,q⟩
theorem Wm:OpR X (Zf .Lt) (rI0 λi j=>.bl (decide (i<j))):=Qf λ_ _ _ _ _ _ _ q=>lt_int q
theorem V1:OpR X (Zf .LtE) (rI0 λi j=>.bl (decide (i<=j))):=Qf λ_ _ _ _ _ _ _ q=>le_int q
theorem Xy:OpR X (Zf .Gt) (rI0 λi j=>.bl (decide (j<i))):=Qf λ_ _ _ _ _ _ _ q=>gt_int q
theorem WL:OpR X (Zf .GtE) (rI0 λi j=>.bl (decide (j<=i))):=Qf λ_ _ _ _ _ _ _ q=>ge_int q
theorem Jk:OpR X (Zf .Lt) (λx y H Q=>∃i j,x= .str i/\y= .str j/\Q (.bl (decide (i.cps.toList<j.cps.toList))) H):=by
 show 3;exact lt_str (yX I q rfl)
theorem Io:OpR X (Zf .In) (λx y H Q=>∃i j,x= .str i/\y= .str j/\Q (.bl (!(ZF j i 0 j.length 1).isEmpty)) H):=by
 show 3;exact in_str (yX I q rfl)
theorem Vg:OpR X (Zf .Is) (λx y H Q=>y= .non/\Q (.bl (decide (x= .non))) H):=by
 intro pins s σ H x y v u Q I rx B h;obtain⟨rfl,q⟩:=h;cases B;refine is_none_gen (yX I q ?_);cases x<;>first
  |(cases rx;rfl)
  |(obtain⟨t,rfl⟩:=rx;rfl)
theorem GP(F:OpR X (Zf op) r)(Y:PE X a ta)(U:PE X b tb)(V:abR op b=ae):PE X (.Compare a [op] [b] pos) (tOp r ta tb):=by
 intro pins s σ H Q I h;exact wpAny_Compare1 (Ul Y U I h λv u O x y H2 z rx B q=>F pins O σ H2 x y v u Q z rx B q) V
def Og(t:TE):TT:=λσ H Q=>t σ H λx H'=>∃k,x= .bl k/\Q k H'
theorem G6(ho:OpR X (Zf op) r)(Y:PE X a ta)(U:PE X b tb)(V:abR op b=ae):PT X (.Compare a [op] [b] pos) (Og (tOp r ta tb)):=by
 intro pins s σ H Q I h;refine wpAny_isTrue_Compare1 (thn (Y pins s σ H _ I h) λv Z ⟨x,H1,B,r1,q1⟩=>thn (U pins Z σ H1 _ B q1) λu O ⟨y,H2,I2,q,q2⟩=>
  thn (ho pins O σ H2 x y v u _ I2 r1 q q2) λc s3 ⟨z,H3,I3,r3,k,e,F⟩=>?_) V
 subst e;cases r3;exact abF ⟨H3,I3,F⟩
def Pa(K:YC)(x:V)(H:Hp)(k:Bool):Prop:=
 match x with
 |.non=>k=ae
 |.bl b=>k=b
 |.int i=>k=(i !=0)
 |.str y=>y.length<=Yx/\k=((y.length:Int)!=0)
 |.byt y=>y.size<=Yx/\k=((y.size:Int)!=0)
 |.ref p=>(∃xs,SqL K H p xs/\k= !xs.isEmpty)∨(∃xs,SqT K H p xs/\k= !xs.isEmpty)∨∃kvs,H p=ac (.dK kvs)/\k= !kvs.isEmpty
 |_=>False
theorem FP{kvs:List (κ×V)}{O:List (κ×Value)}(r:KV kvs O):(!O.isEmpty)= !kvs.isEmpty:=by
 cases r<;>rfl
theorem vP(r:Vals xs its):(!its.toArray.isEmpty)= !xs.isEmpty:=by
 cases r<;>simp
theorem o6:(Yx:Nat)<2 ^ 63:=by rw[ac0];decide
theorem Vc:X8 X (λx H Q=>∃k,Pa X.K x H k/\Q k H):=by
 intro pins s σ H x v Q I rx h;obtain⟨k,e,q⟩:=h;have Z:=o6;have hs:Yx=16777216:=ac0;cases x with
 |non=>
  cases rx;have e':k=ae:=e;subst e';exact truthy_none ⟨H,I,q⟩
 |bl b=>
  cases rx;have e':k=b:=e;subst e';exact abF ⟨H,I,q⟩
 |int i=>
  obtain⟨t,rfl⟩:=rx;have e':k=(i !=0):=e;subst e';exact PySem.P.truthy_int ⟨H,I,q⟩
 |str y=>
  obtain⟨t,rfl⟩:=rx;obtain⟨V,e'⟩:y.length<=Yx/\k=((y.length:Int)!=0):=e;subst e';exact PySem.P.truthy_str 1.10 ⟨H,I.tok _,q⟩
 |byt y=>
  obtain⟨t,rfl⟩:=rx;obtain⟨V,e'⟩:y.size<=Yx/\k=((y.size:Int)!=0):=e;subst e';exact PySem.W.truthy_bytes 1.10 ⟨H,I.tok _,q⟩
 |ref p=>
  cases rx;have e':(∃xs,SqL X.K H p xs/\k= !xs.isEmpty)∨(∃xs,SqT X.K H p xs/\k= !xs.isEmpty)∨∃kvs,H p=ac (.dK kvs)/\k= !kvs.isEmpty:=e;rcases e' with⟨xs,F,e'⟩|⟨xs,F,e'⟩|⟨kvs,F,e'⟩
  .subst e'
   obtain⟨its,r,pl,hz⟩:=I.list F;have z:=r.length;exact wpAny_truthy_list pl.isList (by simp![List.size_toArray];omega) ⟨H,I.tok _,by rw[vP r];exact q⟩
  .subst e'
   obtain⟨its,r,pl,hz⟩:=I.tuple F;have z:=r.length;exact truthy_tuple pl (by simp![List.size_toArray];omega) ⟨H,I.tok _,by rw[vP r];exact q⟩
  .subst e'
   obtain⟨hz,U,O,r,m⟩:kvs.length<=Yx/\(p==aao)=ae/\∃O,KV kvs O/\s.heap.DictOf (bz X.prog X.w) p O:=I.hok p _ F;have z:kvs.length=O.length:=adb r;exact wpAny_truthy_dict U m 1.10 ⟨H,I.tok _,by rw[FP r];exact q⟩
 |_=>exact(show False from e).elim
theorem NQ(Y:PE X a ta)(O:∀F,ad_ a X.env F=(do let v ←F;standAt a.pos;ach [v] (truthy v))) :
  PT X a (λσ H Q=>ta σ H λx H'=>∃k,Pa X.K x H' k/\Q k H'):=by
 intro pins s σ H Q I h;exact isTrue_plain (thn (Y pins s σ H _ I h) λv Z ⟨x,H1,B,z,q1⟩=>Vc pins Z σ H1 x v Q B z q1) (O _)
theorem Em:OpR X (aah .Add) (λx y H Q=>∃i j,x= .str i/\y= .str j/\i.length+j.length<=Yx/\Q (.str (i++j)) H):=by
 intro pins s σ H x y v u Q I rx B h;obtain⟨i,j,rfl,rfl,hz,q⟩:=h;obtain⟨t,rfl⟩:=rx;obtain⟨t',rfl⟩:=B;exact add_str (λt' tk=>⟨.str (i++j),H,I.tok _,⟨_,rfl⟩,q⟩) hz
theorem vals1{x:V}(r:Vals [x] us):∃u,us=[u]/\RelV x u:=by
 cases r with
 |cons z q=>cases q;exact⟨_,rfl,z⟩
theorem vals2{x y:V}(r:Vals [x,y] us):∃u Z,us=[u,Z]/\RelV x u/\RelV y Z:=by
 cases r with
 |cons z q=>
  cases q with
  |cons U B=>cases B;exact⟨_,_,rfl,z,U⟩
theorem Kg:gh X (.builtin "abs") (λxs H Q=>∃i,xs=[.int i]/\Q (.int (if i<0 then -i else i)) H):=by
 intro pins s σ H xs us Q I r h;obtain⟨i,rfl,q⟩:=h;obtain⟨u,rfl,t,rfl⟩:=vals1 r;exact call_abs_int λu tk=>⟨.int (if i<0 then -i else i),H,I.tok _,⟨_,rfl⟩,q⟩
theorem JK:gh X (.type "int") (λxs H Q=>(∃i,xs=[.int i]/\Q (.int i) H)∨∃k,xs=[.bl k]/\Q (.int (if k then 1 else 0)) H):=by
 intro pins s σ H xs us Q I r h;rcases h with⟨i,rfl,q⟩|⟨k,rfl,q⟩
 .obtain⟨u,rfl,t,rfl⟩:=vals1 r
  exact call_int_int ⟨.int i,H,I,⟨_,rfl⟩,q⟩
 .obtain⟨u,rfl,r1⟩:=vals1 r
  cases r1;exact call_int_bool ⟨.int (if k then 1 else 0),H,I.tok _,⟨_,rfl⟩,q⟩
theorem Dy:gh X (.builtin "divmod") (λxs H Q=>∃i j,xs=[.int i,.int j]/\XF i j/\∀p,H p=af->Q (.ref p) (upd H p (.tup [.int (i / j),.int (i % j)]))):=by
 intro pins s σ H xs us Q I r h;obtain⟨i,j,rfl,⟨h1,h2⟩,q⟩:=h;obtain⟨u,Z,rfl,⟨t,rfl⟩,⟨t',rfl⟩⟩:=vals2 r;refine divmod_int 1.10 ?_ (.inl (PyProof.noPylong_small 1.10));rw[adg i 1.10,adf i 1.10];have hn:H s.heap.objs.size=af:=I.hok.fresh (YB _);refine⟨.ref s.heap.objs.size,_,?_,rfl,q _ hn⟩;refine I.laid (λb o e=>Yp _ e) (YB _) ⟨by simp![Yy,YX];rw[ac0];decide,[.int (i / j) s.toks,.int (i % j) (s.toks+1)],.cons ⟨_,rfl⟩ (.cons ⟨_,rfl⟩ .nil),?_⟩;exact⟨_,YG s.heap rfl,rfl,0,rfl,rfl⟩
structure Vu(h:Heap)(x dx C:Addr)(mA:Str->Option Value):Prop where
 obj:h.get? x=ac (adT C dx)
 ns:h.Ns1 dx mA
 ne:dx≠x
theorem Jv(n:h.Ns1 dx Z):∃od,h.get? dx=ac od/\∀name,aeb name od=ac (Z name):=by
 obtain⟨o,es,ep,I,hd,O,_,V⟩:=n;refine⟨o,I,λname=>?_⟩;have e:=V name;unfold nsFind findBy at e;rw[←Array.find?_toList]at e;unfold aeb;rw[hd];dsimp only;split
 .rename_i y q
  rw[q]at e;exact congrArg ac e
 .rename_i q
  rw[q]at e;have a:es.toList.any (·.refKey)=ae:=by
   rw[List.any_eq_false];intro y U;obtain⟨z,t,F⟩:=O y (Array.mem_toList_iff.mp U);simp[DictEntry.refKey,F]
  have B:¬es.toList.any (·.refKey)=ag:=by rw[a];exact Zi
  rw[Y4 B];exact congrArg ac e
theorem Vu.look{x C:Addr}(I:Vu h x dx C Z):∃od,PySem.W.InstAt h x (adT C dx) C (ac od)/\∀name,aeb name od=ac (Z name):=
 let⟨od,ho,hl⟩:=Jv I.ns
 ⟨od,⟨I.obj,rfl,rfl,ho⟩,hl⟩
variable{o:Option Value}
theorem lW.some_of{v:V}(r:lW (ac v) o):∃u,o=ac u/\RelV v u:=by
 cases o with
 |none=>exact(show False from r).elim
 |some u=>exact⟨u,rfl,r⟩
theorem lW.none_of(r:lW af o):o=af:=by
 cases o with
 |none=>rfl
 |some u=>exact(show False from r).elim
section
variable{P:Program}{w:World}{H H':Hp}{h h':Heap}{a C dx:Addr}{fs fs':List (Str×V)}
theorem Hc(hok:HOk P w H h)(e:H a=ac (.ins C dx fs)):∃Z,Vu h a dx C Z/\(∀f,lW (fs.lookup f) (Z f))/\PySem.Within Z (fs.map (·.1))/\fs.length<=1000/\H dx=ac (.own a):=by
 obtain⟨d,z,Y,ob,Z,n,r,q⟩:=(show cG P w H h a (.ins C dx fs)from hok a _ e);exact⟨Z,⟨ob,n,Y⟩,r,q,z,d⟩
end
structure Cls(K:PySem.W.Frag)(C:Addr):Prop where
 pg:afg K C Str.empty=ag
 hd:PySem.W.hasDictIn K C=ag
 po:PySem.W.plainOver K C=ag
 sa:afv K (.ref C) "__setattr__"=ac (ac (.builtin "object.__setattr__"))
theorem Cls.get{K:YC}{C:Addr}(c:Cls K C)(f:Str):afg K C f=ag:=c.pg
inductive lV(K:PySem.W.Frag)(H:Hp):V->Value->Prop where
 |non:lV K H .non (.type "NoneType")
 |bl (x:Bool):lV K H (.bl x) (.type "bool")
 |int (i:Int):lV K H (.int i) (.type "int")
 |str (x:Str):lV K H (.str x) (.type "str")
 |flt (x:UInt64):lV K H (.flt x) (.type "float")
 |lst {a:Addr} {xs:List V} (e:H a=ac (.lst xs)):lV K H (.ref a) (.type "list")
 |frz {a:Addr} {o:Obj} {xs:List V} (e:H a=ac (.frz o (.lst xs))):lV K H (.ref a) (.type "list")
 |tup {a:Addr} {xs:List V} (e:H a=ac (.tup xs)):lV K H (.ref a) (.type "tuple")
 |dK {a:Addr} {kvs:List (Key×V)} (e:H a=ac (.dK kvs)):lV K H (.ref a) (.type "dict")
 |dT {a:Addr} {kvs:List (List Key×V)} (e:H a=ac (.dT kvs)):lV K H (.ref a) (.type "dict")
 |ins {a C dx:Addr} {fs:List (Str×V)} (e:H a=ac (.ins C dx fs)) (cl:Cls K C) (ha:afv K (.ref C) "__class__"=ac (ac (.builtin "object.__class__")))
  (hn:PySem.W.specialIn K (.builtin "object.__class__") "__get__"=ac (ac (.builtin "getset_descriptor.__get__"))) (htk:PySem.W.takesIn K (.builtin "object.__class__")=ac ag)
  (hm:PySem.W.mroIn K C (.type "object")=ac ag):lV K H (.ref a) (.ref C)
variable{b:Bool}{s:Shared}{A:Around}{Q:Value->Shared->Prop}{c:Value}
theorem Ia{x:V}{t:Value}(I:Inv X pins σ H s)(rx:RelV x u)(F:lV X.K H x t)(e:acR X.K t c=ac b)(h:∀tk,Q (.bool b) {s with toks:=tk}) :
  wpAny 1.13 A (call (.builtin "isinstance") [u,c]) Q E s:=by
 cases F with
 |non=>cases (show u=Z8 from rx);exact aae ae3 I.kIn Z2 e (λz=>nomatch z) h
 |bl y=>cases (show u=acg y from rx);exact aae ae4 I.kIn Z2 e (λz=>nomatch z) h
 |int i=>obtain⟨t,q⟩:=(show ∃t,u=ac2 i t from rx);cases q;exact aae afh I.kIn Z2 e (λz=>nomatch z) h
 |str y=>obtain⟨t,q⟩:=(show ∃t,u=ac3 y t from rx);cases q;exact aae afi I.kIn Z2 e (λz=>nomatch z) h
 |flt y=>obtain⟨t,q⟩:=(show ∃t,u=afb y t from rx);cases q;exact aae aeM I.kIn Z2 e (λz=>nomatch z) h
 |@lst a xs U=>
  cases (show u=Zk a from rx);obtain⟨_,_,n,_,h1⟩:=(show cG X.prog X.w H s.heap a (.lst xs)from I.hok a _ U);exact aae acn I.kIn ⟨_,h1,rfl⟩ e (λz=>nomatch z) h
 |@frz a ob xs U=>
  cases (show u=Zk a from rx);obtain⟨_,_,_,n,_,h1⟩:=(show cG X.prog X.w H s.heap a (.frz ob (.lst xs))from I.hok a _ U);exact aae acn I.kIn ⟨_,h1,rfl⟩ e (λz=>nomatch z) h
 |@tup a xs U=>
  cases (show u=Zk a from rx);obtain⟨_,_,_,p⟩:=(show cG X.prog X.w H s.heap a (.tup xs)from I.hok a _ U);obtain⟨o,h1,h2,_⟩:=p;exact aae aeN I.kIn ⟨o,h1,h2⟩ e (λz=>nomatch z) h
 |@dK a kvs U=>
  cases (show u=Zk a from rx);obtain⟨_,_,vs,_,p⟩:=(show cG X.prog X.w H s.heap a (.dK kvs)from I.hok a _ U);obtain⟨o,es,ep,h1,h2,_⟩:=p;exact aae aco I.kIn ⟨o,h1,h2.1⟩ e (λz=>nomatch z) h
 |@dT a kvs U=>
  cases (show u=Zk a from rx);obtain⟨_,_,xs,_,o,es,ep,h1,h2,_⟩:=(show cG X.prog X.w H s.heap a (.dT kvs)from I.hok a _ U);exact aae aco I.kIn ⟨o,h1,h2.1⟩ e (λz=>nomatch z) h
 |@ins a C dx fs U cl Y hn B hm=>
  cases (show u=Zk a from rx);obtain⟨Z,O,_⟩:=Hc I.hok U;obtain⟨od,J,_⟩:=O.look;exact aae (afj (cl.get _) cl.hd Y hn B hm) I.kIn J e (λz=>nomatch z) h
structure jh(k:Nat)(A:Around):Prop where
 hd:A.handled=af
 dp:A.depth+3*k+5<recursionLimit
 un:A.units+16*k+200<cLine
 gd:A.guards=ac []
variable{A:Zx}
theorem jh.mono(r:jh k A)(h:j<=k):jh j A:=⟨r.hd,by have:=r.dp;omega,by have:=r.un;omega,r.gd⟩
theorem jh.deeper(r:jh (k+1) A)(env:Env):jh k (A.deeper env):=
 ⟨r.hd,by have:=r.dp;show A.depth+1+3*k+5<_;omega,by have:=r.un;show A.units+3+16*k+200<_;omega,r.gd⟩
theorem jh.depth(r:jh k A):A.depth<recursionLimit:=by have:=r.dp;omega
theorem jh.units(r:jh k A):A.units+64<cLine:=by have:=r.un;omega
def Wa:TA:=λ_ H Q=>Q [] H
def Ks(ta:TE)(q:TA):TA:=λσ H Q=>ta σ H λx H1=>q σ H1 λxs H2=>Q (x::xs) H2
section
variable{X:Cx}{e:Expr}{es:List Expr}{te:TE}{t:TA}{pos:Pos}
theorem UW:PA X [] Wa:=λ_ _ _ _ H Q I h=>adn ⟨[],H,I,.nil,h⟩
theorem Bk(Y:PE X e te)(Z:PA X es t)(hs:YD (e::es) X.env=(ae,eval e X.env)::YD es X.env:=by rfl):PA X (e::es) (Ks te t):=by
 intro pos pins s σ H Q I h;rw[hs];show wpAny _ _ (spliced ((ae,eval e X.env)::Z4 pos (YD es X.env))) _ _ s;refine ac7 (thn (Y pins s σ H _ I h) λu F ⟨x,H1,B,z,q1⟩=>?_);exact thn (Z pos pins F σ H1 _ B q1) λus O ⟨xs,H2,V,q,q2⟩=>⟨x::xs,H2,V,.cons z q,q2⟩
def X5(t:TA):TE:=λσ H Q=>t σ H λxs H1=>xs.length<=Yx/\∀p,H1 p=af->Q (.ref p) (upd H1 p (.tup xs))
def Yg(t:TA):TE:=λσ H Q=>t σ H λxs H1=>xs.length<=Yx/\∀p,H1 p=af->Q (.ref p) (upd H1 p (.lst xs))
theorem Mr{x1}(h:PA X es t):PE X (.Tuple es x1 pos) (X5 t):=by
 intro pins s σ H Q I U;refine wpAny_Tuple_spliced (thn (h pos pins s σ H _ I U) λus Z ⟨xs,H1,B,r,z,q⟩=>⟨by rw[←r.length];exact z,?_⟩);have Y:H1 Z.heap.objs.size=af:=B.hok.fresh (YB _);refine⟨.ref Z.heap.objs.size,upd H1 Z.heap.objs.size (.tup xs),B.laid (t':=Z.toks) (λb u e=>Yp _ e) (YB _) ?_,rfl,q _ Y⟩;exact⟨z,us,r,⟨_,YG _ rfl,rfl,_,rfl,rfl⟩⟩
theorem N5(h:PA X es t):PE X (.List es pos) (Yg t):=by
 intro pins s σ H Q I U;refine wpAny_List_spliced (thn (h pos pins s σ H _ I U) λus Z ⟨xs,H1,B,r,z,q⟩=>⟨by rw[←r.length];exact z,?_⟩);have Y:H1 Z.heap.objs.size=af:=B.hok.fresh (YB _);refine⟨.ref Z.heap.objs.size,upd H1 Z.heap.objs.size (.lst xs),B.laid (t':=Z.toks) (λb u e=>Yp _ e) (YB _) ?_,rfl,q _ Y⟩;exact⟨z,us,0,r,YG _ rfl⟩
end
abbrev Sp:=List V->Hp->VK->XK->Prop
abbrev CXT:=List Env->Hp->Ym->XK->Value->Ym->Prop
structure PN(P:Program)(w:World)(K:PySem.W.Frag)(mg:Str->Option Value)(base:Heap)(A:Around)(outer:List Env)(s:Shared)(H:Hp):Prop where
 frames:A.frames=ac outer
 mod:Mod K mg base
 bs:∀b o,base.get? b=ac o->s.heap.get? b=ac o/\H b=af
 bsz:base.objs.size<=s.heap.objs.size
 funs:s.heap.FunFrames base outer
 frf:∀b∈frs outer,H b=af
 hok:HOk P w H s.heap
 bare:acG s.gens
def CE(outer:List Env)(P:Y7)(w:World)(H:Hp)(s:Ym)(Q:VK)(u:Value)(s':Ym):Prop:=
 ∃v H',s'.os=s.os/\acG s'.gens/\Un (frs outer) [] H H' s.heap s'.heap/\HOk P w H' s'.heap/\RelV v u/\Q v H'
def CR(CX:CXT)(outer:List Env)(P:Y7)(w:World)(H:Hp)(s:Ym)(Q:VK)(E:XK)(r:Result)(s':Ym):Prop:=
 match r with
 |.ok (.ret u)=>CE outer P w H s Q u s'
 |.ok _=>False
 |.error e=>CX outer H s E e s'
structure dJ(P:Program)(w:World)(K:PySem.W.Frag)(mg:Str->Option Value)(base:Heap)(CX:CXT)(k:Nat)(f:Addr)(fd:FuncData)(ps:List Str)(sp:Sp):Prop where
 len:∀vs H Q E,sp vs H Q E->vs.length=ps.length
 run:∀(A:Zx)(outer:List Env)(s:Ym)(H:Hp)(args:Args)(us:List Value)(vs:List V)(Q:VK)(E:XK),jh k A->PN P w K mg base A outer s H->aec s fd args (ps.zip us)->Vals vs us->sp vs H Q E->
  aa8 (model P w) A (.call (.ref f) args) (CR CX outer P w H s Q E) s
variable{f:Addr}{CX:CXT}
theorem dJ.imp{K:YC}{sp z:Sp}(F:dJ P w K mg base CX k f fd ps sp)
  (h:∀O H Q E,z O H Q E->sp O H Q E):dJ P w K mg base CX k f fd ps z:=
 ⟨λO H Q E q=>F.len O H Q E (h _ _ _ _ q),λA outer s H args us O Q E Z I U B hs=>F.run A outer s H args us O Q E Z I U B (h _ _ _ _ hs)⟩
theorem Inv.env0(I:Inv X pins σ H s):PN X.prog X.w X.K X.mg X.base X.A X.stack s H:=
 ⟨I.ok.frames,I.ok.mod,I.bs,ZJ I.ok.bsz I.sz,I.stack,I.stkFree,I.hok,I.bare⟩
variable{s':Shared}
theorem Inv.after{Q:VK}(I:Inv X pins σ H s)(h:CE X.stack X.prog X.w H s Q u s'):EP X pins σ Q u s':=by
 obtain⟨v,H',os,bare,un,hok,r,q⟩:=h;obtain⟨B,g,d,t,F⟩:=s';obtain rfl:F=s.os:=os;exact⟨v,H',I.call (h':=B) (g':=g) (d':=d) (t':=t) (ch:=[]) un hok bare (λb z=>absurd z (by simp)),r,q⟩
def RL(sp:Sp)(dvs:List V)(E:XK)(t:TA):TE:=λσ H Q=>t σ H λO H1=>sp (O++dvs) H1 Q E
def Binds(K:YC)(fd:Zh)(ps:List Str)(ds:List Value):Prop:=
 ∀(s:Ym)(us:List Value),K.In s.heap->(us++ds).length=ps.length->aec s fd ⟨us,[]⟩ (ps.zip (us++ds))
theorem Binds.all{K:YC}(h:∀us:List Value,us.length=ps.length->bindArgs fd ⟨us,[]⟩=pure (ps.zip us)):Binds K fd ps []:=λs us _ Z=>by
 rw[Za]at Z⊢;exact .of_eq (h us Z)
def Gu(CX:CXT)(X:Cx)(E:XK):Prop:=∀(pins:List (Addr×Obj))(σ:St)(H:Hp)(s:Ym)(e:Value)(s':Ym),Inv X pins σ H s->CX X.stack H s E e s'->X.xe e s'
section
variable{X:Cx}{CX:CXT}{k:Nat}{f C:Addr}{fd:FuncData}{ps:List Str}{sp:Sp}{dvs:List V}{ds:List Value}{E:XK}{x m:Str}{p pos apos:Pos}{e o:Expr}{es:List Expr}{ta:TE}{t:TA}
theorem Ui{pins:List (Addr×Obj)}{σ:St}{H:Hp}{s:Ym}{Q:VK}{us:List Value}{O:List V}(F:dJ X.prog X.w X.K X.mg X.base CX k f fd ps sp)(Z:jh k X.A)(U:Binds X.K fd ps ds)(hd:Vals dvs ds)(B:Gu CX X E)
  (I:Inv X pins σ H s) (r:Vals O us) (h:sp (O++dvs) H Q E):wpAny 1.13 X.A (call (.ref f) us) (EP X pins σ Q) X.xe s:=by
 have q:Vals (O++dvs) (us++ds):=r.append hd;have Y:(us++ds).length=ps.length:=by rw[←q.length];exact F.len _ _ _ _ h
 refine wpAny_call (abG (F.run X.A X.stack s H ⟨us,[]⟩ (us++ds) (O++dvs) Q E Z I.env0 (U s us I.kIn Y) q h) λr s' z=>?_);cases r with
 |error e=>exact B pins σ H s e s' I z
 |ok fl=>
  cases fl with
  |ret u=>exact I.after z
  |next=>exact abg z
  |brk=>exact abg z
  |cont=>exact abg z
theorem Pg(F:dJ X.prog X.w X.K X.mg X.base CX k f fd ps sp)(Z:jh k X.A)(hg:Gl X x)(V:X.mg x=ac (.ref f))(hk:acS X.K (.ref f)=ag)(U:Binds X.K fd ps ds)(hd:Vals dvs ds)(hx:Gu CX X E)
  (Y:PA X (e::es) t) (z:1.21=ae:=by decide) (he:YD (e::es) X.env=(ae,eval e X.env)::YD es X.env:=by rfl) (a0:(Z4 pos (YD es X.env)).any (·.1)=ae:=by rfl) :
  PE X (.Call (.Name x p) (e::es) [] pos) (RL sp dvs E t):=by
 intro pins s σ H Q I h;refine aaJ (Ha I hg V ?_ z);refine PySem.W.callWith_K (h₀:=X.base) I.ok.mod.kin hk (thn (Y pos pins s σ H _ I h) λus s1 ⟨O,H1,B,r,q⟩=>⟨B.kIn,?_⟩) he a0;exact Ui F Z U hd hx B r q
end
structure bA(N P:List Str)(sc:Scope):Prop where
 kind:sc.kind= .function
 co:sc.isCoroutine=ae
 gen:sc.isGenerator=ae
 nd:N.Nodup
 pre:N.take P.length=P
 par:∀x∈P,sc.names.lookup x=ac .local∨sc.names.lookup x=ac .cell
 nofree:∀y∈sc.names,y.2≠.free
theorem w5:∀{binds:List (Str×Value)}{m:Str->Option Value},(∀v,(x,v)∉binds)->bindL q binds m x=m x
 |[],_,_=>rfl
 |(n,v)::r,m,h=>by
  unfold bindL;rw[w5 λw O=>h w (Y8 _ O)];split
  .have:x≠n:=by rintro rfl;exact h v Zo
   simp[this]
  .rfl
theorem yf:∀{binds:List (Str×Value)}{m:Str->Option Value},(∀v,(x,v)∉binds)->bindC q binds m x=m x
 |[],_,_=>rfl
 |(n,v)::r,m,h=>by
  unfold bindC;rw[yf λw O=>h w (Y8 _ O)];split
  .rfl
  .have:x≠n:=by rintro rfl;exact h v Zo
   simp[this]
theorem yh{q:Str->Option aaP}{x:Str}{v:Value}:∀{P:List Str}{O:List Value}{i:Nat}{m:Str->Option Value},P.Nodup->P[i]? =ac x->O[i]? =ac v->q x=ac .local->
  bindL q (P.zip O) m x=ac v
 |[],_,_,_,_,h,_,_=>by simp at h
 |_::_,[],_,_,_,_,h,_=>by simp at h
 |p::P,w::O,0,m,nd,h1,h2,hk=>by
  simp at h1 h2;subst h1;subst h2;show bindL q ((p,w)::P.zip O) m p=_;unfold bindL;rw[w5 λv B=>(Y5.mp nd).1 (ab1 B).1,YH hk];simp
 |p::P,w::O,i+1,m,nd,h1,h2,hk=>by
  show bindL q ((p,w)::P.zip O) m x=_;unfold bindL;exact yh (i:=i) (Y5.mp nd).2 (by simpa using h1) (by simpa using h2) hk
theorem xN{q:Str->Option aaP}{x:Str}{v:Value}:∀{P:List Str}{O:List Value}{i:Nat}{m:Str->Option Value},P.Nodup->P[i]? =ac x->O[i]? =ac v->q x≠ac .local->
  bindC q (P.zip O) m x=ac v
 |[],_,_,_,_,h,_,_=>by simp at h
 |_::_,[],_,_,_,_,h,_=>by simp at h
 |p::P,w::O,0,m,nd,h1,h2,hk=>by
  simp at h1 h2;subst h1;subst h2;show bindC q ((p,w)::P.zip O) m p=_;unfold bindC;rw[yf λv B=>(Y5.mp nd).1 (ab1 B).1,Y4 hk];simp
 |p::P,w::O,i+1,m,nd,h1,h2,hk=>by
  show bindC q ((p,w)::P.zip O) m x=_;unfold bindC;exact xN (i:=i) (Y5.mp nd).2 (by simpa using h1) (by simpa using h2) hk
def start(N:List Str)(O:List V):St:=O.map ac++Zb (N.length-O.length) af
noncomputable def wR(CX:CXT)(P:Y7)(w:World)(K:YC)(mg:Str->Option Value)(base:Heap)(N:List Str)(qual:Str)(scope:Scope)(f:Addr)(B:Value)(A:Zx)(outer:List Env)(s:Ym)(H:Hp)(E:XK):Cx where
 prog:=P
 w:=w
 K:=K
 mg:=mg
 base:=base
 A:=A.deeper (abS qual scope s.heap.objs.size f B)
 N:=N
 s₀:=s
 H₀:=H
 env:=abS qual scope s.heap.objs.size f B
 outer:=outer
 stack:=abS qual scope s.heap.objs.size f B::outer
 ex:=[]
 calm:=ag
 fn:=λ_=>ag
 pn:=[]
 xe:=λe s'=>wpAny (model P w) (A.deeper (abS qual scope s.heap.objs.size f B)) (leaving (abS qual scope s.heap.objs.size f B) e) (λ_ q=>CX outer H s E e q) (λe' q=>CX outer H s E e' q) s'
theorem CT(h:z.names.lookup x=ac .cell):∃c,(aag n z.names []).lookup x=ac c:=by
 have q:=ad2 z.names n [] (.inl h);exact aaq.mp q
theorem Iz{K:YC}{B:Value}{outer:List Env}{s Z:Ym}{E:XK}{O:List V}
  (S:bA N ps scope) (hd:A.handled=af) (I:PN P w K mg base A outer s H) (hl:O.length=ps.length) (r:Vals O us)
  (x:InCallC s s.heap.objs.size (bindL (abS qual scope s.heap.objs.size f B).kindOf (ps.zip us) λ_=>af) (aag (s.heap.objs.size+1) scope.names []) (bindC (abS qual scope s.heap.objs.size f B).kindOf (ps.zip us) λ_=>af) Z) :
  Inv (wR CX P w K mg base N qual scope f B A outer s H E) [] (start N O) H Z:=by
 have a1:ps.length<=N.length:=by have:=congrArg aaF S.pre;rw[aaa]at this;omega
 obtain⟨h1,tk,rfl,hk⟩:=x.done;have F:∀b:Addr,b∉(wR CX P w K mg base N qual scope f B A outer s H E).ex:=λb z=>absurd (show b∈([]:List Addr)from z) (by simp);refine⟨⟨I.mod,S.kind,rfl,rfl,YB _,λy z c h1 h2=>?_,λy hy=>?_,λy c _ h=>?_,λ_=>hd,Around.frames_deeper I.frames,.inr ⟨rfl,rfl⟩,λb z=>absurd z (F b),I.bs,I.bsz,λb _ _=>F b,λb z=>absurd z (F b),I.funs,I.frf⟩,
  rfl,I.bare,Un.kept hk,⟨_,x.toInCall.ns,λi y v h1 h2 h3=>?_⟩,λy c h=>⟨_,x.cell y c h⟩,I.hok.fresh (YB _),λy c h=>?_,λp hp=>absurd (show p∈([]:List (Addr×Obj))from hp) (by simp),I.hok.kept hk,?_⟩
 .exact name_of_addr x.apart (aaZ h1) (aaZ h2)
 .have hy:scope.names.lookup y=ac .cell∨scope.names.lookup y=ac .free:=hy
  rcases hy with hy|hy
  .exact CT hy
  .exact absurd rfl (S.nofree _ (aaZ hy))
 .exact aa3 (x.above y c (aaZ h))
 .have hi:i<O.length:=by
   unfold start at h2;by_cases hi:i<O.length
   .exact hi
   .rw[ZM (by simpa using hi)]at h2
    rw[adO]at h2;split at h2<;>cases h2
  have Y:O[i]? =ac v:=by
   unfold start at h2;rw[Zm (by simpa using hi),List.getElem?_map]at h2;cases e:O[i]? with
   |none=>rw[e]at h2;cases h2
   |some a=>rw[e]at h2;cases h2;rfl
  obtain⟨u,hu,U⟩:=r.get Y;have hp:ps[i]? =ac y:=by
   rw[←S.pre,List.getElem?_take_of_lt 1.10];exact h1
  have a0:ps.Nodup:=by rw[←S.pre];exact S.nd.sublist (ae5 _ _)
  refine⟨u,U,?_⟩;rcases S.par y (Y0 hp)with k|k
  .exact .inl ⟨k,yh a0 hp hu k⟩
  .obtain⟨c,e⟩:=CT (n:=s.heap.objs.size+1) k
   refine .inr ⟨.inl k,c,e,?_⟩;have q:=x.cell y c e;rw[xN a0 hp hu (by show scope.names.lookup y≠_;rw[k];decide)]at q;exact q
 .exact I.hok.fresh (aa3 (x.above y c (aaZ h)))
 .unfold start
  show _=N.length;rw[Zd,Yt,List.length_replicate];omega
theorem Xl{K:YC}{Y:Arguments}{dV kV doc pm cdv ct:Value}{an od:Option Addr}
    {sp:Sp} (lk:K.lookup f=ac ⟨oc,od,.func (ab7 name qual Y body scope dV kV doc pm an cdv ct),osl⟩) (a2:aed K cdv qual=ag) (S:bA N ps scope)
  (len:∀O H Q E,sp O H Q E->O.length=ps.length)
  (z:∀(A:Zx)(outer:List Env)(s:Ym)(H:Hp)(O:List V)(Q:VK)(E:XK),jh k (A.deeper (abS qual scope s.heap.objs.size f cdv))->sp O H Q E->
   ∃t,PSs (wR CX P w K mg base N qual scope f cdv A outer s H E) body t/\t {nx:=λ_ H'=>Q .non H',rt:=Q} (start N O) H) :
  dJ P w K mg base CX (k+1) f (ab7 name qual Y body scope dV kV doc pm an cdv ct) ps sp:=by
 refine⟨len,λA outer s H args us O Q E Z e0 U r B=>?_⟩;have hl:=len _ _ _ _ B;have KX:K.In s.heap:=e0.mod.kin.keeps λb o e=>(e0.bs b o e).1;have a1:s.heap.NoLimit:=e0.mod.nolimit.keeps λb o e=>(e0.bs b o e).1;have a0:∀y∈ps.zip us,scope.names.lookup y.1=ac .local∨(scope.names.lookup y.1=ac .cell/\((aag (s.heap.objs.size+1) scope.names []).lookup y.1).isSome=ag):=λ⟨n,v⟩ hy=>by
  rcases S.par n (ab1 hy).1 with q|q
  .exact .inl q
  .exact .inr ⟨q,ad2 _ _ _ (.inl q)⟩
 refine codeAny_call_function Z.depth (KX _ _ lk) rfl S.co S.gen rfl (PySem.W.codeRec_of KX a2) (U _ _ _ _ ?_);refine wpAny_newFunctionEnv_cells S.kind a0 λenv he s1 x=>?_;subst he;refine⟨a1.keeps x.toInCall.keep,codeAny_func ?_⟩;obtain⟨t,ht,hq⟩:=z A outer s H O Q E (Z.deeper _) B;have I:Inv (wR CX P w K mg base N qual scope f cdv A outer s H E) [] (start N O) H s1:=Iz S Z.hd e0 hl r x;refine Z9 (ht [] s1 (start N O) H _ I hq) (λfl s' hs=>?_) λe s' hs=>hs;have fin:∀{F:St}{H':Hp}{v:V}{u:Value},Inv (wR CX P w K mg base N qual scope f cdv A outer s H E) [] F H' s'->RelV v u->Q v H'->CE outer P w H s Q u s':=
  λ{F H' v u} J rv q=>⟨v,H',J.os,J.bare,J.base,J.hok,rv,q⟩
 cases fl with
 |ret u=>
  obtain⟨v,F,H',J,rv,q⟩:=hs;exact fin J rv q
 |next=>
  obtain⟨F,H',J,q⟩:=hs;exact fin (v:=V.non) (u:=Z8) J rfl q
 |brk=>
  obtain⟨_,_,_,q⟩:=hs;exact abg q
 |cont=>
  obtain⟨_,_,_,q⟩:=hs;exact abg q
section
variable{X:Cx}{x:Str}{p pos:Pos}{e:Expr}{es:List Expr}{t:TA}{id T:String}{r:List V->Hp->VK->Prop}
def tCB(r:List V->Hp->VK->Prop)(t:TA):TE:=λσ H Q=>t σ H λO H1=>r O H1 Q
theorem Mj(B:gh X (.builtin id) r)(F:Gl X x)(V:X.mg x=af)(hv:aaD x=ac (.builtin id))(Y:PA X (e::es) t)(hn:x≠"__name__":=by decide)(U:1.21=ae:=by decide)
  (he:YD (e::es) X.env=(ae,eval e X.env)::YD es X.env:=by rfl) (q:(Z4 pos (YD es X.env)).any (·.1)=ae:=by rfl):PE X (.Call (.Name x p) (e::es) [] pos) (tCB r t):=by
 intro pins s σ H Q I h;refine aaJ (lC I F V hv ?_ hn U);exact PyProof.Rows.callWith_builtin1 (thn (Y pos pins s σ H _ I h) λus Z ⟨O,H1,I1,z,q1⟩=>B pins Z σ H1 O us Q I1 z q1) he q
theorem xZ(B:gh X (.type T) r)(F:Gl X x)(V:X.mg x=af)(hv:aaD x=ac (.type T))(Y:PA X (e::es) t)(hn:x≠"__name__":=by decide)(U:1.21=ae:=by decide)
  (he:YD (e::es) X.env=(ae,eval e X.env)::YD es X.env:=by rfl) (q:(Z4 pos (YD es X.env)).any (·.1)=ae:=by rfl):PE X (.Call (.Name x p) (e::es) [] pos) (tCB r t):=by
 intro pins s σ H Q I h;refine aaJ (lC I F V hv ?_ hn U);exact aaB (thn (Y pos pins s σ H _ I h) λus Z ⟨O,H1,I1,z,q1⟩=>B pins Z σ H1 O us Q I1 z q1) he q
end
end L2
namespace HT
open PySem PyProof.Rows
theorem cat_tup{t b:Addr}{O q:List Value}(ht:IsTup s.heap t O.toArray)(U:IsTup s.heap b q.toArray)(hv:O≠[])
  (h1:q=[]->Q (.ref t) s) (h2:q≠[]->Q (.ref s.heap.objs.size) {s with heap:=s.heap.push {cls:=.type "tuple",data:=.seq (O++q).toArray}})
  (hsz:O.length+q.length<=Yx):wpAny 1.16 A (aah .Add (.ref t) (.ref b)) Q E s:=by
 obtain⟨⟨cls,Y,data,sl⟩,I,B,n,hd⟩:=id ht;obtain⟨⟨a4,z,a3,a1⟩,a0,V,Z,a2⟩:=id U;simp only at B hd V a2;subst B hd V a2;have e:O.toArray++q.toArray=(O++q).toArray:=by simp
 by_cases hw:q=[]
 .exact aeO ⟨_,I,rfl⟩ ⟨_,a0,rfl⟩ adD aeA acu acj (ab8 _ _)
   (tuple_addW1 t b O.toArray q.toArray n Z Y z sl a1 (by simpa using hv) (by simp[hw])) ⟨I,a0,h1 hw⟩
 .refine aeO ⟨_,I,rfl⟩ ⟨_,a0,rfl⟩ adD aeA acu acj (ab8 _ _)
   (tuple_addW2 t b O.toArray q.toArray n Z Y z sl a1 (by simpa using hv) (by simpa using hw) (by rw[List.size_toArray,List.size_toArray];exact hsz)) ⟨I,a0,?_⟩
  rw[e];exact h2 hw
def sIx(n d:Nat):Option Int->Nat
 |none=>d
 |some v=>if v<0 then(v+(n:Int)).toNat else min v.toNat n
theorem sIx_none(n d:Nat):sIx n d af=d:=rfl
theorem sIx_nat(n d k:Nat):sIx n d (ac (k:Int))=min k n:=by
 show(if(k:Int)<0 then((k:Int)+(n:Int)).toNat else min (k:Int).toNat n)=min k n;rw[Y4 1.10,aad]
end HT
namespace L2
open PySem PySem.Spec PyProof.Rows
abbrev TO:=St->Hp->(Option Int->Hp->Prop)->Prop
def PO(X:Cx)(e:Option Expr)(t:TO):Prop:=
 ∀(pins:List (Addr×Obj))(s:Ym)(σ:St)(H:Hp)(Q:Option Int->Hp->Prop),Inv X pins σ H s->t σ H Q->
  wpAny 1.13 X.A (evalPart e X.env) (λu s'=>∃o H',Inv X pins σ H' s'/\IsPart u o/\Q o H') X.xe s
def Rm:TO:=λ_ H Q=>Q af H
def Wj(t:TE):TO:=λσ H Q=>t σ H λx H1=>∃i,x= .int i/\Q (ac i) H1
section
variable{X:Cx}{e:Expr}{te:TE}{lo hi:Option Expr}{tl th:TO}{pos p2:Pos}
theorem OD:PO X af Rm:=by
 intro pins s σ H Q I h;rw[evalPart_none];exact Yq ⟨af,H,I,.none,h⟩
theorem Qi(h:PE X e te):PO X (ac e) (Wj te):=by
 intro pins s σ H Q I O;rw[evalPart_some];refine thn (h pins s σ H _ I O) λu Z ⟨x,H1,B,z,q1⟩=>?_;obtain⟨i,rfl,q⟩:=q1;obtain⟨t,rfl⟩:=z;exact⟨ac i,H1,B,.int i t,q⟩
def SlR(X:Cx)(r:V->Option Int->Option Int->Hp->VK->Prop):Prop:=
 ∀(pins:List (Addr×Obj))(s:Ym)(σ:St)(H:Hp)(x:V)(v vl B:Value)(lo hi:Option Int)(sl:Addr)(Q:VK),Inv X pins σ H s->RelV x v->s.heap.IsSliceOf sl vl B .none->IsPart vl lo->IsPart B hi->r x lo hi H Q->
  ∃T id,typeLookup (.type T) "__getitem__"=pure (ac (.builtin id))/\s.TypeIs v T/\wpAny 1.13 X.A (getItem v (.ref sl)) (EP X pins σ Q) X.xe s
def tSl(r:V->Option Int->Option Int->Hp->VK->Prop)(te:TE)(tl th:TO):TE:=λσ H Q=>te σ H λx H1=>tl σ H1 λl H2=>th σ H2 λu Y=>r x l u Y Q
theorem K_{r:V->Option Int->Option Int->Hp->VK->Prop}(Z:SlR X r)(O:PE X e te)(hl:PO X lo tl)(hu:PO X hi th):PE X (.Subscript e (.Slice lo hi af p2) pos) (tSl r te tl th):=by
 intro pins s σ H Q I h;refine Subscript_ (thn (O pins s σ H _ I h) λv s1 ⟨x,H1,B,z,q1⟩=>?_);refine wpAny_Slice (thn (hl pins s1 σ H1 _ B q1) λvl s2 ⟨l,H2,I2,pl,q2⟩=>thn (hu pins s2 σ H2 _ I2 q2) λvu s3 ⟨u,Y,I3,pu,q3⟩=>?_);rw[evalPart_none];refine Yq ?_;have I4:Inv X pins σ Y {s3 with heap:=s3.heap.push {cls:=.type "slice",data:=.fields #[vl,vu,.none]}}:=I3.kept (t':=s3.toks) λb ob q=>Yp _ q;obtain⟨T,id,hT,U,F⟩:=Z pins {s3 with heap:=s3.heap.push {cls:=.type "slice",data:=.fields #[vl,vu,.none]}} σ Y x v vl vu l u s3.heap.objs.size Q I4 z (Heap.IsSliceOf.new ..) pl pu q3;show wpAny 1.13 X.A (subscriptTail e (.Slice lo hi af p2) v (.ref s3.heap.objs.size)) (EP X pins σ Q) X.xe {s3 with heap:=s3.heap.push {cls:=.type "slice",data:=.fields #[vl,vu,.none]}};exact tail_any (ops:=[.ref s3.heap.objs.size,v]) U hT F (by with_unfolding_all rfl)
def Jd(xs:List V)(lo hi:Option Int):List V:=(xs.drop (HT.sIx xs.length 0 lo)).take (HT.sIx xs.length xs.length hi-HT.sIx xs.length 0 lo)
theorem Cq(xs:List V)(lo hi:Option Int):(Jd xs lo hi).length<=xs.length:=by
 unfold Jd;rw[aaa,abn];omega
def Xx(K:YC):R2:=λx y H Q=>∃a b xs ys,x= .ref a/\y= .ref b/\SqT K H a xs/\SqT K H b ys/\xs≠[]/\xs.length+ys.length<=Yx/\
 (ys=[]->Q (.ref a) H)/\(ys≠[]->∀p,H p=af->Q (.ref p) (upd H p (.tup (xs++ys))))
theorem Vals.nil_iff{xs:List V}{us:List Value}(r:Vals xs us):us=[]↔xs=[]:=by
 cases r with
 |nil=>simp
 |cons _ _=>simp
theorem Qx:OpR X (aah .Add) (Xx X.K):=by
 intro pins s σ H x y v u Q I rx B h;obtain⟨a,b,xs,ys,rfl,rfl,Y,U,F,hz,q1,q2⟩:=h;cases rx;cases B;obtain⟨its,Z,p1,_⟩:=I.tuple Y;obtain⟨O,V,p2,_⟩:=I.tuple U;refine HT.cat_tup p1 p2 (λz=>F (Z.nil_iff.mp z)) (λz=>⟨.ref a,H,I,rfl,q1 (V.nil_iff.mp z)⟩) (λz=>?_) (by rw[←Z.length,←V.length];exact hz);refine⟨.ref s.heap.objs.size,_,I.laid (t':=s.toks) (o:=.tup (xs++ys)) (λb ob q=>Yp _ q) (YB _) ?_,rfl,q2 (λw=>z (V.nil_iff.mpr w)) _ (I.hok.fresh (YB _))⟩;exact⟨by rw[Zd];exact hz,_,Z.append V,o7.new _ _⟩
end
def ixN(n:Nat)(i:Int):Option Nat:=if 0<=i then(if i<n then ac i.toNat else af)else if -(n:Int)<=i then ac (i+n).toNat else af
def atI(xs:List α)(i:Int):Option α:=(ixN xs.length i).bind λj=>xs[j]?
variable{i:Int}
theorem zQ(h:ixN n i=ac j):seqIndex? i n=ac j/\j<n/\-(n:Int)<=i/\i<n:=by
 unfold ixN at h;by_cases B:0<=i
 .rw[YH B]at h
  by_cases h1:i<n
  .rw[YH h1]at h
   have e:i.toNat=j:=Zr h;exact⟨by rw[afc B h1,e],by omega,by omega,h1⟩
  .rw[Y4 h1]at h;cases h
 .rw[Y4 B]at h
  by_cases h1: -(n:Int)<=i
  .rw[YH h1]at h
   have e:(i+n).toNat=j:=Zr h;exact⟨by rw[aeP 1.10 h1,e],by omega,h1,by omega⟩
  .rw[Y4 h1]at h;cases h
theorem Be{xs:List α}{v:α}(h:atI xs i=ac v):∃j,seqIndex? i xs.length=ac j/\xs[j]? =ac v/\j<xs.length/\-(xs.length:Int)<=i/\i<xs.length:=by
 unfold atI at h;cases e:ixN xs.length i with
 |none=>rw[e]at h;cases h
 |some j=>
  rw[e]at h;obtain⟨h1,h2,Y,F⟩:=zQ e;exact⟨j,h1,h,h2,Y,F⟩
def um(b:Expr):Prop:=∀o i,subscripted b ae o i=operate [o,i] (getItem o i)
def IxR(X:Cx)(r:R2):Prop:=
 ∀(U O:Expr)(pins:List (Addr×Obj))(s:Ym)(σ:St)(H:Hp)(x y:V)(v u:Value)(Q:VK),Inv X pins σ H s->RelV x v->RelV y u->r x y H Q->
  subscripted O ae v u=operate [v,u] (getItem v u)->wpAny 1.13 X.A (subscriptTail U O v u) (EP X pins σ Q) X.xe s
def MtR(X:Cx)(id:String)(r:V->List V->Hp->VK->Prop):Prop:=
 ∀(pins:List (Addr×Obj))(s:Ym)(σ:St)(H:Hp)(x:V)(xs:List V)(v:Value)(us:List Value)(Q:VK),Inv X pins σ H s->RelV x v->Vals xs us->r x xs H Q->
  wpAny 1.13 X.A (call (.builtin id) (v::us)) (EP X pins σ Q) X.xe s
section
variable{X:Cx}{a b:Expr}{ta tb:TE}{pos:Pos}
theorem IxR.or{r Z:R2}(h:IxR X r)(h':IxR X Z):IxR X (λx y H Q=>r x y H Q∨Z x y H Q):=by
 intro U O pins s σ H x y v u Q I rx B q hs;rcases q with q|q
 .exact h U O pins s σ H x y v u Q I rx B q hs
 .exact h' U O pins s σ H x y v u Q I rx B q hs
theorem Mt{r:R2}(Z:IxR X r)(Y:PE X a ta)(U:PE X b tb)(hs:um b):PE X (.Subscript a b pos) (tOp r ta tb):=by
 intro pins s σ H Q I h;exact Subscript_ (Ul Y U I h λv u O x y H2 V rx B q=>Z a b pins O σ H2 x y v u Q V rx B q (hs _ _))
def WW(K:YC):R2:=λx y H Q=>∃p xs i v,x= .ref p/\y= .int i/\SqL K H p xs/\atI xs i=ac v/\Q v H
def Vz(K:YC):R2:=λx y H Q=>∃p xs i v,x= .ref p/\y= .int i/\SqT K H p xs/\atI xs i=ac v/\Q v H
def WT:R2:=λx y H Q=>∃z i c,x= .str z/\y= .int i/\z.length<=Yx/\atI z.cps.toList i=ac c/\Q (.str ⟨#[c]⟩) H
theorem Px:IxR X (WW X.K):=by
 intro a0 a1 pins s σ H x y v u Q I rx B h hs;obtain⟨p,xs,i,z,rfl,rfl,U,O,q⟩:=h;cases rx;obtain⟨t,rfl⟩:=B;obtain⟨its,r,pl,hz⟩:=I.list U;obtain⟨j,h1,h2,Y,F,h5⟩:=Be O;obtain⟨w,ew,V⟩:=r.get h2;have Z:=r.length;have hn:=o6;have fin:EP X pins σ Q w s:=⟨z,H,I,V,q⟩;by_cases h0:0<=i
 .have hj:i.toNat=j:=by
   rw[afc h0 h5]at h1;exact Zr h1
  exact item_listR pl.isList h0 1.10 (by rw[hj];simpa using ew) fin hs
 .have hj:(i+(its.toArray.size:Int)).toNat=j:=by
   rw[aeP 1.10 F]at h1;rw[List.size_toArray,←Z];exact Zr h1
  exact ad3 (x:=w) pl.isList.typeIs slot_list_getitem.lookup
   (wpAny_getItem_list_neg (Q:=λr s'=>r=w/\EP X pins σ Q r s') pl.isList 1.10 (by rw[List.size_toArray]<;>omega) 1.10 (by rw[hj];simpa using ew) ⟨rfl,fin⟩) hs
theorem TV:IxR X (Vz X.K):=by
 intro a0 a1 pins s σ H x y v u Q I rx B h hs;obtain⟨p,xs,i,z,rfl,rfl,U,O,q⟩:=h;cases rx;obtain⟨t,rfl⟩:=B;obtain⟨its,r,pl,hz⟩:=I.tuple U;obtain⟨j,h1,h2,Y,F,h5⟩:=Be O;obtain⟨w,ew,V⟩:=r.get h2;have Z:=r.length;have hn:=o6;have fin:EP X pins σ Q w s:=⟨z,H,I,V,q⟩;exact ad3 (x:=w) pl.typeIs slot_tuple_getitem.lookup
  (getItem_tuple (j:=j) (Q:=λr s'=>r=w/\EP X pins σ Q r s') pl 1.10 1.10 (by rw[List.size_toArray,←Z];exact h1) (by simpa using ew) ⟨rfl,fin⟩) hs
theorem Uk:IxR X WT:=by
 intro V a0 pins s σ H x y v u Q I rx B h hs;obtain⟨z,i,c,rfl,rfl,hz,O,q⟩:=h;obtain⟨t,rfl⟩:=rx;obtain⟨t',rfl⟩:=B;obtain⟨j,h1,h2,Y,F,U⟩:=Be O;have Z:z.cps.toList.length=z.length:=by simp[Str.length]
 rw[Z]at h1 F U;have hn:=o6;exact tail_any (typeIs_str s z t) slot_str_getitem.lookup (getItem_str (c:=c) (by
  have e1:decide (i< -(2 ^ 63:Int))=ae:=Zc 1.10;have e2:decide (i>=2 ^ 63)=ae:=Zc 1.10;rw[e1,e2,Bool.or_false]) (by rw[h1];simpa using h2) ⟨.str ⟨#[c]⟩,H,I.tok _,⟨_,rfl⟩,q⟩) hs
def rIx(K:YC):R2:=λx y H Q=>WW K x y H Q∨Vz K x y H Q∨WT x y H Q
theorem Tg:IxR X (rIx X.K):=Px.or (TV.or Uk)
theorem Ef(its:List Value)(n j:Nat)(u:Value):aa2 (·.setIfInBounds j u) {cls:=.type "list",data:=.seq its.toArray n}={cls:=.type "list",data:=.seq (its.set j u).toArray n}:=by
 simp[aa2]
theorem Inv.lst{pins:List (Addr×Obj)}{σ:St}{H:Hp}{s:Ym}{p:Addr}{xs:List V}(I:Inv X pins σ H s)(h:H p=ac (.lst xs)) :
  ∃(its:List Value)(n:Nat),Vals xs its/\s.heap.get? p=ac {cls:=.type "list",data:=.seq its.toArray n}/\xs.length<=Yx:=by
 obtain⟨z,its,n,r,e⟩:=I.hok p _ h;exact⟨its,n,r,e,z⟩
theorem Inv.lstUpd{pins:List (Addr×Obj)}{σ:St}{H:Hp}{s:Ym}{p:Addr}{xs ys:List V}{its its':List Value}{n B:Nat}{f:Obj->Obj}(I:Inv X pins σ H s)(h:H p=ac (.lst xs))
  (z:s.heap.get? p=ac {cls:=.type "list",data:=.seq its.toArray n}) (Y:f {cls:=.type "list",data:=.seq its.toArray n}={cls:=.type "list",data:=.seq its'.toArray B}) (r:Vals ys its') (hz:ys.length<=Yx) (t:Nat) :
  Inv X pins σ (upd H p (.lst ys)) {s with heap:=s.heap.update p f,toks:=t}:=by
 have e:(s.heap.update p f).get? p=ac {cls:=.type "list",data:=.seq its'.toArray B}:=by
  rw[aa9 f z (by rw[Y]<;>rfl),Y]
 refine I.write (x:=p) (e:=p) (by rw[h];trivial) (.inl rfl) (λb u U q=>(ZR _ _ (Zy U)).trans q) ⟨_,e⟩ ?_;exact⟨hz,its',B,r,e⟩
def Ry:V->V->V->Hp->(Hp->Prop)->Prop:=λo i v H Q=>∃p xs k j,o= .ref p/\i= .int k/\H p=ac (.lst xs)/\ixN xs.length k=ac j/\Q (upd H p (.lst (xs.set j v)))
theorem set_list:Qk X Ry:=by
 intro pins s σ H o i v O iv u Q I ro ri U h;obtain⟨p,xs,k,j,rfl,rfl,V,hj,q⟩:=h;cases ro;obtain⟨t,rfl⟩:=ri;obtain⟨its,n,r,z,hz⟩:=I.lst V;obtain⟨h1,h2,Y,F⟩:=zQ hj;have Z:=r.length;have hn:=o6;have I':Inv X pins σ (upd H p (.lst (xs.set j v))) {s with heap:=s.heap.update p (aa2 (·.setIfInBounds j u))}:=
  I.lstUpd V z (Ef its n j u) (r.set U j) (by rw[afp];exact hz) s.toks
 by_cases B:0<=k
 .have hk:k.toNat=j:=by
   rw[afc B F]at h1;exact Zr h1
  exact PySem.W.ki_setAt z B 1.10 (by rw[List.size_toArray,←Z];exact F) (by rw[hk];exact⟨_,I',q⟩)
 .have hk:(k+(its.toArray.size:Int)).toNat=j:=by
   rw[aeP 1.10 Y]at h1;rw[List.size_toArray,←Z];exact Zr h1
  exact PySem.W.ki_setBack z 1.10 (by rw[List.size_toArray,←Z];exact Y) 1.10 (by rw[hk];exact⟨_,I',q⟩)
theorem yF(lo hi:Option Int)(n:Nat):(abV lo hi af n).1=((HT.sIx n 0 lo:Nat):Int)/\(abV lo hi af n).2.1=((HT.sIx n n hi:Nat):Int)/\(abV lo hi af n).2.2=1:=by
 refine⟨?_,?_,rfl⟩
 .cases lo with
  |none=>simp[abV,HT.sIx]
  |some i=>
   simp![abV,HT.sIx,acC,show(1:Int)>0 by decide,Y6];by_cases h:i<0
   .simp![h,Y6]<;>omega
   .simp![h,abo]<;>omega
 .cases hi with
  |none=>simp[abV,HT.sIx]
  |some i=>
   simp![abV,HT.sIx,acC,show(1:Int)>0 by decide,Y6];by_cases h:i<0
   .simp![h,Y6]<;>omega
   .simp![h,abo]<;>omega
theorem wA(its:List Value)(lo hi:Option Int):slicePick its.toArray lo hi af=((its.drop (HT.sIx its.length 0 lo)).take (HT.sIx its.length its.length hi-HT.sIx its.length 0 lo)).toArray:=by
 obtain⟨h1,h2,Y⟩:=yF lo hi its.toArray.size;unfold slicePick;rw[h1,h2,Y];simp![sliceRange_one,pick_run,List.size_toArray]<;>rfl
def Wu(K:YC):V->Option Int->Option Int->Hp->VK->Prop:=λx lo hi H Q=>∃a xs,x= .ref a/\SqL K H a xs/\∀p,H p=af->Q (.ref p) (upd H p (.lst (Jd xs lo hi)))
theorem Qo:SlR X (Wu X.K):=by
 intro pins s σ H x v vl B lo hi sl Q I rx hs pl O h;obtain⟨a,xs,rfl,F,q⟩:=h;cases rx;obtain⟨its,r,U,hz⟩:=I.list F;have z:=r.length;refine⟨"list",_,slot_list_getitem.lookup,U.isList.typeIs,?_⟩;refine wpAny_getItem_list_slice U.isList hs pl O .none (by simp) ?_ (by rw[List.size_toArray]<;>omega);rw[wA,←z];refine⟨.ref s.heap.objs.size,_,I.laid (t':=s.toks) (o:=.lst (Jd xs lo hi)) (λb ob q=>Yp _ q) (YB _) ?_,rfl,q _ (I.hok.fresh (YB _))⟩;exact⟨ZJ (Cq xs lo hi) hz,_,0,(r.drop (HT.sIx xs.length 0 lo)).take (HT.sIx xs.length xs.length hi-HT.sIx xs.length 0 lo),YG _ rfl⟩
def lM:V->Bool
 |.non=>ag
 |.bl _=>ag
 |.int _=>ag
 |.str _=>ag
 |_=>ae
def eqV:V->V->Bool
 |.non,.non=>ag
 |.bl a,.bl b=>a==b
 |.bl a,.int b=>(if a then 1 else 0)==b
 |.int a,.bl b=>a==(if b then 1 else 0)
 |.int a,.int b=>a==b
 |.str a,.str b=>a==b
 |_,_=>ae
theorem Uu{A:Zx}{s:Ym}{y x:V}{u v:Value}(B:RelV y u)(rx:RelV x v)(F:lM y=ag)(fx:lM x=ag):SeqAt.EqAt A s u v (eqV y x):=by
 cases y with
 |non=>
  cases B;cases x with
  |non=>cases rx;exact SeqAt.EqAt.same _
  |bl b=>cases rx;exact SeqAt.EqAt.none_bool b
  |int b=>obtain⟨t,rfl⟩:=rx;exact SeqAt.EqAt.none_int b t
  |str b=>obtain⟨t,rfl⟩:=rx;exact SeqAt.EqAt.none_str b t
  |_=>exact absurd (show ae=ag from fx) Zi
 |bl a=>
  cases B;cases x with
  |non=>cases rx;exact SeqAt.EqAt.bool_none a
  |bl b=>cases rx;exact SeqAt.EqAt.bool_bool a b
  |int b=>obtain⟨t,rfl⟩:=rx;exact SeqAt.EqAt.bool_int a b t
  |str b=>obtain⟨t,rfl⟩:=rx;exact SeqAt.EqAt.bool_str a b t
  |_=>exact absurd (show ae=ag from fx) Zi
 |int a=>
  obtain⟨t',rfl⟩:=B;cases x with
  |non=>cases rx;exact SeqAt.EqAt.int_none a t'
  |bl b=>cases rx;exact SeqAt.EqAt.int_bool a t' b
  |int b=>obtain⟨t,rfl⟩:=rx;exact SeqAt.EqAt.int_int a t' b t
  |str b=>obtain⟨t,rfl⟩:=rx;exact aeK a t' b t
  |_=>exact absurd (show ae=ag from fx) Zi
 |str a=>
  obtain⟨t',rfl⟩:=B;cases x with
  |non=>cases rx;exact SeqAt.EqAt.str_none a t'
  |bl b=>cases rx;exact SeqAt.EqAt.str_bool a t' b
  |int b=>obtain⟨t,rfl⟩:=rx;exact aeL a t' b t
  |str b=>obtain⟨t,rfl⟩:=rx;exact SeqAt.EqAt.str_str a t' b t
  |_=>exact absurd (show ae=ag from fx) Zi
 |_=>exact absurd (show ae=ag from F) Zi
def eqU(x:V)(u:Value):Bool:=match u with
 |.none=>eqV .non x
 |.bool b=>eqV (.bl b) x
 |.int i _=>eqV (.int i) x
 |.str z _=>eqV (.str z) x
 |_=>ae
theorem Lk{x y:V}{u:Value}(r:RelV y u)(f:lM y=ag):eqU x u=eqV y x:=by
 cases y with
 |non=>cases r;rfl
 |bl b=>cases r;rfl
 |int i=>obtain⟨t,rfl⟩:=r;rfl
 |str z=>obtain⟨t,rfl⟩:=r;rfl
 |_=>exact absurd (show ae=ag from f) Zi
theorem qe{x:V}:∀{xs:List V}{us:List Value},Vals xs us->xs.all lM=ag->us.any (eqU x)=xs.any λy=>eqV y x
 |_,_,.nil,_=>rfl
 |y::xs,u::us,.cons r t,f=>by
  rw[abT,YS]at f;rw[acA,acA,Lk r f.1,qe t f.2]
theorem lY{A:Zx}{s:Ym}{x:V}{v:Value}(rx:RelV x v)(fx:lM x=ag):∀{xs:List V}{us:List Value},Vals xs us->xs.all lM=ag->∀u∈us,SeqAt.EqAt A s u v (eqU x u)
 |_,_,.nil,_=>λu hu=>by cases hu
 |y::xs,u::us,.cons r t,f=>λu' hu=>by
  rw[abT,YS]at f;rcases Yu.mp hu with rfl|hu
  .rw[Lk r f.1];exact Uu r rx f.1 fx
  .exact lY rx fx t f.2 u' hu
def inV(x:V)(xs:List V):Bool:=xs.any λy=>eqV y x
def rIn(K:YC)(q:Bool):R2:=λx y H Q=>∃p xs,y= .ref p/\(SqL K H p xs∨SqT K H p xs)/\lM x=ag/\xs.all lM=ag/\Q (.bl (if q then !inV x xs else inV x xs)) H
theorem Jl:OpR X (Zf .In) (rIn X.K ae):=by
 intro pins s σ H x y v u Q I rx B h;obtain⟨p,xs,rfl,U,fx,fs,q⟩:=h;cases B;rcases U with U|U
 .obtain⟨its,r,pl,hz⟩:=I.list U
  refine SeqAt.in_listAt (eqU x) pl.isList (λw O=>lY rx fx r fs w (by simpa using O)) ⟨.bl _,H,I,rfl,?_⟩;rw[show its.toArray.any (eqU x)=its.any (eqU x)by simp,qe r fs];exact q
 .obtain⟨its,r,pl,hz⟩:=I.tuple U
  refine SeqAt.in_tupleAt (eqU x) pl (λw O=>lY rx fx r fs w (by simpa using O)) ⟨.bl _,H,I,rfl,?_⟩;rw[show its.toArray.any (eqU x)=its.any (eqU x)by simp,qe r fs];exact q
theorem Ai:OpR X (Zf .NotIn) (rIn X.K ag):=by
 intro pins s σ H x y v u Q I rx B h;obtain⟨p,xs,rfl,U,fx,fs,q⟩:=h;cases B;rcases U with U|U
 .obtain⟨its,r,pl,hz⟩:=I.list U
  refine SeqAt.notIn_listAt (eqU x) pl.isList (λw O=>lY rx fx r fs w (by simpa using O)) ⟨.bl _,H,I,rfl,?_⟩;rw[show its.toArray.any (eqU x)=its.any (eqU x)by simp,qe r fs];exact q
 .obtain⟨its,r,pl,hz⟩:=I.tuple U
  refine SeqAt.notIn_tupleAt (eqU x) pl (λw O=>lY rx fx r fs w (by simpa using O)) ⟨.bl _,H,I,rfl,?_⟩;rw[show its.toArray.any (eqU x)=its.any (eqU x)by simp,qe r fs];exact q
theorem zx:OpR X (Zf .NotIn) (λx y H Q=>∃i j,x= .str i/\y= .str j/\Q (.bl (!(!(ZF j i 0 j.length 1).isEmpty))) H):=by
 show 3;exact notIn_str ⟨.bl _,H,I,rfl,q⟩
theorem Bc:gh X (.builtin "len") (λxs H Q=>∃p ys,xs=[.ref p]/\(SqL X.K H p ys∨SqT X.K H p ys)/\Q (.int ys.length) H):=by
 intro pins s σ H xs us Q I r h;obtain⟨p,ys,rfl,U,q⟩:=h;obtain⟨u,rfl,rx⟩:=vals1 r;cases rx;have hn:=o6;rcases U with U|U
 .obtain⟨its,r',pl,hz⟩:=I.list U
  have z:=r'.length;exact Calls.call_len_list pl.isList (by simp![List.size_toArray]<;>omega) ⟨.int ys.length,H,I.tok _,⟨s.toks+1,by rw[List.size_toArray,z]⟩,q⟩
 .obtain⟨its,r',pl,hz⟩:=I.tuple U
  have z:=r'.length;exact len_tuple pl (by simp![List.size_toArray]<;>omega) ⟨.int ys.length,H,I.tok _,⟨s.toks+1,by rw[List.size_toArray,z]⟩,q⟩
theorem Ae:gh X (.builtin "len") (λxs H Q=>∃z,xs=[.str z]/\z.length<=Yx/\Q (.int z.length) H):=by
 intro pins s σ H xs us Q I r h;obtain⟨z,rfl,hz,q⟩:=h;obtain⟨u,rfl,t,rfl⟩:=vals1 r;have hn:=o6;exact len_str 1.10 ⟨.int z.length,H,I.tok _,⟨_,rfl⟩,q⟩
theorem zA:gh X (.type "list") (λxs H Q=>∃p ys,xs=[.ref p]/\(SqL X.K H p ys∨SqT X.K H p ys)/\∀l,H l=af->Q (.ref l) (upd H l (.lst ys))):=by
 intro pins s σ H xs us Q I r h;obtain⟨p,ys,rfl,U,q⟩:=h;obtain⟨u,rfl,rx⟩:=vals1 r;cases rx;have fin:∀(its:List Value),Vals ys its->ys.length<=Yx->∀(h':Heap)(F:Nat),(∀b o',s.heap.get? b=ac o'->h'.get? b=ac o')->
   h'.get? s.heap.objs.size=ac {cls:=.type "list",dict:=af,data:=.seq its.toArray F,slots:=#[]}->EP X pins σ Q (.ref s.heap.objs.size) {s with heap:=h'}:=λits Z hz h' F kp e=>
  ⟨.ref s.heap.objs.size,_,I.laid (t':=s.toks) kp (YB _) (show cG X.prog X.w _ h' _ (.lst ys)from⟨hz,its,F,Z,e⟩),rfl,q _ (I.hok.fresh (YB _))⟩
 rcases U with U|U
 .obtain⟨its,Z,pl,hz⟩:=I.list U
  have z:=Z.length;obtain⟨o,O,B,n,hd⟩:=pl.isList;exact call_list_seq p (.inl rfl) O B hd (λh' F kp e=>fin its Z hz h' F kp e) (by simp![List.size_toArray]<;>omega)
 .obtain⟨its,Z,pl,hz⟩:=I.tuple U
  have z:=Z.length;obtain⟨o,O,B,n,hd⟩:=pl;exact call_list_seq p (.inr rfl) O B hd (λh' F kp e=>fin its Z hz h' F kp e) (by simp![List.size_toArray]<;>omega)
theorem wO:gh X (.type "tuple") (λxs H Q=>∃p ys,xs=[.ref p]/\((SqL X.K H p ys/\∀l,H l=af->Q (.ref l) (upd H l (.tup ys)))∨(SqT X.K H p ys/\Q (.ref p) H))):=by
 intro pins s σ H xs us Q I r h;obtain⟨p,ys,rfl,h⟩:=h;obtain⟨u,rfl,rx⟩:=vals1 r;cases rx;rcases h with⟨U,q⟩|⟨U,q⟩
 .obtain⟨its,r',pl,hz⟩:=I.list U
  have z:=r'.length;refine call_tuple_list pl.isList (λh' kp=>?_) (by simp![List.size_toArray]<;>omega);have B:Inv X pins σ H {s with heap:=h'}:=I.kept (t':=s.toks) kp;have V:Inv X pins σ (upd H h'.objs.size (.tup ys)) {s with heap:=h'.push {cls:=.type "tuple",data:=.seq its.toArray}}:=
   B.laid (t':=s.toks) (λb o e=>Yp _ e) (YB _) (show cG X.prog X.w _ _ _ (.tup ys)from⟨hz,its,r',o7.new _ _⟩)
  exact⟨.ref h'.objs.size,_,V,rfl,q _ (B.hok.fresh (YB _))⟩
 .obtain⟨its,r',pl,hz⟩:=I.tuple U
  exact call_tuple_same pl ⟨.ref p,H,I,rfl,q⟩
def tyV(K:YC)(T:String)(x:V)(H:Hp):Prop:=match x with
 |.str _=>T="str"
 |.int _=>T="int"
 |.ref p=>(T="list"/\∃xs,SqL K H p xs)∨(T="tuple"/\∃o,K.lookup p=ac o/\o.cls= .type "tuple"/\o.dict=af)∨
  (T="dict"/\((∃kvs,H p=ac (.dK kvs))∨∃kvs,H p=ac (.dT kvs)))∨(T="set"/\∃S n,H p=ac (.set S n))
 |_=>False
theorem S_{pins:List (Addr×Obj)}{σ:St}{H:Hp}{s:Ym}{T:String}{x:V}{v:Value}(I:Inv X pins σ H s)(r:RelV x v)(F:tyV X.K T x H) :
  s.TypeIs v T/\∀a,v= .ref a->∃ob,s.heap.get? a=ac ob/\ob.dict=af:=by
 cases x with
 |str z=>
  obtain⟨t,rfl⟩:=r;cases (show T="str" from F);exact⟨typeIs_str s z t,λ_ e=>nomatch e⟩
 |int i=>
  obtain⟨t,rfl⟩:=r;cases (show T="int" from F);exact⟨typeIs_int s i t,λ_ e=>nomatch e⟩
 |ref p=>
  cases r;rcases F with⟨rfl,xs,U⟩|⟨rfl,o,O,B,hd⟩|⟨rfl,O⟩|⟨rfl,S,n,O⟩
  .obtain⟨its,_,pl,_⟩:=I.list U
   refine⟨pl.isList.typeIs,λa e=>?_⟩;cases e;obtain⟨o,n,e,c,hd,_⟩:=pl;exact⟨o,e,hd⟩
  .refine⟨⟨o,I.kIn p o O,B⟩,λa e=>?_⟩
   cases e;exact⟨o,I.kIn _ o O,hd⟩
  .have z:∃o,s.heap.get? p=ac o/\o.ExactDict:=by
    rcases O with⟨kvs,O⟩|⟨kvs,O⟩
    .obtain⟨_,_,_,_,o,_,_,e,ex,_⟩:=I.hok p _ O
     exact⟨o,e,ex⟩
    .obtain⟨_,_,_,_,o,_,_,e,ex,_⟩:=I.hok p _ O
     exact⟨o,e,ex⟩
   obtain⟨o,e,ex⟩:=z;refine⟨⟨o,e,ex.1⟩,λa e2=>?_⟩;cases e2;exact⟨o,e,ex.2.1⟩
  .obtain⟨o,_,_,_,e,ex,_⟩:=I.hok p _ O
   refine⟨⟨o,e,ex.1⟩,λa e2=>?_⟩;cases e2;exact⟨o,e,ex.2.1⟩
 |_=>exact abg F
def tBM(K:YC)(T:String)(r:V->List V->Hp->VK->Prop)(to:TE)(t:TA):TE:=λσ H Q=>to σ H λx H1=>tyV K T x H1/\t σ H1 λxs H2=>r x xs H2 Q
variable{o e:Expr}{es:List Expr}{to:TE}{t:TA}{name:Str}{apos cpos:Pos}{T id:String}{r:V->List V->Hp->VK->Prop}
theorem DK(pa:aer T)(slot:Slot T name id)(a2:typeOf (.builtin id)=pure (.type "method_descriptor"))(V:MtR X id r)(ho:PE X o to)(Y:PA X (e::es) t)
  (a0:abd o name X.env (eval o X.env)=eval o X.env:=by rfl)
  (F:((Z4 cpos (YD (e::es) X.env)).all (λx=>!x.1)&&(acD cpos (abA [] X.env)).all (λx=>x.1.isSome)
   &&decide 1.24)=ag:=by rfl)
  (a1:(apos.endLine==cpos.line)=ag:=by rfl) (hs:YD (e::es) X.env=(ae,eval e X.env)::YD es X.env:=by rfl) (U:(Z4 cpos (YD es X.env)).any (·.1)=ae:=by rfl) :
  PE X (.Call (.Attribute o name apos) (e::es) [] cpos) (tBM X.K T r to t):=by
 intro pins s σ H Q I h;refine ad4 a0 F a1 rfl (thn (ho pins s σ H _ I h) λv Z ⟨x,H1,B,z,ty,q1⟩=>?_);obtain⟨h1,h2⟩:=S_ B z ty;refine⟨T,id,pa,slot,a2,h1,h2,?_⟩;have hA:=Y cpos pins Z σ H1 _ B q1;rw[hs]at hA⊢;refine abB (by show(ae||(Z4 cpos (YD es X.env)).any (·.1))=ae;rw[U]<;>rfl) (abL ?_);exact thn hA λus s2 ⟨O,H2,I2,q,q2⟩=>V pins s2 σ H2 x O v us Q I2 z q q2
end
def MtM(X:Cx)(id:String)(r:V->List V->Hp->VK->Prop):Prop:=
 ∀(pins:List (Addr×Obj))(s:Ym)(σ:St)(H:Hp)(x:V)(xs:List V)(v:Value)(us:List Value)(Q:VK),Inv X pins σ H s->RelV x v->Vals xs us->r x xs H Q->
  wpAny 1.13 X.A (call (.builtin id) (v::us)) (EP X pins σ Q) X.xe s
theorem Vals.one:∀{x:V}{us:List Value},Vals [x] us->∃u,us=[u]/\RelV x u
 |_,_,.cons r .nil=>⟨_,rfl,r⟩
theorem Vals.two:∀{x y:V}{us:List Value},Vals [x,y] us->∃u v,us=[u,v]/\RelV x u/\RelV y v
 |_,_,_,.cons r (.cons q .nil)=>⟨_,_,rfl,r,q⟩
theorem Vals.eraseIdx:∀{xs:List V}{us:List Value}(i:Nat),Vals xs us->Vals (xs.eraseIdx i) (us.eraseIdx i)
 |_,_,_,.nil=>.nil
 |_,_,0,.cons _ t=>t
 |_,_,i+1,.cons r t=>.cons r (Vals.eraseIdx i t)
theorem xW:∀(l:List α)(i:Nat),(l.eraseIdx i).length<=l.length
 |[],_=>YB _
 |_::_,0=>abC _
 |_::r,i+1=>adE (xW r i)
variable{xs ys:List V}{X:Cx}{σ:St}{H:Hp}{l:Addr}
theorem Inv.lset{its':List Value}{f:Array Value->Array Value}(I:Inv X pins σ H s)(F:H l=ac (.lst xs))
  (e:s.heap.get? l=ac {cls:=.type "list",data:=.seq its.toArray n}) (Y:f its.toArray=its'.toArray) (B:Vals ys its') (hz:ys.length<=Yx) :
  Inv X pins σ (upd H l (.lst ys)) {s with heap:=s.heap.update l (aa2 f),toks:=t'}:=by
 have q:=afk e f;rw[Y]at q;refine I.write (x:=l) (e:=l) (by rw[F];exact trivial) (.inl rfl) (λz u U hu=>(ZR s.heap (aa2 f) (Zy U)).trans hu) ⟨_,q⟩ ?_;exact⟨hz,its',_,B,q⟩
theorem Inv.lnew(I:Inv X pins σ H s)(B:Vals ys its)(hz:ys.length<=Yx) :
  Inv X pins σ (upd H s.heap.objs.size (.lst ys)) {s with heap:=s.heap.push {cls:=.type "list",data:=.seq its.toArray},toks:=t'}:=
 I.laid (λ_ _ q=>Yp _ q) (YB _) ⟨hz,its,0,B,YG _ rfl⟩
theorem Inv.fresh(I:Inv X pins σ H s):H s.heap.objs.size=af:=I.hok.fresh (YB _)
theorem Inv.lstM(I:Inv X pins σ H s)(Y:H l=ac (.lst xs)):xs.length<=Yx/\∃(its:List Value)(n:Nat),Vals xs its/\xs.length=its.length/\s.heap.get? l=ac {cls:=.type "list",data:=.seq its.toArray n}:=by
 obtain⟨z,its,n,r,e⟩:=I.hok l _ Y;exact⟨z,its,n,r,r.length,e⟩
theorem K8(h:n<=Yx):ab9 n=ae:=by
 unfold ab9;exact Zc 1.10
def qD:V->List V->Hp->VK->Prop:=λx O H Q=>∃l xs y,x= .ref l/\O=[y]/\H l=ac (.lst xs)/\xs.length<Yx/\Q .non (upd H l (.lst (xs++[y])))
theorem yd:MtM X "list.append" qD:=by
 intro pins s σ H x O v us Q I rx U h;obtain⟨l,xs,y,rfl,rfl,Y,hz,q⟩:=h;cases rx;obtain⟨u,rfl,B⟩:=U.one;obtain⟨z,its,n,r,Z,e⟩:=I.lstM Y;refine adw aeQ ⟨_,e,rfl⟩ aeE (aes _ _) (ae6 l its.toArray n u (by rw[List.size_toArray];omega)) ⟨e,?_⟩;refine⟨.non,_,I.lset (its':=its++[u]) Y e (by simp) (r.append (.cons B .nil)) ?_,rfl,q⟩;rw[Zd,acI];omega
def K6:V->List V->Hp->VK->Prop:=λx O H Q=>∃l xs i k y,x= .ref l/\O=[.int i]/\H l=ac (.lst xs)/\-(2 ^ 63)<=i/\i<2 ^ 63/\seqIndex? i xs.length=ac k/\xs[k]? =ac y/\Q y (upd H l (.lst (xs.eraseIdx k)))
theorem J1:MtM X "list.pop" K6:=by
 intro pins s σ H x O v us Q I rx U h;obtain⟨l,xs,i,k,y,rfl,rfl,Y,h1,h2,hk,V,q⟩:=h;cases rx;obtain⟨u,rfl,ru⟩:=U.one;obtain⟨t,rfl⟩:=ru;obtain⟨z,its,n,r,Z,e⟩:=I.lstM Y;obtain⟨w,hw,B⟩:=r.get V;refine adw F.slot_list_pop ⟨_,e,rfl⟩ F.entry_list_pop (F.args_list_pop_2 _ _)
  (MeetsSeq.list_pop_at l its.toArray n i t k w (fitsIndex_both h1 h2) (by rw[List.size_toArray,←Z];exact hk) (by rw[←aaK];exact hw) (by rw[List.size_toArray];omega)) ⟨e,?_⟩
 refine⟨y,_,I.lset (its':=its.eraseIdx k) Y e ?_ (r.eraseIdx k) ?_,B,q⟩
 .show its.toArray.eraseIdxIfInBounds k=(its.eraseIdx k).toArray
  rw[List.eraseIdxIfInBounds_toArray]
 .have:=xW xs k
  omega
def WQ:R2:=λx y H Q=>∃l b xs zs,x= .ref l/\y= .ref b/\H l=ac (.lst xs)/\H b=ac (.lst zs)/\xs.length+zs.length<=Yx/\∀p,H p=af->Q (.ref p) (upd H p (.lst (xs++zs)))
theorem Ud:OpR X (aah .Add) WQ:=by
 intro pins s σ H x y v u Q I rx B h;obtain⟨l,b,xs,zs,rfl,rfl,Y,V,hz,q⟩:=h;cases rx;cases B;obtain⟨z,its,n,r,Z,e⟩:=I.lstM Y;obtain⟨F,O,n2,r2,a0,e2⟩:=I.lstM V;refine PySem.P.add_list e e2 ?_ (by rw[List.size_toArray,List.size_toArray];omega);have U:its.toArray++O.toArray=(its++O).toArray:=by simp
 rw[U];exact⟨.ref _,_,I.lnew (t':=s.toks) (r.append r2) (by rw[Zd];omega),rfl,q _ I.fresh⟩
section
variable{κ:Type}[DecidableEq κ]
def iu(kvs:List (κ×V))(k:κ):Option V:=(kvs.find? λkv=>decide (kv.1=k)).map (·.2)
def putK(kvs:List (κ×V))(k:κ)(v:V):List (κ×V):=
 if(kvs.any λkv=>decide (kv.1=k))=ag then kvs.map (λkv=>if kv.1=k then(kv.1,v)else kv)else kvs++[(k,v)]
theorem uL{p:κ×V}{r:List (κ×V)}{k:κ}(e:p.1=k):iu (p::r) k=ac p.2:=by simp[iu,aaQ,e]
theorem vg{p:κ×V}{r:List (κ×V)}{k:κ}(e:¬p.1=k):iu (p::r) k=iu r k:=by simp[iu,aaQ,e]
theorem uH(k:κ):∀kvs:List (κ×V),(kvs.any λkv=>decide (kv.1=k))=(iu kvs k).isSome
 |[]=>rfl
 |p::r=>by
  rw[acA];by_cases e:p.1=k
  .simp![uL e,aaL e,Bool.true_or,aeR]
  .rw[vg e,Zc e,Bool.false_or];exact uH k r
theorem iV(kvs:List (κ×V))(k:κ)(v:V):(putK kvs k v).length<=kvs.length+1:=by
 unfold putK;split
 .rw[Yt];omega
 .rw[Zd,Yy,YX];omega
theorem jw{kvs:List (κ×V)}{k:κ}(v:V)(h:iu kvs k=af):putK kvs k v=kvs++[(k,v)]:=by
 unfold putK;rw[uH,h];exact Y4 (by decide)
theorem lW.isSome_eq{o:Option V}{u:Option Value}(r:lW o u):o.isSome=u.isSome:=by
 cases o with
 |none=>cases u with
  |none=>rfl
  |some _=>exact(show False from r).elim
 |some _=>cases u with
  |none=>exact(show False from r).elim
  |some _=>rfl
theorem lW.getD{o:Option V}{u:Option Value}{d:V}{d':Value}(r:lW o u)(rd:RelV d d'):RelV (o.getD d) (u.getD d'):=by
 cases o with
 |none=>cases u with
  |none=>exact rd
  |some _=>exact(show False from r).elim
 |some _=>cases u with
  |none=>exact(show False from r).elim
  |some _=>exact r
theorem KV.val{kvs:List (κ×V)}{O:List (κ×Value)}(r:KV kvs O)(k:κ):lW (iu kvs k) (aa_ O k):=by
 unfold KV at r
 induction r with
 |nil=>exact Z2
 |@cons p q ps Y h t I=>
  obtain⟨h1,h2⟩:=h;by_cases e:p.1=k
  .have e':q.1=k:=h1.symm.trans e
   have b:aa_ (q::Y) k=ac q.2:=by simp[aa_,aaQ,e']
   rw[uL e,b];exact h2
  .have e':¬q.1=k:=λz=>e (h1.trans z)
   have b:aa_ (q::Y) k=aa_ Y k:=by simp[aa_,aaQ,e']
   rw[vg e,b];exact I
theorem KV.any{kvs:List (κ×V)}{O:List (κ×Value)}(r:KV kvs O)(k:κ):(kvs.any λkv=>decide (kv.1=k))=O.any λkv=>decide (kv.1=k):=by
 unfold KV at r
 induction r with
 |nil=>rfl
 |cons h t I=>rw[acA,acA,I,h.1]
theorem KV.repl{kvs:List (κ×V)}{O:List (κ×Value)}(r:KV kvs O)(k:κ){y:V}{u:Value}(B:RelV y u) :
  KV (kvs.map λkv=>if kv.1=k then(kv.1,y)else kv) (O.map λkv=>if kv.1=k then(kv.1,u)else kv):=by
 unfold KV at r⊢
 induction r with
 |nil=>exact .nil
 |@cons p q ps Y h t I=>
  rw[Ys,Ys];refine .cons ?_ I;obtain⟨h1,h2⟩:=h;by_cases e:p.1=k
  .rw[YH e,YH (h1.symm.trans e)];exact⟨h1,B⟩
  .rw[Y4 e,Y4 (λz=>e (h1.trans z))];exact⟨h1,h2⟩
theorem KV.put{kvs:List (κ×V)}{O:List (κ×Value)}(r:KV kvs O)(k:κ){y:V}{u:Value}(B:RelV y u):KV (putK kvs k y) (aee O k u):=by
 unfold putK aee;rw[r.any k];by_cases e:(O.any λkv=>decide (kv.1=k))=ag
 .rw[YH e,YH e];exact r.repl k B
 .rw[Y4 e,Y4 e];exact Paired.snoc r ⟨rfl,B⟩
theorem KV.length{kvs:List (κ×V)}{O:List (κ×Value)}(r:KV kvs O):kvs.length=O.length:=adb r
end
theorem lL{k:Key}(r:RelV (kV k) u):(bz P w).is k u=ag:=by
 cases k with
 |inl i=>obtain⟨t,e⟩:=(show ∃t,u=ac2 i t from r);subst e;exact DW P w i t
 |inr x=>obtain⟨t,e⟩:=(show ∃t,u=ac3 x t from r);subst e;exact Cr P w x t
theorem ym:∀{ks:List Key}{us:List Value},Vals (ks.map kV) us->ItemsAre (bz P w) ks us
 |[],_,r=>by rw[Y_]at r;cases r;exact .nil
 |k::ks,_,r=>by
  rw[Ys]at r;cases r with
  |cons h t=>exact .cons (lL h) (ym t)
noncomputable abbrev KT(H:Hp):List (List Key×V)->List (List Key×Addr×Value)->Prop:=adB λp q=>p.1=q.1/\H q.2.1=ac (.tup (p.1.map kV))/\RelV p.2 q.2.2
variable{xs:List (List Key×Addr×Value)}{kvs:List (List Key×V)}
theorem KT.val(r:KT H kvs xs)(k:List Key):lW (iu kvs k) ((atKey xs k).map (·.2)):=by
 induction r with
 |nil=>exact Z2
 |@cons p q ps Y h t I=>
  obtain⟨h1,_,h2⟩:=h;by_cases e:p.1=k
  .have e':q.1=k:=h1.symm.trans e
   have b:atKey (q::Y) k=ac q.2:=by simp[atKey,aaQ,e']
   rw[uL e,b];exact h2
  .have e':¬q.1=k:=λz=>e (h1.trans z)
   have b:atKey (q::Y) k=atKey Y k:=by simp[atKey,aaQ,e']
   rw[vg e,b];exact I
variable{y:V}
theorem KT.repl(r:KT H kvs xs)(k:List Key)(B:RelV y u) :
  KT H (kvs.map λkv=>if kv.1=k then(kv.1,y)else kv) (xs.map (putAt k u)):=by
 induction r with
 |nil=>exact .nil
 |@cons p q ps F h t I=>
  rw[Ys,Ys];refine .cons ?_ I;obtain⟨h1,h2,Y⟩:=h;unfold putAt;by_cases e:p.1=k
  .rw[YH e,YH (h1.symm.trans e)];exact⟨h1,h2,B⟩
  .rw[Y4 e,Y4 (λz=>e (h1.trans z))];exact⟨h1,h2,Y⟩
theorem KT.put(r:KT H kvs xs)(k:List Key){b:Addr}(U:H b=ac (.tup (k.map kV)))(B:RelV y u) :
  KT H (putK kvs k y) (storedH xs k b u):=by
 have e:(kvs.any λkv=>decide (kv.1=k))=(atKey xs k).isSome:=by
  rw[uH,(r.val k).isSome_eq,ado]
 unfold putK storedH;rw[e];by_cases q:(atKey xs k).isSome=ag
 .rw[YH q,YH q];exact r.repl k B
 .rw[Y4 q,Y4 q];exact Paired.snoc r ⟨rfl,U,B⟩
variable{H':Hp}
theorem KT.keeps(r:KT H kvs xs)(U:∀b ys,H b=ac (.tup ys)->H' b=ac (.tup ys)):KT H' kvs xs:=
 Paired.mapP r λ_ _ z=>⟨z.1,U _ _ z.2.1,z.2.2⟩
variable{P:Program}
theorem Rx{u:HO}(ok:HOk P w H h)(e:Rd H a u):cG P w H h a u:=e.ok ok
theorem lK{kvs:List (Key×V)}(ok:HOk P w H h)(e:Rd H a (.dK kvs)):kvs.length<=Yx/\(a==aao)=ae/\∃O,KV kvs O/\h.DictOf (bz P w) a O:=
 show cG P w H h a (.dK kvs)from Rx ok e
theorem w6{kvs:List (Key×V)}(ok:HOk P w H h)(e:H a=ac (.dK kvs)):kvs.length<=Yx/\(a==aao)=ae/\∃O,KV kvs O/\h.DictOf (bz P w) a O:=lK ok (.inl e)
theorem pF{ks:List Key}(ok:HOk P w H h)(e:H a=ac (.tup (ks.map kV))):(acF (bz P w)).is h ks a:=by
 obtain⟨_,its,r,o,h1,h2,n,Y⟩:=(show cG P w H h a (.tup (ks.map kV))from ok a _ e);exact⟨o,its.toArray,n,h1,h2,Y.1,by simpa using ym r⟩
theorem vQ(ok:HOk P w H h)(e:Rd H a (.dT kvs)):kvs.length<=Yx/\(a==aao)=ae/\
  ∃xs,KT H kvs xs/\h.DictOfH (acF (bz P w)) a xs:=by
 obtain⟨z,y,xs,r,o,es,ep,h1,h2,Y,O,B⟩:=(show cG P w H h a (.dT kvs)from Rx ok e);refine⟨z,y,xs,r,o,es,ep,h1,h2,Y,O,λx F=>?_,B⟩;have all:∀{l:List (List Key×V)}{m:List (List Key×Addr×Value)},KT H l m->∀x∈m,(acF (bz P w)).is h x.1 x.2.1:=by
  intro l m q
  induction q with
  |nil=>intro x F;exact nomatch F
  |@cons p q ps Z U t I=>
   intro x F;rcases Yu.mp F with e|F
   .subst e
    exact pF ok (by rw[←U.1];exact U.2.1)
   .exact I x F
 exact all r x F
theorem V9(ok:HOk P w H h)(e:H a=ac (.dT kvs)):kvs.length<=Yx/\(a==aao)=ae/\
 ∃xs,KT H kvs xs/\h.DictOfH (acF (bz P w)) a xs:=vQ ok (.inl e)
def mX(H:Hp)(a:Addr)(y:V)(r:Option V):Prop:=
 (∃kvs k,Rd H a (.dK kvs)/\y=kV k/\r=iu kvs k)∨∃kvs k b,Rd H a (.dT kvs)/\y= .ref b/\H b=ac (.tup (k.map kV))/\r=iu kvs k
def Nx(H:Hp)(a:Addr)(y v:V)(H':Hp):Prop:=
 (∃kvs k,H a=ac (.dK kvs)/\y=kV k/\kvs.length<Yx/\H'=upd H a (.dK (putK kvs k v)))∨
 ∃kvs k b,H a=ac (.dT kvs)/\y= .ref b/\H b=ac (.tup (k.map kV))/\kvs.length<Yx/\H'=upd H a (.dT (putK kvs k v))
variable{kvs:List (Key×V)}
theorem mX.k{k:Key}(e:H a=ac (.dK kvs)):mX H a (kV k) (iu kvs k):=.inl ⟨kvs,k,.inl e,rfl,rfl⟩
variable{v:V}
theorem Nx.k{k:Key}(e:H a=ac (.dK kvs))(Z:kvs.length<Yx):Nx H a (kV k) v (upd H a (.dK (putK kvs k v))):=.inl ⟨kvs,k,e,rfl,Z,rfl⟩
theorem Inv.big(I:Inv X pins σ H s):aao<s.heap.objs.size:=by
 have h:ZQ<s.heap.objs.size:=(I.mod.glob.keeps I.bk).lt;exact Nat.lt_trans (by decide) h
theorem Ig(hu:A.units+1<cLine)(I:Inv X pins σ H s)(g:mX H a y (ac v))(B:RelV y u)(h:∀Z s',Inv X pins σ H s'->RelV v Z->Q Z s') :
  wpAny 1.13 A (getItem (.ref a) u) Q E s:=by
 rcases g with⟨kvs,k,e,ey,l⟩|⟨kvs,k,b,e,ey,U,l⟩
 .subst ey
  obtain⟨z,hd,O,rel,Y⟩:=lK I.hok e;obtain⟨Z,hw,q⟩:=lW.some_of (v:=v) (o:=aa_ O k) (by rw[l];exact rel.val k);exact wpAny_getItem_of (lL B) Y.mapOf hw (h Z _ (I.tok _) q)
 .subst ey
  cases (show u=Zk b from B);obtain⟨z,hd,xs,rel,Y⟩:=vQ I.hok e;obtain⟨Z,hw,q⟩:=lW.some_of (v:=v) (o:=(atKey xs k).map (·.2)) (by rw[l];exact rel.val k);obtain⟨p,V,F⟩:=ad5.mp hw;refine wpAny_getItem_heap (aa4 hu) (pF I.hok U) Y V ?_;rw[F];exact h Z _ (I.tok _) q
variable{o:Option V}
theorem XQ(hu:A.units+1<cLine)(I:Inv X pins σ H s)(g:mX H a y o)(B:RelV y u)(h:∀s',Inv X pins σ H s'->Q (.bool o.isSome) s') :
  wpAny 1.13 A (Zf .In u (.ref a)) Q E s:=by
 rcases g with⟨kvs,k,e,V,l⟩|⟨kvs,k,b,e,V,U,l⟩
 .subst V
  obtain⟨z,hd,O,rel,Y⟩:=lK I.hok e;refine wpAny_in_of (lL B) hd Y.mapOf ?_;rw[←(rel.val k).isSome_eq,←l];exact h _ (I.tok _)
 .subst V
  cases (show u=Zk b from B);obtain⟨z,hd,xs,rel,Y⟩:=vQ I.hok e;refine wpAny_in_heap (aa4 hu) (pF I.hok U) hd Y ?_;have q:=(rel.val k).isSome_eq;rw[ado]at q;rw[←q,←l];exact h _ (I.tok _)
theorem Qh(hu:A.units+1<cLine)(I:Inv X pins σ H s)(g:mX H a y o)(B:RelV y u)(h:∀s',Inv X pins σ H s'->Q (.bool (!o.isSome)) s') :
  wpAny 1.13 A (Zf .NotIn u (.ref a)) Q E s:=by
 rcases g with⟨kvs,k,e,V,l⟩|⟨kvs,k,b,e,V,U,l⟩
 .subst V
  obtain⟨z,hd,O,rel,Y⟩:=lK I.hok e;refine wpAny_notIn_of (lL B) hd Y.mapOf ?_;rw[←(rel.val k).isSome_eq,←l];exact h _ (I.tok _)
 .subst V
  cases (show u=Zk b from B);obtain⟨z,hd,xs,rel,Y⟩:=vQ I.hok e;refine wpAny_notIn_heap (aa4 hu) (pF I.hok U) hd Y ?_;have q:=(rel.val k).isSome_eq;rw[ado]at q;rw[←q,←l];exact h _ (I.tok _)
theorem nG{ob:HO}(I:Inv X pins σ H s)(mu:Mut (H a))(hs:aaO a s.heap h')(O:∃q,h'.get? a=ac q)(new:cG X.prog X.w (upd H a ob) h' a ob) :
  Inv X pins σ (upd H a ob) {s with heap:=h',toks:=t'}:=
 I.write (x:=a) (e:=a) mu (.inl rfl) (λb q U z=>(hs.2 b U).trans z) O new
variable{P:Y7}
theorem yI{O:List (Key×Value)}(z:kvs.length<=Yx)(hd:(a==aao)=ae)(rel:KV kvs O)(Y:h'.DictOf (bz P w) a O) :
 cG P w H' h' a (.dK kvs):=⟨z,hd,O,rel,Y⟩
variable{r:Value}
theorem IV{Q:Unit->Ym->Prop}(hu:A.units+1<cLine)(I:Inv X pins σ H s)(g:Nx H a y v H')(B:RelV y u)(rv:RelV v r)(h:∀s',Inv X pins σ H' s'->Q () s') :
  wpAny 1.13 A (setItem (.ref a) u r) Q E s:=by
 rcases g with⟨kvs,k,e,ey,l,eH⟩|⟨kvs,k,b,e,ey,eb,l,eH⟩
 .subst ey eH
  obtain⟨z,hd,O,rel,dd⟩:=w6 I.hok e;have hz:O.length<=Yx:=by rw[←rel.length];exact z
  have Z:(putK kvs k v).length<=Yx:=by have:=iV kvs k v;omega
  refine wpAny_setItem_pairs (hsz:=hz) (lL B) dd λh' V hs=>h _ ?_;have he:∃q,h'.get? a=ac q:=let⟨q,_,_,U,_⟩:=V;⟨q,U⟩;exact nG I (by rw[e];exact Z2) hs he (yI Z hd (rel.put k rv) V)
 .subst ey eH
  cases (show u=Zk b from B);obtain⟨z,hd,xs,rel,dd⟩:=V9 I.hok e;have hz:xs.length<=Yx:=by rw[←adb rel];exact z
  have Z:(putK kvs k v).length<=Yx:=by have:=iV kvs k v;omega
  refine wpAny_setItem_heap (hsz:=hz) (aa4 hu) (pF I.hok eb) dd λh' V hs=>h _ ?_;obtain⟨q,es,ep,U,h2,Y,F,_,h5⟩:=V;refine nG I (by rw[e];exact Z2) hs ⟨q,U⟩ ⟨Z,hd,_,(rel.put k eb rv).keeps λc ys ec=>?_,q,es,ep,U,h2,Y,F,h5⟩;rw[aK (kE ec e (λz=>nomatch z))];exact ec
section
variable{X:Cx}{pins:List (Addr×Obj)}{σ:St}{H:Hp}{s:Shared}{a:Addr}{kvs:List (Key×V)}{k:Key}{u:Value}{A:Around}{E:Value->Shared->Prop}
theorem Xr{Q:Value->Ym->Prop}(I:Inv X pins σ H s)(e:Rd H a (.dK kvs))(h:∀t s',Inv X pins σ H s'->Q (.int kvs.length t) s'):wpAny 1.13 A (call (.builtin "len") [.ref a]) Q E s:=by
 obtain⟨z,hd,O,rel,Y⟩:=lK I.hok e;refine call_len_dict hd Y (by rw[←rel.length];rw[ac0]at z;omega) ?_;rw[←rel.length];exact h _ _ (I.tok _)
end
theorem DN{s:Ym}(I:Inv X pins σ H s)(g:mX H a y o):s.TypeIs (.ref a) "dict":=by
 rcases g with⟨kvs,k,e,_,_⟩|⟨kvs,k,b,e,_,_,_⟩
 .obtain⟨_,_,vs,_,dd⟩:=lK I.hok e
  exact dd.typeIs
 .obtain⟨_,_,xs,_,dd⟩:=vQ I.hok e
  exact dd.typeIs
theorem CZ(h:Heap)(U:aao<h.objs.size):cG P w H (h.push {cls:=.type "dict",data:=.dict #[]}) h.objs.size (.dK []):=
 ⟨ac1 _,beq_eq_false_iff_ne.mpr (Zy (YZ U)),[],.nil,afq h⟩
def SJ:TE:=λ_ H Q=>∀p,H p=af->Q (.ref p) (upd H p (.dK []))
theorem J4:PE X (.Dict [] [] pos) SJ:=λpins s σ H Q I h=>
 wpAny_Dict_empty ⟨.ref s.heap.objs.size,_,I.laid (a:=s.heap.objs.size) (o:=.dK []) (t':=s.toks) (λ_ _ q=>Yp _ q) (YB _) (CZ s.heap I.big),rfl,h _ (I.hok.fresh (YB _))⟩
def yN:List (TE×TE)->St->Hp->(List (V×V)->Hp->Prop)->Prop
 |[],_,H,Q=>Q [] H
 |(tk,tv)::r,σ,H,Q=>tk σ H λx H1=>tv σ H1 λy H2=>yN r σ H2 λps Y=>Q ((x,y)::ps) Y
noncomputable abbrev VV:List (V×V)->List (Value×Value)->Prop:=adB λp q=>RelV p.1 q.1/\RelV p.2 q.2
def PPs(X:Cx)(pos:Pos)(U:List (Option Expr))(F:List Expr)(q:List (TE×TE)):Prop:=
 ∀(pins:List (Addr×Obj))(s:Ym)(σ:St)(H:Hp)(Q:List (V×V)->Hp->Prop),Inv X pins σ H s->yN q σ H Q->
  wpAny 1.13 X.A (evalPairs (pairTrees U F X.env pos)) (λO s'=>∃ps H',Inv X pins σ H' s'/\VV ps O/\Q ps H') X.xe s
theorem G9:PPs X pos [] [] []:=λpins s σ H Q I h=>pairTrees_nil_walk ⟨[],H,I,.nil,h⟩
theorem uD{k v:Expr}{ks:List (Option Expr)}{tk tv:TE}{a0:List (TE×TE)}(hk:PE X k tk)(hv:PE X v tv)(Z:PPs X pos ks O a0) :
  PPs X pos (ac k::ks) (v::O) ((tk,tv)::a0):=λpins s σ H Q I h=>
 pairTrees_cons_walk (thn (hk pins s σ H _ I h) λu s1 ⟨x,H1,I1,rx,q1⟩=>thn (hv pins s1 σ H1 _ I1 q1) λw2 s2 ⟨y,H2,V,B,q2⟩=>
  thn (Z pins s2 σ H2 _ V q2) λq z ⟨ps,Y,U,rel,F⟩=>⟨(x,y)::ps,Y,U,.cons ⟨rx,B⟩ rel,F⟩)
def mJ(kvs more:List (Key×V)):List (Key×V):=more.foldl (λacc kv=>putK acc kv.1 kv.2) kvs
theorem KV.merge:∀{more:List (Key×V)}{z:List (Key×Value)}{kvs:List (Key×V)}{O:List (Key×Value)},KV more z->KV kvs O->KV (mJ kvs more) (merged O z):=by
 intro more z kvs O r;unfold KV at r
 induction r generalizing kvs O with
 |nil=>intro q;exact q
 |@cons p q ps Y h t I=>
  intro B;have e:KV (putK kvs p.1 p.2) (aee O q.1 q.2):=by
   have:=B.put p.1 h.2;rw[←h.1];exact this
  exact I e
theorem oF:∀(more kvs:List (Key×V)),(mJ kvs more).length<=kvs.length+more.length
 |[],kvs=>by show kvs.length<=kvs.length+0;omega
 |p::r,kvs=>by
  have h1:=oF r (putK kvs p.1 p.2);have h2:=iV kvs p.1 p.2;show(mJ (putK kvs p.1 p.2) r).length<=_;rw[Yy];omega
theorem vW{P:Y7}{w:World}:∀{kvs:List (Key×V)}{F:List (Value×Value)},VV (kvs.map λkv=>(kV kv.1,kv.2)) F->∃z,Carries (bz P w) F z/\KV kvs z
 |[],_,r=>by rw[Y_]at r;cases r;exact⟨[],Z2,.nil⟩
 |p::kvs,_,r=>by
  rw[Ys]at r;cases r with
  |@cons a b B bs h t=>
   obtain⟨z,c,q⟩:=vW (P:=P) (w:=w) t;obtain⟨Y,I⟩:=b;exact⟨(p.1,I)::z,⟨lL h.1,rfl,c⟩,.cons ⟨rfl,h.2⟩ q⟩
def Kw(q:List (TE×TE)):TE:=λσ H Q=>∀p,H p=af->yN q σ (upd H p (.dK [])) λps H2=>H2 p=ac (.dK [])/\∃kvs:List (Key×V),ps=kvs.map (λkv=>(kV kv.1,kv.2))/\kvs.length<=15/\Q (.ref p) (upd H2 p (.dK (mJ [] kvs)))
theorem Hh{F:List Expr}{a1:List (TE×TE)}(h:PPs X pos U F a1)(a2:U.all (·.isSome)=ag)(Z:U.length=F.length)(h0:U≠[])
  (a3:U.length<=15):PE X (.Dict U F pos) (Kw a1):=by
 intro pins s σ H Q I q;have hn:=I.hok.fresh (YB s.heap.objs.size);have B:=I.laid (a:=s.heap.objs.size) (o:=.dK []) (h':=s.heap.push {cls:=.type "dict",data:=.dict #[]}) (t':=s.toks) (λ_ _ q=>Yp _ q) (YB _) (CZ s.heap I.big);refine wpAny_Dict_walk (knd:=bz X.prog X.w) a2 Z h0 a3 (thn (h pins _ σ _ _ B (q _ hn)) λws s2 ⟨ps,H2,V,rel,e,kvs,ep,lk,q2⟩=>?_);subst ep;obtain⟨rs,c,rk⟩:=vW (P:=X.prog) (w:=X.w) rel;obtain⟨z,hd,a4,r0,Y⟩:=w6 V.hok e;cases r0;refine⟨rs,c,Y,λh' a0 hs=>⟨.ref s.heap.objs.size,_,?_,rfl,q2⟩⟩;have hz:(mJ [] kvs).length<=Yx:=by
  have h1:=oF kvs [];rw[YX]at h1;rw[ac0];omega
 have O:∃q,h'.get? s.heap.objs.size=ac q:=let⟨q,_,_,hq,_⟩:=a0;⟨q,hq⟩;exact nG V (by rw[e];exact Z2) hs O (yI hz hd (rk.merge .nil) a0)
theorem Uv(hu:A.units+1<cLine)(I:Inv X pins σ H s)(g:mX H a y o)(B:RelV y u)(h:∀Z s',Inv X pins σ H s'->RelV (o.getD .non) Z->Q Z s') :
  wpAny 1.13 A (call (.builtin "dict.get") [.ref a,u]) Q E s:=by
 rcases g with⟨kvs,k,e,V,l⟩|⟨kvs,k,b,e,V,U,l⟩
 .subst V
  obtain⟨z,hd,O,rel,Y⟩:=lK I.hok e;refine ab_ Z3 Y.typeIs abD (adP _ _) (meets_dict_get (bz X.prog X.w) a (lL B) hd) ⟨_,Y.mapOf,h _ _ (I.tok _) ?_⟩;rw[l];exact(rel.val k).getD rfl
 .subst V
  cases (show u=Zk b from B);obtain⟨z,hd,xs,rel,Y⟩:=vQ I.hok e;refine ab_ Z3 Y.typeIs abD (adP _ _) (meetsH_dict_get (acF (bz X.prog X.w)) a b hd) ⟨aa4 hu,k,xs,pF I.hok U,Y,h _ _ (I.tok _) ?_⟩;rw[l];exact(rel.val k).getD rfl
variable{d:V}
theorem U7(hu:A.units+1<cLine)(I:Inv X pins σ H s)(g:mX H a y o)(B:RelV y u)(rd:RelV d r)(h:∀Z s',Inv X pins σ H s'->RelV (o.getD d) Z->Q Z s') :
  wpAny 1.13 A (call (.builtin "dict.get") [.ref a,u,r]) Q E s:=by
 rcases g with⟨kvs,k,e,V,l⟩|⟨kvs,k,b,e,V,U,l⟩
 .subst V
  obtain⟨z,hd,O,rel,Y⟩:=lK I.hok e;refine ab_ Z3 Y.typeIs abD (adQ _ _ _) (meets_dict_get_default (bz X.prog X.w) a (lL B) hd r) ⟨_,Y.mapOf,h _ _ (I.tok _) ?_⟩;rw[l];exact(rel.val k).getD rd
 .subst V
  cases (show u=Zk b from B);obtain⟨z,hd,xs,rel,Y⟩:=vQ I.hok e;refine ab_ Z3 Y.typeIs abD (adQ _ _ _) (meetsH_dict_get_default (acF (bz X.prog X.w)) a b hd r) ⟨aa4 hu,k,xs,pF I.hok U,Y,h _ _ (I.tok _) ?_⟩;rw[l];exact(rel.val k).getD rd
end L2
namespace Att
open PySem PySem.W PySem.Calls PyProof.Rows
variable{P:Params}
theorem tM:∀(ns:List Int)(O:List Value),WellAll P h O (ns.map WData.int)->aeZ O ns:=by
 intro ns
 induction ns with
 |nil=>
  intro O w;rw[Y_]at w;cases w;exact .nil
 |cons n ns I=>
  intro O w;rw[Ys]at w;cases w with
  |cons a b=>
   cases a;exact .cons _ _ (I _ b)
variable{l:OpenLaw}
theorem HX(hn:l.most=ac n){args:List WData}{a0:List Value}
  (a1:l.row.toRowW.claim.pre args=ag) (a3:WellAll P h a0 args) :
  ∃a O ns,a0=[Zk a]/\args=[WData.list (ns.map WData.int)]/\h.get? a=ac {cls:=.type "list",data:=.seq O.toArray}/\aeZ O ns/\ns.length<=n:=by
 have a2:WShape.hasAll [] args [.list .int]=ag:=(pre_splitW a1).1;have B:l.pre.holds [] {args:=args}=ag:=(pre_splitW a1).2;obtain⟨d,r,rfl,h1,h2⟩:=hasAllW_cons a2;obtain rfl:=hasAllW_nil h2;obtain⟨xs,rfl,Y⟩:=hasW_list h1;obtain⟨ns,rfl⟩:=items_int Y;have z:ns.length<=n:=by
  unfold OpenLaw.pre at B;have F:(WTm.not (.lt (.lit (.int (n:Int))) (.len (.arg 0)))).holds [] {args:=[.list (ns.map .int)]}=ag:=by
   have F:=(holds_andW B).1;rw[hn]at F;exact F
  have U:=condW_of F (w_not (w_lt w_lit (w_len_list (w_arg rfl))));rw[Yt]at U;refine Nat.le_of_not_lt λq=>?_;have q':(n:Int)<((ns.length:Nat):Int):=by omega
  first
   |(rw[aaL q']at U;exact absurd U (by decide))
   |(simp at U;omega)
 cases a3 with
 |cons Z w2=>
  cases w2;cases Z with
  |list I V=>exact⟨_,_,ns,rfl,rfl,I,tM ns _ V,z⟩
theorem Jf(l:OpenLaw)(args:List WData):l.row.toRowW.claim.post args (.bool ag) args=ag:=
 postW_of (r:=l.row.toRowW) (X:=(ag==ag))
  (show WShape.has [] (.bool ag) .bool=ag by first|rfl|decide|simp[WShape.has,WShape.arms,WShape.armsAll])
  (show(WTm.eq .res (.lit (.bool ag))).value [] {args:=args,res:=ac (.bool ag),after:=args}=ac (.bool (ag==ag))from w_eq_bool (w_res rfl) w_lit) rfl
theorem attach_call{q:Y7}
  (hn:l.most=ac n) (a6:d.params.defaults=[])
  (call:∀(w:World)(s₀ B:Ym)(mg mb:Str->Option Value)(fa:Addr)(o:Obj)(pm cd doc:Value)(a:Addr)(O:List Value)(ns:List Int),
   Ground q a0 [] XP w s₀ mg mb B.heap->YP w B.heap->
   B.heap.get? fa=ac o->o.data= .func (docDef d.name d.params d.body d.scope pm cd doc)->B.heap.CodeRec cd d.name->mg d.name=ac (.ref fa)->
   B.heap.get? a=ac {cls:=.type "list",data:=.seq O.toArray}->aeZ O ns->ns.length<=n->B.gens= #[]->
   aa8 (model l.prog w) adz (.call (.ref fa) ⟨[.ref a],[]⟩) (λr s'=>r= .ok (.ret (.bool ag))/\OldK B.heap s'.heap/\s'.os=B.os/\acG s'.gens) B) :
  WalkO q a0 XP YP l.row.toRowW d [] (λf O=>afr f O):=by
 intro w s₀ B mg mb G Y fa o pm cd doc dV kV I hd a5 Z a4 F args a9 as a3 a8 b1 a7 b0;obtain rfl:dV= .none:=Dflts.none Z a6;obtain rfl:kV= .none:=Dflts.noKw Z;obtain⟨a,O,ns,rfl,rfl,a2,a1,z⟩:=HX hn a3 a7;refine enter_call (abG (call w s₀ B mg mb fa o pm cd doc a O ns G Y I (fd_plain hd) a5 a4 a2 a1 z F) λr s' U=>?_);obtain⟨rfl,h2,h3,h4⟩:=U;exact⟨.inl ⟨.bool ag,.bool ag,[],rfl,λ_=>rfl,.bool ag,Jf l _,λ_=>⟨List.Pairwise.nil,λ_ V=>(nomatch V)⟩⟩,h2,h3,h4⟩
end Att
namespace L2
open PySem PySem.Spec PyProof.Rows
theorem ye:∀{O:List Value}{ns:List Int},aeZ O ns->Vals (ns.map V.int) O
 |_,_,.nil=>.nil
 |_,_,.cons n t h=>.cons ⟨t,rfl⟩ (ye h)
def Only(H:Hp):Prop:=∀b,H b=af∨∃o xs,H b=ac (.frz o (.lst xs))
theorem J2{K:YC}{mb:Str->Option Value}{CX:CXT}{k:Nat}{fa:Addr}{sp:Sp}{B:Ym}{O:List Value}{ns:List Int}
  (KX:K.In B.heap) (I:B.heap.Ns ZQ mg) (U:B.heap.Ns builtinsNs mb) (a9:∀x:Str,x≠"__name__"->mb x=aaD x) (a7:B.heap.NoLimit) (hg:B.gens= #[])
  (Y:B.heap.get? a=ac {cls:=.type "list",data:=.seq O.toArray}) (hi:aeZ O ns) (hl:ns.length<=Yx) (Z:jh k adz)
  (F:∀base:Heap,K.In base->base.Ns ZQ mg->dJ P w K mg base CX k fa fd [x] sp) (a3:∀(s:Ym)(u:Value),aec s fd ⟨[u],[]⟩ [(x,u)])
  (b1:∀H:Hp,Only H->SqL K H a (ns.map V.int)->sp [.ref a] H (λv _=>v= .bl ag) λ_ _ _=>False)
  (a8:∀H e s',CX [] H B (λ_ _ _=>False) e s'->False) :
  aa8 (model P w) adz (.call (.ref fa) ⟨[.ref a],[]⟩) (λr s'=>r= .ok (.ret (.bool ag))/\OldK B.heap s'.heap/\s'.os=B.os/\acG s'.gens) B:=by
 have rv:=ye hi;have a4:=hi.length;have a2:∀H:Hp,Only H->SqL K H a (ns.map V.int)->HOk P w H B.heap->(∀b,H b≠af->b=a)->(H a≠af->K.lookup a=af)->
   aa8 (model P w) adz (.call (.ref fa) ⟨[.ref a],[]⟩) (λr s'=>r= .ok (.ret (.bool ag))/\OldK B.heap s'.heap/\s'.os=B.os/\acG s'.gens) B:=by
  intro H hO hS hok hA hK;have a0:∀{b:Addr}{o:Obj},B.heap.get? b=ac o->H b=af->(A_ B.heap H).get? b=ac o:=λe n=>J6 e n;have b0:∀{b:Addr}{o:Obj}{es:Array DictEntry}{ep:Nat},B.heap.get? b=ac o->o.data= .dict es ep->H b=af:=λ{b o es ep} e d=>by
   cases q:H b with
   |none=>rfl
   |some u=>
    have e':b=a:=hA b (by rw[q];simp);subst e';rw[Y]at e;cases e;have d':Data.seq O.toArray _=Data.dict es ep:=d;cases d'
  have a1:∀{b:Addr}{m:Str->Option Value},B.heap.Ns b m->(A_ B.heap H).Ns b m:=λ{b m}⟨o,es,ep,e,d,r⟩=>⟨o,es,ep,a0 e (b0 e d),d,r⟩;have a6:K.In (A_ B.heap H):=λb o e=>a0 (KX b o e) (by
   cases q:H b with
   |none=>rfl
   |some u=>
    have e':b=a:=hA b (by rw[q];simp);subst e';rw[hK (by rw[q];simp)]at e;cases e)
  have hM:Mod K mg (A_ B.heap H):=⟨a6,a1 I,⟨mb,a1 U,a9⟩,let⟨mc,h1,h2⟩:=a7;⟨mc,a1 h1,h2⟩⟩;have e0:PN P w K mg (A_ B.heap H) adz [] B H:=⟨rfl,hM,λb o e=>Q4 e,Nat.le_of_eq (Ij _ _),trivial,λb U=>absurd (show b∈([]:List Addr)from U) (by simp),hok,.of_eq hg⟩;refine abG ((F _ a6 (a1 I)).run adz [] B H ⟨[.ref a],[]⟩ [.ref a] [.ref a] _ _ Z e0 (a3 B (.ref a)) (.cons rfl .nil) (b1 H hO hS)) λr s' h=>?_;cases r with
  |error e=>exact(a8 H e s' h).elim
  |ok fl=>
   cases fl with
   |next=>exact abg h
   |brk=>exact abg h
   |cont=>exact abg h
   |ret u=>
    obtain⟨v,H',os,bare,un,a5,r',q⟩:=h;have q':v= .bl ag:=q;subst q';obtain rfl:u=acg ag:=r';refine⟨rfl,OldK.of_keep λb o e=>?_,os,bare⟩;cases q:H b with
    |none=>exact un.keep b o e q (by intro z;exact absurd (show b∈([]:List Addr)from z) (by simp)) (by simp)
    |some u=>
     rcases hO b with z|⟨ob,xs,z⟩
     .rw[q]at z;cases z
     .have z2:=un.frzs b ob _ z
      obtain⟨e1,_⟩:=hok b _ z;obtain⟨e2,_⟩:=a5 b _ z2;rw[e]at e1;cases e1;exact e2
 cases hk:K.lookup a with
 |some o=>
  have e:=KX a o hk;rw[Y]at e;cases e;refine a2 (λ_=>af) (λ_=>.inl rfl) (.inr ⟨_,O.toArray,_,hk,rfl,rfl,rfl,by rw[List.size_toArray,a4];exact hl,by simpa using rv⟩) (λb u z=>by have z':(af:Option HO)=ac u:=z;cases z') (λb z=>absurd rfl z) λz=>absurd rfl z
 |none=>
  refine a2 (λb=>if b=a then ac (.frz {cls:=.type "list",data:=.seq O.toArray} (.lst (ns.map V.int)))else af) (λb=>?_) (.inl (.inr ⟨{cls:=.type "list",data:=.seq O.toArray},YH rfl⟩)) (λb u z=>?_) (λb z=>?_) λ_=>hk
  .by_cases U:b=a
   .exact .inr ⟨_,_,YH U⟩
   .exact .inl (Y4 U)
  .by_cases U:b=a
   .have z':=(YH U).symm.trans z
    cases z';subst U;exact⟨Y,by rw[Yt];exact hl,O,_,rv,Y⟩
   .have z':=(Y4 U).symm.trans z
    cases z'
  .by_cases U:b=a
   .exact U
   .exact absurd (Y4 U) z
theorem walk_of{l:adW}{k:Nat}{q:Y7}{K:Params->YC}{CX:World->CXT}{sp:World->Sp}
  (hn:l.most=ac n) (a4:n<=Yx) (a6:d.params.defaults=[]) (Z:jh k adz)
  (hY:∀(w:World)(h:Heap),YP w h->(K w.params).In h)
  (F:∀(w:World)(mg:Str->Option Value)(fa:Addr)(h:Heap),(K w.params).In h->h.Ns ZQ mg->mg d.name=ac (.ref fa)->
   ∃fd:Zh,(∀(s:Ym)(u:Value),aec s fd ⟨[u],[]⟩ [(x,u)])/\
    ∀base:Heap,(K w.params).In base->base.Ns ZQ mg->dJ l.prog w (K w.params) mg base (CX w) k fa fd [x] (sp w))
  (a7:∀(w:World)(H:Hp)(a:Addr)(ns:List Int),ns.length<=n->Only H->SqL (K w.params) H a (ns.map V.int)->sp w [.ref a] H (λv _=>v= .bl ag) λ_ _ _=>False)
  (a5:∀(w:World)(H:Hp)(s:Ym)(e:Value)(s':Ym),CX w [] H s (λ_ _ _=>False) e s'->False) :
  afH q a0 XP YP l.row.toRowW d [] (λf O=>afr f O):=by
 refine Att.attach_call hn a6 λw s₀ B mg mb fa o pm cd doc a O ns G Y I hd a8 a3 a2 a1 z hg=>?_;have KX:=hY w _ Y;obtain⟨fd,U,hF⟩:=F w mg fa _ KX G.T.g a3;exact J2 KX G.T.g G.T.b G.T.builtins G.T.nolimit hg a2 a1 (ZJ z a4) Z hF U (λH hO hS=>a7 w H a ns z hO hS) λH e s'=>a5 w H B e s'
def nF(s:Stmt):Arguments:=match s with
 |.FunctionDef _ a _ _ _ _ _ _ _ _=>a
 |_=>{posonlyargs:=[],args:=[],vararg:=af,kwonlyargs:=[],kw_defaults:=[],kwarg:=af,defaults:=[]}
def ie(s:Stmt):List Stmt:=match s with
 |.FunctionDef _ _ b _ _ _ _ _ _ _=>b
 |_=>[]
def aH(s:Stmt):Scope:=match s with
 |.FunctionDef _ _ _ _ _ _ z _ _ _=>z
 |_=>{kind:=.function,names:=[],isGenerator:=ae,isCoroutine:=ae}
abbrev CX0:CXT:=λ_ _ _ _ _ _=>False
abbrev E0:XK:=λ_ _ _=>False
variable{X:Cx}
theorem Xq:Gu CX0 X E0:=λ_ _ _ _ _ _ _ h=>h.elim
structure Fun(K:PySem.W.Frag)(x qual:Str)(st:Stmt)(f:Addr)(fd:FuncData):Prop where
 ex:∃(oc:Value)(od:Option Addr)(kV doc pm:Value)(an:Option Addr)(cdv ct:Value)(osl:Array (Option Value)),
  fd=ab7 x qual (nF st) (ie st) (aH st) .none kV doc pm an cdv ct/\K.lookup f=ac ⟨oc,od,.func fd,osl⟩/\aed K cdv qual=ag
 kp:acS K (.ref f)=ag
section
variable{P:Program}{w:World}{K:PySem.W.Frag}{mg:Str->Option Value}{base:Heap}
theorem Fun.ok{x qual:Str}{st:Stmt}{f:Addr}{fd:Zh}{N ps:List Str}{k:Nat}{sp:Sp}(F:Fun K x qual st f fd)(S:bA N ps (aH st))(len:∀O H Q E,sp O H Q E->O.length=ps.length)
  (z:∀(cdv:Value)(A:Zx)(outer:List Env)(s:Ym)(H:Hp)(O:List V)(Q:VK)(E:XK),jh k (A.deeper (abS qual (aH st) s.heap.objs.size f cdv))->sp O H Q E->
   ∃t,PSs (wR CX0 P w K mg base N qual (aH st) f cdv A outer s H E).nox (ie st) t/\t {nx:=λ_ H'=>Q .non H',rt:=Q} (start N O) H):dJ P w K mg base CX0 (k+1) f fd ps sp:=by
 obtain⟨oc,od,kV,doc,pm,an,cdv,ct,osl,rfl,U,I⟩:=F.ex;refine Xl U I S len λA outer s H O Q E Z B=>?_;obtain⟨t,h,q⟩:=z cdv A outer s H O Q E Z B;exact⟨t,h.nox,q⟩
theorem Fun.binds{x qual:Str}{st:Stmt}{f:Addr}{fd:Zh}{ps:List Str}(F:Fun K x qual st f fd)
  (h:∀(kV doc pm:Value)(an:Option Addr)(cdv ct:Value)(us:List Value),us.length=ps.length->bindArgs (ab7 x qual (nF st) (ie st) (aH st) .none kV doc pm an cdv ct) ⟨us,[]⟩=pure (ps.zip us)):Binds K fd ps []:=by
 obtain⟨oc,od,kV,doc,pm,an,cdv,ct,osl,rfl,U,I⟩:=F.ex;exact .all (h kV doc pm an cdv ct)
theorem Vm{x qual:Str}{st:Stmt}{f:Addr}{oc:Value}{od an:Option Addr}{osl:Array (Option Value)}{kV doc pm cdv ct:Value}(l:K.lookup f=ac ⟨oc,od,.func (ab7 x qual (nF st) (ie st) (aH st) .none kV doc pm an cdv ct),osl⟩)
 (c:aed K cdv qual=ag) (k:acS K (.ref f)=ag):Fun K x qual st f (ab7 x qual (nF st) (ie st) (aH st) .none kV doc pm an cdv ct):=⟨⟨oc,od,kV,doc,pm,an,cdv,ct,osl,rfl,l,c⟩,k⟩
end
theorem pv(i:Nat)(z:X.N[i]? =ac x:=by rfl)(B:Vis X.env.scope x:=by first|exact aab rfl|exact ZC (aab rfl)|exact ZC (ZC rfl))(hd:1.21=ae:=by decide)
 (I:(x==("__classdict__":Str))=ae:=by decide):PE X (.Name x pos) (Ab i):=rH z B hd I
theorem zM{A B:Prop}(h:B):if ae=ag then A else B:=by
 rw[Y4 Zi];exact h
theorem uf{A B:Prop}(h:A):if ag=ag then A else B:=by
 rw[YH rfl];exact h
def Same(H H':Hp):Prop:=∀b o,H b=ac o->H' b=ac o
theorem Same.refl(H:Hp):Same H H:=λ_ _ h=>h
theorem Same.trans{H H1 H2:Hp}(a:Same H H1)(b:Same H1 H2):Same H H2:=λc o h=>b c o (a c o h)
theorem Same.free{H H':Hp}(e:Same H H'){l:Addr}(h:H' l=Option.none):H l=Option.none:=by
 cases q:H l with
 |none=>rfl
 |some o=>
  rw[e l o q]at h;cases h
theorem Il:gh X (.builtin "len") (λxs H Q=>∃a kvs,xs=[V.ref a]/\H a=ac (.dK kvs)/\Q (.int kvs.length) H):=by
 intro pins s σ H xs us Q I r h;obtain⟨a,kvs,rfl,Y,q⟩:=h;obtain⟨u,rfl,F⟩:=vals1 r;cases F;exact Xr I (.inl Y) λt s' Z=>⟨.int kvs.length,H,Z,⟨t,rfl⟩,q⟩
end L2
set_option maxHeartbeats 4000000
namespace Jb
open PySem PySem.Spec PyProof.Rows L2
structure Cal(P:Program)(w:World)(K:PySem.W.Frag)(mg:Str->Option Value)(base:Heap)(k:Nat)(x:Str)(ps:List Str)(sp:Sp):Prop where
 ex:∃f fd,dJ P w K mg base CX0 k f fd ps sp/\mg x=ac (.ref f)/\acS K (.ref f)=ag/\Binds K fd ps []
variable{X:Cx}{t:TA}{p:Pos}
theorem MJ{k:Nat}{sp:Sp}(C:Cal X.prog X.w X.K X.mg X.base k x ps sp)(Z:jh k X.A)(B:Gl X x)(Y:PA X (e::es) t)
  (z:1.21=ae:=by decide) (I:YD (e::es) X.env=(ae,eval e X.env)::YD es X.env:=by rfl) (q:(Z4 pos (YD es X.env)).any (·.1)=ae:=by rfl) :
  PE X (.Call (.Name x p) (e::es) [] pos) (RL sp [] E0 t):=by
 obtain⟨f,fd,F,V,O,U⟩:=C.ex;exact Pg F Z B V O U .nil Xq Y z I q
theorem Wf{n:String}(F:Gl X x)(V:X.mg x=af)(B:aaD x=ac (.type n))(hn:x≠"__name__":=by decide)(hd:1.21=ae:=by decide):PE X (.Name x pos) (tC (.ty n)):=
 Q_ F V B rfl hn hd
def W3(_ j:Int):Prop:=0<j/\j<18446744073709551616
theorem Ka:OpR X (aah .FloorDiv) (rI W3 λi j=>.int (i / j)):=opI λi j _ _ _ _ _ B q=>by
 have h1:(0:Int)<j:=B.1;have h2:j<18446744073709551616:=B.2;have Y:j.natAbs<2 ^ 64:=by omega
 have F:j.natAbs≠0:=by omega
 have U:j.natAbs.log2<64:=(Nat.log2_lt F).mpr Y;exact floordiv_int 1.10 (by rw[adg i 1.10];exact q) (.inl (PyProof.noPylong_of_log2 1.10))
variable{b:Expr}
theorem B_:gh X (.builtin "isinstance") (λxs H Q=>∃x n t b,xs=[x,.ty n]/\lV X.K H x t/\acR X.K t (.type n)=ac b/\Q (.bl b) H):=by
 intro pins s σ H xs us Q I r h;obtain⟨x,n,t,b,rfl,F,e,q⟩:=h;obtain⟨u,Z,rfl,z,B⟩:=vals2 r;cases B;exact Ia I z F e λtk=>⟨.bl b,H,I.tok tk,rfl,q⟩
variable{H:Hp}
theorem Same.new{q:Addr}{o:HO}(h:H q=af):Same H (L2.upd H q o):=λb u e=>by rw[aK (bG e h)];exact e
theorem Fo{l:List α}{f:α->β->Sem (ForInStep β)}(g:β->α->β):∀(q:β),(∀x∈l,∀c,f x c=pure (.yield (g c x)))->forIn l q f=pure (l.foldl g q):=by
 induction l with
 |nil=>intro q _;rfl
 |cons x r I=>
  intro q h;rw[List.forIn_cons,h x Zo q];show(pure (aba (g q x)) >>=_)=_;rw[pure_bind];exact I (g q x) λy V c=>h y (Y8 _ V) c
def oM(env:Env)(I:List (Str×Addr))(y:Str×aaP):List (Str×Addr):=if y.2== .free then(y.1,(env.cells.lookup y.1).getD 0)::I else I
def su(scope:Scope)(env:Env):List (Str×Addr):=scope.names.foldl (oM env) []
theorem j5(h:∀y∈scope.names,y.2= .free->∃c,env.cells.lookup y.1=ac c):closureFor scope env=pure (su scope env):=by
 unfold closureFor;dsimp only;rw[Fo (oM env) [] λy V c=>?_]
 .rw[pure_bind]
  rfl
 .obtain⟨n,k⟩:=y
  unfold oM;dsimp only;by_cases O:(k==acB)=ag
  .rw[YH O,YH O]
   obtain⟨a,Y⟩:=h (n,k) V (by simpa using O);have Y:env.cells.lookup n=ac a:=Y;unfold cellOf;rw[Y];rfl
  .rw[Y4 O,Y4 O]
theorem xq(R:Str->Addr->Prop):∀(l:List (Str×aaP))(acc:List (Str×Addr)),(∀x c,acc.lookup x=ac c->R x c)->(∀y∈l,y.2= .free->R y.1 ((env.cells.lookup y.1).getD 0))->
  ∀x c,(l.foldl (oM env) acc).lookup x=ac c->R x c
 |[],acc,h,_=>h
 |y::r,acc,h,hy=>by
  refine xq R r (oM env acc y) (λx c e=>?_) λz hz=>hy z (Y8 _ hz);unfold oM at e;split at e
  .rename_i hk
   rw[ZP]at e;cases F:(x==y.1)with
   |true=>
    rw[F]at e;have ex:x=y.1:=by simpa using F
    cases e;rw[ex];exact hy y Zo (by simpa using hk)
   |false=>
    rw[F]at e;exact h x c e
  .exact h x c e
theorem rN{env:Env}:∀(l:List (Str×aaP))(acc:List (Str×Addr))(x:Str),((∃c,acc.lookup x=ac c)∨(x,acB)∈l)->∃c,(l.foldl (oM env) acc).lookup x=ac c
 |[],acc,x,h=>by
  rcases h with h|h
  .exact h
  .cases h
 |y::r,acc,x,h=>by
  refine rN r (oM env acc y) x ?_;rcases h with⟨c,h⟩|h
  .left
   unfold oM;split
   .rw[ZP]
    cases F:(x==y.1)with
    |true=>exact⟨_,rfl⟩
    |false=>exact⟨c,h⟩
   .exact⟨c,h⟩
  .rcases Yu.mp h with e|e
   .left
    unfold oM;subst e;rw[YH (by rfl),ZP,show(x==x)=ag by simp];exact⟨_,rfl⟩
   .exact .inr e
theorem Ak:∀(names:List (Str×aaP))(n:Nat)(acc:List (Str×Addr))(x:Str)(c:Addr),(aag n names acc).lookup x=ac c->acc.lookup x=ac c∨n<=c
 |[],_,_,_,_,h=>.inl h
 |(y,k)::r,n,acc,x,c,h=>by
  unfold aag at h;split at h
  .rcases Ak r _ _ x c h with z|z
   .rw[ZP]at z
    split at z
    .cases z;exact .inr (YB _)
    .exact .inl z
   .exact .inr (acp z)
  .exact Ak r n acc x c h
theorem Fw:∀(names:List (Str×aaP))(n:Nat)(acc:List (Str×Addr)),(∀x c,acc.lookup x=ac c->c<n)->(∀x y c,acc.lookup x=ac c->acc.lookup y=ac c->x=y)->∀x y c,(aag n names acc).lookup x=ac c->(aag n names acc).lookup y=ac c->x=y
 |[],_,_,_,h=>h
 |(w,k)::r,n,acc,hl,h=>by
  unfold aag;split
  .refine Fw r _ _ (λx c e=>?_) λx y c e1 e2=>?_
   .rw[ZP]at e
    split at e
    .cases e;exact abp _
    .exact aay (hl x c e)
   .rw[ZP]at e1 e2
    cases F:(x==w)<;>cases V:(y==w)<;>rw[F]at e1<;>rw[V]at e2
    .exact h x y c e1 e2
    .cases e2;exact absurd (hl x _ e1) (ZW _)
    .cases e1;exact absurd (hl y _ e2) (ZW _)
    .exact(beq_iff_eq.mp F).trans (beq_iff_eq.mp V).symm
  .exact Fw r n acc hl h
theorem Ga:∀(names:List (Str×aaP))(n:Nat)(acc:List (Str×Addr))(x:Str),((∃c,acc.lookup x=ac c)∨(x,aaH)∈names)->∃c,(aag n names acc).lookup x=ac c
 |[],_,_,_,h=>h.elim id λz=>by cases z
 |(w,k)::r,n,acc,x,h=>by
  unfold aag;split
  .refine Ga r _ _ x ?_
   rw[ZP];cases F:(x==w)with
   |true=>exact .inl ⟨_,rfl⟩
   |false=>
    rcases h with h|h
    .exact .inl h
    .rcases Yu.mp h with z|z
     .cases z;simp at F
     .exact .inr z
  .rename_i hk
   refine Ga r n acc x (h.imp id λz=>?_);rcases Yu.mp z with z|z
   .cases z;exact absurd rfl hk
   .exact z
theorem Ar:∀(names:List (Str×aaP))(n:Nat)(acc:List (Str×Addr))(x:Str),(x,aaH)∉names->(aag n names acc).lookup x=acc.lookup x
 |[],_,_,_,_=>rfl
 |(w,k)::r,n,acc,x,h=>by
  unfold aag;split
  .rename_i hk
   rw[Ar r _ _ x λz=>h (Y8 _ z),ZP];have:(x==w)=ae:=by
    cases F:(x==w)with
    |false=>rfl
    |true=>exact absurd (by rw[beq_iff_eq.mp F,show k=aaH by simpa using hk];exact Zo) h
   rw[this]
  .exact Ar r n acc x λz=>h (Y8 _ z)
theorem Gk:∀(names:List (Str×aaP))(n:Nat)(acc:List (Str×Addr))(x:Str)(c:Addr),((∀c,acc.lookup x=ac c->m<=c)∨(x,aaH)∈names)->m<=n->(aag n names acc).lookup x=ac c->m<=c
 |[],_,_,_,c,h,_,e=>h.elim (λh=>h c e) λz=>by cases z
 |(w,k)::r,n,acc,x,c,h,hm,e=>by
  unfold aag at e;split at e
  .refine Gk r _ _ x c ?_ (Nat.le_succ_of_le hm) e
   by_cases F:x=w
   .exact .inl λc e=>by rw[ZP,F,beq_self_eq_true]at e;cases e;exact hm
   .rcases h with h|h
    .exact .inl λc e=>by rw[ZP,beq_false_of_ne F]at e;exact h c e
    .rcases Yu.mp h with z|z
     .cases z;exact absurd rfl F
     .exact .inr z
  .rename_i hk
   refine Gk r n acc x c (h.imp id λz=>?_) hm e;rcases Yu.mp z with z|z
   .cases z;exact absurd rfl hk
   .exact z
theorem Ag:∀(names:List (Str×aaP))(h:Heap)(acc:List (Str×Addr)),(∀x c,acc.lookup x=ac c->∃v,h.IsCell c v)->∀x c,(aag h.objs.size names acc).lookup x=ac c->∃v,(adX h names).IsCell c v
 |[],_,_,h=>h
 |(w,k)::r,hp,acc,h=>by
  unfold aag adX;split
  .have:=Ag r (hp.push {cls:=.type "cell",data:=.cell af}) ((w,hp.objs.size)::acc) λx c e=>by
    rw[ZP]at e;split at e
    .cases e;exact⟨_,_,YG _ rfl,rfl⟩
    .obtain⟨v,hv⟩:=h x c e
     exact⟨v,hv.keeps λb o e=>Yp _ e⟩
   rwa[Z7]at this
  .exact Ag r hp acc h
theorem Hl{M:Model}{A:Zx}{E:Value->Ym->Prop}{s:Ym}{z q:Addr}{cl:List (Str×Addr)}{F:Option Addr}{B:Value}{Q:Env->Ym->Prop}
  (I:Q (newEnv scope s.heap.objs.size z (aag (s.heap.objs.size+1) scope.names cl) qual F B (ac env) q) {s with heap:=adX (s.heap.push {cls:=.type "dict",data:=.dict #[]}) scope.names}):wpAny M A (acT scope z cl [] qual F B (ac env) q) Q E s:=by
 simp![acT,aeR,Y6];refine W2 (wpAny_alloc ?_);refine W2 (wpAny_layCells _ (λname kind O=>by cases U:kind==aaH<;>simp[U]) _ _ _ _ ?_);rw[show({s with heap:=s.heap.push {cls:=.type "dict",data:=.dict #[]}}:Ym).heap.objs.size=s.heap.objs.size+1 from Z7 ..];exact W2 (Yq (Yq I))
def Vd(scope:Scope)(x:Str):Bool:=match scope.names.lookup x with
 |some .cell=>ag
 |_=>ae
def wZ(scope:Scope)(env:Env)(C:Addr):List (Str×Addr):=aag (C+1) scope.names (su scope env)
def bM(X:Cx)(N':List Str)(scope:Scope)(C:Addr)(Y:Ym)(q:Hp)(fp:List Addr):Cx:=
 {X with N:=N',s₀:=Y,H₀:=q,env:=compEnvC scope (wZ scope X.env C) C X.env,outer:=X.stack,stack:=X.stack,ex:=fp,fn:=Vd scope,pn:=[],xe:=λ_ _=>False}
def fV(cap:List (Option Nat))(σ:L2.St):L2.St:=cap.map λo=>o.bind λj=>(σ[j]?).bind id
structure cj(sc:Scope)(N N':List Str)(scope:Scope)(cap:List (Option Nat)):Prop where
 kind:scope.kind= .function
 cellnm:∀y∈scope.names,y.2= .cell->scope.names.lookup y.1=ac .cell
 nm:∀y∈scope.names,y.2= .local->scope.names.lookup y.1=ac .local
 free:∀y∈scope.names,y.2= .free->sc.names.lookup y.1=ac .cell∨sc.names.lookup y.1=ac .free
 len:cap.length=N'.length
 cap:∀i∈Zw cap.length,∀j∈Zw N.length,cap[i]? =ac (ac j)->N[j]? =N'[i]?/\∀x∈N'[i]?,scope.names.lookup x=ac .free
theorem jR{l:List (Str×α)}{k:α}(h:l.lookup x=ac k):(x,k)∈l:=aaZ h
theorem Nz(h:Vd scope x=ag):(x,aaH)∈scope.names:=by
 unfold Vd at h;split at h
 .rename_i e;exact jR e
 .cases h
theorem qM{k:aaP}(O:(ae0 scope env).names.lookup x=ac k)(U:k= .cell∨k= .free):(x,acB)∈scope.names∨(x,aaH)∈scope.names:=by
 have h:=jR O;obtain⟨⟨n,q⟩,V,e⟩:=Yr.mp h;dsimp only at e;split at e
 .rename_i hc
  cases e;have:q= .free:=by
   have:=(aet.mp (aet.mp hc).1).1;simpa using this
  subst this;exact .inl V
 .cases e
  rcases U with z|z
  .subst z;exact .inr V
  .subst z;exact .inl V
variable{σ:L2.St}{cap:List (Option Nat)}
theorem kW(I:Inv X pins σ H s)(O:cj X.env.scope X.N N' scope cap){c:Addr}(h:(su scope X.env).lookup x=ac c):X.env.cells.lookup x=ac c:=by
 refine xq (λx c=>X.env.cells.lookup x=ac c) scope.names [] (λx c e=>by simp at e) (λy V q=>?_) x c h;obtain⟨c,e⟩:=I.ok.has y.1 (O.free y V q);rw[e];rfl
variable{C:Addr}
theorem yz(I:Inv X pins σ H s)(O:cj X.env.scope X.N N' scope cap){c:Addr}(h:(wZ scope X.env C).lookup x=ac c):X.env.cells.lookup x=ac c∨C+1<=c:=(Ak _ _ _ x c h).imp (kW I O) id
theorem PX(I:Inv X pins σ H s)(O:cj X.env.scope X.N N' scope cap)(Y:∀b∈fp,lB X pins H b)(V:∀b∈fp,b<s.heap.objs.size)(F:s.heap.objs.size<=C):(bM X N' scope C s H fp).Ok where
 mod:=I.ok.mod
 kind:=O.kind
 glob:=I.ok.glob
 blt:=I.ok.blt
 above:=F
 inj:=Fw _ _ _ (λx c e=>by
   obtain⟨v,B⟩:=I.cell x c (kW I O e);exact aay (YQ B.lt F)) λx y c h1 h2=>I.ok.inj x y c (kW I O h1) (kW I O h2)
 has:=λx h=>Ga _ _ _ x ((h.elim (λh=>qM h (.inl rfl)) λh=>qM h (.inr rfl)).imp (λz=>rN scope.names [] x (.inr z)) id)
 cab:=λx c h e=>ZJ F (acp (Gk _ _ _ x c (.inr (Nz h)) (YB _) e))
 hd:=I.ok.hd
 frames:=I.ok.frames
 stk:=.inl rfl
 exf:=λb U=>⟨YZ (YQ (V b U) F),λx c e=>(yz I O e).elim (λe=>(Y b U).2.2.2.2.1 x c e) λz=>aaE (YQ (V b U) (ZJ F (acp z)))⟩
 bs:=I.bs
 bsz:=ZJ I.ok.bsz I.sz
 noex:=λb o e U=>by
  rcases(Y b U).2.2.2.1 with z|z
  .exact I.ok.noex b o e z
  .exact absurd (YQ (YF (I.ok.bs b o e).1) z) (ZW _)
 exfs:=λb U z=>by
  rcases Yu.mp (I.stkSub b z)with q|q
  .exact(Y b U).2.1 q
  .exact(Y b U).2.2.1 q
 funs:=I.stack
 frf:=I.stkFree
theorem DG{a0:Heap}{D:Addr}(I:Inv X pins σ H s)(O:cj X.env.scope X.N N' scope cap)(Y:∀b∈fp,lB X pins H b)(b1:∀b∈fp,b<s.heap.objs.size)
  (hC:s.heap.objs.size<=C) (hD:s.heap.objs.size<=D) (b3:D≠C) (old:∀b u,s.heap.get? b=ac u->a0.get? b=ac u) {m:Str->Option Value} (a9:a0.Ns C m) (b2:a0.get? D=ac o) (a8:∀v,o.data≠.cell v) (F:∀x c,(wZ scope X.env C).lookup x=ac c->∃v,a0.IsCell c v) :
  Inv (bM X N' scope C s H fp) [(D,o)] (fV cap σ) H {s with heap:=a0,toks:=tk}where
 ok:=PX I O Y b1 hC
 os:=rfl
 bare:=I.bare
 base:=Un.kept old
 loc:=by
  refine⟨m,a9,λi x v e1 e2 e3=>?_⟩;have e1:N'[i]? =ac x:=e1;unfold fV at e2;rw[List.getElem?_map]at e2;cases B:cap[i]? with
  |none=>rw[B]at e2;cases e2
  |some q=>
   rw[B]at e2;cases q with
   |none=>cases e2
   |some j=>
    have e2:(σ[j]?).bind id=ac v:=Zr e2;have a7:σ[j]? =ac (ac v):=by
     cases z:σ[j]? with
     |none=>rw[z]at e2;cases e2
     |some y=>
      rw[z]at e2;have:y=ac v:=e2;rw[this]
    have hi:i<cap.length:=(List.getElem?_eq_some_iff.mp B).1;have hj:j<X.N.length:=by
     have:=(List.getElem?_eq_some_iff.mp a7).1;rw[I.len]at this;exact this
    obtain⟨c1,c2⟩:=O.cap i (abl.mpr hi) j (abl.mpr hj) B;have a2:scope.names.lookup x=ac .free:=c2 x (by rw[e1];rfl);have hN:X.N[j]? =ac x:=c1.trans e1;have a3:=jR a2;have a4:Vis X.env.scope x:=(O.free _ a3 rfl).elim (λz=>.inr (.inl z)) λz=>.inr (.inr z);obtain⟨m0,_,Z⟩:=I.loc;obtain⟨u,r,lk⟩:=Z j x v hN a7 a4;refine⟨u,r,?_⟩;rcases lk with⟨k,_⟩|⟨_,c,ec,a1⟩
    .have k:X.env.scope.names.lookup x=ac .local:=k
     rcases O.free _ a3 rfl with z|z
     .rw[k]at z;cases z
     .rw[k]at z;cases z
    .right
     obtain⟨c',a5⟩:=rN (env:=X.env) scope.names [] x (.inr a3);have a6:=kW I O a5;rw[ec]at a6;cases a6;have b4:(x,aaH)∉scope.names:=λz=>by
      have:=O.cellnm _ z rfl;rw[a2]at this;cases this
     refine⟨?_,c,(Ar _ _ _ x b4).trans a5,?_⟩
     .have e3:Vis (ae0 scope X.env) x:=e3
      rcases e3 with e3|e3|e3
      .exfalso
       have hm:=jR e3;obtain⟨⟨n,q⟩,b0,e⟩:=Yr.mp hm;dsimp only at e;split at e
       .cases e
       .cases e
        have:=O.nm _ b0 rfl;rw[a2]at this;cases this
      .exact .inl e3
      .exact .inr e3
     .obtain⟨oc,h1,h2⟩:=a1
      exact⟨oc,old _ _ h1,h2⟩
 cell:=F
 free:=I.hok.fresh hC
 freeC:=λx c e=>(yz I O e).elim (I.freeC x c) λz=>I.hok.fresh (ZJ hC (acp z))
 pin:=λp V=>by
  have e:p=(D,o):=by simpa[bM]using V
  subst e;refine⟨b2,I.hok.fresh hD,b3,λz=>?_,a8⟩;obtain⟨b,U,e⟩:=ac6.mp z;have hz:D∈X.env.locals::X.fs:=I.stkSub D z;rcases Yu.mp hz with q|q
  .exact absurd (YQ (by rw[q];exact I.lt) hD) (ZW _)
  .exact I.nofs hD q
 hok:=I.hok.kept old
 len:=by
  unfold fV;rw[Yt];exact O.len
theorem CV{H2:Heap}(I:Inv X pins σ H s)(O:cj X.env.scope X.N N' scope cap)(z:s.heap.push o=H2)(F:o.isFreed=ae) :
  ∃q:Heap,(∀b u,s.heap.get? b=ac u->q.get? b=ac u)/\q.get? s.heap.objs.size=ac o/\q.Ns H2.objs.size (λ_=>af)/\(∀x c,(wZ scope X.env H2.objs.size).lookup x=ac c->∃v,q.IsCell c v)/\q=adX (H2.push {cls:=.type "dict",data:=.dict #[]}) scope.names:=by
 have keep:∀b u,H2.get? b=ac u->(adX (H2.push {cls:=.type "dict",data:=.dict #[]}) scope.names).get? b=ac u:=λb u e=>pushCells_keeps _ _ b u (Yp _ e);have old:∀b u,s.heap.get? b=ac u->H2.get? b=ac u:=λb u e=>z▸Yp _ e;refine⟨_,λb u e=>keep b u (old b u e),keep _ _ (z▸YG _ F),(Heap.Ns.new H2 (.type "dict")).keeps (pushCells_keeps _ _),?_,rfl⟩;have:=Ag scope.names (H2.push {cls:=.type "dict",data:=.dict #[]}) (su scope X.env) λx c e=>by
  obtain⟨v,B⟩:=I.cell x c (kW I O e);exact⟨v,B.keeps λb u e=>Yp _ (old b u e)⟩
 rwa[Z7]at this
abbrev NoX:Value->Ym->Prop:=λ_ _=>False
theorem yt{iter:Expr}{it acc:Value}(I:Nat->Ym->Prop)
  (F:∀n s,I n s->wpAny 1.16 A (ab6 it) (λr B=>match r with
   |none=>R (.ok .next) B
   |some v=>wpAny 1.16 A (ab0 target it v) (λ_ V=>wpAny 1.16 A (ab5 target env v) (λ_ Y=>
    wpAny 1.16 A (forIn ifs ag λc r=>if r=ag then do let ok ←ad_ c env (eval c env);pure (aba ok)else pure (aba r)) (λok z=>
     if ok=ag then wpAny 1.16 A (eval elt env) (λx U=>wpAny 1.16 A (call (.builtin "list.append") [acc,x]) (λ_ a0=>∃m,m<n/\I m a0) NoX U) NoX z
     else ∃m,m<n/\I m z) NoX Y) NoX V) NoX B) NoX s)
  (n:Nat) (h:I n s):aa8 1.16 A (.compLoop 1.15 0 it acc env) R s:=by
 refine codeAny_loop rfl I (λn s O=>?_) n h;show wpAny _ A ((compTurn 1.15 0 it acc env).onRaise (λx=>do noteFrame x env;theTreesLotGoes x)) _ _ s;refine wpAny_noted ?_;rw[compTurn_list];refine W2 (abv (W2 (Z9 (F n s O) (λr B q=>?_) λ_ _ h'=>h'.elim)));cases r with
 |none=>exact Yq q
 |some v=>
  refine W2 (Z9 q (λ_ V a1=>?_) λ_ _ h'=>h'.elim);refine W2 (Z9 a1 (λ_ Y a3=>W2 (Z9 a3 (λok z Z=>?_) λ_ _ h'=>h'.elim)) λ_ _ h'=>h'.elim);cases ok with
  |false=>exact Yq ⟨rfl,Z⟩
  |true=>
   exact W2 (W2 (Z9 Z (λx U a4=>W2 (Z9 a4 (λ_ a0 a2=>Yq (Yq ⟨rfl,a2⟩)) λ_ _ h'=>h'.elim)) λ_ _ h'=>h'.elim))
def PTs(X:Cx)(ifs:List Expr)(t:TT):Prop:=
 ∀(pins:List (Addr×Obj))(s:Ym)(σ:L2.St)(H:Hp)(Q:Bool->Hp->Prop),Inv X pins σ H s->t σ H Q->
  wpAny 1.13 X.A (forIn ifs ag λc r=>if r=ag then do let ok ←ad_ c X.env (eval c X.env);pure (aba ok)else pure (aba r)) (TP X pins σ Q) X.xe s
def W0:TT:=λ_ H Q=>Q ag H
theorem Q3:PTs X [] W0:=λ_ _ _ H _ I h=>wpAny_tests_nil ⟨H,I,h⟩
theorem Pu{t:TT}(h:PT X c t):PTs X [c] t:=λpins s σ H Q I q=>wpAny_tests_one (h pins s σ H Q I q)
def Kp(σ q:L2.St):Prop:=∀(i:Nat) v,σ[i]? =ac (ac v)->q[i]? =ac (ac v)
def RD(J:It)(H:Hp)(g:TG)(tt:TT)(te:TE)(σ:L2.St)(Q:List V->Hp->Prop):Prop:=
 ∃W:Nat->Nat->List V->Hp->Prop,(∃m,W 0 m [] H)/\∀i m ys H,W i m ys H->
  (J.stop i H/\Q ys H)∨(J.go i H/\ys.length<Yx/\∃N:List V->Hp->Prop,(∀q H',N q H'->∃m',m'<m/\W (i+1) m' q H')/\
   ∀x H',J.yld i H x H'->g x σ H' λσ2 H2=>Kp σ σ2/\tt σ2 H2 λb Y=>if b=ag then te σ2 Y λv z=>N (ys++[v]) z else N ys Y)
def Cz(cap:List (Option Nat))(wi:TI)(g:TG)(tt:TT)(te:TE):TE:=λσ H Q=>wi σ H λJ H1=>
 RD J H1 g tt te (fV cap σ) λys H2=>ys.length<=Yx/\∀D,H2 D=af->Q (.ref D) (upd H2 D (.lst ys))
section
variable{X:Cx}{elt target iter:Expr}{ifs:List Expr}{scope:Scope}{pos:Pos}{N':List Str}{cap:List (Option Nat)}{wi:TI}{g:TG}{tt:TT}{te:TE}
def lobj(its:List Value)(n:Nat):Obj:={cls:=.type "list",data:=.seq its.toArray n}
theorem vq{pins:List (Addr×Obj)}{σ:L2.St}{H:Hp}{Y:Ym}{it:Addr}{fp:List Addr}{tn:Nat->Heap->Prop}{J:It}{Q:List V->Hp->Prop}{RR:Value->Addr->Result->Ym->Prop}{E:Value->Ym->Prop}
  (B:X.calm=ag) (O:cj X.env.scope X.N N' scope cap) (I:Inv X pins σ H Y) (T:Turn X.prog X.w X.K target J fp it tn) (st:tn 0 Y.heap) (f2:∀b∈fp,lB X pins H b)
  (hg:∀C,PG 1.14 target g) (ht:∀C,PTs 1.14 ifs tt) (he:∀C,PE 1.14 elt te) (cw:RD J H g tt te (fV cap σ) Q)
  (c5:∀(D C:Addr)(s':Ym)(H':Hp)(ys:List V)(its:List Value)(n:Nat)(a6:L2.St),Y.heap.objs.size<=D->Y.heap.objs.size<=C->D≠C->Inv 1.14 [(D,lobj its n)] a6 H' s'->Vals ys its->Q ys H'->
   RR (.ref D) C (.ok .next) s') :
  wpAny 1.13 X.A (adA []) (λacc b8=>wpAny 1.13 X.A (acT scope X.env.globals (su scope X.env) [] X.env.qual af .none (ac X.env)) (λb1 b2=>
   aa8 1.13 X.A (.compStart 1.15 0 (.ref it) acc {b1 with scope:=ae0 scope X.env}) (RR acc b1.locals) b2) E b8) E Y:=by
 refine aac (Hl ?_);dsimp only;generalize b4:Y.heap.push {cls:=.type "list",dict:=af,data:=.seq ([]:List Value).toArray}=H2;have hC:H2.objs.size=Y.heap.objs.size+1:=by rw[←b4,Z7]
 have a8:Y.heap.objs.size≠H2.objs.size:=by rw[hC];exact YZ (abp _)
 have a0:Y.heap.objs.size<=H2.objs.size:=by rw[hC];exact abC _
 obtain⟨b0,old,c0,a5,c3,c2⟩:=CV (o:=lobj [] 0) I O b4 rfl;rw[←c2];have a7:∀b∈fp,b<Y.heap.objs.size:=λb U=>by
  obtain⟨o,e,_⟩:=T.obj 0 _ st b U;exact YF e
 have I1:=DG (tk:=Y.toks) I O f2 a7 a0 (YB _) a8 old a5 c0 (λv z=>by cases z) c3;have b5:tn 0 b0:=T.keep _ _ _ st λb _ o e=>old b o e;obtain⟨W,⟨m0,w0⟩,b9⟩:=cw;generalize hD:Y.heap.objs.size=D at *
 generalize c8:H2.objs.size=C at *
 have a1:∀{H':Hp}{o:Obj},(∀b∈fp,H' b=af)->∀b∈fp,lB 1.14 [(D,o)] H' b:=λ{H' o} hn b U=>by
  refine⟨hn b U,YZ (YQ (a7 b U) a0),I1.ok.exfs b U,.inl U,(I1.ok.exf b U).2,λp hp=>?_⟩;have e:p=(D,o):=by simpa[bM]using hp
  subst e;exact aaE (a7 b U)
 have a9:aa8 1.13 X.A (.compLoop 1.15 0 (.ref it) (.ref D) (compEnvC scope (wZ scope X.env C) C X.env)) (RR (.ref D) C) {Y with heap:=b0}:=by
  refine yt (λn s'=>∃i ys its k H',Inv 1.14 [(D,lobj its k)] (fV cap σ) H' s'/\Vals ys its/\tn i s'.heap/\(∀b∈fp,H' b=af)/\W i n ys H') ?_ m0 ⟨0,[],[],0,H,I1,.nil,b5,λb U=>(f2 b U).1,w0⟩;rintro n s3 ⟨i,ys,its,k,H3,I3,rv,b6,c1,w3⟩;rcases b9 i n ys H3 w3 with⟨stop,qn⟩|⟨go,hsz,N,hN,step⟩
  .refine thn (T.done 1.14 rfl rfl rfl B i _ s3 _ H3 NoX I3 (a1 c1) b6 stop) λr s4 ⟨Z,I4⟩=>?_
   subst Z;exact c5 D C s4 H3 ys its k _ (YB _) a0 a8 I4 rv qn
  .refine thn (T.item 1.14 rfl rfl rfl B i _ s3 _ H3 NoX I3 (a1 c1) b6 go) λr s4 ⟨u,Z,h4⟩=>?_
   subst Z;refine thn h4 λ_ s5 ⟨x,H5,I5,r5,y5,a4,c7⟩=>?_;have c4:=I5.pinned (a1 c7) (T.obj _ _ a4);refine thn (hg C _ s5 _ H5 x u _ c4 r5 (step x H5 y5)) λ_ s6 ⟨a2,H6,I6,b3,q6⟩=>?_;refine thn (ht C _ s6 a2 H6 _ I6 q6) λok s7 ⟨H7,I7,q7⟩=>?_;have a3:∀{s':Ym}{H':Hp}{a6:L2.St},Inv 1.14 ([(D,lobj its k)]++j0 fp s5.heap) a6 H' s'->tn (i+1) s'.heap/\∀b∈fp,H' b=af:=λ{s' H' a6} Ix=>by
    refine⟨T.keep _ _ _ a4 λb U o e=>(Ix.pin (b,o) (Yn _ (Yn _ (dU U e)))).1,λb U=>?_⟩;obtain⟨o,e,d⟩:=T.obj _ _ a4 b U;exact(Ix.pin (b,o) (Yn _ (Yn _ (dU U e)))).2.1
   have b7:(fV cap σ).length=a2.length:=by rw[I6.len,I1.len]
   cases ok with
   |false=>
    have n7:N ys H7:=by simpa using q7
    obtain⟨m',hm,w7⟩:=hN _ _ n7;exact⟨m',hm,i+1,ys,its,k,H7,I7.unpinned.weak b7 b3,rv,(a3 I7).1,(a3 I7).2,w7⟩
   |true=>
    have q7:te a2 H7 λv H4=>N (ys++[v]) H4:=by simpa using q7
    refine thn (he C _ s7 a2 H7 _ I7 q7) λu8 s8 ⟨v,H8,I8,r8,n8⟩=>?_;obtain⟨eD,nD,_,c6,_⟩:=I8.pin (D,lobj its k) (Yn _ (Yv _ Zo));have lv:=rv.length;refine adw aeQ ⟨_,eD,rfl⟩ aeE (aes _ _) (ae6 D its.toArray k u8 (by rw[List.size_toArray];omega)) ⟨eD,?_⟩;obtain⟨m',hm,w8⟩:=hN _ _ n8;obtain⟨k',eN⟩:∃k',(s8.heap.update D (aa2 (·.push u8))).get? D=ac (lobj (its++[u8]) k'):=by
     have q:=afk eD (·.push u8);dsimp only at q;rw[List.push_toArray]at q;exact⟨_,q⟩
    have I9:Inv 1.14 (j0 fp s5.heap) a2 H8 {s8 with heap:=s8.heap.update D (aa2 (·.push u8))}:=by
     refine Inv.turned (it:=D) (t':=s8.toks) (I8.pins_of λp hp=>I8.pin p (Yn _ (Yn _ hp))) (λb o U e=>(ZR s8.heap (aa2 _) (Zy U)).trans e) nD a8 (.inr (by rw[←hD];exact YB _)) (λx c e z=>?_) (λp hp z=>?_)
     .rcases yz I O e with e|e
      .obtain⟨vc,oc,h1,_⟩:=I.cell x c e
       have hh:=YF h1;rw[z,hD]at hh;exact ZW _ hh
      .rw[z]at e
       exact absurd (ZJ e a0) (aeu _)
     .have hp:p∈j0 fp s5.heap:=hp
      have hh:=a7 p.1 (rB hp).1;rw[z]at hh;exact ZW _ hh
    refine⟨m',hm,i+1,ys++[v],its++[u8],k',H8,(I9.weak b7 b3).pins_of (λp hp=>?_),rv.append (.cons r8 .nil),?_,λb U=>?_,w8⟩
    .have e:p=(D,lobj (its++[u8]) k'):=Yz.mp hp
     rw[e];exact⟨eN,nD,a8,c6,λv z=>by cases z⟩
    .exact T.keep _ _ _ a4 λb U o e=>(I9.pin (b,o) (Yn _ (dU U e))).1
    .obtain⟨o,e,d⟩:=T.obj _ _ a4 b U
     exact(I9.pin (b,o) (Yn _ (dU U e))).2.1
 exact codeAny_compStart_list a9 (T.self _ 0 _ _ _ b5 a9)
theorem Hu(hx:X.xe=NoX)(B:X.calm=ag)(O:cj X.env.scope X.N N' scope cap)(hi:PI X target iter wi)
  (hg:∀C Y H fp,PG 1.14 target g) (ht:∀C Y H fp,PTs 1.14 ifs tt) (he:∀C Y H fp,PE 1.14 elt te)
  (hs:∀x,ZL iter X.env x=pure x:=by intro _;rfl):PE X 1.15 (Cz cap wi g tt te):=by
 intro pins s σ H Q I h;rw[eval_ListComp];refine aca (use:=af) rfl hs (j5 λy V hk=>I.ok.has y.1 (O.free y V hk)) O.kind O.nm (thn (hi pins s σ H _ I h) λv Z h1=>thn h1 λa4 s2 h2=>?_);obtain⟨it,fp,tn,J,H2,e,I2,T,a1,f2,cw⟩:=h2;subst e;refine vq (RR:=λacc C=>compPost 1.13 X.A X.xe af (EP X pins σ Q) acc C) B O I2 T a1 f2 (λC=>hg C _ _ _) (λC=>ht C _ _ _) (λC=>he C _ _ _) cw ?_;intro D C s' H' ys its n F hD hC a3 I' rv q;obtain⟨hz,q⟩:=q;obtain⟨m,a2,_⟩:=I'.loc;refine⟨m,a2,λh' sb=>?_⟩;obtain⟨eD,nD,_,a5,_⟩:=I'.pin (D,lobj its n) (Yn _ Zo);have a0:Inv X pins σ (upd H' D (.lst ys)) {s' with heap:=h'}:=by
  refine I2.call' (ch:=fp) I'.os ?_ ?_ I'.bare (λb U=>⟨(f2 b U).2.2.2.1,(f2 b U).2.1,(f2 b U).2.2.2.2.1,(f2 b U).2.2.2.2.2⟩)
  .have ne:∀b o,s2.heap.get? b=ac o->b≠C/\b≠D:=λb o e=>⟨YZ (YQ (YF e) hC),YZ (YQ (YF e) hD)⟩
   refine⟨λb o e n U he=>sb.extBut b o (ne b o e).1 (I'.base.keep b o e n U he),λb o e n U he=>?_,λb o e n he=>?_,λb o e he=>?_,λb xs e=>?_,λb o u e=>?_,λb ps e=>?_⟩
   .obtain⟨sl,e1⟩:=I'.base.slot b o e n U he
    exact⟨sl,sb.extBut b _ (ne b o e).1 e1⟩
   .rw[aK (ne b o e).2]
    exact I'.base.free b o e n he
   .obtain⟨o',e1⟩:=I'.base.there b o e he
    exact⟨o',sb.extBut b _ (ne b o e).1 e1⟩
   .have e1:=I'.base.tups b xs e
    rw[aK (bG e1 nD)];exact e1
   .have e1:=I'.base.frzs b o u e
    rw[aK (bG e1 nD)];exact e1
   .obtain⟨more,e1⟩:=I'.base.tbls b ps e
    refine⟨more,?_⟩;rw[aK (bG e1 nD)];exact e1
  .intro b u e
   by_cases U:b=D
   .subst U
    rw[aQ]at e;cases e;exact⟨hz,its,n,rv,sb.extBut _ _ a3 eD⟩
   .rw[aK U]at e
    have nC:∀b u,H' b=ac u->b≠C:=λb u e z=>by
     have hf:H' C=af:=I'.free;rw[z,hf]at e;cases e
    refine(I'.hok b u e).stay (λc v B q=>sb.extBut c v ?_ q) (λc q=>by rw[aK (bG q nD)];exact q) λc xs q=>by rw[aK (bG q nD)];exact q
    rcases B with z|z
    .rw[z]
     exact nC b u e
    .exact nC c _ z
 exact⟨.ref D,_,a0,rfl,q D nD⟩
end
theorem Uh{x:V}{t:Value}(I:Inv X pins σ H s)(rx:RelV x u)(F:lV X.K H x t):∃Hq,PySem.W.KitX X.K u t Hq/\Hq s.heap/\u≠.builtin "__main__.__loader__#opaque":=by
 cases F with
 |non=>cases (show u=Z8 from rx);exact⟨_,ae3,Z2,λz=>nomatch z⟩
 |bl y=>cases (show u=acg y from rx);exact⟨_,ae4,Z2,λz=>nomatch z⟩
 |int i=>obtain⟨t,q⟩:=(show ∃t,u=ac2 i t from rx);cases q;exact⟨_,afh,Z2,λz=>nomatch z⟩
 |str y=>obtain⟨t,q⟩:=(show ∃t,u=ac3 y t from rx);cases q;exact⟨_,afi,Z2,λz=>nomatch z⟩
 |flt y=>obtain⟨t,q⟩:=(show ∃t,u=afb y t from rx);cases q;exact⟨_,aeM,Z2,λz=>nomatch z⟩
 |@lst a xs U=>
  cases (show u=Zk a from rx);obtain⟨_,_,n,_,h1⟩:=(show cG X.prog X.w H s.heap a (.lst xs)from I.hok a _ U);exact⟨_,acn,⟨_,h1,rfl⟩,λz=>nomatch z⟩
 |@frz a ob xs U=>
  cases (show u=Zk a from rx);obtain⟨_,_,_,n,_,h1⟩:=(show cG X.prog X.w H s.heap a (.frz ob (.lst xs))from I.hok a _ U);exact⟨_,acn,⟨_,h1,rfl⟩,λz=>nomatch z⟩
 |@tup a xs U=>
  cases (show u=Zk a from rx);obtain⟨_,_,_,p⟩:=(show cG X.prog X.w H s.heap a (.tup xs)from I.hok a _ U);obtain⟨o,h1,h2,_⟩:=p;exact⟨_,aeN,⟨o,h1,h2⟩,λz=>nomatch z⟩
 |@dK a kvs U=>
  cases (show u=Zk a from rx);obtain⟨_,_,vs,_,p⟩:=(show cG X.prog X.w H s.heap a (.dK kvs)from I.hok a _ U);obtain⟨o,es,ep,h1,h2,_⟩:=p;exact⟨_,aco,⟨o,h1,h2.1⟩,λz=>nomatch z⟩
 |@dT a kvs U=>
  cases (show u=Zk a from rx);obtain⟨_,_,xs,_,o,es,ep,h1,h2,_⟩:=(show cG X.prog X.w H s.heap a (.dT kvs)from I.hok a _ U);exact⟨_,aco,⟨o,h1,h2.1⟩,λz=>nomatch z⟩
 |@ins a C dx fs U cl Y hn B hm=>
  cases (show u=Zk a from rx);obtain⟨Z,O,_⟩:=Hc I.hok U;obtain⟨od,J,_⟩:=O.look;exact⟨_,afj (cl.get _) cl.hd Y hn B hm,J,λz=>nomatch z⟩
theorem Hi:∀{O:List String}{us:List Value},Vals (O.map V.ty) us->us=O.map aau
 |[],_,.nil=>rfl
 |t::r,_,.cons h q=>by cases (show _=aau t from h);rw[Hi q];rfl
theorem zp:gh X (.builtin "isinstance") (λxs H Q=>∃x B O t b,xs=[x,.ref B]/\H B=ac (.tup (YK V.ty O))/\lV X.K H x t/\acU X.K t (O.map aau)=ac b/\Q (.bl b) H):=by
 intro pins s σ H xs us Q I r h;obtain⟨x,B,O,t,b,rfl,a0,F,e,q⟩:=h;obtain⟨u,w',rfl,z,r2⟩:=vals2 r;cases r2;obtain⟨Hq,Z,hz,hn⟩:=Uh I z F;obtain⟨_,its,U,o,h1,h2,n,Y,_⟩:=(show cG X.prog X.w H s.heap B (.tup (O.map V.ty))from I.hok B _ a0);rw[Hi U]at Y;obtain⟨cls,dd,data,sl⟩:=o;cases h2;cases Y;exact PySem.W.kia_tup Z I.kIn hz h1 e hn λtk=>⟨.bl b,H,I.tok tk,rfl,q⟩
theorem xV:∀(tk:Nat)(l:List Str),Vals (l.map V.str) (strsFrom tk l)
 |_,[]=>.nil
 |tk,x::r=>.cons ⟨_,rfl⟩ (xV (tk+1) r)
def Ur:V->List V->Hp->VK->Prop:=λx O H Q=>∃(a b:Str)(l:List Str),x= .str a/\O=[.str b]/\(decide (a.length<b.length)||decide (abZ a<abZ b))=ae/\(b.length==0)=ae/\
 (ZF a b 0 a.length (a.length+1)).isEmpty=ae/\a.length<=Yx/\acb a (ZF a b 0 a.length (a.length+1)) b.length=l/\l.length<=Yx/\
 ∀p,H p=af->Q (.ref p) (upd H p (.lst (l.map V.str)))
theorem NP:MtR X "str.split" Ur:=by
 intro pins s σ H x O v us Q I rx U h;obtain⟨a,b,l,rfl,rfl,Z,z,V,Y,rfl,B,q⟩:=h;obtain⟨t,rfl⟩:=rx;obtain⟨u,rfl,t',rfl⟩:=U.one;refine adw F.slot_str_split (typeIs_str s a t) F.entry_str_split (F.args_str_split_2 _ _) (meets_str_split_sep a b t t' Z z V Y B) ?_;exact⟨.ref s.heap.objs.size,_,I.lnew (xV _ _) (by rw[Yt];exact B),rfl,q _ I.fresh⟩
set_option genSizeOf true in
inductive Dt where
 |non|bl (b:Bool)|int (i:Int)|str (x:Str)|lst (ds:List Dt)|tup (ds:List Dt)
mutual
noncomputable def eqD:Dt->Dt->Bool
 |.non,.non=>ag
 |.bl a,.bl b=>a==b
 |.int a,.int b=>a==b
 |.bl a,.int b=>(if a then 1 else 0)==b
 |.int a,.bl b=>a==(if b then 1 else 0)
 |.str a,.str b=>a==b
 |.lst a,.lst b=>eqL a b
 |.tup a,.tup b=>eqL a b
 |_,_=>ae
noncomputable def eqL:List Dt->List Dt->Bool
 |[],[]=>ag
 |a::r,b::q=>eqD a b&&eqL r q
 |_,_=>ae
end
mutual
noncomputable def Brs(K:YC)(H:Hp):Dt->V->Prop
 |.non,v=>v= .non
 |.bl b,v=>v= .bl b
 |.int i,v=>v= .int i
 |.str x,v=>v= .str x
 |.lst ds,v=>∃a xs,v= .ref a/\SqL K H a xs/\jg K H ds xs
 |.tup ds,v=>∃a xs,v= .ref a/\SqT K H a xs/\jg K H ds xs
noncomputable def jg(K:YC)(H:Hp):List Dt->List V->Prop
 |[],xs=>xs=[]
 |d::r,xs=>∃x ys,xs=x::ys/\Brs K H d x/\jg K H r ys
end
theorem jg.length{K:YC}:∀{ds:List Dt}{xs:List V},jg K H ds xs->ds.length=xs.length
 |[],xs,h=>by
  have h:xs=[]:=by simpa[jg]using h
  rw[h];rfl
 |d::r,xs,h=>by
  obtain⟨x,ys,rfl,_,h⟩:=(by simpa[jg]using h:∃x ys,xs=x::ys/\Brs K H d x/\jg K H r ys);simp[jg.length h]
theorem An:∀{ds es:List Dt},ds.length≠es.length->eqL ds es=ae
 |[],[],h=>absurd rfl h
 |[],_::_,_=>by simp[eqL]
 |_::_,[],_=>by simp[eqL]
 |d::r,e::q,h=>by
  have:r.length≠q.length:=by simpa using h
  simp[eqL,An this]
def eqJ(ds es:List Dt)(j:Nat):Bool:=eqD (ds.getD j .non) (es.getD j .non)
theorem zG:∀{ds es:List Dt},ds.length=es.length->(Zw ds.length).all (eqJ ds es)=eqL ds es
 |[],[],_=>by simp[eqL]
 |[],_::_,h=>by simp at h
 |_::_,[],h=>by simp at h
 |d::r,e::q,h=>by
  have h':r.length=q.length:=by simpa using h
  have I:=zG h';rw[Yy,acv,abT,abH,eqL];congr 1
def K4(K:YC):R2:=λx y H Q=>∃a b xs ys,x= .ref a/\y= .ref b/\SqT K H a xs/\SqT K H b ys/\xs.length+ys.length<=Yx/\
 (xs=[]->Q (.ref b) H)/\(xs≠[]->ys=[]->Q (.ref a) H)/\(xs≠[]->ys≠[]->∀p,H p=af->Q (.ref p) (upd H p (.tup (xs++ys))))
theorem Ln:OpR X (aah .Add) (K4 X.K):=by
 intro pins s σ H x y v u Q I rx ry h;obtain⟨a,b,xs,ys,rfl,rfl,Y,U,hz,q0,q1,q2⟩:=h;by_cases hx:xs=[]
 .cases rx
  cases ry;obtain⟨its,z,p1,_⟩:=I.tuple Y;obtain⟨O,q,p2,_⟩:=I.tuple U;obtain⟨⟨cls,dd,data,sl⟩,ho,B,n,hd⟩:=id p1;obtain⟨⟨a5,a3,a4,a2⟩,a1,V,Z,a0⟩:=id p2;simp only at B hd V a0;subst B hd V a0;exact aeO ⟨_,ho,rfl⟩ ⟨_,a1,rfl⟩ adD aeA acu acj (ab8 _ _)
   (tuple_addW0 a b its.toArray O.toArray n Z dd a3 sl a2 (by rw[z.nil_iff.mpr hx];rfl)) ⟨ho,a1,⟨.ref b,H,I,rfl,q0 hx⟩⟩
 .exact Qx pins s σ H _ _ v u Q I rx ry ⟨a,b,xs,ys,rfl,rfl,Y,U,hx,hz,q1 hx,q2 hx⟩
theorem DX{p:Addr}{o:HO}(I:Inv X pins σ H s)(Y:∀b∈fp,lB X pins H b)(keep:∀b u,b∉fp->s.heap.get? b=ac u->h'.get? b=ac u)(V:s.heap.objs.size<=p)
  (new:cG X.prog X.w (upd H p o) h' p o):Inv X pins σ (upd H p o) {s with heap:=h',toks:=t'}:=by
 have hn:H p=af:=I.hok.fresh V;have F:∀b u,H b=ac u->b∉fp:=λb u e U=>by rw[(Y b U).1]at e;cases e
 have O:∀b u,s.heap.get? b=ac u->b≠p:=λb u e=>YZ (YQ (YF e) V);refine I.step (g':=s.gens) (d':=s.drawn) (ch:=fp) (λb U=>⟨(Y b U).2.2.2.1,(Y b U).2.1,(Y b U).2.2.2.2.1,(Y b U).2.2.2.2.2⟩) (λb u _ _ B e _=>keep b u B e) (λb u _ _ B e _=>⟨u.slots,keep b u B e⟩)
  (λb u _ e n=>by rw[aK (O b u e)];exact n) (λb u B e=>⟨u,keep b u B e⟩) (λb xs e=>by rw[aK (bG e hn)];exact e) (λb ob u e=>by rw[aK (bG e hn)];exact e)
  (λb ps e=>⟨#[],by rw[aK (bG e hn),e];simp⟩) (λm Z=>?_) (λb u e=>?_) I.bare
 .obtain⟨ob,es,ep,ho,r⟩:=Z
  exact⟨ob,es,ep,keep _ ob (λz=>(Y _ z).2.1 rfl) ho,r⟩
 .by_cases U:b=p
  .subst U
   rw[aQ]at e;cases e;exact new
  .rw[aK U]at e
   refine(I.hok b u e).stay (λc v B q=>keep c v ?_ q) (λc q=>by rw[aK (bG q hn)];exact q) λc xs q=>by rw[aK (bG q hn)];exact q
   rcases B with z|z
   .rw[z]
    exact F b u e
   .exact F c _ z
theorem xg(I:Inv X pins σ H s)(Y:∀b∈fp,lB X pins H b)(keep:∀b u,b∉fp->s.heap.get? b=ac u->h'.get? b=ac u):Inv X pins σ H {s with heap:=h',toks:=t'}:=by
 have F:∀b u,H b=ac u->b∉fp:=λb u e U=>by rw[(Y b U).1]at e;cases e
 refine I.step (g':=s.gens) (d':=s.drawn) (ch:=fp) (λb U=>⟨(Y b U).2.2.2.1,(Y b U).2.1,(Y b U).2.2.2.2.1,(Y b U).2.2.2.2.2⟩) (λb u _ _ B e _=>keep b u B e) (λb u _ _ B e _=>⟨u.slots,keep b u B e⟩)
  (λb u _ e n=>n) (λb u B e=>⟨u,keep b u B e⟩) (λb xs e=>e) (λb ob u e=>e) (λb ps e=>⟨#[],by rw[e];simp⟩) (λm V=>?_) (λb u e=>?_) I.bare
 .obtain⟨ob,es,ep,ho,r⟩:=V
  exact⟨ob,es,ep,keep _ ob (λz=>(Y _ z).2.1 rfl) ho,r⟩
 .refine(I.hok b u e).stay (λc v B q=>keep c v ?_ q) (λc q=>q) λc xs q=>q
  rcases B with z|z
  .rw[z]
   exact F b u e
  .exact F c _ z
def Ite(K:YC)(a:Addr):It:=
 ⟨λi H=>∃xs x,SqL K H a xs/\xs[i]? =ac x,λi H x H'=>∃p v,H p=af/\x= .ref p/\(∀xs,SqL K H a xs->xs[i]? =ac v)/\H'=upd H p (.tup [.int i,v]),λi H=>∃xs,SqL K H a xs/\xs.length<=i⟩
theorem Jh{K:YC}{x1}(a e it:Addr)(a4:e≠it) :
  Turn P w K (.Tuple elts x1 pos) (Ite K a) [e,it] e (λi h=>(∃old,IsEnum h e it (i:Int) old)/\h.IsListIter it a i)where
 mem:=by simp
 obj:=λi h st b U=>by
  obtain⟨⟨old,O⟩,o,ho,c,d⟩:=st;rcases Yu.mp U with z|z
  .subst z
   exact⟨_,O,λv z=>by cases z⟩
  .have z:b=it:=by simpa using z
   subst z;exact⟨o,ho,λv z=>by rw[d]at z;cases z⟩
 keep:=λi h h' st k=>by
  obtain⟨⟨old,O⟩,a0⟩:=st;exact⟨⟨old,k e (by simp) _ O⟩,a0.at λo q=>k it (by simp) o q⟩
 item:=by
  intro X hP hw hK B i pins s σ H E I Y st hg;subst hP hw hK;obtain⟨xs,x,hq,F⟩:=hg;obtain⟨its,rv,p,hz⟩:=I.list hq;obtain⟨u,hu,ru⟩:=rv.get F;obtain⟨⟨old,O⟩,a0⟩:=st;refine wpAny_pyNext_enum_item O a0 p.isList (x:=u) (by simpa using hu) a4 λh1 a6 a3 a9 b0 k1=>?_;refine⟨.ref s.heap.objs.size,rfl,adh a6 λh2 a8 a1=>?_⟩;have a7:e<s.heap.objs.size:=YF O;have a2:s.heap.objs.size≠e:=aaE a7;have a5:h2.get? s.heap.objs.size=ac {cls:=.type "tuple",data:=.seq #[.int i s.toks,u]}:=a1.extBut _ _ a2 a9;have I2:Inv X pins σ (upd H s.heap.objs.size (.tup [.int i,x])) {s with heap:=h2,toks:=s.toks+1}:=by
   refine DX (fp:=[e,it]) (t':=s.toks+1) I Y (λb o U q=>?_) (YB _) ?_
   .have n1:b≠e:=λz=>U (by simp[z])
    have n2:b≠it:=λz=>U (by simp[z]);exact a1.extBut b o n1 (k1 b o n1 n2 q)
   .exact⟨by show 2<=Yx;decide,[.int i s.toks,u],.cons ⟨_,rfl⟩ (.cons ru .nil),_,a5,rfl,_,rfl,rfl⟩
  refine⟨.ref s.heap.objs.size,upd H s.heap.objs.size (.tup [.int i,x]),I2,rfl,⟨_,x,I.hok.fresh (YB _),rfl,λys V=>by rw[I.list_inj V hq];exact F,rfl⟩,?_,λb U=>?_⟩
  .refine⟨⟨u,?_⟩,a3.extBut a1.extBut (Zy a4)⟩
   have e1:(((i+1:Nat)):Int)=(i:Int)+1:=by omega
   rw[e1];exact a8
  .rw[aK]
   .exact(Y b U).1
   .intro z
    rw[z]at U;rcases Yu.mp U with q|q
    .exact a2 q
    .have q:s.heap.objs.size=it:=by simpa using q
     obtain⟨o,ho,_⟩:=a0;exact absurd (YF ho) (by rw[q];exact ZW _)
 done:=by
  intro X hP hw hK B i pins s σ H E I Y st hg;subst hP hw hK;obtain⟨xs,hq,F⟩:=hg;obtain⟨its,rv,p,hz⟩:=I.list hq;obtain⟨⟨old,O⟩,a0⟩:=st;have Z:=rv.length;refine wpAny_pyNext_enum_end (I.ok.hd B) O a0 p.isList (by simp;omega) λh1 eb=>⟨rfl,?_⟩;exact xg (fp:=[e,it]) (t':=s.toks) I Y λb o U q=>eb b o (λz=>U (by simp[z])) q
 self:=λA i s Q E st h=>by
  obtain⟨⟨old,O⟩,_⟩:=st;exact acq O h
def putAll(kvs:List (Key×V))(prs:List (Key×V)):List (Key×V):=prs.foldl (λacc kv=>putK acc kv.1 kv.2) kvs
theorem uK:∀(prs kvs:List (Key×V)),(putAll kvs prs).length<=kvs.length+prs.length
 |[],kvs=>by simp[putAll]
 |p::r,kvs=>by
  have h1:=uK r (putK kvs p.1 p.2);have h2:=iV kvs p.1 p.2;have e:putAll kvs (p::r)=putAll (putK kvs p.1 p.2) r:=rfl;rw[e,Yy];omega
theorem wC{kx vx iter:Expr}{it:Value}{D:Addr}(I:Nat->Ym->Prop)
  (F:∀n s,I n s->wpAny 1.16 A (ab6 it) (λr B=>match r with
   |none=>R (.ok .next) B
   |some v=>wpAny 1.16 A (ab0 target it v) (λ_ V=>wpAny 1.16 A (ab5 target env v) (λ_ Y=>
    wpAny 1.16 A (forIn ifs ag λc r=>if r=ag then do let ok ←ad_ c env (eval c env);pure (aba ok)else pure (aba r)) (λok z=>
     if ok=ag then wpAny 1.16 A (eval kx env) (λkv U=>wpAny 1.16 A (eval vx env) (λvv a1=>wpAny 1.16 A (dictSet D kv vv) (λ_ a0=>∃m,m<n/\I m a0) NoX a1) NoX U) NoX z
     else ∃m,m<n/\I m z) NoX Y) NoX V) NoX B) NoX s)
  (n:Nat) (h:I n s):aa8 1.16 A (.compLoop 1.22 0 it (.ref D) env) R s:=by
 refine codeAny_loop rfl I (λn s O=>?_) n h;show wpAny _ A ((compTurn 1.22 0 it (.ref D) env).onRaise (λx=>do noteFrame x env;theTreesLotGoes x)) _ _ s;refine wpAny_noted ?_;rw[compTurn_dict];refine W2 (abv (W2 (Z9 (F n s O) (λr B q=>?_) λ_ _ h'=>h'.elim)));cases r with
 |none=>exact Yq q
 |some v=>
  refine W2 (Z9 q (λ_ V a2=>?_) λ_ _ h'=>h'.elim);refine W2 (Z9 a2 (λ_ Y a4=>W2 (Z9 a4 (λok z Z=>?_) λ_ _ h'=>h'.elim)) λ_ _ h'=>h'.elim);cases ok with
  |false=>exact Yq ⟨rfl,Z⟩
  |true=>
   exact W2 (W2 (Z9 Z (λkv U a6=>W2 (aas (Z9 a6 (λvv a1 a3=>W2 (abv (aas (Z9 a3 (λ_ a0 a5=>Yq ⟨rfl,a5⟩) λ_ _ h'=>h'.elim)))) λ_ _ h'=>h'.elim))) λ_ _ h'=>h'.elim))
def Mp(J:It)(H:Hp)(g:TG)(tt:TT)(tk tv:TE)(σ:L2.St)(Q:List (Key×V)->Hp->Prop):Prop:=
 ∃W:Nat->Nat->List (Key×V)->Hp->Prop,(∃m,W 0 m [] H)/\∀i m ys H,W i m ys H->
  (J.stop i H/\Q ys H)∨(J.go i H/\ys.length<Yx/\∃N:List (Key×V)->Hp->Prop,(∀q H',N q H'->∃m',m'<m/\W (i+1) m' q H')/\
   ∀x H',J.yld i H x H'->g x σ H' λσ2 H2=>Kp σ σ2/\tt σ2 H2 λb Y=>if b=ag then tk σ2 Y λx z=>∃k,x=kV k/\tv σ2 z λv B=>N (putK ys k v) B else N ys Y)
def J9(cap:List (Option Nat))(wi:TI)(g:TG)(tt:TT)(tk tv:TE):TE:=λσ H Q=>wi σ H λJ H1=>
 Mp J H1 g tt tk tv (fV cap σ) λys H2=>ys.length<=Yx/\∀D,H2 D=af->Q (.ref D) (upd H2 D (.dK ys))
section
variable{X:Cx}{kx vx target iter:Expr}{ifs:List Expr}{scope:Scope}{pos:Pos}{N':List Str}{cap:List (Option Nat)}{wi:TI}{g:TG}{tt:TT}{tk tv:TE}
structure DO(P:Program)(w:World)(vs:List (Key×Value))(o:Obj):Prop where
 ex:o.ExactDict
 es:∃es ep,o.data= .dict es ep/\KeysOf (bz P w) es/\Pairs (bz P w) es.toList vs/\(vs.map (·.1)).Nodup
theorem DO.at{P:Y7}{w:World}{O:List (Key×Value)}{o:Obj}(d:DO P w O o){h:Heap}{a:Addr}(e:h.get? a=ac o):h.DictOf (bz P w) a O:=let⟨es,ep,h1,h2,h3,h4⟩:=d.es;⟨o,es,ep,e,d.ex,h1,h2,h3,h4⟩
theorem DO.of{P:Y7}{w:World}{O:List (Key×Value)}{h:Heap}{a:Addr}(d:h.DictOf (bz P w) a O):∃o,h.get? a=ac o/\DO P w O o:=let⟨o,es,ep,e,x,h1,h2,h3,h4⟩:=d;⟨o,e,⟨x,es,ep,h1,h2,h3,h4⟩⟩
theorem DO.nc{P:Y7}{w:World}{O:List (Key×Value)}{o:Obj}(d:DO P w O o):∀v,o.data≠.cell v:=λv z=>by
 obtain⟨es,ep,h1,_⟩:=d.es;rw[h1]at z;cases z
theorem Dl{pins:List (Addr×Obj)}{σ:L2.St}{H:Hp}{Y:Ym}{it:Addr}{fp:List Addr}{tn:Nat->Heap->Prop}{J:It}{Q:List (Key×V)->Hp->Prop}{RR:Value->Addr->Result->Ym->Prop}{E:Value->Ym->Prop}
  (B:X.calm=ag) (O:cj X.env.scope X.N N' scope cap) (I:Inv X pins σ H Y) (T:Turn X.prog X.w X.K target J fp it tn) (st:tn 0 Y.heap) (f2:∀b∈fp,lB X pins H b)
  (hg:∀C,PG 1.14 target g) (ht:∀C,PTs 1.14 ifs tt) (hk:∀C,PE 1.14 kx tk) (he:∀C,PE 1.14 vx tv) (cw:Mp J H g tt tk tv (fV cap σ) Q)
  (d4:∀(D C:Addr)(s':Ym)(H':Hp)(ys:List (Key×V))(its:List (Key×Value))(o:Obj)(F:L2.St),Y.heap.objs.size<=D->Y.heap.objs.size<=C->D≠C->Inv 1.14 [(D,o)] F H' s'->KV ys its->DO X.prog X.w its o->Q ys H'->
   RR (.ref D) C (.ok .next) s') :
  wpAny 1.13 X.A newDict (λacc c0=>wpAny 1.13 X.A (acT scope X.env.globals (su scope X.env) [] X.env.qual af .none (ac X.env)) (λb0 b3=>
   aa8 1.13 X.A (.compStart 1.22 0 (.ref it) acc {b0 with scope:=ae0 scope X.env}) (RR acc b0.locals) b3) E c0) E Y:=by
 refine aac (Hl ?_);dsimp only;generalize a5:Y.heap.push {cls:=.type "dict",dict:=af,data:=.dict #[]}=H2;have hC:H2.objs.size=Y.heap.objs.size+1:=by rw[←a5,Z7]
 have a8:Y.heap.objs.size≠H2.objs.size:=by rw[hC];exact YZ (abp _)
 have a1:Y.heap.objs.size<=H2.objs.size:=by rw[hC];exact abC _
 obtain⟨q,old,b1,a6,d0,c7⟩:=CV I O a5 rfl;rw[←c7];have b2:H2.DictOf (bz X.prog X.w) Y.heap.objs.size []:=a5▸afq Y.heap;obtain⟨o0,c1,b7⟩:=DO.of b2;have c3:q.get? Y.heap.objs.size=ac o0:=by
  have e1:H2.get? Y.heap.objs.size=ac {cls:=.type "dict",dict:=af,data:=.dict #[]}:=a5▸YG _ rfl;rw[e1]at c1;cases c1;exact b1
 have a7:∀b∈fp,b<Y.heap.objs.size:=λb U=>by
  obtain⟨o,e,_⟩:=T.obj 0 _ st b U;exact YF e
 have I1:=DG (tk:=Y.toks) I O f2 a7 a1 (YB _) a8 old a6 c3 b7.nc d0;have b6:tn 0 q:=T.keep _ _ _ st λb _ o e=>old b o e;obtain⟨W,⟨m0,w0⟩,c2⟩:=cw;generalize hD:Y.heap.objs.size=D at *
 generalize d8:H2.objs.size=C at *
 have a2:∀{H':Hp}{o:Obj},(∀b∈fp,H' b=af)->∀b∈fp,lB 1.14 [(D,o)] H' b:=λ{H' o} hn b U=>by
  refine⟨hn b U,YZ (YQ (a7 b U) a1),I1.ok.exfs b U,.inl U,(I1.ok.exf b U).2,λp hp=>?_⟩;have e:p=(D,o):=by simpa[bM]using hp
  subst e;exact aaE (a7 b U)
 have a9:aa8 1.13 X.A (.compLoop 1.22 0 (.ref it) (.ref D) (compEnvC scope (wZ scope X.env C) C X.env)) (RR (.ref D) C) {Y with heap:=q}:=by
  refine wC (λn s'=>∃i ys its k H',Inv 1.14 [(D,k)] (fV cap σ) H' s'/\(KV ys its/\DO X.prog X.w its k)/\tn i s'.heap/\(∀b∈fp,H' b=af)/\W i n ys H') ?_ m0 ⟨0,[],[],o0,H,I1,⟨.nil,b7⟩,b6,λb U=>(f2 b U).1,w0⟩;rintro n s3 ⟨i,ys,its,k,H3,I3,⟨rv,dk⟩,b8,c4,w3⟩;rcases c2 i n ys H3 w3 with⟨stop,qn⟩|⟨go,hsz,N,hN,step⟩
  .refine thn (T.done 1.14 rfl rfl rfl B i _ s3 _ H3 NoX I3 (a2 c4) b8 stop) λr s4 ⟨Z,I4⟩=>?_
   subst Z;exact d4 D C s4 H3 ys its k _ (YB _) a1 a8 I4 rv dk qn
  .refine thn (T.item 1.14 rfl rfl rfl B i _ s3 _ H3 NoX I3 (a2 c4) b8 go) λr s4 ⟨u,Z,h4⟩=>?_
   subst Z;refine thn h4 λ_ s5 ⟨x,H5,I5,r5,y5,a4,d7⟩=>?_;have d3:=I5.pinned (a2 d7) (T.obj _ _ a4);refine thn (hg C _ s5 _ H5 x u _ d3 r5 (step x H5 y5)) λ_ s6 ⟨a0,H6,I6,b5,q6⟩=>?_;refine thn (ht C _ s6 a0 H6 _ I6 q6) λok s7 ⟨H7,I7,q7⟩=>?_;have a3:∀{s':Ym}{H':Hp}{F:L2.St},Inv 1.14 ([(D,k)]++j0 fp s5.heap) F H' s'->tn (i+1) s'.heap/\∀b∈fp,H' b=af:=λ{s' H' F} Ix=>by
    refine⟨T.keep _ _ _ a4 λb U o e=>(Ix.pin (b,o) (Yn _ (Yn _ (dU U e)))).1,λb U=>?_⟩;obtain⟨o,e,d⟩:=T.obj _ _ a4 b U;exact(Ix.pin (b,o) (Yn _ (Yn _ (dU U e)))).2.1
   have b9:(fV cap σ).length=a0.length:=by rw[I6.len,I1.len]
   cases ok with
   |false=>
    have n7:N ys H7:=by simpa using q7
    obtain⟨m',hm,w7⟩:=hN _ _ n7;exact⟨m',hm,i+1,ys,its,k,H7,I7.unpinned.weak b9 b5,⟨rv,dk⟩,(a3 I7).1,(a3 I7).2,w7⟩
   |true=>
    have q7:tk a0 H7 λx H4=>∃k',x=kV k'/\tv a0 H4 λv H5=>N (putK ys k' v) H5:=by simpa using q7
    refine thn (hk C _ s7 a0 H7 _ I7 q7) λuk d1 ⟨xk,c9,d2,c5,kk,ek,c8⟩=>?_;subst ek;refine thn (he C _ d1 a0 c9 _ d2 c8) λu8 s8 ⟨v,H8,I8,r8,n8⟩=>?_;obtain⟨eD,nD,_,d5,_⟩:=I8.pin (D,k) (Yn _ (Yv _ Zo));have lv:=rv.length;refine wpAny_dictSet_pairs (lL c5) (dk.at eD) (λh9 d6 c6=>?_) 1.10;obtain⟨m',hm,w8⟩:=hN _ _ n8;obtain⟨o9,eN,b4⟩:=DO.of d6;have I9:Inv 1.14 (j0 fp s5.heap) a0 H8 {s8 with heap:=h9,toks:=s8.toks+1}:=by
     refine Inv.turned (it:=D) (t':=s8.toks+1) (I8.pins_of λp hp=>I8.pin p (Yn _ (Yn _ hp))) (λb o U e=>c6.extBut b o U e) nD a8 (.inr (by rw[←hD];exact YB _)) (λx c e z=>?_) (λp hp z=>?_)
     .rcases yz I O e with e|e
      .obtain⟨vc,oc,h1,_⟩:=I.cell x c e
       have hh:=YF h1;rw[z,hD]at hh;exact ZW _ hh
      .rw[z]at e
       exact absurd (ZJ e a1) (aeu _)
     .have hp:p∈j0 fp s5.heap:=hp
      have hh:=a7 p.1 (rB hp).1;rw[z]at hh;exact ZW _ hh
    refine⟨m',hm,i+1,putK ys kk v,aee its kk u8,o9,H8,(I9.weak b9 b5).pins_of (λp hp=>?_),⟨rv.put kk r8,b4⟩,?_,λb U=>?_,w8⟩
    .have e:p=(D,o9):=Yz.mp hp
     rw[e];exact⟨eN,nD,a8,d5,b4.nc⟩
    .exact T.keep _ _ _ a4 λb U o e=>(I9.pin (b,o) (Yn _ (dU U e))).1
    .obtain⟨o,e,d⟩:=T.obj _ _ a4 b U
     exact(I9.pin (b,o) (Yn _ (dU U e))).2.1
 exact codeAny_compStart_dict a9 (T.self _ 0 _ _ _ b6 a9)
end
def Itd(a:Addr)(ob:Obj)(kvs:List (Key×V)):It:=
 ⟨λi H=>H a=ac (.frz ob (.dK kvs))/\i<kvs.length,λi H x H'=>H'=H/\∃p,kvs[i]? =ac p/\x=kV p.1,λi H=>H a=ac (.frz ob (.dK kvs))/\kvs.length<=i⟩
theorem JQ{k:Key}(h:(bz P w).is k u=ag):RelV (kV k) u:=by
 have h:oG k u=ag:=h;rcases cB h with⟨i,t,rfl,rfl⟩|⟨x,t,rfl,rfl⟩
 .exact⟨t,rfl⟩
 .exact⟨t,rfl⟩
theorem sr{F:α->β->Prop}:∀{xs:List α}{ys:List β},adB F xs ys->∀{i:Nat}{a:α}{b:β},xs[i]? =ac a->ys[i]? =ac b->F a b
 |_,_,.nil,i,a,b,h,_=>by simp at h
 |_,_,.cons p r,0,a,b,h1,h2=>by cases h1;cases h2;exact p
 |_,_,.cons p r,i+1,a,b,h1,h2=>sr r (i:=i) (by simpa using h1) (by simpa using h2)
theorem K3{s:Ym}{ob:Obj}{kvs:List (Key×V)}{es:Array DictEntry}(I:Inv X pins σ H s)(e:H a=ac (.frz ob (.dK kvs)))(hd:ob.data= .dict es ep) :
  ∃O,KV kvs O/\s.heap.DictAt (bz X.prog X.w) a O ep:=by
 obtain⟨h1,_,_,O,rel,o,B,F,g,x,d,z,q,U⟩:=(show cG X.prog X.w H s.heap a (.frz ob (.dK kvs))from I.hok a _ e);rw[h1]at g;cases g;rw[hd]at d;cases d;exact⟨O,rel,ob,es,h1,x,hd,z,q,U⟩
theorem JN{K:YC}(a it:Addr)(ob:Obj)(kvs:List (Key×V)) :
  Turn P w K tg (Itd a ob kvs) [it] it (λi h=>∃es ep,ob.data= .dict es ep/\h.IsKeyIter it a i kvs.length ep)where
 mem:=by simp
 obj:=λi h st b U=>by
  have e:b=it:=by simpa using U
  subst e;obtain⟨_,_,_,o,e,c,d⟩:=st;exact⟨o,e,λv z=>by rw[d]at z;cases z⟩
 keep:=λi h h' st k=>let⟨es,ep,hd,st⟩:=st;⟨es,ep,hd,st.at λo e=>k it (by simp) o e⟩
 item:=by
  intro X hP hw q B i pins s σ H E I Y st F;subst hP hw q;obtain⟨e,hi⟩:=F;obtain⟨es,ep,hd,st⟩:=st;obtain⟨O,rel,dd⟩:=K3 I e hd;have Z:=rel.length;obtain⟨f0,f1,f2,f3,f4,f5⟩:=Y it (by simp);have a0:i<O.length:=by omega
  rw[Z]at st;refine wpAny_pyNext_dict_item (k:=O[i].1) (v:=O[i].2) st dd (by rw[Yo a0]) λa2 h' hk a1 sb=>?_;have I1:Inv X pins σ H {s with heap:=h'}:=I.turned (t':=s.toks) (λb o U e=>sb.extBut b o U e) f0 f1 f3 f4 f5;obtain⟨o,e2,c,d⟩:=id a1;have ek:kvs[i].1=O[i].1:=(sr rel (Yo hi) (Yo a0)).1;refine⟨a2,rfl,Bx (s:={s with heap:=h'}) e2 c d (by decide) ⟨kV kvs[i].1,H,I1,?_,⟨rfl,kvs[i],by rw[Yo hi],rfl⟩,⟨es,ep,hd,by rw[Z];exact a1⟩,λb U=>(Y b U).1⟩⟩;rw[ek];exact JQ hk
 done:=by
  intro X hP hw q B i pins s σ H E I Y st F;subst hP hw q;obtain⟨e,hi⟩:=F;obtain⟨es,ep,hd,st⟩:=st;obtain⟨O,rel,dd⟩:=K3 I e hd;have Z:=rel.length;obtain⟨f0,f1,f2,f3,f4,f5⟩:=Y it (by simp);rw[Z]at st;exact wpAny_pyNext_dict_end (I.ok.hd B) st dd (ZD 1.10) λh' eb=>⟨rfl,I.turned (t':=s.toks) (λb o U e=>eb b o U e) f0 f1 f3 f4 f5⟩
 self:=λ_ _ _ _ _ st h=>let⟨_,_,_,st⟩:=st;wpAny_pyIter_keyiter st h
theorem Mg{F:L2.St}{H2 H':Hp}{s2:Ym}{D:Addr}{ob:HO}(V:Inv X pins σ H2 s2)(I:∀b∈fp,lB X pins H2 b)
  (hD:s2.heap.objs.size<=D) (hC:s2.heap.objs.size<=C) (a0:D≠C) (Z:Inv (bM X N' scope C s2 H2 fp) [(D,o)] F H' s') (new:∀h',h'.get? D=ac o->cG X.prog X.w (upd H' D ob) h' D ob)
  (h':Heap) (sb:aaO C s'.heap h'):Inv X pins σ (upd H' D ob) {s' with heap:=h'}:=by
 obtain⟨eD,nD,_,a1,_⟩:=Z.pin (D,o) (Yn _ Zo);refine V.call' (ch:=fp) Z.os ?_ ?_ Z.bare (λb U=>⟨(I b U).2.2.2.1,(I b U).2.1,(I b U).2.2.2.2.1,(I b U).2.2.2.2.2⟩)
 .have ne:∀b o,s2.heap.get? b=ac o->b≠C/\b≠D:=λb o e=>⟨YZ (YQ (YF e) hC),YZ (YQ (YF e) hD)⟩
  refine⟨λb o e n U O=>sb.extBut b o (ne b o e).1 (Z.base.keep b o e n U O),λb o e n U O=>?_,λb o e n O=>?_,λb o e O=>?_,λb xs e=>?_,λb o u e=>?_,λb ps e=>?_⟩
  .obtain⟨sl,e1⟩:=Z.base.slot b o e n U O
   exact⟨sl,sb.extBut b _ (ne b o e).1 e1⟩
  .rw[aK (ne b o e).2]
   exact Z.base.free b o e n O
  .obtain⟨o',e1⟩:=Z.base.there b o e O
   exact⟨o',sb.extBut b _ (ne b o e).1 e1⟩
  .have e1:=Z.base.tups b xs e
   rw[aK (bG e1 nD)];exact e1
  .have e1:=Z.base.frzs b o u e
   rw[aK (bG e1 nD)];exact e1
  .obtain⟨more,e1⟩:=Z.base.tbls b ps e
   refine⟨more,?_⟩;rw[aK (bG e1 nD)];exact e1
 .intro b u e
  by_cases U:b=D
  .subst U
   rw[aQ]at e;cases e;exact new h' (sb.extBut _ _ a0 eD)
  .rw[aK U]at e
   have nC:∀b u,H' b=ac u->b≠C:=λb u e z=>by
    have Y:H' C=af:=Z.free;rw[z,Y]at e;cases e
   refine(Z.hok b u e).stay (λc v B q=>sb.extBut c v ?_ q) (λc q=>by rw[aK (bG q nD)];exact q) λc xs q=>by rw[aK (bG q nD)];exact q
   rcases B with z|z
   .rw[z]
    exact nC b u e
   .exact nC c _ z
section
variable{X:Cx}{elt kx vx target iter:Expr}{ifs:List Expr}{scope:Scope}{pos pos' pos2:Pos}{N':List Str}{cap:List (Option Nat)}{wi:TI}{g:TG}{tt:TT}{te tk tv:TE}
theorem HD{pins:List (Addr×Obj)}{σ F:L2.St}{H2 H':Hp}{O s':Ym}{fp:List Addr}{D C:Addr}{o:Obj}{ob:HO}{i:Nat}{x:Str}{Dn:Ends}(I2:Inv X pins σ H2 O)(I:∀b∈fp,lB X pins H2 b)
  (hD:O.heap.objs.size<=D) (hC:O.heap.objs.size<=C) (B:D≠C) (Z:Inv (bM X N' scope C O H2 fp) [(D,o)] F H' s') (new:∀h',h'.get? D=ac o->cG X.prog X.w (upd H' D ob) h' D ob)
  (hN:X.N.Nodup) (hi:X.N[i]? =ac x) (hx:Loc X.env.scope x) (Y:X.fn x=ag∨X.env.scope.names.lookup x=ac .local) (q:Dn.nx (σ.set i (ac (.ref D))) (upd H' D ob)) :
  wpAny 1.13 X.A (assignAll (.ref D) ((Z1 [.Name x pos'] X.env).map (·.2))) (λ_ a0=>∃m,a0.heap.Ns C m/\∀h',aaO C a0.heap h'->SP X pins Dn .next {a0 with heap:=h'}) X.xe s':=by
 have I3:Inv X pins σ (upd H' D ob) s':=Mg I2 I hD hC B Z new s'.heap ⟨rfl,λ_ _=>rfl⟩;obtain⟨m,a1,_⟩:=Z.loc;obtain⟨a4,nD,_,a5,_⟩:=Z.pin (D,o) (Yn _ Zo);have a1:s'.heap.Ns C m:=a1;have a2:upd H' D ob C=af:=by
  rw[aK (Zy B)];exact Z.free
 obtain⟨f0,V,a3,f3,f4,f5⟩:=I2.fpOk hC (I2.hok.fresh hC);have fC:lB X pins (upd H' D ob) C:=⟨a2,V,a3,f3,f4,f5⟩;obtain⟨oC,es,ep,gC,dC,k1,k2⟩:=a1;have I4:=I3.pinned (fp:=[C]) (λb U=>by rw[Yz.mp U];exact fC) λb U=>⟨oC,by rw[Yz.mp U];exact gC,λv z=>by rw[dC]at z;cases z⟩;have ea:assignAll (.ref D) ((Z1 [.Name x pos'] X.env).map (·.2))=ab5 (.Name x pos') X.env (.ref D):=by
  unfold assignAll;simp[Z1]
 rw[ea];refine wpAny_assign_Name (m9 I4 hN hi hx (v:=.ref D) rfl (λa0 I5=>⟨m,?_,λh' sb=>?_⟩) Y)
 .exact⟨oC,es,ep,(I5.pin (C,oC) (Yn _ (Yn _ (dU (Yz.mpr rfl) gC)))).1,dC,k1,k2⟩
 .exact⟨_,_,I5.unpinned.turned (t':=a0.toks) (λb o U e=>sb.extBut b o U e) a2 V f3 f4 f5,q⟩
theorem GZ{i:Nat}{x:Str}(hx:X.xe=NoX)(B:X.calm=ag)(z:X.N.Nodup)(hi:X.N[i]? =ac x)(hl:Loc X.env.scope x)(O:cj X.env.scope X.N N' scope cap)(a0:PI X target iter wi)
  (hg:∀C Y H fp,PG 1.14 target g) (U:∀C Y H fp,PTs 1.14 ifs tt) (he:∀C Y H fp,PE 1.14 elt te)
  (hw:abk 1.15 (ac (.Name x pos')) pos2.line X.env=pure ag:=by rfl) (hs:∀x,ZL iter X.env x=pure x:=by intro _;rfl)
  (hf:X.fn x=ag∨X.env.scope.names.lookup x=ac .local:=by first|exact .inl rfl|exact .inr rfl|assumption):PS X (.Assign [.Name x pos'] 1.15 pos2) (Kz (Cz cap wi g tt te) (sH i)):=by
 intro pins s σ H Dn I h;rw[adV];refine W2 (abv ?_);rw[show abw [.Name x pos'] 1.15 pos2.line X.env=pure ag from hw];refine W2 (Yq ?_);rw[YH rfl,arm_evalThenUse_ListComp];refine W2 (W2 (aca (use:=ac _) rfl hs (j5 λy V hk=>I.ok.has y.1 (O.free y V hk)) O.kind O.nm (thn (a0 pins s σ H _ I h) λv Z h1=>thn h1 λa3 s2 h2=>?_)));obtain⟨it,fp,tn,J,H2,e,I2,T,a1,f2,cw⟩:=h2;subst e;refine vq (RR:=λacc C=>compPost 1.13 X.A X.xe (ac _) _ acc C) B O I2 T a1 f2 (λC=>hg C _ _ _) (λC=>U C _ _ _) (λC=>he C _ _ _) cw ?_;intro D C s' H' ys its n F hD hC a2 I' rv q;obtain⟨hz,q⟩:=q;have nD:=(I'.pin (D,lobj its n) (Yn _ Zo)).2.1;refine thn (HD (ob:=.lst ys) (Dn:=Dn) (pos':=pos') I2 f2 hD hC a2 I' (λh' e=>⟨hz,its,n,rv,e⟩) z hi hl hf (q D nD)) λ_ a4 ⟨m,h1,h2⟩=>⟨m,h1,λh' sb=>Yq (Yq (h2 h' sb))⟩
theorem Qm{i:Nat}{x:Str}(hx:X.xe=NoX)(B:X.calm=ag)(z:X.N.Nodup)(hi:X.N[i]? =ac x)(hl:Loc X.env.scope x)(O:cj X.env.scope X.N N' scope cap)(a0:PI X target iter wi)
  (hg:∀C Y H fp,PG 1.14 target g) (U:∀C Y H fp,PTs 1.14 ifs tt) (hk:∀C Y H fp,PE 1.14 kx tk) (he:∀C Y H fp,PE 1.14 vx tv)
  (hw:abk 1.22 (ac (.Name x pos')) pos2.line X.env=pure ag:=by rfl) (hs:∀x,ZL iter X.env x=pure x:=by intro _;rfl)
  (hf:X.fn x=ag∨X.env.scope.names.lookup x=ac .local:=by first|exact .inl rfl|exact .inr rfl|assumption):PS X (.Assign [.Name x pos'] 1.22 pos2) (Kz (J9 cap wi g tt tk tv) (sH i)):=by
 intro pins s σ H Dn I h;rw[adV];refine W2 (abv ?_);rw[show abw [.Name x pos'] 1.22 pos2.line X.env=pure ag from hw];refine W2 (Yq ?_);rw[YH rfl,arm_evalThenUse_DictComp];refine W2 (W2 (aca (use:=ac _) rfl hs (j5 λy V hk=>I.ok.has y.1 (O.free y V hk)) O.kind O.nm (thn (a0 pins s σ H _ I h) λv Z h1=>thn h1 λa3 s2 h2=>?_)));obtain⟨it,fp,tn,J,H2,e,I2,T,a1,f2,cw⟩:=h2;subst e;refine Dl (RR:=λacc C=>compPost 1.13 X.A X.xe (ac _) _ acc C) B O I2 T a1 f2 (λC=>hg C _ _ _) (λC=>U C _ _ _) (λC=>hk C _ _ _) (λC=>he C _ _ _) cw ?_;intro D C s' H' ys its o F hD hC a2 I' rv dk q;obtain⟨hz,q⟩:=q;have nD:=(I'.pin (D,o) (Yn _ Zo)).2.1;refine thn (HD (ob:=.dK ys) (Dn:=Dn) (pos':=pos') I2 f2 hD hC a2 I' (λh' e=>⟨hz,beq_eq_false_iff_ne.mpr (Zy (YZ (YQ I2.big hD))),its,rv,dk.at e⟩) z hi hl hf (q D nD)) λ_ a4 ⟨m,h1,h2⟩=>⟨m,h1,λh' sb=>Yq (Yq (h2 h' sb))⟩
end
theorem xO:∀(more:List (Key×V)){kvs:List (Key×V)}{O B:List (Key×Value)},KV kvs O->KV more B->KV (putAll kvs more) (merged O B)
 |[],kvs,O,_,r,.nil=>r
 |p::m,kvs,O,_::B,r,.cons h q=>by
  have e1:putAll kvs (p::m)=putAll (putK kvs p.1 p.2) m:=rfl;rw[e1];have:=xO m (r.put p.1 h.2) q;rw[h.1]at this;rw[h.1];exact this
end Jb
namespace PySem
open PySem.Builtin PySem.Builtin.SmallTypes
def Bh(id:String):Builtin:=λargs=>do
 let x ←slotArgs "__next__" 0 args
 match x with
 |(self,snd)=>do
  let seq ←field self 0
  let q:Unit->Sem afE:=λ_=>do
   let y ←field self 1
   match y with
   |ac2 i tok=>do
    let z ←adY seq
    match z with
    |some xs=>
     match xs[i.toNat]? with
     |some v=>do
      setField self 1 (aaf (i+1))
      ret v
     |none=>do
      rule (toString id++toString ".end")
      setField self 0 Z8
      adi
    |_=>abW (toString "internal:"++toString id)
   |_=>abW (toString "internal:"++toString id)
  if(seq==Z8)=ag then do
   rule (toString id++toString ".ended")
   let r ←adi
   q r
  else q ()
theorem sW:Builtin.«tuple_iterator.__next__»=Bh "tuple_iterator.__next__":=rfl
section
variable{prog:Program}{w:World}{A:Around}{E:Value->Shared->Prop}{it t:Addr}{i:Nat}{items:Array Value}{h:Heap}{g:Array GenState}{d:Drawn}{tk:Nat}{os:OsState}
theorem qO{x:Value}{Q:Value->Ym->Prop}(st:h.IsTupleIter it t i)(p:h.IsTuple t items)(V:items[i]? =ac x)
  (O:∀h',h'.IsTupleIter it t (i+1)->aaO it h h'->Q x ⟨h',g,d,tk,os⟩):wpAny 1.16 A (abh (.ref it)) Q E ⟨h,g,d,tk,os⟩:=by
 have z:(⟨h,g,d,tk,os⟩:Ym).TypeIs (.ref it) "tuple_iterator":=st.typeIs;unfold abh;refine W2 (aax z aak ?_);obtain⟨o,I,B,hd⟩:=st;obtain⟨q,h1,h2,n,Y⟩:=p
 show 1
 refine aav aak.plain ac8 (aak.check _ _ _ _ _ _ _ _ z (acV _) ?_);rw[sW];unfold Bh
 show 1
 rw[hd];refine Yq (Yq ?_);show wpAny _ _ (if(Zk t==Z8)=ag then _ else _) _ _ _;rw[show(Zk t==Z8)=ae from rfl,Y4 Zi]
 show 1
 rw[hd];refine Yq (Yq ?_);show wpAny _ _ (adY (Zk t) >>=_) _ _ _;refine W2 (wpAny_seqItems h1 Y ?_);dsimp only;have hi:(i:Int).toNat=i:=aad i;rw[hi,V];dsimp only;refine W2 (wpAny_setField I hd (by show 1<2;decide) ?_);refine Yq ?_;dsimp only;refine Yq (O _ ?_ ⟨Heap.size_update ..,λb U=>ZR h _ (Zy U)⟩);refine⟨_,aa9 _ I (Obj.isFreed_of_fields (aeS hd _)),(Obj.cls_mapFields ..).trans B,?_⟩;rw[aeS hd];have e1:(((i+1:Nat)):Int)=(i:Int)+1:=by omega
 rw[e1];rfl
theorem KZ{α:Type}{Q:α->Ym->Prop}(B:A.handled=af)
  (U:∀h' e,(∀b o,h.get? b=ac o->h'.get? b=ac o)->(∃o,h'.get? e=ac o/\o.cls= .type "StopIteration")->E (.ref e) ⟨h',g,d,tk,os⟩):wpAny 1.16 A (adi:Sem α) Q E ⟨h,g,d,tk,os⟩:=by
 unfold adi
 show 1
 unfold raiseNew;refine W2 (aeB ?_);rw[B];dsimp only;exact afd (U _ _ (λb o e=>Yp _ (Yp _ e)) ⟨_,YG _ rfl,rfl⟩)
theorem j8{Q:Value->Ym->Prop}(hh:A.handled=af)(st:h.IsTupleIter it t i)(p:h.IsTuple t items)(Z:items[i]? =af)
  (V:∀h' e,Heap.ExtBut it h h'->(∃o,h'.get? e=ac o/\o.cls= .type "StopIteration")->E (.ref e) ⟨h',g,d,tk,os⟩):wpAny 1.16 A (abh (.ref it)) Q E ⟨h,g,d,tk,os⟩:=by
 have z:(⟨h,g,d,tk,os⟩:Ym).TypeIs (.ref it) "tuple_iterator":=st.typeIs;unfold abh;refine W2 (aax z aak ?_);obtain⟨o,I,B,hd⟩:=st;obtain⟨q,h1,h2,n,Y⟩:=p
 show 1
 refine aav aak.plain ac8 (aak.check _ _ _ _ _ _ _ _ z (acV _) ?_);rw[sW];unfold Bh
 show 1
 rw[hd];refine Yq (Yq ?_);show wpAny _ _ (if(Zk t==Z8)=ag then _ else _) _ _ _;rw[show(Zk t==Z8)=ae from rfl,Y4 Zi]
 show 1
 rw[hd];refine Yq (Yq ?_);show wpAny _ _ (adY (Zk t) >>=_) _ _ _;refine W2 (wpAny_seqItems h1 Y ?_);dsimp only;have hi:(i:Int).toNat=i:=aad i;rw[hi,Z];dsimp only;refine W2 (abx ?_);refine W2 (wpAny_setField I hd (by show 0<2;decide) ?_);refine KZ (show A.in1.handled=af from hh) λh' e old O=>?_;exact V h' e (λb ob U hg=>old b ob ((ZR h _ (Zy U)).trans hg)) O
theorem Draws.tuple(B:A.handled=af)(it t:Addr)(q:t≠it)(items:Array Value):Draws prog w A it [it,t] items.size (λi v=>items[i]? =ac v) λi h=>h.IsTupleIter it t i/\h.IsTuple t items where
 live:=λi h st=>let⟨o,ho,_⟩:=st.1;⟨o,ho⟩
 frame:=λi h h' st k=>⟨st.1.at λo e=>k it (by simp) o e,let⟨o,h1,h2⟩:=st.2;⟨o,k t (by simp) o h1,h2⟩⟩
 item:=λi s Q E hi st k=>by
  obtain⟨h,g,d,tk,os⟩:=s;refine qO st.1 st.2 (x:=items[i]) (by simp[hi]) λh' z V=>k _ h' tk (by simp[hi]) ⟨z,?_⟩ V;obtain⟨o,h1,h2⟩:=st.2;exact⟨o,(V.2 t q).trans h1,h2⟩
 done:=λs Q E st k=>by
  obtain⟨h,g,d,tk,os⟩:=s;exact j8 B st.1 st.2 (by simp) λh' e U O=>k h' e U O
theorem Draws.tupleEnd(B:A.handled=af)(it t:Addr)(i:Nat)(items:Array Value)(F:items[i]? =af):Draws prog w A it [it,t] i (λ_ _=>False) λj h=>j=i/\h.IsTupleIter it t i/\h.IsTuple t items where
 live:=λj h st=>let⟨o,ho,_⟩:=st.2.1;⟨o,ho⟩
 frame:=λj h h' st k=>⟨st.1,st.2.1.at λo e=>k it (by simp) o e,let⟨o,h1,h2⟩:=st.2.2;⟨o,k t (by simp) o h1,h2⟩⟩
 item:=λj s Q E V st k=>absurd st.1 (YZ V)
 done:=λs Q E st k=>by
  obtain⟨h,g,d,tk,os⟩:=s;exact j8 B st.2.1 st.2.2 F λh' e U O=>k h' e U O
theorem uE{Q:afE->Ym->Prop}(V:h.IsTuple t items)
  (U:Q (.done (.ret (.ref (h.objs.size+1)))) ⟨(h.push {cls:=.type "tuple_iterator",data:=.fields #[.ref t,.int 0 0]}).push {cls:=.type "enumerate",data:=.fields #[.none,.bool ae,.ref h.objs.size,aaf 0,.none,.none]},g,d,tk,os⟩) :
  wpAny 1.16 A (Builtin.«enumerate.__new__» ⟨[.type "enumerate",.ref t],[]⟩) Q E ⟨h,g,d,tk,os⟩:=by
 have z:=sub_enumerate
 show 1
 refine wpAny_stack λst _ _ _=>?_;refine Yq ?_;have q:wpAny 1.16 A (do let it ←ac5 (.ref t);let r ←afw (aau "enumerate") (ae1++[it,aaf 0,Z8,Z8]);ret r) Q E ⟨h,g,d,tk,os⟩:=by
  refine W2 (wpAny_pyIter_tuple V ?_)
  show 1
  rw[Z7];exact U
 dsimp only;split
 .split
  .refine W2 (acw (a:=(Zk t,af)) (by rfl) ?_)
   exact q
  .refine W2 (acw (a:=(Zk t,af)) (by rfl) ?_)
   exact q
 .rw[Y4 (by decide)]
  refine W2 (acw (a:=(Zk t,af)) (by rfl) ?_);exact q
theorem mQ{Q:Value->Ym->Prop}(V:h.IsTuple t items)
  (U:∀h',IsEnum h' (h.objs.size+1) h.objs.size 0 .none->h'.IsTupleIter h.objs.size t 0->h'.objs.size=h.objs.size+2->(∀b o,h.get? b=ac o->h'.get? b=ac o)->Q (.ref (h.objs.size+1)) ⟨h',g,d,tk,os⟩) :
  wpAny 1.16 A (call (.type "enumerate") [.ref t]) Q E ⟨h,g,d,tk,os⟩:=by
 have e1:((h.push {cls:=.type "tuple_iterator",data:=.fields #[.ref t,.int 0 0]}).push {cls:=.type "enumerate",data:=.fields #[.none,.bool ae,.ref h.objs.size,aaf 0,.none,.none]}).get? (h.objs.size+1)=ac {cls:=.type "enumerate",data:=.fields #[.none,.bool ae,.ref h.objs.size,aaf 0,.none,.none]}:=by
  rw[←Z7 h {cls:=.type "tuple_iterator",data:=.fields #[.ref t,.int 0 0]}];exact YG _ rfl
 refine callType_newIn F.called_enumerate (by decide) (F.typeCall_enumerate_1 _) (F.newCall_enumerate_1 _) (λobj=>F.args_object_init_2 _ _) F.entry_enumerate_new (S:=λZ R s'=>s'=⟨h,g,d,tk,os⟩/\R (.ok (.ret (.ref (h.objs.size+1)))) ⟨(h.push {cls:=.type "tuple_iterator",data:=.fields #[.ref t,.int 0 0]}).push {cls:=.type "enumerate",data:=.fields #[.none,.bool ae,.ref h.objs.size,aaf 0,.none,.none]},g,d,tk,os⟩) ?_ ⟨rfl,⟨⟨_,e1,rfl⟩,U _ e1 ⟨_,Yp _ (YG _ rfl),rfl,rfl⟩ (by rw[Z7,Z7]) λb o e=>Yp _ (Yp _ e)⟩⟩;rintro Z R s' ⟨rfl,B⟩;exact uE V B
end
end PySem
namespace Jb
open PySem PySem.Spec PyProof.Rows L2
def Xm(K:YC)(a:Addr):It:=
 ⟨λi H=>∃xs x,SqT K H a xs/\xs[i]? =ac x,λi H x H'=>∃p v,H p=af/\x= .ref p/\(∀xs,SqT K H a xs->xs[i]? =ac v)/\H'=upd H p (.tup [.int i,v]),λi H=>∃xs,SqT K H a xs/\xs.length<=i⟩
theorem Es{K:YC}{x1}(a e it:Addr)(a2:e≠it)(a8:e≠a)(a6:it≠a) :
  Turn P w K (.Tuple elts x1 pos) (Xm K a) [e,it] e (λi h=>(∃old,IsEnum h e it (i:Int) old)/\h.IsTupleIter it a i)where
 mem:=by simp
 obj:=λi h st b U=>by
  obtain⟨⟨old,O⟩,o,ho,c,d⟩:=st;rcases Yu.mp U with z|z
  .subst z
   exact⟨_,O,λv z=>by cases z⟩
  .have z:b=it:=by simpa using z
   subst z;exact⟨o,ho,λv z=>by rw[d]at z;cases z⟩
 keep:=λi h h' st k=>by
  obtain⟨⟨old,O⟩,a0⟩:=st;exact⟨⟨old,k e (by simp) _ O⟩,a0.at λo q=>k it (by simp) o q⟩
 item:=by
  intro X hP hw hK B i pins s σ H E I Y st hg;subst hP hw hK;obtain⟨xs,x,hq,F⟩:=hg;obtain⟨its,rv,p,hz⟩:=I.tuple hq;obtain⟨u,hu,ru⟩:=rv.get F;obtain⟨⟨old,O⟩,a0⟩:=st;have b2:i<its.toArray.size:=by simp;exact(List.getElem?_eq_some_iff.mp hu).1
  have p':s.heap.IsTuple a its.toArray:=p;refine wpAny_pyNext_enum_itemD (Draws.tuple (show X.A.in1.handled=af from I.ok.hd B) it a (Zy a6) its.toArray) O ⟨a0,p'⟩ b2 a2 (λz=>by rcases Yu.mp z with q|q;exact a2 q;exact a8 (Yz.mp q)) λy h1 tk V a7 a4 b1 b3 k1=>?_;have ey:y=u:=by
   have:its[i]? =ac y:=by simpa using V
   rw[hu]at this;exact(Zr this).symm
  subst ey;refine⟨.ref s.heap.objs.size,rfl,adh a7 λh2 b0 a1=>?_⟩;have a9:e<s.heap.objs.size:=YF O;have a3:s.heap.objs.size≠e:=aaE a9;have a5:h2.get? s.heap.objs.size=ac {cls:=.type "tuple",data:=.seq #[.int i tk,y]}:=a1.extBut _ _ a3 b1;have I2:Inv X pins σ (upd H s.heap.objs.size (.tup [.int i,x])) {s with heap:=h2,toks:=tk+1}:=by
   refine DX (fp:=[e,it]) (t':=tk+1) I Y (λb o U q=>?_) (YB _) ?_
   .have n1:b≠e:=λz=>U (by simp[z])
    have n2:b≠it:=λz=>U (by simp[z]);exact a1.extBut b o n1 (k1 b o n1 n2 q)
   .exact⟨by show 2<=Yx;decide,[.int i tk,y],.cons ⟨_,rfl⟩ (.cons ru .nil),_,a5,rfl,_,rfl,rfl⟩
  refine⟨.ref s.heap.objs.size,upd H s.heap.objs.size (.tup [.int i,x]),I2,rfl,⟨_,x,I.hok.fresh (YB _),rfl,λys V=>by rw[I.tuple_inj V hq];exact F,rfl⟩,?_,λb U=>?_⟩
  .refine⟨⟨y,?_⟩,a4.1.extBut a1.extBut (Zy a2)⟩
   have e1:(((i+1:Nat)):Int)=(i:Int)+1:=by omega
   rw[e1];exact b0
  .rw[aK]
   .exact(Y b U).1
   .intro z
    rw[z]at U;rcases Yu.mp U with q|q
    .exact a3 q
    .have q:s.heap.objs.size=it:=by simpa using q
     obtain⟨o,ho,_⟩:=a0;exact absurd (YF ho) (by rw[q];exact ZW _)
 done:=by
  intro X hP hw hK B i pins s σ H E I Y st hg;subst hP hw hK;obtain⟨xs,hq,F⟩:=hg;obtain⟨its,rv,p,hz⟩:=I.tuple hq;obtain⟨⟨old,O⟩,a0⟩:=st;have Z:=rv.length;have p':s.heap.IsTuple a its.toArray:=p;refine wpAny_pyNext_enum_endD (Draws.tupleEnd (show X.A.in1.handled=af from I.ok.hd B) it a i its.toArray (by simp;omega)) O ⟨rfl,a0,p'⟩ λh1 eb=>⟨rfl,?_⟩;exact xg (fp:=[e,it]) (t':=s.toks) I Y λb o U q=>eb b o (λz=>U (by simp[z])) q
 self:=λA i s Q E st h=>by
  obtain⟨⟨old,O⟩,_⟩:=st;exact acq O h
def M_(K:YC)(ta:TA):TI:=λσ H R=>ta σ H λO H1=>∃a,O=[.ref a]/\(((∃xs,SqL K H1 a xs)/\R (Ite K a) H1)∨((∃xs,SqT K H1 a xs)/\R (Xm K a) H1))
variable{X:Cx}{p:Pos}
theorem J5{a:Expr}{ta:TA}{x1}(F:Gl X "enumerate")(hm:X.mg "enumerate"=af)(Y:PA X [a] ta)(hs:YD [a] X.env=[(ae,eval a X.env)]:=by rfl):PI X (.Tuple elts x1 tpos) (.Call (.Name "enumerate" p) [a] [] pos) (M_ X.K ta):=by
 intro pins s σ H R I h;refine Call_ (lC I F hm boot_enumerate (aaB (thn (Y pos pins s σ H _ I h) λus Z ⟨O,H1,B,r1,q1⟩=>?_) hs rfl));obtain⟨l,e,q⟩:=q1;subst e;obtain⟨u,rfl,ru⟩:=vals1 r1;cases ru;have fin:∀b∈[Z.heap.objs.size+1,Z.heap.objs.size],lB X pins H1 b:=λb U=>by
  have a2:Z.heap.objs.size<=b:=by
   rcases Yu.mp U with z|z
   .rw[z];exact abC _
   .have z:b=Z.heap.objs.size:=by simpa using z
    rw[z];exact YB _
  exact B.fpOk a2 (B.hok.fresh a2)
 rcases q with⟨⟨xs,hq⟩,q⟩|⟨⟨xs,hq⟩,q⟩
 .obtain⟨its,rv,pl,hz⟩:=B.list hq
  refine call_enumerate_list pl.isList λh1 he a0 hsz k1=>?_;have I2:Inv X pins σ H1 {Z with heap:=h1}:=B.kept (t':=Z.toks) k1;refine acq he ?_;exact⟨Z.heap.objs.size+1,[Z.heap.objs.size+1,Z.heap.objs.size],_,_,H1,rfl,I2,Jh l _ _ (afl _),⟨⟨_,he⟩,a0⟩,fin,q⟩
 .obtain⟨its,rv,pl,hz⟩:=B.tuple hq
  have a1:Z.heap.IsTuple l its.toArray:=pl;have a3:l<Z.heap.objs.size:=let⟨_,h1,_⟩:=a1;YF h1;obtain⟨V,g,d,tk,os⟩:=Z;refine mQ a1 λh1 he a0 hsz k1=>?_;have I2:Inv X pins σ H1 {heap:=h1,gens:=g,drawn:=d,toks:=tk,os:=os}:=B.kept (t':=tk) k1;refine acq he ?_;exact⟨V.objs.size+1,[V.objs.size+1,V.objs.size],_,_,H1,rfl,I2,Es l _ _ (afl _) (aaE (aay a3)) (aaE a3),⟨⟨_,he⟩,a0⟩,fin,q⟩
def Ut(K:YC)(te:TE):TI:=λσ H R=>te σ H λx H1=>∃a,x= .ref a/\(((∃xs,SqL K H1 a xs)/\R (Itl K a) H1)∨((∃xs,SqT K H1 a xs)/\R (Itt K a) H1))
variable{te:TE}
theorem Om(O:PE X e te):PI X tg e (Ut X.K te):=by
 intro pins s σ H R I h;refine thn (O pins s σ H _ I h) λv Z ⟨x,H1,B,z,q1⟩=>?_;obtain⟨a,ex,q⟩:=q1;subst ex;cases z;have fin:∀b∈[Z.heap.objs.size],lB X pins H1 b:=λb U=>by
  rw[Yz.mp U];exact B.fpOk (YB _) (B.hok.fresh (YB _))
 rcases q with⟨⟨xs,F⟩,q⟩|⟨⟨xs,F⟩,q⟩
 .obtain⟨its,rv,p,hz⟩:=B.list F
  refine adp p.isList ?_;exact⟨Z.heap.objs.size,[Z.heap.objs.size],_,_,H1,rfl,B.kept (t':=Z.toks) λb o e=>Yp _ e,Ib a _,⟨_,YG _ rfl,rfl,rfl⟩,fin,q⟩
 .obtain⟨its,rv,p,hz⟩:=B.tuple F
  refine wpAny_pyIter_tuple (show Z.heap.IsTuple a its.toArray from p) ?_;exact⟨Z.heap.objs.size,[Z.heap.objs.size],_,_,H1,rfl,B.kept (t':=Z.toks) λb o e=>Yp _ e,Ek a _,⟨_,YG _ rfl,rfl,rfl⟩,fin,q⟩
theorem pH:∀{us:List Value}{ns:List Str},StrsAre us ns->Vals (ns.map V.str) us
 |_,_,.nil=>.nil
 |_,_,.cons n t r=>.cons ⟨t,rfl⟩ (pH r)
theorem oO:∀{ns:List Str}{us:List Value},Vals (ns.map V.str) us->StrsAre us ns
 |[],_,h=>by cases h;exact .nil
 |n::r,us,h=>by
  rw[Ys]at h;cases h with
  |cons p q=>
   obtain⟨t,rfl⟩:=p;exact .cons n t (oO q)
def Bo(K:YC):List V->Hp->VK->Prop:=λxs H Q=>∃a ns,xs=[.ref a]/\SqL K H a (YK V.str ns)/\aaF ns<64/\∀B,Zu B ns->acW B=ag->∀p,H p=af->Q (.ref p) (upd H p (.lst (B.map V.str)))
theorem zK:gh X (.builtin "sorted") (Bo X.K):=by
 intro pins s σ H xs us Q I r h;obtain⟨a,ns,rfl,U,Z,q⟩:=h;obtain⟨u,rfl,F⟩:=vals1 r;cases F;obtain⟨its,rv,pl,hz⟩:=I.list U;have z:=rv.length;rw[Yt]at z;refine sorted_strs pl.isList (oO rv) 1.10 λout B io pm pw=>?_;obtain⟨c,Y⟩:=sortedAll_at s.heap its out;have O:B.length=ns.length:=pm.length_eq;have a0:64<=Yx:=by decide
 refine⟨.ref (s.heap.objs.size+1),upd H (s.heap.objs.size+1) (.lst (B.map V.str)),I.laid (t':=s.toks) (λb o e=>sortedAll_old e) (abC _) ?_,rfl,q B pm pw _ (I.hok.fresh (abC _))⟩;refine⟨by rw[Yt];omega,out.toList,c,pH io,?_⟩;rw[Y]
inductive Mk where
 |own|frz|brw|bro|scr
 deriving DecidableEq
set_option genSizeOf true in
inductive D where
 |non|bl (b:Bool)|int (i:Int)|str (x:Str)|ty (n:String)
 |tup (ds:List D)
 |lst (m:Mk) (ds:List D)
 |dct (m:Mk) (ks:List Key) (ds:List D)
 |ins (m:Mk) (c:Str) (fs:List Str) (ds:List D)
structure Gc where
 K:YC
 mg:Str->Option Value
structure Wn where
 n:Addr->Prop
 s:Addr->Prop
 o:Addr->Prop
def Wn.free(W:Wn)(a:Addr):Prop:=¬W.n a/\¬W.s a/\¬W.o a
def KO(K:YC)(a:Addr)(o:HO):Prop:=∃xs,o= .lst xs/\∃(ob:Obj)(its:Array Value)(n:Nat),K.lookup a=ac ob/\ob.cls= .type "list"/\ob.dict=af/\ob.data= .seq its n/\its.size<=Yx/\Vals xs its.toList
def di(B:Addr->HO->Prop)(H:Hp)(W:Wn)(a:Addr)(o:HO):Mk->List Addr->List Addr->Prop
 |.own,L,M=>H a=ac o/\L=a::M
 |.frz,L,M=>H a=ac o/\W.free a/\M=[]/\L=[]
 |.brw,L,M=>H a=ac o/\W.s a/\M=[]/\L=[]
 |.bro,L,M=>H a=ac o/\M=[]/\L=[]
 |.scr,L,M=>((Rd H a o/\W.free a)∨B a o)/\M=[]/\L=[]
variable{B:Addr->HO->Prop}{H:Hp}{W:Wn}{o:HO}{m:Mk}
theorem di.sub(h:di B H W a o m L M):aal M L:=by
 cases m with
 |own=>rw[h.2];exact List.sublist_cons_self a M
 |frz=>rw[h.2.2.1];exact acE L
 |brw=>rw[h.2.2.1];exact acE L
 |bro=>rw[h.2.1];exact acE L
 |scr=>rw[h.2.1];exact acE L
theorem di.rx(h:di B H W a o m L M):Rd H a o∨B a o:=by
 cases m with
 |own=>exact .inl (.inl h.1)
 |frz=>exact .inl (.inl h.1)
 |brw=>exact .inl (.inl h.1)
 |bro=>exact .inl (.inl h.1)
 |scr=>exact h.1.imp (λz=>z.1) id
variable{xs:List V}
theorem di.sq{K:YC}(h:di (KO K) H W a (.lst xs) m L M):SqL K H a xs:=by
 rcases h.rx with z|⟨ys,e,z⟩
 .exact .inl z
 .cases e
  exact .inr z
variable{kvs:List (Key×V)}
theorem di.rdD{K:YC}(h:di (KO K) H W a (.dK kvs) m L M):Rd H a (.dK kvs):=by
 rcases h.rx with z|⟨ys,e,z⟩
 .exact z
 .cases e
theorem di.at(h:di B H W a o m L M)(V:m≠.scr):H a=ac o:=by
 cases m with
 |own=>exact h.1
 |frz=>exact h.1
 |brw=>exact h.1
 |bro=>exact h.1
 |scr=>exact absurd rfl V
mutual
noncomputable def Rep(G:Gc)(H:Hp)(W:Wn):D->V->List Addr->Prop
 |.non,v,L=>v= .non/\L=[]
 |.bl b,v,L=>v= .bl b/\L=[]
 |.int i,v,L=>v= .int i/\L=[]
 |.str x,v,L=>v= .str x/\L=[]
 |.ty n,v,L=>v= .ty n/\L=[]
 |.tup ds,v,L=>∃a xs,v= .ref a/\H a=ac (.tup xs)/\aG G H W ds xs L
 |.lst m ds,v,L=>∃a xs M,v= .ref a/\aG G H W ds xs M/\di (KO G.K) H W a (.lst xs) m L M
 |.dct m ks ds,v,L=>∃a kvs M,v= .ref a/\(YK (·.1) kvs=ks/\ks.Nodup)/\aG G H W ds (YK (·.2) kvs) M/\di (KO G.K) H W a (.dK kvs) m L M
 |.ins m c fs ds,v,L=>∃a C dx kvs M,v= .ref a/\G.mg c=ac (.ref C)/\YK (·.1) kvs=fs/\aG G H W ds (YK (·.2) kvs) M/\di (KO G.K) H W a (.ins C dx kvs) m L M
noncomputable def aG(G:Gc)(H:Hp)(W:Wn):List D->List V->List Addr->Prop
 |[],xs,L=>xs=[]/\L=[]
 |d::r,xs,L=>∃x ys M M',xs=x::ys/\L=M++M'/\Rep G H W d x M/\aG G H W r ys M'
end
variable{G:Gc}
theorem aG.nil:aG G H W [] [] []:=by simp[aG]
theorem aG.cons{d:D}{r:List D}{x:V}{ys:List V}{M M':List Addr}(h:Rep G H W d x M)(t:aG G H W r ys M'):aG G H W (d::r) (x::ys) (M++M'):=by
 rw[aG];exact⟨x,ys,M,M',rfl,rfl,h,t⟩
variable{d:D}
theorem aG.one{x:V}(h:Rep G H W d x M):aG G H W [d] [x] M:=by
 have:=aG.cons h aG.nil;rwa[Za]at this
theorem aG.inv{r:List D}(h:aG G H W (d::r) xs L):∃x ys M M',xs=x::ys/\L=M++M'/\Rep G H W d x M/\aG G H W r ys M':=by
 rw[aG]at h;exact h
theorem aG.inv0(h:aG G H W [] xs L):xs=[]/\L=[]:=by
 rw[aG]at h;exact h
theorem aG.length:∀{ds:List D}{xs:List V}{L:List Addr},aG G H W ds xs L->ds.length=xs.length
 |[],xs,L,h=>by rw[h.inv0.1];rfl
 |d::r,xs,L,h=>by
  obtain⟨x,ys,M,M',rfl,_,_,h⟩:=h.inv;simp[aG.length h]
theorem aG.append:∀{ds es:List D}{xs ys:List V}{L M:List Addr},aG G H W ds xs L->aG G H W es ys M->aG G H W (ds++es) (xs++ys) (L++M)
 |[],es,xs,ys,L,M,h,h'=>by obtain⟨rfl,rfl⟩:=h.inv0;exact h'
 |d::r,es,xs,ys,L,M,h,h'=>by
  obtain⟨x,zs,A,B,rfl,rfl,h1,h2⟩:=h.inv;rw[aaW];exact .cons h1 (aG.append h2 h')
theorem aG.split:∀{ds es:List D}{xs:List V}{L:List Addr},aG G H W (ds++es) xs L->∃ys zs A B,xs=ys++zs/\L=A++B/\aG G H W ds ys A/\aG G H W es zs B
 |[],es,xs,L,h=>⟨[],xs,[],L,rfl,rfl,.nil,h⟩
 |d::r,es,xs,L,h=>by
  obtain⟨x,zs,A,B,rfl,rfl,h1,h2⟩:=aG.inv (r:=r++es) h;obtain⟨ys,q,Z,z,rfl,rfl,Y,F⟩:=aG.split h2;exact⟨x::ys,q,A++Z,z,rfl,by rw[aaW],.cons h1 Y,F⟩
variable{ds:List D}
theorem aG.at(h:aG G H W ds xs L)(e:ds[j]? =ac d) :
  ∃A B x ys zs z M I,ds=A++d::B/\A.length=j/\xs=ys++x::zs/\ys.length=j/\L=z++(M++I)/\aG G H W A ys z/\Rep G H W d x M/\aG G H W B zs I:=by
 have O:j<ds.length:=(List.getElem?_eq_some_iff.mp e).1;have hd:ds=ds.take j++d::ds.drop (j+1):=by
  have:ds[j]=d:=(List.getElem?_eq_some_iff.mp e).2;rw[←this,ZS,aaM]
 rw[hd]at h;obtain⟨ys,zs,A,B,rfl,rfl,h1,h2⟩:=aG.split h;obtain⟨x,q,M,M',rfl,rfl,Y,F⟩:=h2.inv;have Z:(ds.take j).length=j:=by rw[aaa];omega
 exact⟨_,_,x,ys,q,A,M,M',hd,Z,rfl,by rw[←h1.length];exact Z,rfl,h1,Y,F⟩
theorem aG.get(h:aG G H W ds xs L)(e:ds[j]? =ac d):∃x M,xs[j]? =ac x/\Rep G H W d x M/\aal M L:=by
 obtain⟨A,B,x,ys,zs,z,M,I,_,_,rfl,Z,rfl,_,h,_⟩:=h.at e;exact⟨x,M,by rw[ZM 1.10,Z,aaR];rfl,h,(aar M I).trans (ZK z _)⟩
def muO:HO->Bool
 |.lst _=>ag
 |.dK _=>ag
 |.ins _ _ _=>ag
 |_=>ae
def Mu(H:Hp)(a:Addr):Prop:=∃o,H a=ac o/\muO o=ag
mutual
noncomputable def az:D->Bool
 |.tup ds=>aB ds
 |.lst m ds=>m != .brw&&aB ds
 |.dct m _ ds=>m != .brw&&aB ds
 |.ins m _ _ ds=>m != .brw&&aB ds
 |_=>ag
noncomputable def aB:List D->Bool
 |[]=>ag
 |d::r=>az d&&aB r
end
mutual
noncomputable def au:D->Bool
 |.tup ds=>aC ds
 |.lst m ds=>m != .bro&&aC ds
 |.dct m _ ds=>m != .bro&&aC ds
 |.ins m _ _ ds=>m != .bro&&aC ds
 |_=>ag
noncomputable def aC:List D->Bool
 |[]=>ag
 |d::r=>au d&&aC r
end
def clean(d:D):Bool:=az d&&au d
structure Evo(H H':Hp)(W W':Wn):Prop where
 k:∀b u,H b=ac u->W.free b->H' b=ac u/\W'.free b
 t:∀b xs,H b=ac (.tup xs)->H' b=ac (.tup xs)
def Lj(H H':Hp)(W W':Wn):Prop:=∀b u,H b=ac u->W.s b->H' b=ac u/\W'.s b
variable{H':Hp}{W':Wn}
theorem Evo.rd(e:Evo H H' W W')(h:Rd H a o)(f:W.free a):Rd H' a o/\W'.free a:=by
 rcases h with h|⟨u,h⟩
 .exact⟨.inl (e.k a _ h f).1,(e.k a _ h f).2⟩
 .exact⟨.inr ⟨u,(e.k a _ h f).1⟩,(e.k a _ h f).2⟩
theorem di.mono(e:Evo H H' W W')(h:di B H W a o m L M)(U:m≠.brw∨Lj H H' W W')(I:m≠.bro∨Same H H')(O:∀c∈L,∀u,H c=ac u->H' c=ac u):di B H' W' a o m L M:=by
 cases m with
 |own=>exact⟨O a (by rw[h.2];simp) o h.1,h.2⟩
 |frz=>exact⟨(e.k a o h.1 h.2.1).1,(e.k a o h.1 h.2.1).2,h.2.2⟩
 |brw=>
  have q:=(U.resolve_left λz=>z rfl) a o h.1 h.2.1;exact⟨q.1,q.2,h.2.2⟩
 |bro=>exact⟨(I.resolve_left λz=>z rfl) a o h.1,h.2⟩
 |scr=>exact⟨h.1.imp (λz=>e.rd z.1 z.2) id,h.2⟩
theorem Same.rd(s:Same H H')(h:Rd H a o):Rd H' a o:=h.imp (s _ _) λ⟨u,z⟩=>⟨u,s _ _ z⟩
mutual
theorem Rep.mono(e:Evo H H' W W'):∀{d:D}{v:V}{L:List Addr},Rep G H W d v L->(az d=ag∨Lj H H' W W')->(au d=ag∨Same H H')->(∀c∈L,∀u,H c=ac u->H' c=ac u)->Rep G H' W' d v L
 |.non,v,L,h,_,_,_=>by rw[Rep]at h⊢;exact h
 |.bl _,v,L,h,_,_,_=>by rw[Rep]at h⊢;exact h
 |.int _,v,L,h,_,_,_=>by rw[Rep]at h⊢;exact h
 |.str _,v,L,h,_,_,_=>by rw[Rep]at h⊢;exact h
 |.ty _,v,L,h,_,_,_=>by rw[Rep]at h⊢;exact h
 |.tup ds,v,L,h,b,o,hl=>by
  rw[Rep]at h⊢;obtain⟨a,xs,rfl,U,Z⟩:=h;exact⟨a,xs,rfl,e.t a xs U,aG.mono e Z (by simpa[az]using b) (by simpa[au]using o) hl⟩
 |.lst m ds,v,L,h,b,o,hl=>by
  rw[Rep]at h⊢;obtain⟨a,xs,M,rfl,Z,hs⟩:=h;exact⟨a,xs,M,rfl,aG.mono e Z (b.imp (λz=>by simp[az]at z;exact z.2) id) (o.imp (λz=>by simp[au]at z;exact z.2) id) λc B=>hl c (hs.sub.subset B),hs.mono e (b.imp (λz=>by simp[az]at z;exact z.1) id) (o.imp (λz=>by simp[au]at z;exact z.1) id) hl⟩
 |.dct m ks ds,v,L,h,b,o,hl=>by
  rw[Rep]at h⊢;obtain⟨a,xs,M,rfl,O,Z,hs⟩:=h;exact⟨a,xs,M,rfl,O,aG.mono e Z (b.imp (λz=>by simp[az]at z;exact z.2) id) (o.imp (λz=>by simp[au]at z;exact z.2) id) λc B=>hl c (hs.sub.subset B),hs.mono e (b.imp (λz=>by simp[az]at z;exact z.1) id) (o.imp (λz=>by simp[au]at z;exact z.1) id) hl⟩
 |.ins m c fs ds,v,L,h,b,o,hl=>by
  rw[Rep]at h⊢;obtain⟨a,C,dx,xs,M,rfl,F,O,Z,hs⟩:=h;exact⟨a,C,dx,xs,M,rfl,F,O,aG.mono e Z (b.imp (λz=>by simp[az]at z;exact z.2) id) (o.imp (λz=>by simp[au]at z;exact z.2) id) λc B=>hl c (hs.sub.subset B),hs.mono e (b.imp (λz=>by simp[az]at z;exact z.1) id) (o.imp (λz=>by simp[au]at z;exact z.1) id) hl⟩
theorem aG.mono(e:Evo H H' W W'):∀{ds:List D}{O:List V}{L:List Addr},aG G H W ds O L->(aB ds=ag∨Lj H H' W W')->(aC ds=ag∨Same H H')->(∀c∈L,∀u,H c=ac u->H' c=ac u)->aG G H' W' ds O L
 |[],O,L,h,_,_,_=>by rw[aG]at h⊢;exact h
 |d::r,O,L,h,b,o,hl=>by
  obtain⟨x,ys,M,M',rfl,rfl,h1,h2⟩:=h.inv;exact .cons (Rep.mono e h1 (b.imp (λz=>by simp[aB]at z;exact z.1) id) (o.imp (λz=>by simp[aC]at z;exact z.1) id) λb U=>hl b (Yv _ U))
   (aG.mono e h2 (b.imp (λz=>by simp[aB]at z;exact z.2) id) (o.imp (λz=>by simp[aC]at z;exact z.2) id) λb U=>hl b (Yn _ U))
end
structure Up(H H':Hp)(W W':Wn):Prop where
 s:Same H H'
 f:∀b u,H b=ac u->W.free b->W'.free b
 n:∀b u,H b=ac u->W.s b->W'.s b
theorem Up.evo(u:Up H H' W W'):Evo H H' W W':=⟨λb o h f=>⟨u.s b o h,u.f b o h f⟩,λb xs h=>u.s b _ h⟩
theorem Up.evoN(u:Up H H' W W'):Lj H H' W W':=λb o h f=>⟨u.s b o h,u.n b o h f⟩
theorem Up.refl:Up H H W W:=⟨Same.refl H,λ_ _ _ f=>f,λ_ _ _ f=>f⟩
variable{H2:Hp}{Z:Wn}
theorem Up.trans(a:Up H H' W W')(b:Up H' H2 W' Z):Up H H2 W Z:=⟨a.s.trans b.s,λc u h f=>b.f c u (a.s c u h) (a.f c u h f),λc u h f=>b.n c u (a.s c u h) (a.n c u h f)⟩
variable{v:V}
theorem Rep.up(h:Rep G H W d v L)(u:Up H H' W W'):Rep G H' W' d v L:=h.mono u.evo (.inr u.evoN) (.inr u.s) λc _ o e=>u.s c o e
theorem aG.up{d:List D}{v:List V}(h:aG G H W d v L)(u:Up H H' W W'):aG G H' W' d v L:=h.mono u.evo (.inr u.evoN) (.inr u.s) λc _ o e=>u.s c o e
def Wn.add(W:Wn)(L:List Addr):Wn:=⟨λa=>a∈L∨W.n a,W.s,W.o⟩
theorem Up.add(s:Same H H')(O:∀a∈L,H a=af):Up H H' W (W.add L):=⟨s,λb u h f=>⟨λz=>z.elim (λz=>by rw[O b z]at h;cases h) f.1,f.2⟩,λb u h f=>f⟩
theorem Up.same(s:Same H H'):Up H H' W W:=⟨s,λ_ _ _ f=>f,λ_ _ _ f=>f⟩
def mkV(ob:Bool):Mk->Mk
 |.own=>if ob then .bro else .brw
 |m=>m
def mkF:Mk->Mk
 |.scr=>.scr
 |_=>.frz
mutual
noncomputable def view(ob:Bool):D->D
 |.tup ds=>.tup (eE ob ds)
 |.lst m ds=>.lst (mkV ob m) (eE ob ds)
 |.dct m ks ds=>.dct (mkV ob m) ks (eE ob ds)
 |.ins m c fs ds=>.ins (mkV ob m) c fs (eE ob ds)
 |d=>d
noncomputable def eE(ob:Bool):List D->List D
 |[]=>[]
 |d::r=>view ob d::eE ob r
end
mutual
noncomputable def fz:D->D
 |.tup ds=>.tup (fzL ds)
 |.lst m ds=>.lst (mkF m) (fzL ds)
 |.dct m ks ds=>.dct (mkF m) ks (fzL ds)
 |.ins m c fs ds=>.ins (mkF m) c fs (fzL ds)
 |d=>d
noncomputable def fzL:List D->List D
 |[]=>[]
 |d::r=>fz d::fzL r
end
theorem eF(ob:Bool):∀ds:List D,eE ob ds=ds.map (view ob)
 |[]=>rfl
 |d::r=>by rw[eE,eF ob r];rfl
theorem fX:∀ds:List D,fzL ds=ds.map fz
 |[]=>rfl
 |d::r=>by rw[fzL,fX r];rfl
theorem di.view{ob:Bool}(hn:ob=ae->∀c∈L,W.s c)(h:di B H W a o m L M):di B H W a o (mkV ob m) [] []:=by
 cases m with
 |own=>
  cases ob with
  |false=>exact⟨h.1,hn rfl a (by rw[h.2];simp),rfl,rfl⟩
  |true=>exact⟨h.1,rfl,rfl⟩
 |frz=>exact⟨h.1,h.2.1,rfl,rfl⟩
 |brw=>exact⟨h.1,h.2.1,rfl,rfl⟩
 |bro=>exact⟨h.1,rfl,rfl⟩
 |scr=>exact⟨h.1,rfl,rfl⟩
mutual
theorem Rep.view{ob:Bool}:∀{d:D}{v:V}{L:List Addr},Rep G H W d v L->(ob=ae->∀c∈L,W.s c)->Rep G H W (view ob d) v []
 |.non,v,L,h,_=>by rw[Rep]at h;simp[Jb.view,Rep,h]
 |.bl _,v,L,h,_=>by rw[Rep]at h;simp[Jb.view,Rep,h]
 |.int _,v,L,h,_=>by rw[Rep]at h;simp[Jb.view,Rep,h]
 |.str _,v,L,h,_=>by rw[Rep]at h;simp[Jb.view,Rep,h]
 |.ty _,v,L,h,_=>by rw[Rep]at h;simp[Jb.view,Rep,h]
 |.tup ds,v,L,h,hn=>by
  rw[Rep]at h;rw[Jb.view,Rep];obtain⟨a,xs,rfl,U,Z⟩:=h;exact⟨a,xs,rfl,U,aG.view Z hn⟩
 |.lst m ds,v,L,h,hn=>by
  rw[Rep]at h;rw[Jb.view,Rep];obtain⟨a,xs,M,rfl,Z,hs⟩:=h;exact⟨a,xs,[],rfl,aG.view Z λz c B=>hn z c (hs.sub.subset B),hs.view hn⟩
 |.dct m ks ds,v,L,h,hn=>by
  rw[Rep]at h;rw[Jb.view,Rep];obtain⟨a,xs,M,rfl,O,Z,hs⟩:=h;exact⟨a,xs,[],rfl,O,aG.view Z λz c B=>hn z c (hs.sub.subset B),hs.view hn⟩
 |.ins m c fs ds,v,L,h,hn=>by
  rw[Rep]at h;rw[Jb.view,Rep];obtain⟨a,C,dx,xs,M,rfl,F,O,Z,hs⟩:=h;exact⟨a,C,dx,xs,[],rfl,F,O,aG.view Z λz c B=>hn z c (hs.sub.subset B),hs.view hn⟩
theorem aG.view{ob:Bool}:∀{ds:List D}{O:List V}{L:List Addr},aG G H W ds O L->(ob=ae->∀c∈L,W.s c)->aG G H W (eE ob ds) O []
 |[],O,L,h,_=>by obtain⟨rfl,_⟩:=h.inv0;rw[eE];exact .nil
 |d::r,O,L,h,hn=>by
  obtain⟨x,ys,M,M',rfl,rfl,h1,h2⟩:=h.inv;rw[eE];exact .cons (M:=[]) (M':=[]) (Rep.view h1 λz c B=>hn z c (Yv _ B)) (aG.view h2 λz c B=>hn z c (Yn _ B))
end
structure Les(H:Hp)(W W':Wn)(L:List Addr):Prop where
 f:∀a,W.free a->W'.free a
 l:∀a∈L,W'.free a
theorem Les.sub(h:Les H W W' L)(s:∀a∈M,a∈L):Les H W W' M:=⟨h.f,λa Y=>h.l a (s a Y)⟩
def nJ(W:Wn):Prop:=∀a,W.free a
theorem di.fz(hs:Les H W W' L)(hn:(m≠.brw/\m≠.bro)∨nJ W')(h:di B H W a o m L M):di B H W' a o (mkF m) [] []:=by
 cases m with
 |own=>exact⟨h.1,hs.l a (by rw[h.2];simp),rfl,rfl⟩
 |frz=>exact⟨h.1,hs.f a h.2.1,rfl,rfl⟩
 |brw=>exact⟨h.1,hn.elim (λz=>absurd rfl z.1) λz=>z a,rfl,rfl⟩
 |bro=>exact⟨h.1,hn.elim (λz=>absurd rfl z.2) λz=>z a,rfl,rfl⟩
 |scr=>exact⟨h.1.imp (λz=>⟨z.1,hs.f a z.2⟩) id,rfl,rfl⟩
mutual
theorem Rep.fz:∀{d:D}{v:V}{L:List Addr},Rep G H W d v L->Les H W W' L->(clean d=ag∨nJ W')->Rep G H W' (fz d) v []
 |.non,v,L,h,_,_=>by rw[Rep]at h;simp[Jb.fz,Rep,h]
 |.bl _,v,L,h,_,_=>by rw[Rep]at h;simp[Jb.fz,Rep,h]
 |.int _,v,L,h,_,_=>by rw[Rep]at h;simp[Jb.fz,Rep,h]
 |.str _,v,L,h,_,_=>by rw[Rep]at h;simp[Jb.fz,Rep,h]
 |.ty _,v,L,h,_,_=>by rw[Rep]at h;simp[Jb.fz,Rep,h]
 |.tup ds,v,L,h,hs,c=>by
  rw[Rep]at h;rw[Jb.fz,Rep];obtain⟨a,xs,rfl,U,Z⟩:=h;exact⟨a,xs,rfl,U,aG.fz Z hs (c.imp (λz=>by simpa[clean,az,au]using z) id)⟩
 |.lst m ds,v,L,h,he,c=>by
  rw[Rep]at h;rw[Jb.fz,Rep];obtain⟨a,xs,M,rfl,Z,hs⟩:=h;exact⟨a,xs,[],rfl,aG.fz Z (he.sub λc B=>hs.sub.subset B) (c.imp (λz=>by simp[clean,az,au]at z;exact⟨z.1.2,z.2.2⟩) id),hs.fz he (c.imp (λz=>by simp[clean,az,au]at z;exact⟨z.1.1,z.2.1⟩) id)⟩
 |.dct m ks ds,v,L,h,he,c=>by
  rw[Rep]at h;rw[Jb.fz,Rep];obtain⟨a,xs,M,rfl,O,Z,hs⟩:=h;exact⟨a,xs,[],rfl,O,aG.fz Z (he.sub λc B=>hs.sub.subset B) (c.imp (λz=>by simp[clean,az,au]at z;exact⟨z.1.2,z.2.2⟩) id),hs.fz he (c.imp (λz=>by simp[clean,az,au]at z;exact⟨z.1.1,z.2.1⟩) id)⟩
 |.ins m c' fs ds,v,L,h,he,c=>by
  rw[Rep]at h;rw[Jb.fz,Rep];obtain⟨a,C,dx,xs,M,rfl,F,O,Z,hs⟩:=h;exact⟨a,C,dx,xs,[],rfl,F,O,aG.fz Z (he.sub λc B=>hs.sub.subset B) (c.imp (λz=>by simp[clean,az,au]at z;exact⟨z.1.2,z.2.2⟩) id),hs.fz he (c.imp (λz=>by simp[clean,az,au]at z;exact⟨z.1.1,z.2.1⟩) id)⟩
theorem aG.fz:∀{ds:List D}{O:List V}{L:List Addr},aG G H W ds O L->Les H W W' L->((aB ds=ag/\aC ds=ag)∨nJ W')->aG G H W' (fzL ds) O []
 |[],O,L,h,_,_=>by obtain⟨rfl,_⟩:=h.inv0;rw[fzL];exact .nil
 |d::r,O,L,h,he,c=>by
  obtain⟨x,ys,M,M',rfl,rfl,h1,h2⟩:=h.inv;rw[fzL];exact .cons (M:=[]) (M':=[]) (Rep.fz h1 (he.sub λc B=>Yv _ B) (c.imp (λz=>by simp[clean,aB,aC]at z⊢;exact⟨z.1.1,z.2.1⟩) id))
   (aG.fz h2 (he.sub λc B=>Yn _ B) (c.imp (λz=>by simp[clean,aB,aC]at z⊢;exact⟨z.1.2,z.2.2⟩) id))
end
mutual
theorem BK:∀d:D,az (Jb.fz d)=ag
 |.non=>rfl|.bl _=>rfl|.int _=>rfl|.str _=>rfl|.ty _=>rfl
 |.tup ds=>by simp[Jb.fz,az,gQ ds]
 |.lst m ds=>by cases m<;>simp[Jb.fz,az,gQ ds,mkF]
 |.dct m _ ds=>by cases m<;>simp[Jb.fz,az,gQ ds,mkF]
 |.ins m _ _ ds=>by cases m<;>simp[Jb.fz,az,gQ ds,mkF]
theorem gQ:∀ds:List D,aB (fzL ds)=ag
 |[]=>rfl
 |d::r=>by simp[fzL,aB,BK d,gQ r]
end
mutual
theorem Cp:∀d:D,au (Jb.fz d)=ag
 |.non=>rfl|.bl _=>rfl|.int _=>rfl|.str _=>rfl|.ty _=>rfl
 |.tup ds=>by simp[Jb.fz,au,gR ds]
 |.lst m ds=>by cases m<;>simp[Jb.fz,au,gR ds,mkF]
 |.dct m _ ds=>by cases m<;>simp[Jb.fz,au,gR ds,mkF]
 |.ins m _ _ ds=>by cases m<;>simp[Jb.fz,au,gR ds,mkF]
theorem gR:∀ds:List D,aC (fzL ds)=ag
 |[]=>rfl
 |d::r=>by simp[fzL,aC,Cp d,gR r]
end
theorem Km(d:D):clean (Jb.fz d)=ag:=by simp[clean,BK,Cp]
mutual
theorem Rep.dom:∀{d:D}{v:V}{L:List Addr},Rep G H W d v L->∀a∈L,Mu H a
 |.non,v,L,h=>by rw[Rep]at h;rw[h.2];simp
 |.bl _,v,L,h=>by rw[Rep]at h;rw[h.2];simp
 |.int _,v,L,h=>by rw[Rep]at h;rw[h.2];simp
 |.str _,v,L,h=>by rw[Rep]at h;rw[h.2];simp
 |.ty _,v,L,h=>by rw[Rep]at h;rw[h.2];simp
 |.tup ds,v,L,h=>by
  rw[Rep]at h;obtain⟨a,xs,rfl,q,Z⟩:=h;exact aG.dom Z
 |.lst m ds,v,L,h=>by
  rw[Rep]at h;obtain⟨a,xs,M,rfl,Z,hs⟩:=h;intro b U;cases m with
  |own=>
   rw[hs.2]at U;rcases Yu.mp U with z|z
   .rw[z];exact⟨_,hs.1,rfl⟩
   .exact aG.dom Z b z
  |frz=>rw[hs.2.2.2]at U;cases U
  |brw=>rw[hs.2.2.2]at U;cases U
  |bro=>rw[hs.2.2]at U;cases U
  |scr=>rw[hs.2.2]at U;cases U
 |.dct m ks ds,v,L,h=>by
  rw[Rep]at h;obtain⟨a,xs,M,rfl,O,Z,hs⟩:=h;intro b U;cases m with
  |own=>
   rw[hs.2]at U;rcases Yu.mp U with z|z
   .rw[z];exact⟨_,hs.1,rfl⟩
   .exact aG.dom Z b z
  |frz=>rw[hs.2.2.2]at U;cases U
  |brw=>rw[hs.2.2.2]at U;cases U
  |bro=>rw[hs.2.2]at U;cases U
  |scr=>rw[hs.2.2]at U;cases U
 |.ins m c fs ds,v,L,h=>by
  rw[Rep]at h;obtain⟨a,C,dx,xs,M,rfl,F,O,Z,hs⟩:=h;intro b U;cases m with
  |own=>
   rw[hs.2]at U;rcases Yu.mp U with z|z
   .rw[z];exact⟨_,hs.1,rfl⟩
   .exact aG.dom Z b z
  |frz=>rw[hs.2.2.2]at U;cases U
  |brw=>rw[hs.2.2.2]at U;cases U
  |bro=>rw[hs.2.2]at U;cases U
  |scr=>rw[hs.2.2]at U;cases U
theorem aG.dom:∀{ds:List D}{O:List V}{L:List Addr},aG G H W ds O L->∀a∈L,Mu H a
 |[],O,L,h=>by rw[h.inv0.2];simp
 |d::r,O,L,h=>by
  obtain⟨x,ys,M,M',rfl,rfl,h1,h2⟩:=h.inv;intro a Y;rcases Yl.mp Y with z|z
  .exact Rep.dom h1 a z
  .exact aG.dom h2 a z
end
abbrev En:=List (Option D)
abbrev Ad:=Nat->List Addr
def Rel(G:Gc)(H:Hp)(W:Wn)(ob:Nat->Bool)(ρ:En)(σ:L2.St):Prop:=∀(i:Nat)(d:D),ρ[i]? =ac (ac d)->∃v L,σ[i]? =ac (ac v)/\Rep G H W d v L/\(ob i=ae->∀c∈L,W.s c)
def WOk(H:Hp)(W:Wn):Prop:=∀a,W.n a∨W.s a∨W.o a->Mu H a
variable{ρ:En}{σ:L2.St}
theorem Rel.up(r:Rel G H W ob ρ σ)(u:Up H H' W W'):Rel G H' W' ob ρ σ:=λi d e=>let⟨v,L,h1,h2,h3⟩:=r i d e;⟨v,L,h1,h2.up u,λz c B=>let⟨o,ho,_⟩:=h2.dom c B;u.n c o ho (h3 z c B)⟩
theorem WOk.add(h:WOk H W)(s:Same H H')(O:∀a∈L,Mu H' a):WOk H' (W.add L):=λa Y=>by
 rcases Y with(z|z)|z
 .exact O a z
 .obtain⟨o,h1,h2⟩:=h a (.inl z);exact⟨o,s a o h1,h2⟩
 .obtain⟨o,h1,h2⟩:=h a (.inr z);exact⟨o,s a o h1,h2⟩
def wn(ob:Nat->Bool)(S:Ad)(Fr:Addr->Prop):Wn:=⟨Fr,λa=>∃i,ob i=ae/\a∈S i,λa=>∃i,ob i=ag/\a∈S i⟩
def inS(S:Ad)(a:Addr):Prop:=∃i,a∈S i
def inO(ob:Nat->Bool)(S:Ad)(a:Addr):Prop:=∃i,ob i=ag/\a∈S i
def plus(M:List Addr)(Fr:Addr->Prop):Addr->Prop:=λa=>a∈M∨Fr a
structure Sta(G:Gc)(H:Hp)(ob:Nat->Bool)(ρ:En)(σ:L2.St)(S:Ad)(Fr:Addr->Prop):Prop where
 len:ρ.length=σ.length
 sl:∀(i:Nat)(d:D),ρ[i]? =ac (ac d)->∃v,σ[i]? =ac (ac v)/\Rep G H (wn ob S Fr) d v (S i)/\clean d=ag
 em:∀i,(∀d,ρ[i]?≠ac (ac d))->S i=[]
 nd:∀i,(S i).Nodup
 dj:∀i j a,a∈S i->a∈S j->i=j
 fdj:∀i a,Fr a->a∉S i
 fdm:∀a,Fr a->Mu H a
section
variable{G:Gc}{H H':Hp}{ob:Nat->Bool}{ρ:En}{σ:L2.St}{S S':Ad}{Fr Fr':Addr->Prop}
theorem Sta.mu(s:Sta G H ob ρ σ S Fr){i:Nat}{a:Addr}(h:a∈S i):Mu H a:=by
 by_cases e:∃d,ρ[i]? =ac (ac d)
 .obtain⟨d,e⟩:=e
  obtain⟨v,_,r,_⟩:=s.sl i d e;exact r.dom a h
 .rw[s.em i λd z=>e ⟨d,z⟩]at h
  cases h
theorem Sta.wok(s:Sta G H ob ρ σ S Fr):WOk H (wn ob S Fr):=λa Y=>by
 rcases Y with z|⟨i,_,z⟩|⟨i,_,z⟩
 .exact s.fdm a z
 .exact s.mu z
 .exact s.mu z
theorem Sta.rel(s:Sta G H ob ρ σ S Fr):Rel G H (wn ob S Fr) ob ρ σ:=λi d e=>by
 obtain⟨v,h1,h2,_⟩:=s.sl i d e;exact⟨v,S i,h1,h2,λz c B=>⟨i,z,B⟩⟩
theorem Sta.grow(s:Sta G H ob ρ σ S Fr)(O:Same H H')(h1:∀a,Fr' a->Fr a∨(H a=af/\Mu H' a)):Sta G H' ob ρ σ S Fr' where
 len:=s.len
 sl:=λi d e=>by
  obtain⟨v,q1,q2,F⟩:=s.sl i d e;have B:az d=ag/\au d=ag:=by simpa[clean]using F
  have I:Evo H H' (wn ob S Fr) (wn ob S Fr'):=⟨λb u h f=>⟨O b u h,⟨λz=>(h1 b z).elim f.1 (λz=>by rw[z.1]at h;cases h),f.2⟩⟩,λb xs h=>O b _ h⟩;exact⟨v,q1,q2.mono I (.inl B.1) (.inl B.2) λc _ u e=>O c u e,F⟩
 em:=s.em
 nd:=s.nd
 dj:=s.dj
 fdj:=λi a h z=>by
  rcases h1 a h with q|q
  .exact s.fdj i a q z
  .obtain⟨o,ho,_⟩:=s.mu z
   rw[q.1]at ho;cases ho
 fdm:=λa h=>by
  rcases h1 a h with q|q
  .obtain⟨o,ho,hm⟩:=s.fdm a q
   exact⟨o,O a o ho,hm⟩
  .exact q.2
theorem Sta.lessF(s:Sta G H ob ρ σ S Fr)(h1:∀a,Fr' a->Fr a):Sta G H ob ρ σ S Fr':=s.grow (Same.refl H) λa h=>.inl (h1 a h)
end
def RfE(G:Gc)(ob:Nat->Bool)(t:TE)(f:En->Option D):Prop:=∀(ρ:En)(d:D),f ρ=ac d->∀(σ:L2.St)(H:Hp)(W:Wn),Rel G H W ob ρ σ->WOk H W->∀Q:VK,
 (∀v H' L,Same H H'->Rep G H' (W.add L) d v L->(∀a∈L,H a=af)->L.Nodup->Q v H')->t σ H Q
def RfT(G:Gc)(ob:Nat->Bool)(t:TT)(f:En->Option Bool):Prop:=∀(ρ:En)(b:Bool),f ρ=ac b->∀(σ:L2.St)(H:Hp)(W:Wn),Rel G H W ob ρ σ->WOk H W->∀Q:Bool->Hp->Prop,
 (∀H',Same H H'->Q b H')->t σ H Q
def RfA(G:Gc)(ob:Nat->Bool)(t:TA)(f:En->Option (List D)):Prop:=∀(ρ:En)(ds:List D),f ρ=ac ds->∀(σ:L2.St)(H:Hp)(W:Wn),Rel G H W ob ρ σ->WOk H W->∀Q:List V->Hp->Prop,
 (∀O H' L,Same H H'->aG G H' (W.add L) ds O L->(∀a∈L,H a=af)->L.Nodup->Q O H')->t σ H Q
structure Eff(ob:Nat->Bool)(H H':Hp)(S S':Ad)(M:List Addr):Prop where
 kp:∀b u,H b=ac u->¬inO ob S b->H' b=ac u
 sn:∀i,ob i=ae->S' i=S i
 gr:∀i a,ob i=ag->a∈S' i->inO ob S a∨H a=af
 fm:∀a∈M,inO ob S a∨H a=af
def lX(G:Gc)(ob:Nat->Bool)(t:TE)(f:En->Option (D×En)):Prop:=∀(ρ:En)(d:D)(B:En),f ρ=ac (d,B)->∀(σ:L2.St)(H:Hp)(S:Ad)(Fr:Addr->Prop),Sta G H ob ρ σ S Fr->∀Q:VK,
 (∀v H' M S',Sta G H' ob B σ S' (plus M Fr)->Rep G H' (wn ob S' (plus M Fr)) d v M->M.Nodup->Eff ob H H' S S' M->Q v H')->t σ H Q
def Kq(G:Gc)(ob:Nat->Bool)(t:TT)(f:En->Option (Bool×En)):Prop:=∀(ρ:En)(b:Bool)(B:En),f ρ=ac (b,B)->∀(σ:L2.St)(H:Hp)(S:Ad)(Fr:Addr->Prop),Sta G H ob ρ σ S Fr->∀Q:Bool->Hp->Prop,
 (∀H' S',Sta G H' ob B σ S' Fr->Eff ob H H' S S' []->Q b H')->t σ H Q
def Fi(G:Gc)(ob:Nat->Bool)(t:TA)(f:En->Option (List D×En)):Prop:=∀(ρ:En)(ds:List D)(B:En),f ρ=ac (ds,B)->∀(σ:L2.St)(H:Hp)(S:Ad)(Fr:Addr->Prop),Sta G H ob ρ σ S Fr->∀Q:List V->Hp->Prop,
 (∀O H' M S',Sta G H' ob B σ S' (plus M Fr)->aG G H' (wn ob S' (plus M Fr)) ds O M->M.Nodup->Eff ob H H' S S' M->Q O H')->t σ H Q
inductive Fl where
 |nx (ρ:En)|ret (d:D) (ρ:En)|brk (ρ:En)|cnt (ρ:En)
def Ew(P:Nat->Bool)(σ F:L2.St):Prop:=∀i,P i=ag->F[i]? =σ[i]?
variable{P:Nat->Bool}
theorem Ew.refl:Ew P σ σ:=λ_ _=>rfl
theorem Ew.trans{U σ2:L2.St}(a:Ew P σ U)(b:Ew P U σ2):Ew P σ σ2:=λi h=>(b i h).trans (a i h)
structure Mv(P:Nat->Bool)(H H':Hp)(σ σ':L2.St)(S S':Ad)(M:List Addr):Prop where
 kp:∀b u,H b=ac u->¬inS S b->b∉M->H' b=ac u
 gr:∀i a,a∈S' i->inS S a∨a∈M∨H a=af
 pr:Ew P σ σ'
variable{S:Ad}
theorem Mv.trans{H1:Hp}{U σ2:L2.St}{S1 S2:Ad}(a:Mv P H H1 σ U S S1 M)(b:Mv P H1 H2 U σ2 S1 S2 []):Mv P H H2 σ σ2 S S2 M where
 kp:=λc u h n m=>b.kp c u (a.kp c u h n m) (λ⟨i,z⟩=>(a.gr i c z).elim n λz=>z.elim m λe=>by rw[h]at e;cases e) (by simp)
 gr:=λi c z=>by
  rcases b.gr i c z with⟨j,q⟩|q|q
  .exact a.gr j c q
  .cases q
  .by_cases h:inS S c
   .exact .inl h
   .by_cases hm:c∈M
    .exact .inr (.inl hm)
    .refine .inr (.inr ?_)
     cases e:H c with
     |none=>rfl
     |some u=>rw[a.kp c u e h hm]at q;cases q
 pr:=a.pr.trans b.pr
theorem Eff.mv{S':Ad}(e:Eff ob H H' S S' M):Mv P H H' σ σ S S' []where
 kp:=λb u h n _=>e.kp b u h λ⟨i,_,z⟩=>n ⟨i,z⟩
 gr:=λi a z=>by
  cases h:ob i with
  |false=>rw[e.sn i h]at z;exact .inl ⟨i,z⟩
  |true=>exact(e.gr i a h z).imp (λ⟨j,_,q⟩=>⟨j,q⟩) .inr
 pr:=.refl
def Aft(G:Gc)(ob P:Nat->Bool)(H:Hp)(σ:L2.St)(S:Ad)(Fr:Addr->Prop)(E:Ends):Fl->Prop
 |.nx B=>∀F H' S',Sta G H' ob B F S' Fr->Mv P H H' σ F S S' []->E.nx F H'
 |.brk B=>∀F H' S',Sta G H' ob B F S' Fr->Mv P H H' σ F S S' []->E.bk F H'
 |.cnt B=>∀F H' S',Sta G H' ob B F S' Fr->Mv P H H' σ F S S' []->E.ct F H'
 |.ret d B=>∀v F H' M S',Sta G H' ob B F S' (plus M Fr)->Rep G H' (wn ob S' (plus M Fr)) d v M->clean d=ag->M.Nodup->(∀a∈M,inS S a∨H a=af)->Mv P H H' σ F S S' []->E.rt v H'
def RfS(G:Gc)(ob P:Nat->Bool)(t:TS)(f:En->Option Fl):Prop:=∀(ρ:En)(r:Fl),f ρ=ac r->∀(σ:L2.St)(H:Hp)(S:Ad)(Fr:Addr->Prop),Sta G H ob ρ σ S Fr->∀E:Ends,Aft G ob P H σ S Fr E r->t E σ H
def RfG(G:Gc)(ob P:Nat->Bool)(g:TG)(f:D->En->Option En):Prop:=∀(d:D)(ρ B:En),f d ρ=ac B->∀(v:V)(σ:L2.St)(H:Hp)(S:Ad)(M:List Addr)(Fr:Addr->Prop),Sta G H ob ρ σ S (plus M Fr)->Rep G H (wn ob S (plus M Fr)) d v M->M.Nodup->(∀a∈M,¬Fr a)->
 ∀Q:L2.St->Hp->Prop,(∀F H' S',Sta G H' ob B F S' Fr->Mv P H H' σ F S S' M->Q F H')->g v σ H Q
def Yc(G:Gc)(ob P:Nat->Bool)(g:TGs)(f:List D->En->Option En):Prop:=∀(ds:List D)(ρ B:En),f ds ρ=ac B->∀(O:List V)(σ:L2.St)(H:Hp)(S:Ad)(M:List Addr)(Fr:Addr->Prop),Sta G H ob ρ σ S (plus M Fr)->aG G H (wn ob S (plus M Fr)) ds O M->M.Nodup->(∀a∈M,¬Fr a)->
 ∀Q:L2.St->Hp->Prop,(∀F H' S',Sta G H' ob B F S' Fr->Mv P H H' σ F S S' M->Q F H')->g O σ H Q
structure PV{ι:Type}(X:ι->Cx)(G:Gc)(ob:Nat->Bool)(e:Expr)(f:En->Option D):Prop where
 mk::(ex:∃t,(∀c,PE (X c) e t)/\RfE G ob t f)
structure PVT{ι:Type}(X:ι->Cx)(G:Gc)(ob:Nat->Bool)(e:Expr)(f:En->Option Bool):Prop where
 mk::(ex:∃t,(∀c,PT (X c) e t)/\RfT G ob t f)
structure PVW{ι:Type}(X:ι->Cx)(G:Gc)(ob:Nat->Bool)(e:Expr)(f:En->Option Bool):Prop where
 mk::(ex:∃t,(∀c,PW (X c) e t)/\RfT G ob t f)
structure PVA{ι:Type}(X:ι->Cx)(G:Gc)(ob:Nat->Bool)(es:List Expr)(f:En->Option (List D)):Prop where
 mk::(ex:∃t,(∀c,PA (X c) es t)/\RfA G ob t f)
structure PVe{ι:Type}(X:ι->Cx)(G:Gc)(ob:Nat->Bool)(e:Expr)(f:En->Option (D×En)):Prop where
 mk::(ex:∃t,(∀c,PE (X c) e t)/\lX G ob t f)
structure QC{ι:Type}(X:ι->Cx)(G:Gc)(ob:Nat->Bool)(e:Expr)(f:En->Option (Bool×En)):Prop where
 mk::(ex:∃t,(∀c,PT (X c) e t)/\Kq G ob t f)
structure Az{ι:Type}(X:ι->Cx)(G:Gc)(ob:Nat->Bool)(es:List Expr)(f:En->Option (List D×En)):Prop where
 mk::(ex:∃t,(∀c,PA (X c) es t)/\Fi G ob t f)
structure PVS{ι:Type}(X:ι->Cx)(G:Gc)(ob P:Nat->Bool)(st:Stmt)(f:En->Option Fl):Prop where
 mk::(ex:∃t,(∀c,PS (X c) st t)/\RfS G ob P t f)
structure j6{ι:Type}(X:ι->Cx)(G:Gc)(ob P:Nat->Bool)(st:List Stmt)(f:En->Option Fl):Prop where
 mk::(ex:∃t,(∀c,PSs (X c) st t)/\RfS G ob P t f)
structure PVG{ι:Type}(X:ι->Cx)(G:Gc)(ob P:Nat->Bool)(tg:Expr)(f:D->En->Option En):Prop where
 mk::(ex:∃t,(∀c,PG (X c) tg t)/\RfG G ob P t f)
theorem dR(h1:L.Nodup)(h2:M.Nodup)(q:∀a∈L,a∉M):(L++M).Nodup:=Zz.mpr ⟨h1,h2,λa Y b U e=>q a Y (e▸U)⟩
def Wn.drop(W:Wn)(L:List Addr):Wn:=⟨λa=>W.n a/\a∉L,W.s,W.o⟩
def Wn.tmp(W:Wn)(a:Addr):Prop:=W.n a/\¬W.s a/\¬W.o a
theorem WOk.tmp(w:WOk H W)(F:∀a∈L,H a=af):∀a∈L,(W.add L).tmp a:=λa Y=>by
 refine⟨.inl Y,λz=>?_,λz=>?_⟩
 .obtain⟨o,ho,_⟩:=w a (.inr (.inl z));rw[F a Y]at ho;cases ho
 .obtain⟨o,ho,_⟩:=w a (.inr (.inr z));rw[F a Y]at ho;cases ho
def Done(G:Gc)(H:Hp)(W:Wn)(F:List Addr)(d:D)(Q:VK):Prop:=∀v H' L,Same H H'->Rep G H' ((W.drop F).add L) d v L->(∀a∈L,a∈F∨H a=af)->L.Nodup->Q v H'
def OpV(G:Gc)(r:R2)(g:D->D->Option D):Prop:=∀(dx F d:D),g dx F=ac d->∀(x y:V)(H:Hp)(W:Wn)(I Y:List Addr),Rep G H W dx x I->Rep G H W F y Y->(I++Y).Nodup->(∀a∈I++Y,W.tmp a)->WOk H W->∀Q:VK,Done G H W (I++Y) d Q->r x y H Q
def UnV(G:Gc)(r:V->Hp->VK->Prop)(g:D->Option D):Prop:=∀(dx d:D),g dx=ac d->∀(x:V)(H:Hp)(W:Wn)(I:List Addr),Rep G H W dx x I->I.Nodup->(∀a∈I,W.tmp a)->WOk H W->∀Q:VK,Done G H W I d Q->r x H Q
def CaV(G:Gc)(r:List V->Hp->VK->Prop)(g:List D->Option D):Prop:=∀(ds:List D)(d:D),g ds=ac d->∀(xs:List V)(H:Hp)(W:Wn)(F:List Addr),aG G H W ds xs F->F.Nodup->(∀a∈F,W.tmp a)->WOk H W->∀Q:VK,Done G H W F d Q->r xs H Q
def MtV(G:Gc)(r:V->List V->Hp->VK->Prop)(g:D->List D->Option D):Prop:=∀(dx:D)(ds:List D)(d:D),g dx ds=ac d->∀(x:V)(xs:List V)(H:Hp)(W:Wn)(I F:List Addr),Rep G H W dx x I->aG G H W ds xs F->(I++F).Nodup->(∀a∈I++F,W.tmp a)->WOk H W->∀Q:VK,Done G H W (I++F) d Q->r x xs H Q
theorem WOk.new(w:WOk H W)(F:∀a∈L,H a=af)(h:W.n a):a∉L:=λz=>by
 obtain⟨o,I,_⟩:=w a (.inl h);rw[F a z]at I;cases I
variable{Q:VK}
theorem Done.scal{F:List Addr}(h:Done G H W F d Q)(r:∀W,Rep G H W d v []):Q v H:=h v H [] (Same.refl H) (r _) (by simp) List.nodup_nil
theorem _root_.L2.Same.none'(s:Same H H')(h:H' a=af):H a=af:=Same.free s h
variable{ta tb:TE}{fa fb:En->Option D}{R:V->V->Hp->Prop}
theorem RfE.two(Y:RfE G ob ta fa)(U:RfE G ob tb fb){dx F:D}(e1:fa ρ=ac dx)(e2:fb ρ=ac F)(r:Rel G H W ob ρ σ)(w:WOk H W)
  (h:∀x y H' L M,Same H H'->Rep G H' (W.add (L++M)) dx x L->Rep G H' (W.add (L++M)) F y M->(∀a∈L++M,H a=af)->(L++M).Nodup->WOk H' (W.add (L++M))->R x y H'):ta σ H λx H1=>tb σ H1 λy H2=>R x y H2:=by
 refine Y ρ dx e1 σ H W r w _ λx H1 L Z rx fx nx=>?_;have u1:Up H H1 W (W.add L):=.add Z fx;have w1:WOk H1 (W.add L):=w.add Z rx.dom;refine U ρ F e2 σ H1 (W.add L) (r.up u1) w1 _ λy H2 M O B fy q=>?_;have a1:∀a∈L,a∉M:=λa h1 h2=>by
  obtain⟨o,I,_⟩:=rx.dom a h1;rw[fy a h2]at I;cases I
 have eW:∀a,((W.add L).add M).n a↔(W.add (L++M)).n a:=λa=>by
  show(a∈M∨a∈L∨W.n a)↔(a∈L++M∨W.n a);rw[Yl];constructor
  .rintro(z|z|z)
   .exact .inl (.inr z)
   .exact .inl (.inl z)
   .exact .inr z
  .rintro((z|z)|z)
   .exact .inr (.inl z)
   .exact .inl z
   .exact .inr (.inr z)
 have a0:(W.add L).add M=W.add (L++M):=by
  show Wn.mk _ _ _=Wn.mk _ _ _;congr 1;funext a;exact propext (eW a)
 have u2:Up H1 H2 (W.add L) (W.add (L++M)):=by rw[←a0];exact .add O fy
 rw[a0]at B;refine h x y H2 L M (Z.trans O) (rx.up u2) B (λa Y=>?_) (dR nx q a1) ?_
 .rcases Yl.mp Y with z|z
  .exact fx a z
  .exact Z.none' (fy a z)
 .rw[←a0]
  exact w1.add O B.dom
def ao(b:Bool)(i:Nat):En->Option D:=λρ=>match ρ[i]? with
 |some (ac d)=>ac (view b d)
 |_=>af
def eC(d:D):En->Option D:=λ_=>ac d
theorem qY(W:Wn):W.add []=W:=by
 cases W;simp[Wn.add]
theorem Tz:RfE G ob (Ab i) (ao (ob i) i):=λρ d e σ H W r w Q q=>by
 unfold ao at e;split at e
 .rename_i d0 e0
  cases e;obtain⟨v,L,h1,h2,Y⟩:=r i d0 e0;refine⟨v,h1,q v H [] (Same.refl H) ?_ (by simp) List.nodup_nil⟩;rw[qY];exact h2.view Y
 .cases e
variable{X:ι->Cx}
theorem ak(b:Bool)(i:Nat)(U:ob i=b:=by rfl)(z:∀c,(X c).N[i]? =ac x:=by intro _;rfl)(B:∀c,Vis (X c).env.scope x:=by intro _;first|exact aab rfl|exact ZC (aab rfl)|exact ZC (ZC rfl))(hd:1.21=ae:=by decide)(I:(x==("__classdict__":Str))=ae:=by decide):PV X G ob (.Name x pos) (ao b i):=⟨_,λc=>pv i (z c) (B c) hd I,by rw[←U];exact Tz⟩
theorem Eu(h:∀H W,Rep G H W d v []):RfE G ob (tC v) (eC d):=λρ d' e σ H W r w Q q=>by
 cases e;exact q v H [] (Same.refl H) (h _ _) (by simp) List.nodup_nil
theorem aV{i j pos}:PV X G ob (.Constant (.int i) j pos) (eC (.int i)):=⟨_,λc=>J7,Eu λ_ _=>by simp[Rep]⟩
theorem jT{b j pos}:PV X G ob (.Constant (.bool b) j pos) (eC (.bl b)):=⟨_,λc=>Wh,Eu λ_ _=>by simp[Rep]⟩
theorem rm{j pos}:PV X G ob (.Constant .none j pos) (eC .non):=⟨_,λc=>Vx,Eu λ_ _=>by simp[Rep]⟩
theorem lG{x j pos}:PV X G ob (.Constant (.str x) j pos) (eC (.str x)):=⟨_,λc=>FZ,Eu λ_ _=>by simp[Rep]⟩
theorem qF{n:String}(F:∀c,Gl (X c) x)(V:∀c,(X c).mg x=af)(B:aaD x=ac (.type n))(hn:x≠"__name__":=by decide)(hd:1.21=ae:=by decide):PV X G ob (.Name x pos) (eC (.ty n)):=⟨_,λc=>Wf (F c) (V c) B hn hd,Eu λ_ _=>by simp[Rep]⟩
structure OpB{ι:Type}(X:ι->Cx)(G:Gc)(f:Value->Value->Sem Value)(g:D->D->Option D):Prop where
 ex:∃r,(∀c,OpR (X c) f r)/\OpV G r g
structure UnB{ι:Type}(X:ι->Cx)(G:Gc)(f:Value->Sem Value)(g:D->Option D):Prop where
 ex:∃r,(∀c,UnR (X c) f r)/\UnV G r g
structure IxB{ι:Type}(X:ι->Cx)(G:Gc)(g:D->D->Option D):Prop where
 ex:∃r,(∀c,IxR (X c) r)/\OpV G r g
structure CaB{ι:Type}(X:ι->Cx)(G:Gc)(f:Value)(g:List D->Option D):Prop where
 ex:∃r,(∀c,gh (X c) f r)/\CaV G r g
structure MtB{ι:Type}(X:ι->Cx)(G:Gc)(T id:String)(g:D->List D->Option D):Prop where
 ex:∃r,(∀c,MtR (X c) id r)/\MtV G r g/\∀dx ds d,g dx ds=ac d->∀(x:V)(H:Hp)(W:Wn)(Lx:List Addr),Rep G H W dx x Lx->tyV G.K T x H
def e2(g:D->D->Option D)(fa fb:En->Option D):En->Option D:=λρ=>(fa ρ).bind λx=>(fb ρ).bind λy=>g x y
def e1(g:D->Option D)(fa:En->Option D):En->Option D:=λρ=>(fa ρ).bind g
variable{g:D->D->Option D}
theorem GC{r:R2}(I:OpV G r g)(Y:RfE G ob ta fa)(U:RfE G ob tb fb):RfE G ob (tOp r ta tb) (e2 g fa fb):=λρ d e σ H W rl w Q q=>by
 unfold e2 at e;cases h1:fa ρ with
 |none=>rw[h1]at e;cases e
 |some dx=>
  rw[h1]at e;cases h2:fb ρ with
  |none=>simp[h2]at e
  |some V=>
   have e:g dx V=ac d:=by simpa[h2]using e
   refine RfE.two Y U h1 h2 rl w λx y H' L M s rx B F nd w'=>?_;refine I dx V d e x y H' _ L M rx B nd (w.tmp F) w' Q λv H2 L2 O r2 f2 Z=>?_;refine q v H2 L2 (s.trans O) ?_ (λa Y=>(f2 a Y).elim (F a) λz=>s.none' z) Z;exact r2.up ⟨Same.refl _,λb u U f=>⟨λz=>z.elim (λz=>f.1 (.inl z)) λz=>f.1 (.inr ⟨.inr z,WOk.new w F z⟩),f.2⟩,λ_ _ _ f=>f⟩
theorem VH{r:V->Hp->VK->Prop}{g:D->Option D}(I:UnV G r g)(Y:RfE G ob ta fa):RfE G ob (tUn r ta) (e1 g fa):=λρ d e σ H W B w Q q=>by
 unfold e1 at e;cases h1:fa ρ with
 |none=>rw[h1]at e;cases e
 |some dx=>
  rw[h1]at e;have e:g dx=ac d:=by simpa using e
  refine Y ρ dx h1 σ H W B w _ λx H' L s rx F nd=>?_;refine I dx d e x H' _ L rx nd (w.tmp F) (w.add s rx.dom) Q λv H2 L2 O r2 f2 Z=>?_;refine q v H2 L2 (s.trans O) ?_ (λa Y=>(f2 a Y).elim (F a) λz=>s.none' z) Z;exact r2.up ⟨Same.refl _,λb u U f=>⟨λz=>z.elim (λz=>f.1 (.inl z)) λz=>f.1 (.inr ⟨.inr z,WOk.new w F z⟩),f.2⟩,λ_ _ _ f=>f⟩
def aA:En->Option (List D):=λ_=>ac []
def aj(fa:En->Option D)(F:En->Option (List D)):En->Option (List D):=λρ=>(fa ρ).bind λx=>(F ρ).bind λxs=>ac (x::xs)
theorem Kh:RfA G ob Wa aA:=λρ ds e σ H W I w Q q=>by
 cases e;exact q [] H [] (Same.refl H) .nil (by simp) List.nodup_nil
variable{t:TA}
theorem Ra{F:En->Option (List D)}(Y:RfE G ob ta fa)(Z:RfA G ob t F):RfA G ob (Ks ta t) (aj fa F):=λρ ds e σ H W rl w Q q=>by
 unfold aj at e;cases h1:fa ρ with
 |none=>rw[h1]at e;cases e
 |some dx=>
  rw[h1]at e;cases h2:F ρ with
  |none=>simp[h2]at e
  |some es=>
   have e:dx::es=ds:=by simpa[h2]using e
   subst e;refine Y ρ dx h1 σ H W rl w _ λx H1 L s1 rx fx nx=>?_;have u1:Up H H1 W (W.add L):=.add s1 fx;have w1:WOk H1 (W.add L):=w.add s1 rx.dom;refine Z ρ es h2 σ H1 (W.add L) (rl.up u1) w1 _ λys H2 M O B fy ny=>?_;have V:∀a∈L,a∉M:=λa h1 h2=>by
    obtain⟨o,I,_⟩:=rx.dom a h1;rw[fy a h2]at I;cases I
   have u2:Up H1 H2 (W.add L) (W.add (L++M)):=⟨O,λb u U f=>⟨λz=>z.elim (λz=>(Yl.mp z).elim (λz=>f.1 (.inl z)) λz=>by rw[fy b z]at U;cases U) λz=>f.1 (.inr z),f.2⟩,λ_ _ _ f=>f⟩;refine q (x::ys) H2 (L++M) (s1.trans O) (.cons (rx.up u2) (B.up ⟨Same.refl _,λb u U f=>⟨λz=>?_,f.2⟩,λ_ _ _ f=>f⟩)) (λa Y=>?_) (dR nx ny V)
   .rcases z with z|z
    .exact(Yl.mp z).elim (λz=>f.1 (.inr (.inl z))) λz=>f.1 (.inl z)
    .exact f.1 (.inr (.inr z))
   .rcases Yl.mp Y with z|z
    .exact fx a z
    .exact s1.none' (fy a z)
variable{r:List V->Hp->VK->Prop}{f:En->Option (List D)}
theorem sU{g:List D->Option D}(I:CaV G r g)(h:RfA G ob t f):RfE G ob (λσ H Q=>t σ H λO H1=>r O H1 Q) (λρ=>(f ρ).bind g):=λρ d e σ H W B w Q q=>by
 cases h1:f ρ with
 |none=>simp[h1]at e
 |some ds=>
  have e:g ds=ac d:=by simpa[h1]using e
  refine h ρ ds h1 σ H W B w _ λxs H' L s rx F nd=>?_;refine I ds d e xs H' _ L rx nd (w.tmp F) (w.add s rx.dom) Q λv H2 L2 s2 r2 f2 Z=>?_;refine q v H2 L2 (s.trans s2) ?_ (λa Y=>(f2 a Y).elim (F a) λz=>s.none' z) Z;exact r2.up ⟨Same.refl _,λb u U f=>⟨λz=>z.elim (λz=>f.1 (.inl z)) λz=>f.1 (.inr ⟨.inr z,WOk.new w F z⟩),f.2⟩,λ_ _ _ f=>f⟩
def eAp(g:List D->Option D)(f:En->Option (List D)):En->Option D:=λρ=>(f ρ).bind g
theorem VR{r:V->List V->Hp->VK->Prop}{g:D->List D->Option D}{ty:V->Hp->Prop}{to:TE}{fo:En->Option D}(I:MtV G r g)(a1:∀dx ds d,g dx ds=ac d->∀(x:V)(H:Hp)(W:Wn)(Lx:List Addr),Rep G H W dx x Lx->ty x H)
  (h0:RfE G ob to fo) (h:RfA G ob t f):RfE G ob (λσ H Q=>to σ H λx H1=>ty x H1/\t σ H1 λxs H2=>r x xs H2 Q) (λρ=>(fo ρ).bind λx=>(f ρ).bind λds=>g x ds):=λρ d e σ H W rl w Q q=>by
 cases h1:fo ρ with
 |none=>simp[h1]at e
 |some dx=>
  cases h2:f ρ with
  |none=>simp[h1,h2]at e
  |some ds=>
   have e:g dx ds=ac d:=by simpa[h1,h2]using e
   refine h0 ρ dx h1 σ H W rl w _ λx H1 L Z rx fx nx=>⟨a1 dx ds d e x H1 _ L rx,?_⟩;have u1:Up H H1 W (W.add L):=.add Z fx;have w1:WOk H1 (W.add L):=w.add Z rx.dom;refine h ρ ds h2 σ H1 (W.add L) (rl.up u1) w1 _ λys H2 M O B F ny=>?_;have a0:∀a∈L,a∉M:=λa h1 h2=>by
    obtain⟨o,I,_⟩:=rx.dom a h1;rw[F a h2]at I;cases I
   have u2:Up H1 H2 (W.add L) (W.add (L++M)):=⟨O,λb u U f=>⟨λz=>z.elim (λz=>(Yl.mp z).elim (λz=>f.1 (.inl z)) λz=>by rw[F b z]at U;cases U) λz=>f.1 (.inr z),f.2⟩,λ_ _ _ f=>f⟩;have u3:Up H2 H2 ((W.add L).add M) (W.add (L++M)):=⟨Same.refl _,λb u U f=>⟨λz=>by
    rcases z with z|z
    .exact(Yl.mp z).elim (λz=>f.1 (.inr (.inl z))) λz=>f.1 (.inl z)
    .exact f.1 (.inr (.inr z)),f.2⟩,λ_ _ _ f=>f⟩
   show 5
   .exact r3.up ⟨Same.refl _,λb u U f=>⟨λz=>z.elim (λz=>f.1 (.inl z)) λz=>f.1 (.inr ⟨.inr z,WOk.new w (λa Y=>(Yl.mp Y).elim (fx a) λz=>Z.none' (F a z)) z⟩),f.2⟩,λ_ _ _ f=>f⟩
   .rcases Yl.mp z with z|z
    .exact fx a z
    .exact Z.none' (F a z)
variable{a b:Expr}
theorem eX{op:Operator}(o:OpB X G (aah op) g)(Y:PV X G ob a fa)(U:PV X G ob b fb):PV X G ob (.BinOp a op b pos) (e2 g fa fb):=let⟨r,o1,o2⟩:=o.ex;let⟨t,a1,a2⟩:=Y.ex;let⟨u,b1,b2⟩:=U.ex;⟨_,λc=>RG (o1 c) (a1 c) (b1 c),GC o2 a2 b2⟩
theorem pD(o:OpB X G (Zf op) g)(Y:PV X G ob a fa)(U:PV X G ob b fb)(V:abR op b=ae:=by with_unfolding_all rfl):PV X G ob (.Compare a [op] [b] pos) (e2 g fa fb):=let⟨r,o1,o2⟩:=o.ex;let⟨t,a1,a2⟩:=Y.ex;let⟨u,b1,b2⟩:=U.ex;⟨_,λc=>GP (o1 c) (a1 c) (b1 c) V,GC o2 a2 b2⟩
theorem xT{op:UnaryOp}{g:D->Option D}(o:UnB X G (unaryOp op) g)(Y:PV X G ob a fa):PV X G ob (.UnaryOp op a pos) (e1 g fa):=let⟨r,o1,o2⟩:=o.ex;let⟨t,a1,a2⟩:=Y.ex;⟨_,λc=>WK (o1 c) (a1 c),VH o2 a2⟩
theorem gA(o:IxB X G g)(Y:PV X G ob a fa)(U:PV X G ob b fb)(hs:um b:=by exact λ_ _=>rfl):PV X G ob (.Subscript a b pos) (e2 g fa fb):=let⟨r,o1,o2⟩:=o.ex;let⟨t,a1,a2⟩:=Y.ex;let⟨u,b1,b2⟩:=U.ex;⟨_,λc=>Mt (o1 c) (a1 c) (b1 c) hs,GC o2 a2 b2⟩
theorem aq:PVA X G ob [] aA:=⟨_,λc=>UW,Kh⟩
theorem aa{f:En->Option D}{F:En->Option (List D)}(Y:PV X G ob e f)(Z:PVA X G ob es F)(hs:∀c,YD (e::es) (X c).env=(ae,eval e (X c).env)::YD es (X c).env:=by intro _;rfl):PVA X G ob (e::es) (aj f F):=let⟨t,a1,a2⟩:=Y.ex;let⟨u,b1,b2⟩:=Z.ex;⟨_,λc=>Bk (a1 c) (b1 c) (hs c),Ra a2 b2⟩
theorem aZ{id:String}{g:List D->Option D}(o:CaB X G (.builtin id) g)(F:∀c,Gl (X c) x)(V:∀c,(X c).mg x=af)(B:aaD x=ac (.builtin id))(Y:PVA X G ob (e::es) f)(hn:x≠"__name__":=by decide)(z:1.21=ae:=by decide)(O:∀c,YD (e::es) (X c).env=(ae,eval e (X c).env)::YD es (X c).env:=by intro _;rfl)(q:∀c,(Z4 pos (YD es (X c).env)).any (·.1)=ae:=by intro _;rfl):PV X G ob (.Call (.Name x p) (e::es) [] pos) (eAp g f):=let⟨r,o1,o2⟩:=o.ex;let⟨t,a1,a2⟩:=Y.ex;⟨_,λc=>Mj (o1 c) (F c) (V c) B (a1 c) hn z (O c) (q c),sU o2 a2⟩
theorem kJ{g:List D->Option D}(o:CaB X G (.type T) g)(F:∀c,Gl (X c) x)(V:∀c,(X c).mg x=af)(B:aaD x=ac (.type T))(Y:PVA X G ob (e::es) f)(hn:x≠"__name__":=by decide)(z:1.21=ae:=by decide)(O:∀c,YD (e::es) (X c).env=(ae,eval e (X c).env)::YD es (X c).env:=by intro _;rfl)(q:∀c,(Z4 pos (YD es (X c).env)).any (·.1)=ae:=by intro _;rfl):PV X G ob (.Call (.Name x p) (e::es) [] pos) (eAp g f):=let⟨r,o1,o2⟩:=o.ex;let⟨t,a1,a2⟩:=Y.ex;⟨_,λc=>xZ (o1 c) (F c) (V c) B (a1 c) hn z (O c) (q c),sU o2 a2⟩
def bH(ds:List D):Option D:=if ds.length<=1000 then ac (.tup ds)else af
def bY(ds:List D):Option D:=if ds.length<=1000 then ac (.lst .own ds)else af
theorem BJ(h:n<=1000):n<=Yx:=ZJ h (by decide)
theorem HJ:CaV G (λxs H Q=>xs.length<=Yx/\∀p,H p=af->Q (.ref p) (upd H p (.tup xs))) bH:=λds d e xs H W F r nd hn w Q q=>by
 unfold bH at e;split at e
 .rename_i hl
  cases e;refine⟨BJ (by rw[←r.length];exact hl),λp V=>?_⟩;have O:Same H (upd H p (.tup xs)):=Same.new V;refine q (.ref p) _ F O ?_ (λa Y=>.inl Y) nd;rw[Rep];exact⟨p,xs,rfl,aQ,r.up ⟨O,λb u U f=>⟨λz=>z.elim (λz=>f.1 (hn b z).1) λz=>f.1 z.1,f.2⟩,λ_ _ _ f=>f⟩⟩
 .cases e
theorem Hs:CaV G (λxs H Q=>xs.length<=Yx/\∀p,H p=af->Q (.ref p) (upd H p (.lst xs))) bY:=λds d e xs H W F r nd hn w Q q=>by
 unfold bY at e;split at e
 .rename_i hl
  cases e;refine⟨BJ (by rw[←r.length];exact hl),λp V=>?_⟩;have O:Same H (upd H p (.lst xs)):=Same.new V;refine q (.ref p) _ (p::F) O ?_ (λa Y=>(Yu.mp Y).elim (λz=>.inr (by rw[z];exact V)) .inl) (Y5.mpr ⟨λz=>?_,nd⟩)
  .rw[Rep]
   exact⟨p,xs,F,rfl,r.up ⟨O,λb u U f=>⟨λz=>z.elim (λz=>(Yu.mp z).elim (λz=>by rw[z,V]at U;cases U) λz=>f.1 (hn b z).1) λz=>f.1 z.1,f.2⟩,λ_ _ _ f=>f⟩,aQ,rfl⟩
  .obtain⟨o,ho,_⟩:=r.dom p z
   rw[V]at ho;cases ho
 .cases e
variable{k:Nat}
theorem fH(h:PVA X G ob es f):PV X G ob (.Tuple es k pos) (eAp bH f):=let⟨t,a1,a2⟩:=h.ex;⟨_,λc=>Mr (a1 c),sU HJ a2⟩
theorem gU(h:PVA X G ob es f):PV X G ob (.List es pos) (eAp bY f):=let⟨t,a1,a2⟩:=h.ex;⟨_,λc=>N5 (a1 c),sU Hs a2⟩
section
variable{G:Gc}{ob:Nat->Bool}{H H1 H2:Hp}{S S1 S2:Ad}{L M:List Addr}{ρ ρ1:En}{σ:L2.St}{Fr:Addr->Prop}
theorem Eff.refl:Eff ob H H S S []:=⟨λ_ _ h _=>h,λ_ _=>rfl,λi a h z=>.inl ⟨i,h,z⟩,by simp⟩
theorem Eff.back(e:Eff ob H H1 S S1 L){a:Addr}(h:H1 a=af):inO ob S a∨H a=af:=by
 by_cases z:inO ob S a
 .exact .inl z
 .refine .inr ?_
  cases q:H a with
  |none=>rfl
  |some u=>rw[e.kp a u q z]at h;cases h
theorem Eff.inO(e:Eff ob H H1 S S1 L){a:Addr}(h:inO ob S1 a):inO ob S a∨H a=af:=let⟨i,h1,h2⟩:=h;e.gr i a h1 h2
theorem Eff.notO(e:Eff ob H H1 S S1 L){a:Addr}{u:HO}(h:H a=ac u)(n:¬Jb.inO ob S a):¬Jb.inO ob S1 a:=λz=>(e.inO z).elim n λz=>by rw[h]at z;cases z
theorem Eff.trans(a:Eff ob H H1 S S1 L)(b:Eff ob H1 H2 S1 S2 M):Eff ob H H2 S S2 (L++M)where
 kp:=λc u h n=>b.kp c u (a.kp c u h n) (a.notO h n)
 sn:=λi h=>(b.sn i h).trans (a.sn i h)
 gr:=λi c h z=>(b.gr i c h z).elim a.inO a.back
 fm:=λc B=>(Yl.mp B).elim (a.fm c) λz=>(b.fm c z).elim a.inO a.back
theorem Eff.same(a:Eff ob H H1 S S1 L)(s:Same H1 H2)(h:∀c∈M,c∈L∨H1 c=af):Eff ob H H2 S S1 M where
 kp:=λc u B n=>s c u (a.kp c u B n)
 sn:=a.sn
 gr:=a.gr
 fm:=λc B=>(h c B).elim (a.fm c) a.back
theorem Sta.notO(s:Sta G H ob ρ σ S Fr){a:Addr}(h:Fr a):¬inO ob S a:=λ⟨i,_,z⟩=>s.fdj i a h z
theorem Sta.tmp(s:Sta G H ob ρ σ S Fr){a:Addr}(h:Fr a):(wn ob S Fr).tmp a:=⟨h,λ⟨i,_,z⟩=>s.fdj i a h z,λ⟨i,_,z⟩=>s.fdj i a h z⟩
theorem Eff.evo(s:Sta G H ob ρ σ S Fr)(e:Eff ob H H1 S S1 M):Evo H H1 (wn ob S Fr) (wn ob S1 (plus M Fr))where
 k:=λb u h f=>⟨e.kp b u h f.2.2,λz=>z.elim (λz=>(e.fm b z).elim f.2.2 λq=>by rw[h]at q;cases q) f.1,λ⟨i,h1,h2⟩=>f.2.1 ⟨i,h1,by rw[←e.sn i h1];exact h2⟩,e.notO h f.2.2⟩
 t:=λb xs h=>by
  have O:∀u,H b=ac u->muO u=ae->H1 b=ac u:=λu hu m=>e.kp b u hu λ⟨i,_,z⟩=>by
   obtain⟨o,I,V⟩:=s.mu z;rw[hu]at I;cases I;rw[m]at V;cases V
  exact O _ h rfl
theorem Eff.evoN(s:Sta G H ob ρ σ S Fr)(e:Eff ob H H1 S S1 M):Lj H H1 (wn ob S Fr) (wn ob S1 (plus M Fr)):=λb u h ⟨i,h1,h2⟩=>
 ⟨e.kp b u h (λ⟨j,q1,q2⟩=>by rw[s.dj i j b h2 q2,q1]at h1;cases h1),⟨i,h1,by rw[e.sn i h1];exact h2⟩⟩
theorem Eff.keepsF(s:Sta G H ob ρ σ S Fr)(e:Eff ob H H1 S S1 M){a:Addr}(h:Fr a):∀u,H a=ac u->H1 a=ac u:=λu hu=>e.kp a u hu (s.notO h)
theorem nZ{L M:List Addr}:plus M (plus L Fr)=plus (L++M) Fr:=by
 funext a;simp![plus,Yl,eq_iff_iff];constructor
 .rintro(z|z|z)
  .exact .inl (.inr z)
  .exact .inl (.inl z)
  .exact .inr z
 .rintro((z|z)|z)
  .exact .inr (.inl z)
  .exact .inl z
  .exact .inr (.inr z)
theorem RB{F:List Addr}{d:D}{v:V}(s:Sta G H1 ob ρ1 σ S1 (plus L Fr))(e:Eff ob H H1 S S1 L)(O:Same H1 H2)(r:Rep G H2 (((wn ob S1 (plus L Fr)).drop L).add F) d v F)(f:∀a∈F,a∈L∨H1 a=af)(B:Sta G H ob ρ σ S Fr) :
  Sta G H2 ob ρ1 σ S1 (plus F Fr)/\Rep G H2 (wn ob S1 (plus F Fr)) d v F/\Eff ob H H2 S S1 F:=by
 refine⟨s.grow O λa h=>?_,r.up ⟨Same.refl _,λb u U q=>⟨λz=>?_,q.2⟩,λ_ _ _ q=>q⟩,e.same O f⟩
 .rcases h with h|h
  .exact(f a h).imp .inl λz=>⟨z,r.dom a h⟩
  .exact .inl (.inr h)
 .rcases z with z|z
  .exact q.1 (.inl z)
  .refine q.1 (.inr ⟨.inr z,λh=>?_⟩)
   rcases e.fm b h with y|y
   .exact B.notO z y
   .obtain⟨o,ho,_⟩:=B.fdm b z
    rw[y]at ho;cases ho
end
def eUp(f:En->Option D):En->Option (D×En):=λρ=>(f ρ).map λd=>(d,ρ)
theorem xP{f:En->Option D}(h:RfE G ob ta f):lX G ob ta (eUp f):=λρ d B e σ H S Fr s Q q=>by
 unfold eUp at e;cases h1:f ρ with
 |none=>rw[h1]at e;cases e
 |some d0=>
  rw[h1]at e;cases e;refine h ρ d h1 σ H _ s.rel s.wok Q λv H' L O r F nd=>?_;exact q v H' L S (s.grow O λa z=>z.elim (λz=>.inr ⟨F a z,r.dom a z⟩) .inl) r nd ⟨λb u U _=>O b u U,λ_ _=>rfl,λi a h z=>.inl ⟨i,h,z⟩,λa Y=>.inr (F a Y)⟩
def tR(f:En->Option Bool):En->Option (Bool×En):=λρ=>(f ρ).map λd=>(d,ρ)
theorem Ot{t:TT}{f:En->Option Bool}(h:RfT G ob t f):Kq G ob t (tR f):=λρ d B e σ H S Fr s Q q=>by
 unfold tR at e;cases h1:f ρ with
 |none=>rw[h1]at e;cases e
 |some d0=>
  rw[h1]at e;cases e;refine h ρ d h1 σ H _ s.rel s.wok Q λH' O=>?_;exact q H' S (s.grow O λa z=>.inl z) ⟨λb u U _=>O b u U,λ_ _=>rfl,λi a h z=>.inl ⟨i,h,z⟩,by simp⟩
def gF(f:En->Option (List D)):En->Option (List D×En):=λρ=>(f ρ).map λd=>(d,ρ)
theorem Te(h:RfA G ob t f):Fi G ob t (gF f):=λρ d B e σ H S Fr s Q q=>by
 unfold gF at e;cases h1:f ρ with
 |none=>rw[h1]at e;cases e
 |some d0=>
  rw[h1]at e;cases e;refine h ρ d h1 σ H _ s.rel s.wok Q λv H' L O r F nd=>?_;exact q v H' L S (s.grow O λa z=>z.elim (λz=>.inr ⟨F a z,r.dom a z⟩) .inl) r nd ⟨λb u U _=>O b u U,λ_ _=>rfl,λi a h z=>.inl ⟨i,h,z⟩,λa Y=>.inr (F a Y)⟩
theorem fK{f:En->Option D}(h:PV X G ob e f):PVe X G ob e (eUp f):=let⟨t,a1,a2⟩:=h.ex;⟨t,a1,xP a2⟩
theorem G8{f:En->Option Bool}(h:PVT X G ob e f):QC X G ob e (tR f):=let⟨t,a1,a2⟩:=h.ex;⟨t,a1,Ot a2⟩
theorem bZ{e:List Expr}(h:PVA X G ob e f):Az X G ob e (gF f):=let⟨t,a1,a2⟩:=h.ex;⟨t,a1,Te a2⟩
variable{fa fb:En->Option (D×En)}
theorem lX.two(Y:lX G ob ta fa)(U:lX G ob tb fb){ρ1 ρ2:En}{dx dy:D}(e1:fa ρ=ac (dx,ρ1))(e2:fb ρ1=ac (dy,ρ2))(F:au dx=ag){Fr:Addr->Prop}(s:Sta G H ob ρ σ S Fr)
  (h:∀x y H' L M S',Sta G H' ob ρ2 σ S' (plus (L++M) Fr)->Rep G H' (wn ob S' (plus (L++M) Fr)) dx x L->Rep G H' (wn ob S' (plus (L++M) Fr)) dy y M->(L++M).Nodup->Eff ob H H' S S' (L++M)->R x y H'):ta σ H λx H1=>tb σ H1 λy H2=>R x y H2:=by
 refine Y ρ dx ρ1 e1 σ H S Fr s _ λx H1 L S1 Z rx nx f1=>?_;refine U ρ1 dy ρ2 e2 σ H1 S1 (plus L Fr) Z _ λy H2 M S2 O ry q I=>?_;have a0:=rx.mono (I.evo Z) (.inr (I.evoN Z)) (.inl F) λc B u hu=>I.keepsF Z (.inl B) u hu;rw[nZ]at O ry a0;refine h x y H2 L M S2 O a0 ry (dR nx q λa h1 h2=>?_) (f1.trans I);rcases I.fm a h2 with z|z
 .exact Z.notO (.inl h1) z
 .obtain⟨o,ho,_⟩:=rx.dom a h1
  rw[z]at ho;cases ho
def ee2(g:D->D->Option D)(fa fb:En->Option (D×En)):En->Option (D×En):=λρ=>(fa ρ).bind λp=>(fb p.2).bind λq=>if au p.1 then(g p.1 q.1).map λd=>(d,q.2)else af
theorem yJ{r:R2}(I:OpV G r g)(Y:lX G ob ta fa)(U:lX G ob tb fb):lX G ob (tOp r ta tb) (ee2 g fa fb):=λρ d B e σ H S Fr s Q q=>by
 unfold ee2 at e;cases h1:fa ρ with
 |none=>simp[h1]at e
 |some p=>
  obtain⟨dx,ρ1⟩:=p;cases h2:fb ρ1 with
  |none=>simp[h1,h2]at e
  |some p=>
   obtain⟨V,ρ2⟩:=p;cases F:au dx with
   |false=>simp[h1,h2,F]at e
   |true=>
    cases O:g dx V with
    |none=>simp[h1,h2,F,O]at e
    |some d'=>
     obtain⟨rfl,rfl⟩:d'=d/\ρ2=B:=by simpa[h1,h2,F,O]using e
     refine lX.two Y U h1 h2 F s λx y H' L M S' s' rx ry nd Z=>?_;refine I dx V _ O x y H' _ L M rx ry nd (λa Y=>s'.tmp (.inl Y)) s'.wok Q λv H3 L3 z r3 f3 n3=>?_;obtain⟨q1,q2,q3⟩:=RB s' Z z r3 f3 s;exact q v H3 L3 S' q1 q2 n3 q3
def fu(fa:En->Option (D×En))(F:En->Option (List D×En)):En->Option (List D×En):=λρ=>(fa ρ).bind λp=>(F p.2).bind λq=>if au p.1 then ac (p.1::q.1,q.2)else af
theorem Oh{fr:En->Option (List D×En)}(Y:lX G ob ta fa)(Z:Fi G ob t fr):Fi G ob (Ks ta t) (fu fa fr):=λρ ds a0 e σ H S Fr s Q q=>by
 unfold fu at e;cases h1:fa ρ with
 |none=>simp[h1]at e
 |some p=>
  obtain⟨dx,ρ1⟩:=p;cases h2:fr ρ1 with
  |none=>simp[h1,h2]at e
  |some p=>
   obtain⟨es,ρ2⟩:=p;cases F:au dx with
   |false=>simp[h1,h2,F]at e
   |true=>
    obtain⟨rfl,rfl⟩:dx::es=ds/\ρ2=a0:=by simpa[h1,h2,F]using e
    refine Y ρ dx ρ1 h1 σ H S Fr s _ λx H1 L S1 s1 rx nx V=>?_;refine Z ρ1 es _ h2 σ H1 S1 (plus L Fr) s1 _ λys H2 M S2 O ry ny I=>?_;have U:=rx.mono (I.evo s1) (.inr (I.evoN s1)) (.inl F) λc B u hu=>I.keepsF s1 (.inl B) u hu;rw[nZ]at O ry U;refine q (x::ys) H2 (L++M) S2 O (.cons U ry) (dR nx ny λa h1 h2=>?_) (V.trans I);rcases I.fm a h2 with z|z
    .exact s1.notO (.inl h1) z
    .obtain⟨o,ho,_⟩:=rx.dom a h1
     rw[z]at ho;cases ho
def zJ(g:List D->Option D)(f:En->Option (List D×En)):En->Option (D×En):=λρ=>(f ρ).bind λp=>(g p.1).map λd=>(d,p.2)
variable{f:En->Option (List D×En)}
theorem Gm{g:List D->Option D}(I:CaV G r g)(h:Fi G ob t f):lX G ob (λσ H Q=>t σ H λO H1=>r O H1 Q) (zJ g f):=λρ d B e σ H S Fr s Q q=>by
 unfold zJ at e;cases h1:f ρ with
 |none=>simp[h1]at e
 |some p=>
  obtain⟨ds,ρ1⟩:=p;cases h3:g ds with
  |none=>simp[h1,h3]at e
  |some d'=>
   obtain⟨rfl,rfl⟩:d'=d/\ρ1=B:=by simpa[h1,h3]using e
   refine h ρ ds _ h1 σ H S Fr s _ λxs H' L S' s' rx nd Z=>?_;refine I ds _ h3 xs H' _ L rx nd (λa Y=>s'.tmp (.inl Y)) s'.wok Q λv H3 L3 z U f3 n3=>?_;obtain⟨q1,q2,F⟩:=RB s' Z z U f3 s;exact q v H3 L3 S' q1 q2 n3 F
theorem Bb{op:Operator}(o:OpB X G (aah op) g)(Y:PVe X G ob a fa)(U:PVe X G ob b fb):PVe X G ob (.BinOp a op b pos) (ee2 g fa fb):=let⟨r,o1,o2⟩:=o.ex;let⟨t,a1,a2⟩:=Y.ex;let⟨u,b1,b2⟩:=U.ex;⟨_,λc=>RG (o1 c) (a1 c) (b1 c),yJ o2 a2 b2⟩
theorem Qs(o:OpB X G (Zf op) g)(Y:PVe X G ob a fa)(U:PVe X G ob b fb)(V:abR op b=ae:=by with_unfolding_all rfl):PVe X G ob (.Compare a [op] [b] pos) (ee2 g fa fb):=let⟨r,o1,o2⟩:=o.ex;let⟨t,a1,a2⟩:=Y.ex;let⟨u,b1,b2⟩:=U.ex;⟨_,λc=>GP (o1 c) (a1 c) (b1 c) V,yJ o2 a2 b2⟩
theorem rY(o:IxB X G g)(Y:PVe X G ob a fa)(U:PVe X G ob b fb)(hs:um b:=by exact λ_ _=>rfl):PVe X G ob (.Subscript a b pos) (ee2 g fa fb):=let⟨r,o1,o2⟩:=o.ex;let⟨t,a1,a2⟩:=Y.ex;let⟨u,b1,b2⟩:=U.ex;⟨_,λc=>Mt (o1 c) (a1 c) (b1 c) hs,yJ o2 a2 b2⟩
theorem cW{f:En->Option (D×En)}{F:En->Option (List D×En)}(Y:PVe X G ob e f)(Z:Az X G ob es F)(hs:∀c,YD (e::es) (X c).env=(ae,eval e (X c).env)::YD es (X c).env:=by intro _;rfl):Az X G ob (e::es) (fu f F):=let⟨t,a1,a2⟩:=Y.ex;let⟨u,b1,b2⟩:=Z.ex;⟨_,λc=>Bk (a1 c) (b1 c) (hs c),Oh a2 b2⟩
theorem Fq{g:List D->Option D}(o:CaB X G (.type T) g)(F:∀c,Gl (X c) x)(V:∀c,(X c).mg x=af)(B:aaD x=ac (.type T))(Y:Az X G ob (e::es) f)(hn:x≠"__name__":=by decide)(z:1.21=ae:=by decide)(O:∀c,YD (e::es) (X c).env=(ae,eval e (X c).env)::YD es (X c).env:=by intro _;rfl)(q:∀c,(Z4 pos (YD es (X c).env)).any (·.1)=ae:=by intro _;rfl):PVe X G ob (.Call (.Name x p) (e::es) [] pos) (zJ g f):=let⟨r,o1,o2⟩:=o.ex;let⟨t,a1,a2⟩:=Y.ex;⟨_,λc=>xZ (o1 c) (F c) (V c) B (a1 c) hn z (O c) (q c),Gm o2 a2⟩
theorem Pk(h:Az X G ob es f):PVe X G ob (.Tuple es k pos) (zJ bH f):=let⟨t,a1,a2⟩:=h.ex;⟨_,λc=>Mr (a1 c),Gm HJ a2⟩
theorem QJ(h:Az X G ob es f):PVe X G ob (.List es pos) (zJ bY f):=let⟨t,a1,a2⟩:=h.ex;⟨_,λc=>N5 (a1 c),Gm Hs a2⟩
def truth:D->Option Bool
 |.non=>ac ae
 |.bl b=>ac b
 |.int i=>ac (i !=0)
 |.str y=>if y.length<=Yx then ac ((y.length:Int)!=0)else af
 |.lst _ ds=>ac (!ds.isEmpty)
 |.tup ds=>ac (!ds.isEmpty)
 |.dct m _ ds=>if m= .scr then af else ac (!ds.isEmpty)
 |_=>af
theorem rM(r:aG G H W ds xs L):ds.isEmpty=xs.isEmpty:=by
 have:=r.length;cases ds<;>cases xs<;>simp_all
theorem Nr{k:Bool}(r:Rep G H W d v L)(h:truth d=ac k):Pa G.K v H k:=by
 cases d with
 |non=>rw[Rep]at r;obtain⟨rfl,_⟩:=r;cases h;rfl
 |bl b=>rw[Rep]at r;obtain⟨rfl,_⟩:=r;cases h;rfl
 |int i=>rw[Rep]at r;obtain⟨rfl,_⟩:=r;cases h;rfl
 |str y=>
  rw[Rep]at r;obtain⟨rfl,_⟩:=r;simp![truth]at h;split at h
  .cases h;exact⟨‹_›,rfl⟩
  .cases h
 |ty n=>cases h
 |tup ds=>
  rw[Rep]at r;obtain⟨a,xs,rfl,U,Z⟩:=r;cases h;exact .inr (.inl ⟨xs,SqT.of U,by rw[rM Z]⟩)
 |lst m ds=>
  rw[Rep]at r;obtain⟨a,xs,M,rfl,Z,hs⟩:=r;cases h;exact .inl ⟨xs,hs.sq,by rw[rM Z]⟩
 |dct m ks ds=>
  rw[Rep]at r;obtain⟨a,kvs,M,rfl,O,Z,hs⟩:=r;simp![truth]at h;split at h
  .cases h
  .cases h
   refine .inr (.inr ⟨kvs,hs.at ‹_›,?_⟩);rw[rM Z];cases kvs<;>rfl
 |ins m c fs ds=>cases h
section
variable{ι:Type}{X:ι->Cx}{G:Gc}{ob:Nat->Bool}{a b:Expr}{pos:Pos}
def mz(f:En->Option D):En->Option Bool:=λρ=>(f ρ).bind truth
theorem S8{ta:TE}{f:En->Option D}(h:RfE G ob ta f):RfT G ob (λσ H Q=>ta σ H λx H'=>∃k,Pa G.K x H' k/\Q k H') (mz f):=λρ k e σ H W I w Q q=>by
 unfold mz at e;cases h1:f ρ with
 |none=>simp[h1]at e
 |some d=>
  have e:truth d=ac k:=by simpa[h1]using e
  exact h ρ d h1 σ H W I w _ λx H' L s r F nd=>⟨k,Nr r e,q H' s⟩
theorem ji{f:En->Option D}(h:PV X G ob a f)(O:∀c,∀F,ad_ a (X c).env F=(do let v ←F;standAt a.pos;ach [v] (truthy v)):=by intro _;intro _;rfl)(q:∀c,(X c).K=G.K:=by intro _;rfl):PVT X G ob a (mz f):=let⟨t,a1,a2⟩:=h.ex;⟨_,λc=>(by have h:=NQ (a1 c) (O c);rw[q c]at h;exact h),S8 a2⟩
def isB:D->Option Bool
 |.bl b=>ac b
 |_=>af
def eB(f:En->Option D):En->Option Bool:=λρ=>(f ρ).bind isB
def eeB(f:En->Option (D×En)):En->Option (Bool×En):=λρ=>(f ρ).bind λp=>(isB p.1).map λb=>(b,p.2)
theorem qj{d:D}{k:Bool}(h:isB d=ac k):d= .bl k:=by
 cases d<;>simp[isB]at h;rw[h]
theorem Yi{ta:TE}{f:En->Option D}(h:RfE G ob ta f):RfT G ob (Og ta) (eB f):=λρ k e σ H W I w Q q=>by
 unfold eB at e;cases h1:f ρ with
 |none=>simp[h1]at e
 |some d=>
  have e:isB d=ac k:=by simpa[h1]using e
  have:=qj e;subst this;refine h ρ _ h1 σ H W I w _ λx H' L s r F nd=>⟨k,?_,q H' s⟩;rw[Rep]at r;exact r.1
theorem WY{ta:TE}{f:En->Option (D×En)}(h:lX G ob ta f):Kq G ob (Og ta) (eeB f):=λρ k B e σ H S Fr s Q q=>by
 unfold eeB at e;cases h1:f ρ with
 |none=>simp[h1]at e
 |some p=>
  obtain⟨d,ρ1⟩:=p;cases h2:isB d with
  |none=>simp[h1,h2]at e
  |some k'=>
   obtain⟨rfl,rfl⟩:k'=k/\ρ1=B:=by simpa[h1,h2]using e
   have:=qj h2;subst this;refine h ρ _ _ h1 σ H S Fr s _ λx H' M S' s' r nd Z=>⟨k',?_,q H' S' (s'.lessF λa z=>.inr z) (Z.same (Same.refl _) (by simp))⟩;rw[Rep]at r;exact r.1
theorem bR{fa fb:En->Option D}{op:CmpOp}{g:D->D->Option D}(o:OpB X G (Zf op) g)(Y:PV X G ob a fa)(U:PV X G ob b fb)(V:abR op b=ae:=by with_unfolding_all rfl):PVT X G ob (.Compare a [op] [b] pos) (eB (e2 g fa fb)):=let⟨r,o1,o2⟩:=o.ex;let⟨t,a1,a2⟩:=Y.ex;let⟨u,b1,b2⟩:=U.ex;⟨_,λc=>G6 (o1 c) (a1 c) (b1 c) V,Yi (GC o2 a2 b2)⟩
theorem Bq{fa fb:En->Option (D×En)}{op:CmpOp}{g:D->D->Option D}(o:OpB X G (Zf op) g)(Y:PVe X G ob a fa)(U:PVe X G ob b fb)(V:abR op b=ae:=by with_unfolding_all rfl):QC X G ob (.Compare a [op] [b] pos) (eeB (ee2 g fa fb)):=let⟨r,o1,o2⟩:=o.ex;let⟨t,a1,a2⟩:=Y.ex;let⟨u,b1,b2⟩:=U.ex;⟨_,λc=>G6 (o1 c) (a1 c) (b1 c) V,WY (yJ o2 a2 b2)⟩
def oh(f g:En->Option Bool):En->Option Bool:=λρ=>(f ρ).bind λc=>if c then g ρ else ac ae
def eOr(f g:En->Option Bool):En->Option Bool:=λρ=>(f ρ).bind λc=>if c then ac ag else g ρ
def qN(f:En->Option Bool):En->Option Bool:=λρ=>(f ρ).map λc=>!c
def Xp(f g:En->Option (Bool×En)):En->Option (Bool×En):=λρ=>(f ρ).bind λp=>if p.1 then g p.2 else ac (ae,p.2)
theorem Vv{t u:TT}{f g:En->Option Bool}(h:RfT G ob t f)(h':RfT G ob u g):RfT G ob (Xb t u) (oh f g):=λρ k e σ H W I w Q q=>by
 unfold oh at e;cases h1:f ρ with
 |none=>simp[h1]at e
 |some c=>
  refine h ρ c h1 σ H W I w _ λH1 Z=>?_;cases c with
  |false=>
   have:ae=k:=by simpa[h1]using e
   subst this;exact zM (q H1 Z)
  |true=>
   have e:g ρ=ac k:=by simpa[h1]using e
   exact uf (h' ρ k e σ H1 W (I.up (Up.same Z)) (λa Y=>let⟨o,z,m⟩:=w a Y;⟨o,Z a o z,m⟩) Q λH2 O=>q H2 (Z.trans O))
theorem V2{t u:TT}{f g:En->Option Bool}(h:RfT G ob t f)(h':RfT G ob u g):RfT G ob (tOr t u) (eOr f g):=λρ k e σ H W I w Q q=>by
 unfold eOr at e;cases h1:f ρ with
 |none=>simp[h1]at e
 |some c=>
  refine h ρ c h1 σ H W I w _ λH1 Z=>?_;cases c with
  |true=>
   have:ag=k:=by simpa[h1]using e
   subst this;exact uf (q H1 Z)
  |false=>
   have e:g ρ=ac k:=by simpa[h1]using e
   exact zM (h' ρ k e σ H1 W (I.up (Up.same Z)) (λa Y=>let⟨o,z,m⟩:=w a Y;⟨o,Z a o z,m⟩) Q λH2 O=>q H2 (Z.trans O))
theorem TF{t:TT}{f:En->Option Bool}(h:RfT G ob t f):RfT G ob (Wr t) (qN f):=λρ k e σ H W I w Q q=>by
 unfold qN at e;cases h1:f ρ with
 |none=>simp[h1]at e
 |some c=>
  have:(!c)=k:=by simpa[h1]using e
  subst this;exact h ρ c h1 σ H W I w _ λH1 Z=>q H1 Z
variable{rest:List Expr}{fa fb:En->Option Bool}{ga gb:En->Option (Bool×En)}
theorem Al(Y:PVT X G ob a fa)(U:PVW X G ob (.BoolOp .And (b::rest) pos) fb):PVW X G ob (.BoolOp .And (a::b::rest) pos) (oh fa fb):=let⟨t,a1,a2⟩:=Y.ex;let⟨u,b1,b2⟩:=U.ex;⟨_,λc=>Ub (a1 c) (b1 c),Vv a2 b2⟩
theorem mV(Y:PVT X G ob a fa)(U:PVW X G ob (.BoolOp .Or (b::rest) pos) fb):PVW X G ob (.BoolOp .Or (a::b::rest) pos) (eOr fa fb):=let⟨t,a1,a2⟩:=Y.ex;let⟨u,b1,b2⟩:=U.ex;⟨_,λc=>V6 (a1 c) (b1 c),V2 a2 b2⟩
theorem vA(Y:PVT X G ob a fa):PVW X G ob (.BoolOp .And [a] pos) fa:=let⟨t,a1,a2⟩:=Y.ex;⟨_,λc=>Rj (a1 c),a2⟩
theorem lu(Y:PVT X G ob a fa):PVW X G ob (.BoolOp .Or [a] pos) fa:=let⟨t,a1,a2⟩:=Y.ex;⟨_,λc=>S9 (a1 c),a2⟩
theorem oJ(h:PVW X G ob a fa):PVT X G ob a fa:=let⟨t,a1,a2⟩:=h.ex;⟨_,λc=>PW.pt (a1 c),a2⟩
theorem jW(Y:PVT X G ob a fa):PVT X G ob (.UnaryOp .Not a pos) (qN fa):=let⟨t,a1,a2⟩:=Y.ex;⟨_,λc=>Ss (a1 c),TF a2⟩
def uR(f g:En->Option D):En->Option D:=λρ=>(f ρ).bind λx=>(isB x).bind λc=>if c then g ρ else ac (.bl ae)
def Jr(x:D):Option D:=(isB x).map λc=>.bl !c
def bx(c:En->Option Bool)(f g:En->Option D):En->Option D:=λρ=>(c ρ).bind λb=>if b then f ρ else g ρ
def aU(c:En->Option (Bool×En))(f g:En->Option (D×En)):En->Option (D×En):=λρ=>(c ρ).bind λp=>if p.1 then f p.2 else g p.2
theorem WOk.up{H H':Hp}{W:Wn}(w:WOk H W)(s:Same H H'):WOk H' W:=λa Y=>let⟨o,z,m⟩:=w a Y;⟨o,s a o z,m⟩
theorem Kc{G:Gc}{H:Hp}{W:Wn}{b:Bool}:Rep G H W (.bl b) (.bl b) []:=by rw[Rep];exact⟨rfl,rfl⟩
theorem O9{ta tb:TE}{f g:En->Option D}(h:RfE G ob ta f)(h':RfE G ob tb g):RfE G ob (RV ta tb) (uR f g):=λρ d e σ H W I w Q q=>by
 unfold uR at e;cases h1:f ρ with
 |none=>simp[h1]at e
 |some x=>
  cases h2:isB x with
  |none=>simp[h1,h2]at e
  |some c=>
   have:=qj h2;subst this;refine h ρ _ h1 σ H W I w _ λv H1 L Z r F nd=>?_;rw[Rep]at r;refine⟨c,r.1,?_⟩;cases c with
   |false=>
    have:D.bl ae=d:=by simpa[h1,isB]using e
    subst this;exact zM (q _ H1 [] Z Kc (by simp) List.nodup_nil)
   |true=>
    have e:g ρ=ac d:=by simpa[h1,isB]using e
    exact uf (h' ρ d e σ H1 W (I.up (Up.same Z)) (w.up Z) Q λv H2 L O r F nd=>q v H2 L (Z.trans O) r (λa Y=>Z.none' (F a Y)) nd)
theorem O6{ta:TE}{f:En->Option D}(h:RfE G ob ta f):RfE G ob (Rw ta) (e1 Jr f):=λρ d e σ H W I w Q q=>by
 unfold e1 at e;cases h1:f ρ with
 |none=>simp[h1]at e
 |some x=>
  cases h2:isB x with
  |none=>simp[h1,h2,Jr]at e
  |some c=>
   have:=qj h2;subst this;have:D.bl (!c)=d:=by simpa[h1,Jr,isB]using e
   subst this;refine h ρ _ h1 σ H W I w _ λv H1 L Z r F nd=>?_;rw[Rep]at r;exact⟨c,r.1,q _ H1 [] Z Kc (by simp) List.nodup_nil⟩
section
variable{c:Expr}{fa fb:En->Option D}{fc:En->Option Bool}
theorem pG(Y:PV X G ob a fa)(U:PV X G ob (.BoolOp .And (b::rest) pos) fb):PV X G ob (.BoolOp .And (a::b::rest) pos) (uR fa fb):=let⟨t,a1,a2⟩:=Y.ex;let⟨u,b1,b2⟩:=U.ex;⟨_,λc=>R_ (a1 c) (b1 c),O9 a2 b2⟩
theorem uW{op}(Y:PV X G ob a fa):PV X G ob (.BoolOp op [a] pos) fa:=let⟨t,a1,a2⟩:=Y.ex;⟨_,λc=>Uq (a1 c),a2⟩
theorem Tf(Y:PV X G ob a fa):PV X G ob (.UnaryOp .Not a pos) (e1 Jr fa):=let⟨t,a1,a2⟩:=Y.ex;⟨_,λc=>Tc (a1 c),O6 a2⟩
end
end
section
variable{G:Gc}{ob P:Nat->Bool}{H H1 H2:Hp}{S S1 S2:Ad}{L M:List Addr}{ρ ρ1:En}{σ:L2.St}{Fr:Addr->Prop}
def eY(S:Ad)(i:Nat)(M:List Addr):Ad:=λj=>if j=i then M else S j
theorem dm{i:Nat}:eY S i M i=M:=YH rfl
theorem dG{i j:Nat}(h:j≠i):eY S i M j=S j:=Y4 h
theorem cu{i j:Nat}{a:Addr}(h:a∈eY S i M j):(j=i/\a∈M)∨(j≠i/\a∈S j):=by
 by_cases e:j=i
 .rw[e,dm]at h;exact .inl ⟨e,h⟩
 .rw[dG e]at h;exact .inr ⟨e,h⟩
theorem Mv.refl:Mv P H H σ σ S S M:=⟨λ_ _ h _ _=>h,λi a z=>.inl ⟨i,z⟩,.refl⟩
theorem Sta.store{i:Nat}{d:D}{v:V}(s:Sta G H ob ρ σ S (plus M Fr))(r:Rep G H (wn ob S (plus M Fr)) d v M)(B:clean d=ag)(nd:M.Nodup)(I:∀a∈M,¬Fr a) :
  ∃S',Sta G H ob (ρ.set i (ac d)) (σ.set i (ac v)) S' Fr/\∀j a,a∈S' j->inS S a∨a∈M:=by
 by_cases hi:i<ρ.length
 .refine⟨eY S i M,⟨by simp[s.len],λj e O=>?_,λj U=>?_,λj=>?_,λj k a h1 h2=>?_,λj a h1 h2=>?_,λa h=>s.fdm a (.inr h)⟩,λj a h=>?_⟩
  .have ev:Evo H H (wn ob S (plus M Fr)) (wn ob (eY S i M) Fr):=⟨λb u h f=>⟨h,⟨λz=>f.1 (.inr z),λ⟨k,h1,h2⟩=>?_,λ⟨k,h1,h2⟩=>?_⟩⟩,λ_ _ h=>h⟩
   .by_cases e:j=i
    .subst e
     have:d=e:=by simpa[hi]using O
     have:d=e:=this;subst this;have Z:j<σ.length:=by rw[←s.len];exact hi
     refine⟨v,by simp[Z],?_,B⟩;rw[dm];have q:az d=ag/\au d=ag:=by simpa[clean]using B
     exact r.mono ev (.inl q.1) (.inl q.2) λ_ _ _ h=>h
    .rw[List.getElem?_set_ne (Zy e)]at O
     obtain⟨v',h1,h2,Y⟩:=s.sl j _ O;refine⟨v',by rw[List.getElem?_set_ne (Zy e)];exact h1,?_,Y⟩;rw[dG e];have q:=(by simpa[clean]using Y:az _=ag/\au _=ag);exact h2.mono ev (.inl q.1) (.inl q.2) λ_ _ _ h=>h
   .rcases cu h2 with⟨_,z⟩|⟨_,z⟩
    .exact f.1 (.inl z)
    .exact f.2.1 ⟨k,h1,z⟩
   .rcases cu h2 with⟨_,z⟩|⟨_,z⟩
    .exact f.1 (.inl z)
    .exact f.2.2 ⟨k,h1,z⟩
  .by_cases e:j=i
   .subst e
    exact absurd (by simp[hi]) (U d)
   .rw[dG e]
    exact s.em j λd'=>by have:=U d';rwa[List.getElem?_set_ne (Zy e)]at this
  .by_cases e:j=i
   .rw[e,dm];exact nd
   .rw[dG e];exact s.nd j
  .rcases cu h1 with⟨e1,z1⟩|⟨e1,z1⟩<;>rcases cu h2 with⟨e2,F⟩|⟨e2,F⟩
   .rw[e1,e2]
   .exact absurd F (s.fdj k a (.inl z1))
   .exact absurd z1 (s.fdj j a (.inl F))
   .exact s.dj j k a z1 F
  .rcases cu h2 with⟨_,z⟩|⟨_,z⟩
   .exact I a z h1
   .exact s.fdj j a (.inr h1) z
  .rcases cu h with⟨_,z⟩|⟨_,z⟩
   .exact .inr z
   .exact .inl ⟨j,z⟩
 .have h1:ρ.set i (ac d)=ρ:=acd 1.10
  have h2:σ.set i (ac v)=σ:=acd (by rw[←s.len];omega);rw[h1,h2];exact⟨S,s.lessF λa z=>.inr z,λj a h=>.inl ⟨j,h⟩⟩
end
section
variable{ι:Type}{X:ι->Cx}{G:Gc}{ob P:Nat->Bool}
def dg:En->Option Fl:=λρ=>ac (.nx ρ)
def bw(f g:En->Option Fl):En->Option Fl:=λρ=>match f ρ with
 |some (.nx ρ')=>g ρ'
 |r=>r
theorem Aft.from{G:Gc}{H H1:Hp}{σ U:L2.St}{S S1:Ad}{Fr:Addr->Prop}{E:Ends}(m:Mv P H H1 σ U S S1 []):∀{r:Fl},Aft G ob P H σ S Fr E r->Aft G ob P H1 U S1 Fr E r
 |.nx ρ',h=>λF H' S' s m'=>h F H' S' s (m.trans m')
 |.brk ρ',h=>λF H' S' s m'=>h F H' S' s (m.trans m')
 |.cnt ρ',h=>λF H' S' s m'=>h F H' S' s (m.trans m')
 |.ret d ρ',h=>λv F H' M S' s r c n f m'=>h v F H' M S' s r c n (λa Y=>by
  rcases f a Y with⟨i,z⟩|z
  .exact(m.gr i a z).elim .inl λz=>z.elim (λz=>by cases z) .inr
  .by_cases q:inS S a
   .exact .inl q
   .refine .inr ?_
    cases e:H a with
    |none=>rfl
    |some u=>rw[m.kp a u e q (by simp)]at z;cases z) (m.trans m')
theorem Pn:RfS G ob P RP dg:=λρ r e σ H S Fr s E h=>by
 cases e;exact h σ H S s .refl
theorem G5{t u:TS}{f g:En->Option Fl}(h1:RfS G ob P t f)(h2:RfS G ob P u g):RfS G ob P (Qe t u) (bw f g):=λρ r e σ H S Fr s E h=>by
 unfold bw at e;cases Y:f ρ with
 |none=>rw[Y]at e;cases e
 |some fl=>
  rw[Y]at e;refine h1 ρ fl Y σ H S Fr s _ ?_;cases fl with
  |nx B=>exact λF H' S' s' m=>h2 B r e F H' S' Fr s' E (h.from m)
  |brk B=>cases e;exact h
  |cnt B=>cases e;exact h
  |ret d B=>cases e;exact h
theorem b_:j6 X G ob P [] dg:=⟨_,λc=>Rk,Pn⟩
theorem aD{st:Stmt}{rest:List Stmt}{f g:En->Option Fl}(h1:PVS X G ob P st f)(h2:j6 X G ob P rest g):j6 X G ob P (st::rest) (bw f g):=let⟨t,a1,a2⟩:=h1.ex;let⟨u,b1,b2⟩:=h2.ex;⟨_,λc=>Lf (a1 c) (b1 c),G5 a2 b2⟩
theorem aJ{st:Stmt}{f:En->Option Fl}(h1:PVS X G ob P st f):j6 X G ob P [st] f:=let⟨t,a1,a2⟩:=h1.ex;⟨_,λc=>O8 (a1 c),a2⟩
def tgN(i:Nat):D->En->Option En:=λd ρ=>if clean d then ac (ρ.set i (ac d))else af
theorem jc{i:Nat}(F:P i=ae):RfG G ob P (sH i) (tgN i):=λd ρ B e v σ H S M Fr s r nd I Q q=>by
 unfold tgN at e;split at e
 .rename_i hc
  cases e;obtain⟨S',s',h⟩:=s.store r hc nd I (i:=i);refine q _ H S' s' ⟨λb u h _ _=>h,λj a z=>(h j a z).imp id .inl,λj V=>?_⟩;have:j≠i:=λz=>by rw[z,F]at V;cases V
  rw[List.getElem?_set_ne (Zy this)]
 .cases e
def cz:List D->En->Option En:=λds ρ=>match ds with
 |[]=>ac ρ
 |_=>af
def aO(f:D->En->Option En)(g:List D->En->Option En):List D->En->Option En:=λds ρ=>match ds with
 |d::r=>(f d ρ).bind λρ1=>g r ρ1
 |[]=>af
def tgT(n:Nat)(g:List D->En->Option En):D->En->Option En:=λd ρ=>match d with
 |.tup ds=>if ds.length=n/\aC ds=ag/\aB ds=ag then g ds ρ else af
 |_=>af
theorem MN:Yc G ob P QR cz:=λds ρ B e O σ H S M Fr s r nd I Q q=>by
 cases ds with
 |nil=>
  cases e;obtain⟨rfl,rfl⟩:=r.inv0;exact⟨rfl,q σ H S (s.lessF λa z=>.inr z) .refl⟩
 |cons d r=>cases e
def Od(G:Gc)(ob P:Nat->Bool)(g:TGs)(f:List D->En->Option En):Prop:=∀(ds:List D)(ρ B:En),aB ds=ag->aC ds=ag->f ds ρ=ac B->∀(O:List V)(σ:L2.St)(H:Hp)(S:Ad)(M:List Addr)(Fr:Addr->Prop),Sta G H ob ρ σ S (plus M Fr)->aG G H (wn ob S (plus M Fr)) ds O M->M.Nodup->(∀a∈M,¬Fr a)->
 ∀Q:L2.St->Hp->Prop,(∀F H' S',Sta G H' ob B F S' Fr->Mv P H H' σ F S S' M->Q F H')->g O σ H Q
theorem CG:Od G ob P QR cz:=λds ρ B _ _ e=>MN ds ρ B e
theorem rD{t:TG}{u:TGs}{f:D->En->Option En}{g:List D->En->Option En}(h1:RfG G ob P t f)(h2:Od G ob P u g):Od G ob P (Lb t u) (aO f g):=λds ρ a1 c1 c2 e O σ H S M Fr s r nd hF Q q=>by
 cases ds with
 |nil=>cases e
 |cons d ds=>
  obtain⟨x,ys,M1,M2,rfl,rfl,F,Z⟩:=r.inv;simp![aB,aC,YS]at c1 c2;simp![aO]at e;cases h3:f d ρ with
  |none=>rw[h3]at e;cases e
  |some ρ1=>
   have e:g ds ρ1=ac a1:=by simpa[h3]using e
   have a0:=List.nodup_append.mp nd;have a2:plus (M1++M2) Fr=plus M1 (plus M2 Fr):=by
    funext a;simp![plus,Yl,or_assoc]
   rw[a2]at s F Z;refine⟨x,ys,rfl,h1 d ρ ρ1 h3 x σ H S M1 (plus M2 Fr) s F a0.1 (λa Y z=>?_) _ λa3 H1 S1 s1 m1=>?_⟩
   .rcases z with z|z
    .exact a0.2.2 a Y a z rfl
    .exact hF a (Yv _ Y) z
   .have ev:Evo H H1 (wn ob S (plus M1 (plus M2 Fr))) (wn ob S1 (plus M2 Fr)):=⟨λb u U f=>?_,λb xs h=>?_⟩
    .have hr1:aG G H1 (wn ob S1 (plus M2 Fr)) ds ys M2:=Z.mono ev (.inl c1.2) (.inl c2.2) λc B u hu=>m1.kp c u hu (λ⟨i,z⟩=>s.fdj i c (.inr (.inl B)) z) λz=>a0.2.2 c z c B rfl
     refine h2 ds ρ1 a1 c1.2 c2.2 e ys a3 H1 S1 M2 Fr s1 hr1 a0.2.1 (λa Y=>hF a (Yn _ Y)) Q λσ2 H2 S2 s2 m2=>q σ2 H2 S2 s2 ⟨λb u U n1 n2=>?_,λi a z=>?_,m1.pr.trans m2.pr⟩
     .have n3:b∉M1:=λz=>n2 (Yv _ z)
      exact m2.kp b u (m1.kp b u U n1 n3) (λ⟨i,z⟩=>(m1.gr i b z).elim n1 λz=>z.elim n3 λz=>by rw[U]at z;cases z) λz=>n2 (Yn _ z)
     .rcases m2.gr i a z with⟨j,z⟩|z|z
      .exact(m1.gr j a z).imp id λz=>z.imp (Yv _) id
      .exact .inr (.inl (Yn _ z))
      .by_cases q1:inS S a
       .exact .inl q1
       .by_cases q2:a∈M1
        .exact .inr (.inl (Yv _ q2))
        .refine .inr (.inr ?_)
         cases e:H a with
         |none=>rfl
         |some u=>rw[m1.kp a u e q1 q2]at z;cases z
    .have n1:¬inS S b:=λ⟨i,z⟩=>by
      cases I:ob i with
      |false=>exact f.2.1 ⟨i,I,z⟩
      |true=>exact f.2.2 ⟨i,I,z⟩
     have n2:b∉M1:=λz=>f.1 (.inl z);refine⟨m1.kp b u U n1 n2,λz=>f.1 (.inr z),λ⟨i,_,z⟩=>?_,λ⟨i,_,z⟩=>?_⟩
     .exact(m1.gr i b z).elim n1 λz=>z.elim n2 λz=>by rw[U]at z;cases z
     .exact(m1.gr i b z).elim n1 λz=>z.elim n2 λz=>by rw[U]at z;cases z
    .have no:∀u,H b=ac u->muO u=ae->H1 b=ac u:=λu hu m=>m1.kp b u hu (λ⟨i,z⟩=>by
       obtain⟨o,I,V⟩:=s.mu z;rw[hu]at I;cases I;rw[m]at V;cases V) λz=>by
       obtain⟨o,I,V⟩:=F.dom b z;rw[hu]at I;cases I;rw[m]at V;cases V
     exact no _ h rfl
theorem O1{n:Nat}{t:TGs}{g:List D->En->Option En}(h:Od G ob P t g):RfG G ob P (SX G.K n t) (tgT n g):=λd ρ B e v σ H S M Fr s r nd I Q q=>by
 cases d with
 |tup ds=>
  simp![tgT]at e;split at e
  .rename_i hl
   rw[Rep]at r;obtain⟨a,xs,rfl,U,Z⟩:=r;exact⟨a,xs,rfl,SqT.of U,by rw[←Z.length];exact hl.1,h ds ρ B hl.2.2 hl.2.1 e xs σ H S M Fr s Z nd I Q q⟩
  .cases e
 |_=>cases e
structure Q6{ι:Type}(X:ι->Cx)(G:Gc)(ob P:Nat->Bool)(tg:List Expr)(f:List D->En->Option En):Prop where
 mk::(ex:∃t,(∀c,PGs (X c) tg t)/\Od G ob P t f)
theorem bf(i:Nat){x:Str}{pos:Pos}(z:∀c,(X c).N.Nodup)(B:P i=ae:=by rfl)(hi:∀c,(X c).N[i]? =ac x:=by intro _;rfl)(F:∀c,Loc (X c).env.scope x:=by intro _;first|exact aab rfl|exact ZC rfl)(Y:∀c,(X c).fn x=ag∨(X c).env.scope.names.lookup x=ac .local:=by intro _;first|exact .inl rfl|exact .inr rfl):PVG X G ob P (.Name x pos) (tgN i):=⟨_,λc=>ur (z c) (hi c) (F c) (Y c),jc B⟩
theorem fB:Q6 X G ob P [] cz:=⟨_,λc=>Hk,CG⟩
theorem bc{e:Expr}{es:List Expr}{f:D->En->Option En}{g:List D->En->Option En}(h1:PVG X G ob P e f)(h2:Q6 X G ob P es g)(hs:∀c,(Z1 (e::es) (X c).env).map (·.2)=ab5 e (X c).env::(Z1 es (X c).env).map (·.2):=by intro _;rfl):Q6 X G ob P (e::es) (aO f g):=let⟨t,a1,a2⟩:=h1.ex;let⟨u,b1,b2⟩:=h2.ex;⟨_,λc=>Dk (a1 c) (b1 c) (hs c),rD a2 b2⟩
theorem gm{es:List Expr}{k n:Nat}{pos:Pos}{g:List D->En->Option En}(B:∀c,(X c).calm=ag)(h:Q6 X G ob P es g)(hn:∀c,(Z1 es (X c).env).length=n:=by intro _;rfl)(Y:∀c,(Z1 es (X c).env).findIdx? (·.1)=af:=by intro _;rfl)(q:∀c,(X c).K=G.K:=by intro _;rfl):PVG X G ob P (.Tuple es k pos) (tgT n g):=let⟨t,a1,a2⟩:=h.ex;⟨_,λc=>(by rw[←q c];exact KR (B c) (a1 c) (hn c) (Y c)),O1 a2⟩
def bN(f:En->Option D)(g:D->En->Option En):En->Option Fl:=λρ=>(f ρ).bind λd=>(g d ρ).map .nx
def gf(f:En->Option (D×En))(g:D->En->Option En):En->Option Fl:=λρ=>(f ρ).bind λp=>(g p.1 p.2).map .nx
theorem jE{Fr:Addr->Prop}:plus [] Fr=Fr:=by funext a;simp[plus]
theorem ju{te:TE}{t:TG}{f:En->Option (D×En)}{g:D->En->Option En}(h:lX G ob te f)(hg:RfG G ob P t g):RfS G ob P (Kz te t) (gf f g):=λρ r e σ H S Fr s E q=>by
 unfold gf at e;cases h1:f ρ with
 |none=>simp[h1]at e
 |some p=>
  obtain⟨d,ρ1⟩:=p;cases h2:g d ρ1 with
  |none=>simp[h1,h2]at e
  |some ρ2=>
   have:Fl.nx ρ2=r:=by simpa[h1,h2]using e
   subst this;refine h ρ d ρ1 h1 σ H S Fr s _ λv H1 M S1 Z O nd V=>?_;have hF:∀a∈M,¬Fr a:=λa Y z=>by
    rcases V.fm a Y with q|q
    .exact s.notO z q
    .obtain⟨o,I,_⟩:=s.fdm a z
     rw[q]at I;cases I
   refine hg d ρ1 ρ2 h2 v σ H1 S1 M Fr Z O nd hF _ λF H' S' s' m=>q F H' S' s' ⟨λb u U B n2=>?_,λi a z=>?_,m.pr⟩
   .have hno:¬inO ob S b:=λ⟨i,_,z⟩=>B ⟨i,z⟩
    refine m.kp b u (V.kp b u U hno) (λ⟨i,z⟩=>?_) λz=>(V.fm b z).elim hno λz=>by rw[U]at z;cases z
    cases I:ob i with
    |false=>rw[V.sn i I]at z;exact B ⟨i,z⟩
    |true=>exact(V.gr i b I z).elim hno λz=>by rw[U]at z;cases z
   .rcases m.gr i a z with⟨j,z⟩|z|z
    .cases I:ob j with
     |false=>rw[V.sn j I]at z;exact .inl ⟨j,z⟩
     |true=>exact(V.gr j a I z).imp (λ⟨k,_,z⟩=>⟨k,z⟩) .inr
    .exact(V.fm a z).imp (λ⟨k,_,z⟩=>⟨k,z⟩) .inr
    .exact(V.back z).imp (λ⟨k,_,z⟩=>⟨k,z⟩) .inr
theorem zU{f:En->Option D}{g:D->En->Option En}:gf (eUp f) g=bN f g:=by
 funext ρ;unfold gf bN eUp;cases f ρ<;>rfl
section
variable{tg e:Expr}{pos:Pos}{g:D->En->Option En}
theorem lr{f:En->Option D}(O:PV X G ob e f)(F:PVG X G ob P tg g)(hs:∀c,abw [tg] e pos.line (X c).env=pure ae:=by intro _;rfl)(q:∀c,acz [tg] e (X c).env=pure af:=by intro _;rfl)(h1:∀c,(Z1 [tg] (X c).env).map (·.2)=[ab5 tg (X c).env]:=by intro _;rfl):PVS X G ob P (.Assign [tg] e pos) (bN f g):=let⟨t,a1,a2⟩:=O.ex;let⟨u,b1,b2⟩:=F.ex;⟨_,λc=>Ou (a1 c) (b1 c) (hs c) (q c) (h1 c),by rw[←zU];exact ju (xP a2) b2⟩
theorem vR{f:En->Option (D×En)}(O:PVe X G ob e f)(F:PVG X G ob P tg g)(hs:∀c,abw [tg] e pos.line (X c).env=pure ae:=by intro _;rfl)(q:∀c,acz [tg] e (X c).env=pure af:=by intro _;rfl)(h1:∀c,(Z1 [tg] (X c).env).map (·.2)=[ab5 tg (X c).env]:=by intro _;rfl):PVS X G ob P (.Assign [tg] e pos) (gf f g):=let⟨t,a1,a2⟩:=O.ex;let⟨u,b1,b2⟩:=F.ex;⟨_,λc=>Ou (a1 c) (b1 c) (hs c) (q c) (h1 c),ju a2 b2⟩
theorem bC(i:Nat){x:Str}{pos':Pos}{f:En->Option D}(z:∀c,(X c).N.Nodup)(O:PV X G ob e f)(B:P i=ae:=by rfl)(hi:∀c,(X c).N[i]? =ac x:=by intro _;rfl)(F:∀c,Loc (X c).env.scope x:=by intro _;first|exact aab rfl|exact ZC rfl)(hs:∀c,abk e (ac (.Name x pos')) pos.line (X c).env=pure ae:=by intro _;rfl)(Y:∀c,(X c).fn x=ag∨(X c).env.scope.names.lookup x=ac .local:=by intro _;first|exact .inl rfl|exact .inr rfl):PVS X G ob P (.Assign [.Name x pos'] e pos) (bN f (tgN i)):=let⟨t,a1,a2⟩:=O.ex;⟨_,λc=>NT (z c) (hi c) (F c) (a1 c) (hs c) (Y c),by rw[←zU];exact ju (xP a2) (jc B)⟩
theorem gZ(i:Nat){x:Str}{pos':Pos}{f:En->Option (D×En)}(z:∀c,(X c).N.Nodup)(O:PVe X G ob e f)(B:P i=ae:=by rfl)(hi:∀c,(X c).N[i]? =ac x:=by intro _;rfl)(F:∀c,Loc (X c).env.scope x:=by intro _;first|exact aab rfl|exact ZC rfl)(hs:∀c,abk e (ac (.Name x pos')) pos.line (X c).env=pure ae:=by intro _;rfl)(Y:∀c,(X c).fn x=ag∨(X c).env.scope.names.lookup x=ac .local:=by intro _;first|exact .inl rfl|exact .inr rfl):PVS X G ob P (.Assign [.Name x pos'] e pos) (gf f (tgN i)):=let⟨t,a1,a2⟩:=O.ex;⟨_,λc=>NT (z c) (hi c) (F c) (a1 c) (hs c) (Y c),ju a2 (jc B)⟩
end
def vH(f:En->Option (List D×En))(g:List D->En->Option En):En->Option Fl:=λρ=>(f ρ).bind λp=>if aB p.1/\aC p.1 then(g p.1 p.2).map .nx else af
def aR(f:En->Option (List D))(g:List D->En->Option En):En->Option Fl:=λρ=>(f ρ).bind λp=>if aB p/\aC p then(g p ρ).map .nx else af
theorem Kl{ta:TA}{i j:Nat}(hi:P i=ae)(V:P j=ae){f:En->Option (List D×En)}(h:Fi G ob ta f):RfS G ob P (VJ i j ta) (vH f (aO (tgN i) (aO (tgN j) cz))):=λρ r e σ H S Fr s E q=>by
 unfold vH at e;cases h1:f ρ with
 |none=>simp[h1]at e
 |some p=>
  obtain⟨ds,ρ1⟩:=p;by_cases B:aB ds/\aC ds
  .cases h2:(aO (tgN i) (aO (tgN j) cz)) ds ρ1 with
   |none=>simp[h1,h2,B]at e
   |some ρ2=>
    have:Fl.nx ρ2=r:=by simpa[h1,h2,B]using e
    subst this;refine h ρ ds ρ1 h1 σ H S Fr s _ λO H1 M S1 Z r1 nd f1=>?_;have hF:∀a∈M,¬Fr a:=λa Y z=>by
     rcases f1.fm a Y with q|q
     .exact s.notO z q
     .obtain⟨o,I,_⟩:=s.fdm a z
      rw[q]at I;cases I
    have a0:=rD (jc (G:=G) (ob:=ob) hi) (rD (jc V) CG) ds ρ1 ρ2 B.1 B.2 h2 O σ H1 S1 M Fr Z r1 nd hF (λF H'=>E.nx F H') λF H' S' s' m=>q F H' S' s' ⟨λb u U n1 n2=>?_,λi a z=>?_,m.pr⟩
    .obtain⟨v,rr,e1,v2,r2,e2,e3,k⟩:=a0
     subst e3;exact⟨v,v2,by rw[e1,e2],k⟩
    .have hno:¬inO ob S b:=λ⟨i,_,z⟩=>n1 ⟨i,z⟩
     refine m.kp b u (f1.kp b u U hno) (λ⟨i,z⟩=>?_) λz=>(f1.fm b z).elim hno λz=>by rw[U]at z;cases z
     cases I:ob i with
     |false=>rw[f1.sn i I]at z;exact n1 ⟨i,z⟩
     |true=>exact(f1.gr i b I z).elim hno λz=>by rw[U]at z;cases z
    .rcases m.gr i a z with⟨j,z⟩|z|z
     .cases I:ob j with
      |false=>rw[f1.sn j I]at z;exact .inl ⟨j,z⟩
      |true=>exact(f1.gr j a I z).imp (λ⟨k,_,z⟩=>⟨k,z⟩) .inr
     .exact(f1.fm a z).imp (λ⟨k,_,z⟩=>⟨k,z⟩) .inr
     .exact(f1.back z).imp (λ⟨k,_,z⟩=>⟨k,z⟩) .inr
  .simp[h1,B]at e
section
variable{x y:Str}{a b:Expr}{px py pt pos:Pos}{kt k2 pt2}
theorem K5(i j:Nat){f:En->Option (List D×En)}(B:∀c,(X c).calm=ag)(z:∀c,(X c).N.Nodup)(Y:Az X G ob [a,b] f)(q:P i=ae:=by rfl)(Z:P j=ae:=by rfl)(hi:∀c,(X c).N[i]? =ac x:=by intro _;rfl)(V:∀c,(X c).N[j]? =ac y:=by intro _;rfl)(I:i≠j:=by decide)(F:∀c,(X c).env.scope.names.lookup x=ac .local:=by intro _;rfl)(U:∀c,(X c).env.scope.names.lookup y=ac .local:=by intro _;rfl)(O:∀c,acz [.Tuple [.Name x px,.Name y py] kt pt] (.Tuple [a,b] k2 pt2) (X c).env=pure (ac [x,y]):=by intro _;rfl)(hs:∀c,abw [.Tuple [.Name x px,.Name y py] kt pt] (.Tuple [a,b] k2 pt2) pos.line (X c).env=pure ae:=by intro _;rfl) :
 PVS X G ob P (.Assign [.Tuple [.Name x px,.Name y py] kt pt] (.Tuple [a,b] k2 pt2) pos) (vH f (aO (tgN i) (aO (tgN j) cz))):=let⟨t,a1,a2⟩:=Y.ex;⟨_,λc=>Ux (B c) (z c) (hi c) (V c) I (F c) (U c) (a1 c) (O c) (hs c),Kl q Z a2⟩
end
def sIf(c:En->Option Bool)(f g:En->Option Fl):En->Option Fl:=λρ=>(c ρ).bind λb=>if b then f ρ else g ρ
def Ca(c:En->Option (Bool×En))(f g:En->Option Fl):En->Option Fl:=λρ=>(c ρ).bind λp=>if p.1 then f p.2 else g p.2
theorem W6{c:En->Option Bool}{f g:En->Option Fl}:Ca (tR c) f g=sIf c f g:=by
 funext ρ;unfold Ca sIf tR;cases c ρ<;>rfl
theorem HF{tc:TT}{t u:TS}{c:En->Option (Bool×En)}{f g:En->Option Fl}(B:Kq G ob tc c)(h1:RfS G ob P t f)(h2:RfS G ob P u g):RfS G ob P (WN tc t u) (Ca c f g):=λρ r e σ H S Fr s E q=>by
 unfold Ca at e;cases Y:c ρ with
 |none=>simp[Y]at e
 |some p=>
  obtain⟨b,ρ1⟩:=p;refine B ρ b ρ1 Y σ H S Fr s _ λH1 S1 Z V=>?_;have m:Mv P H H1 σ σ S S1 []:=V.mv;cases b with
  |true=>exact uf (h1 ρ1 r (by simpa[Y]using e) σ H1 S1 Fr Z E (q.from m))
  |false=>exact zM (h2 ρ1 r (by simpa[Y]using e) σ H1 S1 Fr Z E (q.from m))
theorem dD{c:Expr}{a b:List Stmt}{pos:Pos}{fc:En->Option Bool}{f g:En->Option Fl}(B:PVT X G ob c fc)(Y:j6 X G ob P a f)(U:j6 X G ob P b g):PVS X G ob P (.If c a b pos) (sIf fc f g):=let⟨v,c1,c2⟩:=B.ex;let⟨t,a1,a2⟩:=Y.ex;let⟨u,b1,b2⟩:=U.ex;⟨_,λc=>RX (c1 c) (a1 c) (b1 c),by rw[←W6];exact HF (Ot c2) a2 b2⟩
theorem GX{c:Expr}{a b:List Stmt}{pos:Pos}{fc:En->Option (Bool×En)}{f g:En->Option Fl}(B:QC X G ob c fc)(Y:j6 X G ob P a f)(U:j6 X G ob P b g):PVS X G ob P (.If c a b pos) (Ca fc f g):=let⟨v,c1,c2⟩:=B.ex;let⟨t,a1,a2⟩:=Y.ex;let⟨u,b1,b2⟩:=U.ex;⟨_,λc=>RX (c1 c) (a1 c) (b1 c),HF c2 a2 b2⟩
def sEx(f:En->Option (D×En)):En->Option Fl:=λρ=>(f ρ).map λp=>.nx p.2
def uX(f:En->Option (D×En)):En->Option Fl:=λρ=>(f ρ).bind λp=>if clean p.1 then ac (.ret p.1 p.2)else af
def cI(f:En->Option D):En->Option Fl:=λρ=>(f ρ).bind λd=>if clean d then ac (.ret d ρ)else af
theorem R8{f:En->Option D}:uX (eUp f)=cI f:=by
 funext ρ;unfold uX cI eUp;cases f ρ<;>rfl
theorem CP{te:TE}{f:En->Option (D×En)}(h:lX G ob te f):RfS G ob P (Qp te) (uX f):=λρ r e σ H S Fr s E q=>by
 unfold uX at e;cases h1:f ρ with
 |none=>simp[h1]at e
 |some p=>
  obtain⟨d,ρ1⟩:=p;cases B:clean d with
  |false=>simp[h1,B]at e
  |true=>
   have:Fl.ret d ρ1=r:=by simpa[h1,B]using e
   subst this;exact h ρ d ρ1 h1 σ H S Fr s _ λv H1 M S1 Z F nd V=>q v σ H1 M S1 Z F B nd (λa Y=>(V.fm a Y).imp (λ⟨i,_,z⟩=>⟨i,z⟩) id) V.mv
theorem bB{e:Expr}{pos:Pos}{f:En->Option D}(O:PV X G ob e f):PVS X G ob P (.Return (ac e) pos) (cI f):=let⟨t,a1,a2⟩:=O.ex;⟨_,λc=>zT (a1 c),by rw[←R8];exact CP (xP a2)⟩
theorem N7{e:Expr}{pos:Pos}{f:En->Option (D×En)}(O:PVe X G ob e f):PVS X G ob P (.Return (ac e) pos) (uX f):=let⟨t,a1,a2⟩:=O.ex;⟨_,λc=>zT (a1 c),CP a2⟩
theorem Sta.move{G:Gc}{H:Hp}{ρ:En}{σ:L2.St}{S:Ad}{Fr:Addr->Prop}{i:Nat}{d:D}(s:Sta G H ob ρ σ S Fr)(e:ρ[i]? =ac (ac d)) :
  ∃v,σ[i]? =ac (ac v)/\clean d=ag/\Sta G H ob (ρ.set i af) σ (eY S i []) (plus (S i) Fr)/\Rep G H (wn ob (eY S i []) (plus (S i) Fr)) d v (S i):=by
 obtain⟨v,h1,h2,Y⟩:=s.sl i d e;have I:Evo H H (wn ob S Fr) (wn ob (eY S i []) (plus (S i) Fr)):=⟨λb u h f=>⟨h,⟨λz=>z.elim (λz=>?_) f.1,λ⟨k,q1,q2⟩=>?_,λ⟨k,q1,q2⟩=>?_⟩⟩,λ_ _ h=>h⟩
 .have q:=(by simpa[clean]using Y:az d=ag/\au d=ag)
  refine⟨v,h1,Y,⟨by simp[s.len],λj d' O=>?_,λj V=>?_,λj=>?_,λj k a q1 q2=>?_,λj a q1 q2=>?_,λa h=>?_⟩,h2.mono I (.inl q.1) (.inl q.2) λ_ _ _ h=>h⟩
  .by_cases e':j=i
   .subst e'
    rw[aan]at O;split at O
    .split at O
     .simp at O
     .cases O
    .exact absurd rfl ‹_›
   .rw[List.getElem?_set_ne (Zy e')]at O
    obtain⟨v',q1,q2,F⟩:=s.sl j _ O;refine⟨v',q1,?_,F⟩;rw[dG e'];have q:=(by simpa[clean]using F:az d'=ag/\au d'=ag);exact q2.mono I (.inl q.1) (.inl q.2) λ_ _ _ h=>h
  .by_cases e':j=i
   .rw[e',dm]
   .rw[dG e']
    exact s.em j λd'=>by have:=V d';rwa[List.getElem?_set_ne (Zy e')]at this
  .by_cases e':j=i
   .rw[e',dm];exact List.nodup_nil
   .rw[dG e'];exact s.nd j
  .rcases cu q1 with⟨_,z⟩|⟨_,z⟩
   .cases z
   .rcases cu q2 with⟨_,z'⟩|⟨_,z'⟩
    .cases z'
    .exact s.dj j k a z z'
  .rcases cu q2 with⟨_,z⟩|⟨n,z⟩
   .cases z
   .rcases q1 with q1|q1
    .exact n (s.dj j i a z q1)
    .exact s.fdj j a q1 z
  .rcases h with h|h
   .exact s.mu h
   .exact s.fdm a h
 .cases ho:ob i with
  |false=>exact f.2.1 ⟨i,ho,z⟩
  |true=>exact f.2.2 ⟨i,ho,z⟩
 .rcases cu q2 with⟨_,z⟩|⟨_,z⟩
  .cases z
  .exact f.2.1 ⟨k,q1,z⟩
 .rcases cu q2 with⟨_,z⟩|⟨_,z⟩
  .cases z
  .exact f.2.2 ⟨k,q1,z⟩
def gP(i:Nat):En->Option Fl:=λρ=>match ρ[i]? with
 |some (ac d)=>ac (.ret d (ρ.set i af))
 |_=>af
theorem Oi{i:Nat}:RfS G ob P (Qp (Ab i)) (gP i):=λρ r e σ H S Fr s E q=>by
 unfold gP at e;split at e
 .rename_i d h1
  cases e;obtain⟨v,h2,B,F,U⟩:=s.move h1;exact⟨v,h2,q v σ H (S i) (eY S i []) F U B (s.nd i) (λa Y=>.inl ⟨i,Y⟩) ⟨λ_ _ h _ _=>h,λj a z=>(cu z).elim (λz=>by cases z.2) λz=>.inl ⟨j,z.2⟩,.refl⟩⟩
 .cases e
theorem gY(i:Nat){x:Str}{pos pos':Pos}(z:∀c,(X c).N[i]? =ac x:=by intro _;rfl)(B:∀c,Vis (X c).env.scope x:=by intro _;first|exact aab rfl|exact ZC (aab rfl)|exact ZC (ZC rfl))(hd:1.21=ae:=by decide)(I:(x==("__classdict__":Str))=ae:=by decide):PVS X G ob P (.Return (ac (.Name x pos)) pos') (gP i):=⟨_,λc=>zT (pv i (z c) (B c) hd I),Oi⟩
end
def mkO:Mk->Mk
 |.own=>.frz
 |m=>m
mutual
noncomputable def fzo:D->D
 |.tup ds=>.tup (gM ds)
 |.lst m ds=>.lst (mkO m) (gM ds)
 |.dct m ks ds=>.dct (mkO m) ks (gM ds)
 |.ins m c fs ds=>.ins (mkO m) c fs (gM ds)
 |d=>d
noncomputable def gM:List D->List D
 |[]=>[]
 |d::r=>fzo d::gM r
end
theorem fL:∀ds:List D,gM ds=ds.map fzo
 |[]=>rfl
 |d::r=>by rw[gM,fL r];rfl
variable{a:Addr}
theorem di.fzo(hs:Les H W W' L)(hn:∀a,W.s a->W'.s a)(h:di B H W a o m L M):di B H W' a o (mkO m) [] []:=by
 cases m with
 |own=>exact⟨h.1,hs.l a (by rw[h.2];simp),rfl,rfl⟩
 |frz=>exact⟨h.1,hs.f a h.2.1,rfl,rfl⟩
 |brw=>exact⟨h.1,hn a h.2.1,rfl,rfl⟩
 |bro=>exact⟨h.1,rfl,rfl⟩
 |scr=>exact⟨h.1.imp (λz=>⟨z.1,hs.f a z.2⟩) id,rfl,rfl⟩
mutual
theorem Rep.fzo(hn:∀a,W.s a->W'.s a):∀{d:D}{v:V}{L:List Addr},Rep G H W d v L->Les H W W' L->Rep G H W' (fzo d) v []
 |.non,v,L,h,_=>by rw[Rep]at h;simp[Jb.fzo,Rep,h]
 |.bl _,v,L,h,_=>by rw[Rep]at h;simp[Jb.fzo,Rep,h]
 |.int _,v,L,h,_=>by rw[Rep]at h;simp[Jb.fzo,Rep,h]
 |.str _,v,L,h,_=>by rw[Rep]at h;simp[Jb.fzo,Rep,h]
 |.ty _,v,L,h,_=>by rw[Rep]at h;simp[Jb.fzo,Rep,h]
 |.tup ds,v,L,h,hs=>by
  rw[Rep]at h;rw[Jb.fzo,Rep];obtain⟨a,xs,rfl,U,Z⟩:=h;exact⟨a,xs,rfl,U,aG.fzo hn Z hs⟩
 |.lst m ds,v,L,h,he=>by
  rw[Rep]at h;rw[Jb.fzo,Rep];obtain⟨a,xs,M,rfl,Z,hs⟩:=h;exact⟨a,xs,[],rfl,aG.fzo hn Z (he.sub λc B=>hs.sub.subset B),hs.fzo he hn⟩
 |.dct m ks ds,v,L,h,he=>by
  rw[Rep]at h;rw[Jb.fzo,Rep];obtain⟨a,xs,M,rfl,O,Z,hs⟩:=h;exact⟨a,xs,[],rfl,O,aG.fzo hn Z (he.sub λc B=>hs.sub.subset B),hs.fzo he hn⟩
 |.ins m c' fs ds,v,L,h,he=>by
  rw[Rep]at h;rw[Jb.fzo,Rep];obtain⟨a,C,dx,xs,M,rfl,F,O,Z,hs⟩:=h;exact⟨a,C,dx,xs,[],rfl,F,O,aG.fzo hn Z (he.sub λc B=>hs.sub.subset B),hs.fzo he hn⟩
theorem aG.fzo(hn:∀a,W.s a->W'.s a):∀{ds:List D}{O:List V}{L:List Addr},aG G H W ds O L->Les H W W' L->aG G H W' (gM ds) O []
 |[],O,L,h,_=>by obtain⟨rfl,_⟩:=h.inv0;rw[gM];exact .nil
 |d::r,O,L,h,he=>by
  obtain⟨x,ys,M,M',rfl,rfl,h1,h2⟩:=h.inv;rw[gM];exact .cons (M:=[]) (M':=[]) (Rep.fzo hn h1 (he.sub λc B=>Yv _ B)) (aG.fzo hn h2 (he.sub λc B=>Yn _ B))
end
mutual
theorem Iv:∀{d:D},az d=ag->az (Jb.fzo d)=ag
 |.non,_=>rfl|.bl _,_=>rfl|.int _,_=>rfl|.str _,_=>rfl|.ty _,_=>rfl
 |.tup ds,h=>by simp[az]at h;simp[Jb.fzo,az,gK h]
 |.lst m ds,h=>by simp[az]at h;cases m<;>simp[Jb.fzo,az,gK h.2,mkO]<;>simp at h
 |.dct m _ ds,h=>by simp[az]at h;cases m<;>simp[Jb.fzo,az,gK h.2,mkO]<;>simp at h
 |.ins m _ _ ds,h=>by simp[az]at h;cases m<;>simp[Jb.fzo,az,gK h.2,mkO]<;>simp at h
theorem gK:∀{ds:List D},aB ds=ag->aB (gM ds)=ag
 |[],_=>rfl
 |d::r,h=>by simp[aB]at h;simp[gM,aB,Iv h.1,gK h.2]
end
mutual
theorem HY:∀{d:D},au d=ag->au (Jb.fzo d)=ag
 |.non,_=>rfl|.bl _,_=>rfl|.int _,_=>rfl|.str _,_=>rfl|.ty _,_=>rfl
 |.tup ds,h=>by simp[au]at h;simp[Jb.fzo,au,gJ h]
 |.lst m ds,h=>by simp[au]at h;cases m<;>simp[Jb.fzo,au,gJ h.2,mkO]<;>simp at h
 |.dct m _ ds,h=>by simp[au]at h;cases m<;>simp[Jb.fzo,au,gJ h.2,mkO]<;>simp at h
 |.ins m _ _ ds,h=>by simp[au]at h;cases m<;>simp[Jb.fzo,au,gJ h.2,mkO]<;>simp at h
theorem gJ:∀{ds:List D},aC ds=ag->aC (gM ds)=ag
 |[],_=>rfl
 |d::r,h=>by simp[aC]at h;simp[gM,aC,HY h.1,gJ h.2]
end
structure Wk(G:Gc)(J:It)(Lt:Hp->Wn->Prop)(items:List D):Prop where
 go:∀(i:Nat)(d:D),items[i]? =ac d->∀H W,Lt H W->J.go i H
 yld:∀(i:Nat)(d:D),items[i]? =ac d->∀H W,Lt H W->∀x H',J.yld i H x H'->Same H H'/\Rep G H' W d x []
 stop:∀H W,Lt H W->J.stop items.length H
def LtB(b:Bool)(H:Hp)(W:Wn):Hp->Wn->Prop:=λH2 Z=>if b=ag then Evo H H2 W Z else Up H H2 W Z
variable{b:Bool}
theorem LtB.up(u:Up H H2 W Z):LtB b H W H2 Z:=by
 cases b with
 |true=>exact uf u.evo
 |false=>exact zM u
def RfI(G:Gc)(ob:Nat->Bool)(wi:TI)(f:En->Option (Bool×List D)):Prop:=∀(ρ:En)(b:Bool)(items:List D),f ρ=ac (b,items)->∀(σ:L2.St)(H:Hp)(W:Wn),Rel G H W ob ρ σ->WOk H W->∀R:It->Hp->Prop,
 (∀J H',Same H H'->Wk G J (LtB b H' W) items->R J H')->wi σ H R
structure PVI{ι:Type}(X:ι->Cx)(G:Gc)(ob:Nat->Bool)(tg it:Expr)(f:En->Option (Bool×List D)):Prop where
 mk::(ex:∃t,(∀c,PI (X c) tg it t)/\RfI G ob t f)
def jk(lo:Int)(n:Nat):List D:=(Zw n).map λ(k:Nat)=>D.int (lo+(k:Int))
def ug(f:En->Option (List D)):En->Option (Bool×List D):=λρ=>(f ρ).bind λds=>match ds with
 |[.int j]=>if -(2 ^ 62)<=j/\j<2 ^ 62 then ac (ag,jk 0 j.toNat)else af
 |_=>af
theorem Ml{q:Hp->Wn->Prop}{lo:Int}:Wk G (Itr lo n) q (jk lo n)where
 go:=λi d e H W _=>by
  have:=(List.getElem?_eq_some_iff.mp e).1;show i<n;simpa[jk]using this
 yld:=λi d e H W _ x H' h=>by
  obtain⟨rfl,rfl⟩:=h;have:d= .int (lo+(i:Int)):=by
   unfold jk at e;rw[List.getElem?_map]at e;have hi:i<n:=by
    have:=(List.getElem?_eq_some_iff.mp (show(jk lo n)[i]? =ac d by unfold jk;rw[List.getElem?_map];exact e)).1;simpa[jk]using this
   rw[aeF hi]at e;simpa using e.symm
  subst this;exact⟨Same.refl _,by rw[Rep];exact⟨rfl,rfl⟩⟩
 stop:=λH W _=>by
  show n<=(jk lo n).length;simp[jk]
variable{f:En->Option (List D)}
theorem Td(h:RfA G ob t f):RfI G ob (Lq t) (ug f):=λρ b items e σ H W I w R q=>by
 unfold ug at e;cases h1:f ρ with
 |none=>simp[h1]at e
 |some ds=>
  rw[h1]at e;simp![gD]at e;split at e
  .rename_i j
   split at e
   .rename_i hj
    cases e;refine h ρ _ h1 σ H W I w _ λO H' L s r z nd=>?_;obtain⟨x,ys,M,M',rfl,_,F,V⟩:=r.inv;obtain⟨rfl,_⟩:=V.inv0;rw[Rep]at F;obtain⟨rfl,_⟩:=F;exact⟨j,rfl,hj.1,hj.2,q _ H' s Ml⟩
   .cases e
  .cases e
def dw:D->Option (Bool×List D)
 |.lst m ds=>ac (clean (.lst m ds),gM ds)
 |.tup ds=>ac (clean (.tup ds),gM ds)
 |_=>af
def itS(f:En->Option D):En->Option (Bool×List D):=λρ=>(f ρ).bind dw
theorem JH{W1:Wn}(h:di B H W1 a o m L M)(O:Les H W1 W L)(hn:W1.s a->W.s a)(U:b=ag->m≠.brw/\m≠.bro)(l:LtB b H W H2 Z):Rd H2 a o∨B a o:=by
 cases b with
 |false=>
  have u:Up H H2 W Z:=(Y4 Zi).mp l;exact h.rx.imp (Same.rd u.s) id
 |true=>
  have e:Evo H H2 W Z:=(YH rfl).mp l;cases m with
  |own=>exact .inl (.inl (e.k a o h.1 (O.l a (by rw[h.2];simp))).1)
  |frz=>exact .inl (.inl (e.k a o h.1 (O.f a h.2.1)).1)
  |brw=>exact absurd rfl (U rfl).1
  |bro=>exact absurd rfl (U rfl).2
  |scr=>exact h.1.imp (λz=>(e.rd z.1 (O.f a z.2)).1) id
theorem Wl{K:YC}(h:Rd H a (.lst xs)∨KO K a (.lst xs)):SqL K H a xs:=by
 rcases h with z|⟨ys,e,z⟩
 .exact .inl z
 .cases e
  exact .inr z
theorem LtB.rep(l:LtB b H W H2 Z)(U:b=ag->az d=ag/\au d=ag)(r:Rep G H W d v []):Rep G H2 Z d v []:=by
 cases b with
 |false=>exact r.up ((Y4 Zi).mp l)
 |true=>exact r.mono ((YH rfl).mp l) (.inl (U rfl).1) (.inl (U rfl).2) (by simp)
theorem LtB.tup{H H2:Hp}{W Z:Wn}{b:Bool}{K:YC}{a:Addr}{xs:List V}(l:LtB b H W H2 Z)(h:H a=ac (.tup xs)):SqT K H2 a xs:=by
 cases b with
 |false=>exact SqT.of (((Y4 Zi).mp l).s a _ h)
 |true=>exact SqT.of (((YH rfl).mp l).t a xs h)
theorem iJ(h:aB ds=ag)(e:ds[i]? =ac d):az d=ag:=by
 induction ds generalizing i with
 |nil=>simp at e
 |cons a r I=>
  simp![aB,YS]at h;cases i with
  |zero=>
   have:a=d:=by simpa using e
   rw[←this];exact h.1
  |succ i=>exact I h.2 (by simpa using e)
theorem iM(h:aC ds=ag)(e:ds[i]? =ac d):au d=ag:=by
 induction ds generalizing i with
 |nil=>simp at e
 |cons a r I=>
  simp![aC,YS]at h;cases i with
  |zero=>
   have:a=d:=by simpa using e
   rw[←this];exact h.1
  |succ i=>exact I h.2 (by simpa using e)
structure Parts(G:Gc)(H:Hp)(W:Wn)(b:Bool)(es:List D)(xs:List V):Prop where
 r:aG G H W es xs []
 c:b=ag->aB es=ag/\aC es=ag
theorem Parts.at{G:Gc}{H H2:Hp}{W Z:Wn}{b:Bool}{es:List D}{xs:List V}(p:Parts G H W b es xs)(l:LtB b H W H2 Z){i:Nat}{d:D}{x:V}(e:es[i]? =ac d)(F:xs[i]? =ac x):Rep G H2 Z d x []:=by
 obtain⟨y,M,h1,h2,Y⟩:=p.r.get e;rw[F]at h1;cases h1;have:M=[]:=by simpa using Y
 subst this;exact l.rep (λz=>⟨iJ (p.c z).1 e,iM (p.c z).2 e⟩) h2
theorem GQ{es:List D}(w:WOk H W)(s:Same H H')(r:Rep G H' (W.add L) d v L)(F:∀a∈L,H a=af)(e:dw d=ac (b,es)) :
  ∃a xs,v= .ref a/\Parts G H' W b es xs/\((∀H2 q,LtB b H' W H2 q->SqL G.K H2 a xs)∨(∀H2 q,LtB b H' W H2 q->SqT G.K H2 a xs)):=by
 have free:∀a∈L,W.free a:=λa Y=>⟨λz=>?_,λz=>?_,λz=>?_⟩
 .have les:Les H' (W.add L) W L:=⟨λa f=>⟨λz=>f.1 (.inr z),f.2⟩,free⟩
  cases d with
  |lst m ds=>
   simp![dw,abe,aeC]at e;obtain⟨rfl,rfl⟩:=e;rw[Rep]at r;obtain⟨a,xs,M,rfl,Z,hs⟩:=r;refine⟨a,xs,rfl,⟨aG.fzo (W:=W.add L) (W':=W) (λ_ z=>z) Z (les.sub λc B=>hs.sub.subset B),λz=>?_⟩,.inl λH2 q l=>Wl (JH hs les (λz=>z) (λz=>?_) l)⟩
   .simp[clean,az,au]at z
    exact⟨gK z.1.2,gJ z.2.2⟩
   .simp[clean,az,au]at z
    exact⟨z.1.1,z.2.1⟩
  |tup ds=>
   simp![dw,abe,aeC]at e;obtain⟨rfl,rfl⟩:=e;rw[Rep]at r;obtain⟨a,xs,rfl,U,Z⟩:=r;refine⟨a,xs,rfl,⟨aG.fzo (W:=W.add L) (W':=W) (λ_ z=>z) Z les,λz=>?_⟩,.inr λH2 q l=>l.tup U⟩;simp[clean,az,au]at z;exact⟨gK z.1,gJ z.2⟩
  |_=>simp[dw]at e
 .obtain⟨o,ho,_⟩:=w a (.inl z);rw[F a Y]at ho;cases ho
 .obtain⟨o,ho,_⟩:=w a (.inr (.inl z));rw[F a Y]at ho;cases ho
 .obtain⟨o,ho,_⟩:=w a (.inr (.inr z));rw[F a Y]at ho;cases ho
theorem aG.getV(h:aG G H W ds xs L)(e:ds[i]? =ac d):∃x,xs[i]? =ac x:=let⟨x,_,h,_⟩:=h.get e;⟨x,h⟩
theorem Pz{f:En->Option D}(h:RfE G ob te f):RfI G ob (Ut G.K te) (itS f):=λρ b items e σ H W I w R q=>by
 unfold itS at e;cases h1:f ρ with
 |none=>simp[h1]at e
 |some d=>
  have e:dw d=ac (b,items):=by simpa[h1]using e
  refine h ρ d h1 σ H W I w _ λv H' L s r F nd=>?_;obtain⟨a,xs,rfl,p,hs⟩:=GQ w s r F e;refine⟨a,rfl,?_⟩;rcases hs with hs|hs
  .refine .inl ⟨⟨xs,hs H' W (LtB.up Up.refl)⟩,q _ H' s ⟨λi d e H2 Z l=>?_,λi d e H2 Z l x Y y=>?_,λH2 Z l=>?_⟩⟩
   .obtain⟨x,hx⟩:=p.r.getV e
    exact⟨xs,x,hs H2 Z l,hx⟩
   .obtain⟨rfl,y⟩:=y
    exact⟨Same.refl _,p.at l e (y xs (hs _ Z l))⟩
   .exact⟨xs,hs H2 Z l,by rw[p.r.length];exact YB _⟩
  .refine .inr ⟨⟨xs,hs H' W (LtB.up Up.refl)⟩,q _ H' s ⟨λi d e H2 Z l=>?_,λi d e H2 Z l x Y y=>?_,λH2 Z l=>?_⟩⟩
   .obtain⟨x,hx⟩:=p.r.getV e
    exact⟨xs,x,hs H2 Z l,hx⟩
   .obtain⟨rfl,y⟩:=y
    exact⟨Same.refl _,p.at l e (y xs (hs _ Z l))⟩
   .exact⟨xs,hs H2 Z l,by rw[p.r.length];exact YB _⟩
def kh:Nat->List D->List D
 |_,[]=>[]
 |i,d::r=>.tup [.int (i:Int),d]::kh (i+1) r
theorem jq:∀(ds:List D)(k i:Nat),(kh k ds)[i]? =(ds[i]?).map λd=>.tup [.int ((k+i:Nat):Int),d]
 |[],k,i=>by simp[kh]
 |d::r,k,i=>by
  cases i with
  |zero=>simp[kh]
  |succ i=>
   simp![kh,YJ];rw[jq r (k+1) i,show k+1+i=k+(i+1)by omega]
theorem jn:∀(ds:List D)(k:Nat),(kh k ds).length=ds.length
 |[],k=>rfl
 |d::r,k=>by simp[kh,jn r (k+1)]
def itE(f:En->Option (List D)):En->Option (Bool×List D):=λρ=>(f ρ).bind λds=>match ds with
 |[d]=>(dw d).map λp=>(p.1,kh 0 p.2)
 |_=>af
theorem JS(h:RfA G ob t f):RfI G ob (M_ G.K t) (itE f):=λρ b items e σ H W I w R q=>by
 unfold itE at e;cases h1:f ρ with
 |none=>simp[h1]at e
 |some ds=>
  rw[h1]at e;simp![gD]at e;split at e
  .rename_i d
   cases h2:dw d with
   |none=>simp[h2]at e
   |some p=>
    obtain⟨b',es⟩:=p;obtain⟨rfl,rfl⟩:b'=b/\kh 0 es=items:=by simpa[h2]using e
    refine h ρ _ h1 σ H W I w _ λO H' L s r fr nd=>?_;obtain⟨v,ys,M,M',rfl,rfl,B,hy⟩:=r.inv;obtain⟨rfl,rfl⟩:=hy.inv0;rw[Za]at B fr;obtain⟨a,xs,rfl,p,hs⟩:=GQ w s B fr h2;have a0:∀(i:Nat)(d':D)(z:Addr)(x:V)(H2:Hp)(Z:Wn),(kh 0 es)[i]? =ac d'->LtB b' H' W H2 Z->H2 z=af->xs[i]? =ac x->Same H2 (upd H2 z (.tup [.int i,x]))/\Rep G (upd H2 z (.tup [.int i,x])) Z d' (.ref z) []:=λi d' z x H2 Z e l hp F=>by
     rw[jq]at e;cases Y:es[i]? with
     |none=>rw[Y]at e;cases e
     |some d0=>
      rw[Y]at e;have e:D.tup [.int (i:Int),d0]=d':=by simpa using e
      subst e;have sm:Same H2 (upd H2 z (.tup [.int i,x])):=Same.new hp;refine⟨sm,?_⟩;rw[Rep];refine⟨z,_,rfl,aQ,.cons (M:=[]) (M':=[]) (by rw[Rep];exact⟨rfl,rfl⟩) (.one ((p.at l Y F).up (Up.same sm)))⟩
    refine⟨a,rfl,?_⟩;have U:∀(i:Nat)(d':D),(kh 0 es)[i]? =ac d'->∃x,xs[i]? =ac x:=λi d' e=>by
     rw[jq]at e;cases Y:es[i]? with
     |none=>rw[Y]at e;cases e
     |some d0=>exact p.r.getV Y
    rcases hs with hs|hs
    .refine .inl ⟨⟨xs,hs H' W (LtB.up Up.refl)⟩,q _ H' s ⟨λi d e H2 Z l=>?_,λi d e H2 Z l x H3 y=>?_,λH2 Z l=>?_⟩⟩
     .obtain⟨x,F⟩:=U i d e
      exact⟨xs,x,hs H2 Z l,F⟩
     .obtain⟨z,v,hp,rfl,B,rfl⟩:=y
      exact a0 i d z v H2 Z e l hp (B xs (hs _ Z l))
     .exact⟨xs,hs H2 Z l,by rw[jn,p.r.length];exact YB _⟩
    .refine .inr ⟨⟨xs,hs H' W (LtB.up Up.refl)⟩,q _ H' s ⟨λi d e H2 Z l=>?_,λi d e H2 Z l x H3 y=>?_,λH2 Z l=>?_⟩⟩
     .obtain⟨x,F⟩:=U i d e
      exact⟨xs,x,hs H2 Z l,F⟩
     .obtain⟨z,v,hp,rfl,B,rfl⟩:=y
      exact a0 i d z v H2 Z e l hp (B xs (hs _ Z l))
     .exact⟨xs,hs H2 Z l,by rw[jn,p.r.length];exact YB _⟩
  .cases e
variable{a:Expr}
theorem Lr(F:∀c,Gl (X c) "range")(V:∀c,(X c).mg "range"=af)(Y:PVA X G ob [a] f)(hs:∀c,YD [a] (X c).env=[(ae,eval a (X c).env)]:=by intro _;rfl):PVI X G ob tg (.Call (.Name "range" p) [a] [] pos) (ug f):=let⟨t,a1,a2⟩:=Y.ex;⟨_,λc=>xJ (F c) (V c) (a1 c) (hs c),Td a2⟩
theorem dY{f:En->Option D}(Y:PV X G ob a f)(q:∀c,(X c).K=G.K:=by intro _;rfl):PVI X G ob tg a (itS f):=let⟨t,a1,a2⟩:=Y.ex;⟨_,λc=>(by rw[←q c];exact Om (a1 c)),Pz a2⟩
theorem uG(F:∀c,Gl (X c) "enumerate")(V:∀c,(X c).mg "enumerate"=af)(Y:PVA X G ob [a] f)(hs:∀c,YD [a] (X c).env=[(ae,eval a (X c).env)]:=by intro _;rfl)(q:∀c,(X c).K=G.K:=by intro _;rfl):PVI X G ob (.Tuple elts x1 tpos) (.Call (.Name "enumerate" p) [a] [] pos) (itE f):=let⟨t,a1,a2⟩:=Y.ex;⟨_,λc=>(by rw[←q c];exact J5 (F c) (V c) (a1 c) (hs c)),JS a2⟩
def forL(tg:D->En->Option En)(body:En->Option Fl):List D->En->Option Fl
 |[],ρ=>ac (.nx ρ)
 |d::r,ρ=>(tg d ρ).bind λρ1=>match body ρ1 with
  |some (.nx ρ2)=>forL tg body r ρ2
  |some (.cnt ρ2)=>forL tg body r ρ2
  |some (.brk ρ2)=>ac (.nx ρ2)
  |o=>o
def gO(it:En->Option (Bool×List D))(tg:D->En->Option En)(body:En->Option Fl):En->Option Fl:=λρ=>(it ρ).bind λp=>if p.1=ag then forL tg body p.2 ρ else af
theorem vy{σ2:L2.St}{S2:Ad}{Fr:Addr->Prop}(s:Sta G H ob ρ σ S Fr)(m:Mv P H H2 σ σ2 S S2 []):Evo H H2 (wn ob S Fr) (wn ob S2 Fr)where
 k:=λb u U f=>by
  have B:¬inS S b:=λ⟨i,z⟩=>by
   cases I:ob i with
   |false=>exact f.2.1 ⟨i,I,z⟩
   |true=>exact f.2.2 ⟨i,I,z⟩
  have Z:¬inS S2 b:=λ⟨i,z⟩=>(m.gr i b z).elim B λz=>z.elim (λz=>by cases z) λz=>by rw[U]at z;cases z
  exact⟨m.kp b u U B (by simp),f.1,λ⟨i,_,z⟩=>Z ⟨i,z⟩,λ⟨i,_,z⟩=>Z ⟨i,z⟩⟩
 t:=λb xs h=>by
  have O:∀u,H b=ac u->muO u=ae->H2 b=ac u:=λu hu mu=>m.kp b u hu (λ⟨i,z⟩=>by
   obtain⟨o,I,V⟩:=s.mu z;rw[hu]at I;cases I;rw[mu]at V;cases V) (by simp)
  exact O _ h rfl
variable{tg:D->En->Option En}{tb:TS}{wi:TI}{it:En->Option (Bool×List D)}{body:En->Option Fl}
theorem Hg{g:TG}(hi:RfI G ob wi it)(hg:RfG G ob P g tg)(U:RfS G ob P tb body):RfS G ob P (KD wi g tb) (gO it tg body):=λρ r e σ H S Fr s E q=>by
 unfold gO at e;cases h1:it ρ with
 |none=>simp[h1]at e
 |some p=>
  obtain⟨b,items⟩:=p;cases b with
  |false=>simp[h1]at e
  |true=>
   have e:forL tg body items ρ=ac r:=by simpa[h1]using e
   refine hi ρ ag items h1 σ H _ s.rel s.wok _ λJ H1 sm wk=>?_;have Z:Sta G H1 ob ρ σ S Fr:=s.grow sm λa z=>.inl z;have m1:Mv P H H1 σ σ S S []:=⟨λb u h _ _=>sm b u h,λi a z=>.inl ⟨i,z⟩,.refl⟩;show 4
   .refine .inr ⟨wk.go i items[i] (by simp[B]) H2 _ (a0 (ρ2:=ρ2) m2),λF H'=>(i+1)+(m-1)=items.length/\∃ρ2 S2,Sta G H' ob ρ2 F S2 Fr/\Mv P H1 H' σ F S S2 []/\forL tg body (items.drop (i+1)) ρ2=ac r,λF H' h=>⟨m-1,by omega,h⟩,λx H3 V=>?_⟩
    obtain⟨s3,rx⟩:=wk.yld i items[i] (by simp[B]) H2 _ (a0 (ρ2:=ρ2) m2) x H3 V;rw[←ZS B,forL]at e2;cases Y:tg items[i] ρ2 with
    |none=>simp[Y]at e2
    |some a2=>
     rw[Y]at e2;simp![gD]at e2;have a4:Sta G H3 ob ρ2 σ2 S2 Fr:=O.grow s3 λa z=>.inl z;refine hg items[i] ρ2 a2 Y x σ2 H3 S2 [] Fr (by rw[jE];exact a4) (by rw[jE];exact rx) List.nodup_nil (by simp) _ λa3 H4 S4 s4 m4=>?_;have a1:Mv P H1 H4 σ a3 S S4 []:=(m2.trans (S2:=S2) ⟨λb u h _ _=>s3 b u h,λi a z=>.inl ⟨i,z⟩,.refl⟩).trans m4;cases h5:body a2 with
     |none=>rw[h5]at e2;cases e2
     |some fl=>
      rw[h5]at e2;refine U a2 fl h5 a3 H4 S4 Fr s4 _ ?_;cases fl with
      |nx I=>exact λF H' S' s' m'=>⟨by omega,I,S',s',a1.trans m',e2⟩
      |cnt I=>exact λF H' S' s' m'=>⟨by omega,I,S',s',a1.trans m',e2⟩
      |brk I=>cases e2;exact λF H' S' s' m'=>q1 F H' S' s' (a1.trans m')
      |ret d I=>cases e2;exact q1.from a1
   .have hl:i=items.length:=by omega
    rw[hl,aai,forL]at e2;cases e2;subst hl;exact .inl ⟨wk.stop H2 _ (a0 (ρ2:=ρ2) m2),q1 σ2 H2 S2 O m2⟩
variable{f:En->Option Fl}
theorem ig{tg iter:Expr}{body:List Stmt}{g:D->En->Option En}(V:∀c,acH (model (X c).prog (X c).w) (X c).A (X c).env (X c).xe)(B:∀c,(X c).calm=ag)(hi:PVI X G ob tg iter it)(F:PVG X G ob P tg g)(U:j6 X G ob P body f)(hs:∀c,∀x,ZL iter (X c).env x=pure x:=by intro _;intro _;rfl):PVS X G ob P (.For tg iter body [] pos) (gO it g f):=let⟨v,c1,c2⟩:=hi.ex;let⟨t,a1,a2⟩:=F.ex;let⟨u,b1,b2⟩:=U.ex;⟨_,λc=>Bg (V c) (B c) (c1 c) (a1 c) (b1 c) (hs c),Hg c2 a2 b2⟩
def jF(c:En->Option (Bool×En))(body:En->Option Fl):Nat->En->Option Fl
 |0,_=>af
 |n+1,ρ=>(c ρ).bind λp=>if p.1=ag then(match body p.2 with
  |some (.nx ρ2)=>jF c body n ρ2
  |some (.cnt ρ2)=>jF c body n ρ2
  |some (.brk ρ2)=>ac (.nx ρ2)
  |o=>o)else ac (.nx p.2)
theorem Jw{tc:TT}{c:En->Option (Bool×En)}(n:Nat)(B:Kq G ob tc c)(U:RfS G ob P tb body):RfS G ob P (KQ tc tb) (jF c body n):=λρ r e σ H S Fr s E q=>by
 refine⟨λm σ2 H2=>∃ρ2 S2,Sta G H2 ob ρ2 σ2 S2 Fr/\Mv P H H2 σ σ2 S S2 []/\jF c body m ρ2=ac r,⟨n,ρ,S,s,.refl,e⟩,?_⟩;rintro m σ2 H2 ⟨ρ2,S2,O,m2,e2⟩;cases m with
 |zero=>cases e2
 |succ m=>
  rw[jF]at e2;cases h1:c ρ2 with
  |none=>simp[h1]at e2
  |some p=>
   obtain⟨b,V⟩:=p;rw[h1]at e2;simp![gD]at e2;refine B ρ2 b V h1 σ2 H2 S2 Fr O _ λY S3 z Z=>?_;have m3:Mv P H Y σ σ2 S S3 []:=m2.trans Z.mv;cases b with
   |false=>
    simp![ZV,abo]at e2;cases e2;exact zM (q σ2 Y S3 z m3)
   |true=>
    simp![Y6]at e2;refine uf ⟨λF H'=>∃ρ2 S2,Sta G H' ob ρ2 F S2 Fr/\Mv P H H' σ F S S2 []/\jF c body m ρ2=ac r,λF H' h=>⟨m,abp m,h⟩,?_⟩;cases h5:body V with
    |none=>rw[h5]at e2;cases e2
    |some fl=>
     rw[h5]at e2;refine U V fl h5 σ2 Y S3 Fr z _ ?_;cases fl with
     |nx I=>exact λF H' S' s' m'=>⟨I,S',s',m3.trans m',e2⟩
     |cnt I=>exact λF H' S' s' m'=>⟨I,S',s',m3.trans m',e2⟩
     |brk I=>cases e2;exact λF H' S' s' m'=>q F H' S' s' (m3.trans m')
     |ret d I=>cases e2;exact q.from m3
theorem yg(n:Nat){body:List Stmt}{fc:En->Option (Bool×En)}(V:∀c,acH (model (X c).prog (X c).w) (X c).A (X c).env (X c).xe)(B:QC X G ob c fc)(U:j6 X G ob P body f):PVS X G ob P (.While c body [] pos) (jF fc f n):=let⟨v,c1,c2⟩:=B.ex;let⟨u,b1,b2⟩:=U.ex;⟨_,λc=>Nt (V c) (c1 c) (b1 c),Jw n c2 b2⟩
def iY(i:Nat)(ρ:En):Option En:=match ρ[i]? with
 |some (ac d)=>ac (ρ.set i (ac (fz d)))
 |_=>af
theorem Sta.freeze{B:En}{Fr:Addr->Prop}(s:Sta G H ob ρ σ S Fr)(e:iY i ρ=ac B):Sta G H ob B σ (eY S i []) Fr:=by
 unfold iY at e;split at e
 .rename_i d h1
  cases e;obtain⟨v,h2,h3,F,U⟩:=s.move h1;have I:Sta G H ob (ρ.set i af) σ (eY S i []) Fr:=F.lessF λa z=>.inr z;have Z:i<ρ.length:=(List.getElem?_eq_some_iff.mp h1).1;have q:Rep G H (wn ob (eY S i []) Fr) (fz d) v []:=by
   refine U.fz ⟨λa f=>⟨λz=>f.1 (.inr z),f.2⟩,λa Y=>⟨λz=>s.fdj i a z Y,λ⟨j,q1,q2⟩=>?_,λ⟨j,q1,q2⟩=>?_⟩⟩ (.inl h3)
   .rcases cu q2 with⟨_,z⟩|⟨n,z⟩
    .cases z
    .exact n (s.dj j i a z Y)
   .rcases cu q2 with⟨_,z⟩|⟨n,z⟩
    .cases z
    .exact n (s.dj j i a z Y)
  refine⟨by simp[s.len],λj d' O=>?_,λj V=>?_,I.nd,I.dj,I.fdj,I.fdm⟩
  .by_cases e':j=i
   .subst e'
    have:fz d=d':=by simpa[Z]using O
    subst this;exact⟨v,h2,by rw[dm];exact q,Km d⟩
   .rw[List.getElem?_set_ne (Zy e')]at O
    exact I.sl j d' (by rw[List.getElem?_set_ne (Zy e')];exact O)
  .by_cases e':j=i
   .rw[e',dm]
   .exact I.em j λd'=>by have:=V d';rw[List.getElem?_set_ne (Zy e')]at this⊢;exact this
 .cases e
def sFz(i:Nat)(f:En->Option Fl):En->Option Fl:=λρ=>(iY i ρ).bind f
theorem S7{t:TS}(h:RfS G ob P t f):RfS G ob P t (sFz i f):=λρ r e σ H S Fr s E q=>by
 unfold sFz at e;cases h1:iY i ρ with
 |none=>simp[h1]at e
 |some ρ1=>
  have e:f ρ1=ac r:=by simpa[h1]using e
  have m:Mv P H H σ σ S (eY S i []) []:=⟨λ_ _ h _ _=>h,λj a z=>(cu z).elim (λz=>by cases z.2) λz=>.inl ⟨j,z.2⟩,.refl⟩;exact h ρ1 r e σ H (eY S i []) Fr (s.freeze h1) E (q.from m)
theorem mD(i:Nat){st:Stmt}(h:PVS X G ob P st f):PVS X G ob P st (sFz i f):=let⟨t,a1,a2⟩:=h.ex;⟨t,a1,S7 a2⟩
mutual
noncomputable def bj:D->Bool
 |.tup ds=>aP ds
 |.lst m ds=>m== .own&&aP ds
 |.dct m _ ds=>m== .own&&aP ds
 |.ins m _ _ ds=>m== .own&&aP ds
 |_=>ag
noncomputable def aP:List D->Bool
 |[]=>ag
 |d::r=>bj d&&aP r
end
mutual
theorem Rep.own:∀{d:D}{v:V}{L:List Addr},Rep G H W d v L->bj d=ag->Rep G H W' d v L
 |.non,v,L,h,_=>by rw[Rep]at h⊢;exact h
 |.bl _,v,L,h,_=>by rw[Rep]at h⊢;exact h
 |.int _,v,L,h,_=>by rw[Rep]at h⊢;exact h
 |.str _,v,L,h,_=>by rw[Rep]at h⊢;exact h
 |.ty _,v,L,h,_=>by rw[Rep]at h⊢;exact h
 |.tup ds,v,L,h,o=>by
  rw[Rep]at h⊢;obtain⟨a,xs,rfl,U,Z⟩:=h;exact⟨a,xs,rfl,U,aG.own Z (by simpa[bj]using o)⟩
 |.lst m ds,v,L,h,o=>by
  rw[Rep]at h⊢;obtain⟨a,xs,M,rfl,Z,hs⟩:=h;simp[bj]at o;obtain⟨rfl,o⟩:=o;exact⟨a,xs,M,rfl,aG.own Z o,hs⟩
 |.dct m ks ds,v,L,h,o=>by
  rw[Rep]at h⊢;obtain⟨a,xs,M,rfl,O,Z,hs⟩:=h;simp[bj]at o;obtain⟨rfl,o⟩:=o;exact⟨a,xs,M,rfl,O,aG.own Z o,hs⟩
 |.ins m c fs ds,v,L,h,o=>by
  rw[Rep]at h⊢;obtain⟨a,C,dx,xs,M,rfl,F,O,Z,hs⟩:=h;simp[bj]at o;obtain⟨rfl,o⟩:=o;exact⟨a,C,dx,xs,M,rfl,F,O,aG.own Z o,hs⟩
theorem aG.own:∀{ds:List D}{O:List V}{L:List Addr},aG G H W ds O L->aP ds=ag->aG G H W' ds O L
 |[],O,L,h,_=>by rw[aG]at h⊢;exact h
 |d::r,O,L,h,o=>by
  obtain⟨x,ys,M,M',rfl,rfl,h1,h2⟩:=h.inv;simp[aP]at o;exact .cons (Rep.own h1 o.1) (aG.own h2 o.2)
end
def W1(Fr:Addr->Prop):Wn:=⟨Fr,λ_=>False,λ_=>False⟩
def spP(G:Gc)(F:List D->Option D):Sp:=λO H Q _=>∃(ds:List D)(Fr:Addr->Prop),aG G H (W1 Fr) ds O []/\aB ds=ag/\aC ds=ag/\(∀a,Fr a->Mu H a)/\∃d,F ds=ac d/\
 ∀v H' L,Same H H'->Rep G H' (W1 (plus L Fr)) d v L->(∀a∈L,H a=af)->L.Nodup->clean d=ag->Q v H'
def en0(n:Nat)(ds:List D):En:=ds.map ac++Zb (n-ds.length) af
def fnP(B n:Nat)(body:En->Option Fl):List D->Option D:=λds=>if ds.length=B then(body (en0 n ds)).bind λr=>match r with
 |.ret d _=>ac d
 |.nx _=>ac .non
 |_=>af else af
theorem Hy(h:(en0 n ds)[i]? =ac (ac d)):ds[i]? =ac d:=by
 unfold en0 at h;by_cases hi:i<ds.length
 .rw[Zm (by simpa using hi)]at h
  simpa using h
 .rw[ZM (by simpa using Nat.le_of_not_lt hi)]at h
  rw[adO]at h;split at h
  .simp at h
  .cases h
theorem XH{O:List V}{Fr:Addr->Prop}(r:aG G H (W1 Fr) ds O [])(q:aB ds=ag)(B:aC ds=ag)(fm:∀a,Fr a->Mu H a):Sta G H ob (en0 N.length ds) (L2.start N O) (λ_=>[]) Fr where
 len:=by simp[en0,L2.start,r.length]
 sl:=λi d e=>by
  have e:=Hy e;obtain⟨x,M,h1,h2,Y⟩:=r.get e;have:M=[]:=by simpa using Y
  subst this;refine⟨x,?_,h2.up ⟨Same.refl _,λb u U f=>⟨f.1,λ⟨j,_,z⟩=>(by cases z),λ⟨j,_,z⟩=>(by cases z)⟩,λb u U f=>f.elim⟩,by simp[clean,iJ q e,iM B e]⟩;unfold L2.start;have hi:i<O.length:=(List.getElem?_eq_some_iff.mp h1).1;rw[Zm (by simpa using hi)];simp[h1]
 em:=λ_ _=>rfl
 nd:=λ_=>List.nodup_nil
 dj:=λi j a h=>by cases h
 fdj:=λi a _ h=>by cases h
 fdm:=fm
section
variable{P:Program}{w:World}{K:PySem.W.Frag}{mg:Str->Option Value}{base:Heap}
theorem U5{a:Addr}:¬inS (λ_=>[]) a:=λ⟨_,z⟩=>by cases z
theorem okP{x qual:Str}{st:Stmt}{f:Addr}{fd:Zh}{N ps:List Str}{k:Nat}{ob Pr:Nat->Bool}{body:En->Option Fl}(F:Fun K x qual st f fd)(S:bA N ps (aH st))
  (U:∀(cdv:Value)(A:Zx)(outer:List Env)(s:Ym)(H:Hp)(E:XK),jh k (A.deeper (abS qual (aH st) s.heap.objs.size f cdv))->j6 (λ_:Unit=>(wR CX0 P w K mg base N qual (aH st) f cdv A outer s H E).nox) ⟨K,mg⟩ ob Pr (ie st) body) :
  dJ P w K mg base CX0 (k+1) f fd ps (spP ⟨K,mg⟩ (fnP ps.length N.length body)):=by
 refine F.ok S (λO H Q E h=>?_) (λcdv A outer s H O Q E Z h=>?_)
 .obtain⟨ds,Fr,r,_,_,_,d,e,_⟩:=h
  unfold fnP at e;split at e
  .rename_i hl
   rw[←r.length];exact hl
  .cases e
 .obtain⟨ds,Fr,r,c1,c2,fm,d,e,q⟩:=h
  obtain⟨t,a1,a2⟩:=(U cdv A outer s H E Z).ex;refine⟨t,a1 (),?_⟩;unfold fnP at e;split at e
  .cases h1:body (en0 N.length ds)with
   |none=>simp[h1]at e
   |some fl=>
    rw[h1]at e;simp![gD]at e;refine a2 _ fl h1 (L2.start N O) H (λ_=>[]) Fr (XH (ob:=ob) r c1 c2 fm) _ ?_;have V:∀{S':Ad}{M:List Addr}{b:Addr},(wn ob S' (plus M Fr)).free b->(W1 (plus M Fr)).free b:=λz=>⟨z.1,id,id⟩;cases fl with
    |nx B=>
     cases e;exact λa3 H' S' s' m=>q .non H' [] (λb o h=>m.kp b o h U5 (by simp)) (by rw[Rep];exact⟨rfl,rfl⟩) (by simp) List.nodup_nil rfl
    |ret d' B=>
     cases e;exact λv a3 H' M S' s' r' c n f m=>q v H' M (λb o h=>m.kp b o h U5 (by simp)) (by
      have a0:=(by simpa[clean]using c:az d=ag/\au d=ag);have I:Evo H' H' (wn ob S' (plus M Fr)) (W1 (plus M Fr)):=⟨λb u h z=>⟨h,V z⟩,λ_ _ h=>h⟩;exact r'.mono I (.inl a0.1) (.inl a0.2) λ_ _ _ h=>h) (λa Y=>(f a Y).resolve_left U5) n c
    |brk B=>cases e
    |cnt B=>cases e
  .cases e
end
def aM(F:List D->Option D)(ds:List D):Option D:=(F (fzL ds)).bind λd=>if(aB ds&&aC ds)||bj d then ac d else af
theorem Lz{F:List D->Option D}{E:XK}:CaV G (λO H Q=>spP G F (O++[]) H Q E) (aM F):=λds d e xs H W L0 r nd hn w Q q=>by
 unfold aM at e;cases h1:F (fzL ds)with
 |none=>simp[h1]at e
 |some d'=>
  rw[h1]at e;simp![gD]at e;split at e
  .rename_i hc
   cases e;rw[Za];by_cases U:aB ds=ag/\aC ds=ag
   .refine⟨fzL ds,λa=>(W.n a∨W.s a∨W.o a)/\a∉L0,r.fz ⟨λa f=>⟨λz=>z.1.elim f.1 λz=>z.elim f.2.1 f.2.2,id,id⟩,λa Y=>⟨λz=>z.2 Y,id,id⟩⟩ (.inl U),gQ ds,gR ds,λa h=>w a h.1,d,h1,λv H' L s Z V n c=>?_⟩
    refine q v H' L s ?_ (λa Y=>.inr (V a Y)) n;have B:=(by simpa[clean]using c:az d=ag/\au d=ag);have hL:∀a∈L,a∉L0:=λa Y z=>by
     obtain⟨o,I,_⟩:=r.dom a z;rw[V a Y]at I;cases I
    have ev:Evo H' H' (W1 (plus L λa=>(W.n a∨W.s a∨W.o a)/\a∉L0)) ((W.drop L0).add L):=⟨λb u h f=>⟨h,⟨λz=>z.elim (λz=>f.1 (.inl z)) λz=>f.1 (.inr ⟨.inl z.1,z.2⟩),λz=>f.1 (.inr ⟨.inr (.inl z),λy=>?_⟩),λz=>f.1 (.inr ⟨.inr (.inr z),λy=>?_⟩)⟩⟩,λ_ _ h=>h⟩
    .exact Z.mono ev (.inl B.1) (.inl B.2) λ_ _ _ h=>h
    .exact(hn b y).2.1 z
    .exact(hn b y).2.2 z
   .have I:bj d=ag:=by
     simp![ab2,YS]at hc;exact hc.resolve_left U
    refine⟨fzL ds,λ_=>False,r.fz ⟨λa f=>⟨id,id,id⟩,λa Y=>⟨id,id,id⟩⟩ (.inr λa=>⟨id,id,id⟩),gQ ds,gR ds,λa h=>h.elim,d,h1,λv H' L s Z V n c=>?_⟩;exact q v H' L s (Z.own I) (λa Y=>.inr (V a Y)) n
  .cases e
theorem b7{F:List D->Option D}{f:En->Option (List D)}(C:∀c,Cal (X c).prog (X c).w (X c).K (X c).mg (X c).base k x ps (spP G F))(Z:∀c,jh k (X c).A)(Y:PVA X G ob (e::es) f)(B:∀c,Gl (X c) x:=by intro _;rfl)(z:1.21=ae:=by decide)(O:∀c,YD (e::es) (X c).env=(ae,eval e (X c).env)::YD es (X c).env:=by intro _;rfl)(q:∀c,(Z4 pos (YD es (X c).env)).any (·.1)=ae:=by intro _;rfl) :
 PV X G ob (.Call (.Name x p) (e::es) [] pos) (eAp (aM F) f):=let⟨t,a1,a2⟩:=Y.ex;⟨_,λc=>MJ (C c) (Z c) (B c) (a1 c) z (O c) (q c),sU Lz a2⟩
variable{a:Addr}
theorem di.fz2(hs:Les H W W' L)(U:m≠.brw∨∀a,W.s a->W'.free a)(I:m≠.bro∨nJ W')(h:di B H W a o m L M):di B H W' a o (mkF m) [] []:=by
 cases m with
 |own=>exact⟨h.1,hs.l a (by rw[h.2];simp),rfl,rfl⟩
 |frz=>exact⟨h.1,hs.f a h.2.1,rfl,rfl⟩
 |brw=>exact⟨h.1,U.elim (λz=>absurd rfl z) λz=>z a h.2.1,rfl,rfl⟩
 |bro=>exact⟨h.1,I.elim (λz=>absurd rfl z) λz=>z a,rfl,rfl⟩
 |scr=>exact⟨h.1.imp (λz=>⟨z.1,hs.f a z.2⟩) id,rfl,rfl⟩
mutual
theorem Rep.fz2:∀{d:D}{v:V}{L:List Addr},Rep G H W d v L->Les H W W' L->(az d=ag∨∀a,W.s a->W'.free a)->(au d=ag∨nJ W')->Rep G H W' (fz d) v []
 |.non,v,L,h,_,_,_=>by rw[Rep]at h;simp[Jb.fz,Rep,h]
 |.bl _,v,L,h,_,_,_=>by rw[Rep]at h;simp[Jb.fz,Rep,h]
 |.int _,v,L,h,_,_,_=>by rw[Rep]at h;simp[Jb.fz,Rep,h]
 |.str _,v,L,h,_,_,_=>by rw[Rep]at h;simp[Jb.fz,Rep,h]
 |.ty _,v,L,h,_,_,_=>by rw[Rep]at h;simp[Jb.fz,Rep,h]
 |.tup ds,v,L,h,hs,c,o=>by
  rw[Rep]at h;rw[Jb.fz,Rep];obtain⟨a,xs,rfl,U,Z⟩:=h;exact⟨a,xs,rfl,U,aG.fz2 Z hs (by simpa[az]using c) (by simpa[au]using o)⟩
 |.lst m ds,v,L,h,he,c,o=>by
  rw[Rep]at h;rw[Jb.fz,Rep];obtain⟨a,xs,M,rfl,Z,hs⟩:=h;exact⟨a,xs,[],rfl,aG.fz2 Z (he.sub λc B=>hs.sub.subset B) (c.imp (λz=>by simp[az]at z;exact z.2) id) (o.imp (λz=>by simp[au]at z;exact z.2) id),hs.fz2 he (c.imp (λz=>by simp[az]at z;exact z.1) id) (o.imp (λz=>by simp[au]at z;exact z.1) id)⟩
 |.dct m ks ds,v,L,h,he,c,o=>by
  rw[Rep]at h;rw[Jb.fz,Rep];obtain⟨a,xs,M,rfl,O,Z,hs⟩:=h;exact⟨a,xs,[],rfl,O,aG.fz2 Z (he.sub λc B=>hs.sub.subset B) (c.imp (λz=>by simp[az]at z;exact z.2) id) (o.imp (λz=>by simp[au]at z;exact z.2) id),hs.fz2 he (c.imp (λz=>by simp[az]at z;exact z.1) id) (o.imp (λz=>by simp[au]at z;exact z.1) id)⟩
 |.ins m c' fs ds,v,L,h,he,c,o=>by
  rw[Rep]at h;rw[Jb.fz,Rep];obtain⟨a,C,dx,xs,M,rfl,F,O,Z,hs⟩:=h;exact⟨a,C,dx,xs,[],rfl,F,O,aG.fz2 Z (he.sub λc B=>hs.sub.subset B) (c.imp (λz=>by simp[az]at z;exact z.2) id) (o.imp (λz=>by simp[au]at z;exact z.2) id),hs.fz2 he (c.imp (λz=>by simp[az]at z;exact z.1) id) (o.imp (λz=>by simp[au]at z;exact z.1) id)⟩
theorem aG.fz2:∀{ds:List D}{O:List V}{L:List Addr},aG G H W ds O L->Les H W W' L->(aB ds=ag∨∀a,W.s a->W'.free a)->(aC ds=ag∨nJ W')->aG G H W' (fzL ds) O []
 |[],O,L,h,_,_,_=>by obtain⟨rfl,_⟩:=h.inv0;rw[fzL];exact .nil
 |d::r,O,L,h,he,c,o=>by
  obtain⟨x,ys,M,M',rfl,rfl,h1,h2⟩:=h.inv;rw[fzL];exact .cons (M:=[]) (M':=[]) (Rep.fz2 h1 (he.sub λc B=>Yv _ B) (c.imp (λz=>by simp[aB]at z;exact z.1) id) (o.imp (λz=>by simp[aC]at z;exact z.1) id))
   (aG.fz2 h2 (he.sub λc B=>Yn _ B) (c.imp (λz=>by simp[aB]at z;exact z.2) id) (o.imp (λz=>by simp[aC]at z;exact z.2) id))
end
def spI(G:Gc)(ob pr:Nat->Bool)(F:List D->Option (D×List D)):Sp:=λO H Q _=>∃(ds:List D)(S:Ad)(Fr:Addr->Prop),Sta G H ob (ds.map ac) (O.map ac) S Fr/\(∀i,pr i=ae->S i=[])/\∃d Y,F ds=ac (d,Y)/\
 ∀v H' M S',Sta G H' ob (Y.map ac) (O.map ac) S' (plus M Fr)->Rep G H' (wn ob S' (plus M Fr)) d v M->clean d=ag->M.Nodup->(∀a∈M,inS S a∨H a=af)->Mv (λ_=>ae) H H' [] [] S S' []->Q v H'
def outs(pr:Nat->Bool)(ρ:En):Nat->List D->Option (List D)
 |_,[]=>ac []
 |i,d::r=>(if pr i=ag then(match ρ[i]? with
  |some (ac e)=>ac e
  |_=>af)else ac d).bind λe=>(outs pr ρ (i+1) r).map λt=>e::t
def fnI(pr:Nat->Bool)(B n:Nat)(body:En->Option Fl):List D->Option (D×List D):=λds=>if ds.length=B then(body (en0 n ds)).bind λr=>match r with
 |.ret d ρ=>(outs pr ρ 0 ds).map λo=>(d,o)
 |.nx ρ=>(outs pr ρ 0 ds).map λo=>(.non,o)
 |_=>af else af
theorem GD{pr:Nat->Bool}{ρ:En}:∀{ds Y:List D}{k:Nat},outs pr ρ k ds=ac Y->Y.length=ds.length/\∀i d,Y[i]? =ac d->(pr (k+i)=ag/\ρ[k+i]? =ac (ac d))∨(pr (k+i)=ae/\ds[i]? =ac d)
 |[],Y,k,e=>by
  cases e;exact⟨rfl,λi d h=>by simp at h⟩
 |d0::r,Y,k,e=>by
  rw[outs]at e;cases h2:outs pr ρ (k+1) r with
  |none=>
   rw[h2]at e;simp at e
  |some t=>
   rw[h2]at e;obtain⟨U,V⟩:=GD h2;have q:∃I,Y=I::t/\((pr k=ag/\ρ[k]? =ac (ac I))∨(pr k=ae/\d0=I)):=by
    split at e
    .rename_i hp
     split at e
     .rename_i I h0
      exact⟨I,by simpa using e.symm,.inl ⟨hp,h0⟩⟩
     .simp at e
    .rename_i hp
     exact⟨d0,by simpa using e.symm,.inr ⟨by simpa using hp,rfl⟩⟩
   obtain⟨I,rfl,O⟩:=q;refine⟨by simp[U],λi d h=>?_⟩;cases i with
   |zero=>
    have:I=d:=by simpa using h
    subst this;exact O.imp id λz=>⟨z.1,by simp[z.2]⟩
   |succ i=>
    have:=V i d (by simpa using h);rw[show k+1+i=k+(i+1)by omega]at this;simpa using this
theorem lE{xs:List α}{x:α}(h:(xs.map ac)[i]? =ac (ac x)):xs[i]? =ac x:=by
 rw[List.getElem?_map]at h;cases e:xs[i]? with
 |none=>rw[e]at h;cases h
 |some y=>rw[e]at h;simpa using h
theorem fJ{xs:List α}{x:α}(h:xs[i]? =ac x):(xs.map ac)[i]? =ac (ac x):=by rw[List.getElem?_map,h];rfl
theorem Yh{O:List V}{Fr:Addr->Prop}(s:Sta G H ob (ds.map ac) (O.map ac) S Fr):Sta G H ob (en0 N.length ds) (L2.start N O) S Fr where
 len:=by have:=s.len;simp at this;simp[en0,L2.start,this]
 sl:=λi d e=>by
  obtain⟨v,h1,h2,Y⟩:=s.sl i d (fJ (Hy e));refine⟨v,?_,h2,Y⟩;unfold L2.start;have hi:i<(O.map ac).length:=(List.getElem?_eq_some_iff.mp h1).1;rw[Zm hi];exact h1
 em:=λi h=>s.em i λd e=>h d (by
  unfold en0;have hi:i<(ds.map ac).length:=(List.getElem?_eq_some_iff.mp e).1;rw[Zm hi];exact e)
 nd:=s.nd
 dj:=s.dj
 fdj:=s.fdj
 fdm:=s.fdm
section
variable{P:Program}{w:World}{K:PySem.W.Frag}{mg:Str->Option Value}{base:Heap}
theorem CQ{G:Gc}{H H':Hp}{ob pr:Nat->Bool}{ds Y:List D}{O:List V}{N:List Str}{S S1:Ad}{Fr:Addr->Prop}{ρ:En}{σ:L2.St}{M:List Addr}(s:Sta G H ob (ds.map ac) (O.map ac) S Fr)(hp:∀i,pr i=ae->S i=[])(Z:Sta G H' ob ρ σ S1 (plus M Fr))
  (m:Mv pr H H' (L2.start N O) σ S S1 []) (hM:∀a∈M,inS S a∨H a=af) (e:outs pr ρ 0 ds=ac Y) :
  Sta G H' ob (Y.map ac) (O.map ac) (λi=>if pr i=ag/\i<ds.length then S1 i else[]) (plus M Fr):=by
 obtain⟨hl,F⟩:=GD e;have lv:ds.length=O.length:=by have:=s.len;simpa using this
 have sub:∀{i a},a∈(if pr i=ag/\i<ds.length then S1 i else[])->a∈S1 i:=λ{i a} z=>by
  split at z
  .exact z
  .cases z
 refine⟨by simp[hl,lv],λi d h=>?_,λi h=>?_,λi=>?_,λi j a h1 h2=>Z.dj i j a (sub h1) (sub h2),λi a h z=>Z.fdj i a h (sub z),Z.fdm⟩
 .have h:=lE h
  have hi:i<ds.length:=by rw[←hl];exact(List.getElem?_eq_some_iff.mp h).1
  rcases F i d h with⟨h1,h2⟩|⟨h1,h2⟩
  .rw[aaS]at h1 h2
   obtain⟨v,q1,q2,q3⟩:=Z.sl i d h2;have e1:=m.pr i h1;rw[q1]at e1;refine⟨v,?_,?_,q3⟩
   .unfold L2.start at e1
    rw[Zm (by simp;omega)]at e1;exact e1.symm
   .rw[YH ⟨h1,hi⟩]
    have q:=(by simpa[clean]using q3:az d=ag/\au d=ag);have I:Evo H' H' (wn ob S1 (plus M Fr)) (wn ob (λi=>if pr i=ag/\i<ds.length then S1 i else[]) (plus M Fr)):=⟨λb u U f=>⟨U,⟨f.1,λ⟨j,B,z2⟩=>f.2.1 ⟨j,B,sub z2⟩,λ⟨j,B,z2⟩=>f.2.2 ⟨j,B,sub z2⟩⟩⟩,λ_ _ h=>h⟩;exact q2.mono I (.inl q.1) (.inl q.2) λ_ _ _ h=>h
  .rw[aaS]at h1
   obtain⟨v,q1,q2,q3⟩:=s.sl i d (fJ h2);refine⟨v,q1,?_,q3⟩;rw[Y4 λz=>by rw[h1]at z;cases z.1];rw[hp i h1]at q2;have q:=(by simpa[clean]using q3:az d=ag/\au d=ag);have a0:=vy s (σ2:=σ) (H2:=H') (S2:=S1) (P:=λ_=>ae) ⟨m.kp,m.gr,λi h=>by cases h⟩;have I:Evo H H' (wn ob S Fr) (wn ob (λi=>if pr i=ag/\i<ds.length then S1 i else[]) (plus M Fr)):=⟨λb u U f=>?_,a0.t⟩
   .exact q2.mono I (.inl q.1) (.inl q.2) (by simp)
   .obtain⟨k1,k2⟩:=a0.k b u U f
    refine⟨k1,λz=>z.elim (λz=>?_) f.1,λ⟨j,B,z2⟩=>k2.2.1 ⟨j,B,sub z2⟩,λ⟨j,B,z2⟩=>k2.2.2 ⟨j,B,sub z2⟩⟩;rcases hM b z with⟨j,y⟩|y
    .cases ho:ob j with
     |false=>exact f.2.1 ⟨j,ho,y⟩
     |true=>exact f.2.2 ⟨j,ho,y⟩
    .rw[U]at y;cases y
 .split
  .rename_i z
   exfalso;have hi:i<Y.length:=by rw[hl];exact z.2
   exact h Y[i] (fJ (by simp[hi]))
  .rfl
 .show(if pr i=ag/\i<ds.length then S1 i else[]).Nodup
  split
  .exact Z.nd i
  .exact List.nodup_nil
theorem okI{x qual:Str}{st:Stmt}{f:Addr}{fd:Zh}{N ps:List Str}{k:Nat}{ob pr:Nat->Bool}{body:En->Option Fl}(F:Fun K x qual st f fd)(S:bA N ps (aH st))
  (U:∀(cdv:Value)(A:Zx)(outer:List Env)(s:Ym)(H:Hp)(E:XK),jh k (A.deeper (abS qual (aH st) s.heap.objs.size f cdv))->j6 (λ_:Unit=>(wR CX0 P w K mg base N qual (aH st) f cdv A outer s H E).nox) ⟨K,mg⟩ ob pr (ie st) body) :
  dJ P w K mg base CX0 (k+1) f fd ps (spI ⟨K,mg⟩ ob pr (fnI pr ps.length N.length body)):=by
 refine F.ok S (λO H Q E h=>?_) (λcdv A outer s H O Q E Z h=>?_)
 .obtain⟨ds,S,Fr,st,_,d,ds',e,_⟩:=h
  unfold fnI at e;split at e
  .rename_i hl
   have:=st.len;simp at this;rw[←this];exact hl
  .cases e
 .obtain⟨ds,S0,Fr,st,hp,d,ds',e,q⟩:=h
  obtain⟨t,a1,a2⟩:=(U cdv A outer s H E Z).ex;refine⟨t,a1 (),?_⟩;unfold fnI at e;split at e
  .cases h1:body (en0 N.length ds)with
   |none=>simp[h1]at e
   |some fl=>
    rw[h1]at e;simp![gD]at e;refine a2 _ fl h1 (L2.start N O) H S0 Fr (Yh st) _ ?_;have sub:∀{S1:Ad}{i a},a∈(if pr i=ag/\i<ds.length then S1 i else[])->a∈S1 i:=λ{S1 i a} z=>by
     split at z
     .exact z
     .cases z
    cases fl with
    |nx B=>
     cases h2:outs pr B 0 ds with
     |none=>simp[h2]at e
     |some o=>
      obtain⟨rfl,rfl⟩:D.non=d/\o=ds':=by simpa[h2]using e
      refine λa0 H' S1 Y m=>q .non H' [] _ (CQ st hp (M:=[]) (by rw[jE];exact Y) m (by simp) h2) (by rw[Rep];exact⟨rfl,rfl⟩) rfl List.nodup_nil (by simp) ⟨m.kp,λi a z=>m.gr i a (sub z),λi h=>by cases h⟩
    |ret d' B=>
     cases h2:outs pr B 0 ds with
     |none=>simp[h2]at e
     |some o=>
      obtain⟨rfl,rfl⟩:d'=d/\o=ds':=by simpa[h2]using e
      refine λv a0 H' M S1 Y r c n f m=>q v H' M _ (CQ st hp Y m f h2) ?_ c n f ⟨m.kp,λi a z=>m.gr i a (sub z),λi h=>by cases h⟩;have V:=(by simpa[clean]using c:az d'=ag/\au d'=ag);have I:Evo H' H' (wn ob S1 (plus M Fr)) (wn ob (λi=>if pr i=ag/\i<ds.length then S1 i else[]) (plus M Fr)):=⟨λb u U f=>⟨U,⟨f.1,λ⟨j,z1,z2⟩=>f.2.1 ⟨j,z1,sub z2⟩,λ⟨j,z1,z2⟩=>f.2.2 ⟨j,z1,sub z2⟩⟩⟩,λ_ _ h=>h⟩;exact r.mono I (.inl V.1) (.inl V.2) λ_ _ _ h=>h
    |brk B=>cases e
    |cnt B=>cases e
  .cases e
end
def RfM(G:Gc)(ob:Nat->Bool)(t:TA)(js:List Nat)(f:En->Option (List D×En)):Prop:=∀(ρ:En)(ds:List D)(B:En),f ρ=ac (ds,B)->∀(σ:L2.St)(H:Hp)(S:Ad)(Fr:Addr->Prop),Sta G H ob ρ σ S Fr->
 ∀us:List V,js.map (λj=>σ[j]?)=us.map (λu=>ac (ac u))->∀Q:List V->Hp->Prop,
 (∀O H' M S',Sta G H' ob B σ S' (plus M Fr)->aG G H' (wn ob S' (plus M Fr)) ds O M->M.Nodup->Eff ob H H' S S' M->Q (us++O) H')->t σ H Q
structure PVM{ι:Type}(X:ι->Cx)(G:Gc)(ob:Nat->Bool)(es:List Expr)(js:List Nat)(f:En->Option (List D×En)):Prop where
 mk::(ex:∃t,(∀c,PA (X c) es t)/\RfM G ob t js f)
variable{f:En->Option (List D×En)}
theorem cZ(h:Az X G ob es f):PVM X G ob es [] f:=by
 obtain⟨t,F,z⟩:=h.ex;refine⟨t,F,λρ ds B e σ H S Fr s us hu Q q=>?_⟩;have:us=[]:=by simpa using hu
 subst this;exact z ρ ds B e σ H S Fr s Q q
theorem cX(i:Nat)(h:PVM X G ob es js f)(z:∀c,(X c).N[i]? =ac x:=by intro _;rfl)(U:∀c,Vis (X c).env.scope x:=by intro _;first|exact aab rfl|exact ZC (aab rfl)|exact ZC (ZC rfl))(hd:1.21=ae:=by decide)(I:(x==("__classdict__":Str))=ae:=by decide)(hs:∀c,YD (.Name x pos::es) (X c).env=(ae,eval (.Name x pos) (X c).env)::YD es (X c).env:=by intro _;rfl):PVM X G ob (.Name x pos::es) (i::js) f:=by
 obtain⟨t,F,V⟩:=h.ex;refine⟨_,λc=>Bk (pv i (z c) (U c) hd I) (F c) (hs c),λρ ds B e σ H S Fr s us hu Q q=>?_⟩;cases us with
 |nil=>simp at hu
 |cons u us=>
  rw[Ys,Ys]at hu;injection hu with h1 h2;exact⟨u,h1,V ρ ds B e σ H S Fr s us h2 _ λO H' M S' s' r n Z=>q O H' M S' s' r n Z⟩
def objs(js:List Nat)(ρ:En):Option (List D):=js.mapM λj=>ρ[j]?.bind id
def lO:List Nat->List D->En->En
 |j::js,d::ds,ρ=>lO js ds (ρ.set j (ac d))
 |_,_,ρ=>ρ
def eIo(F:List D->Option (D×List D))(js:List Nat)(f:En->Option (List D×En)):En->Option (D×En):=λρ=>if(objs js ρ).isSome=ag then(f ρ).bind λp=>(objs js p.2).bind λos=>if aC p.1=ag then(F (os++fzL p.1)).bind λq=>
 if aB p.1=ag∨(bj q.1=ag/\aP (q.2.take js.length)=ag)then ac (q.1,lO js q.2 p.2)else af else af else af
theorem yE{ρ:En}:∀{js:List Nat}{os:List D},objs js ρ=ac os->os.length=js.length/\∀(k j:Nat),js[k]? =ac j->∃d,os[k]? =ac d/\ρ[j]? =ac (ac d)
 |[],os,h=>by
  have:os=[]:=by simpa[objs]using h.symm
  subst this;exact⟨rfl,λk j h=>by simp at h⟩
 |j::js,os,h=>by
  unfold objs at h;rw[aef]at h;cases h1:ρ[j]?.bind id with
  |none=>simp[h1]at h
  |some d=>
   cases h2:js.mapM (λj=>ρ[j]?.bind id)with
   |none=>simp[h1,h2]at h
   |some t=>
    have:os=d::t:=by simpa[h1,h2]using h.symm
    subst this;obtain⟨l,g⟩:=yE (js:=js) (os:=t) h2;refine⟨by simp[l],λk i e=>?_⟩;cases k with
    |zero=>
     have:j=i:=by simpa using e
     subst this;refine⟨d,rfl,?_⟩;cases Y:ρ[j]? with
     |none=>rw[Y]at h1;cases h1
     |some o=>rw[Y]at h1;simpa using h1
    |succ k=>simpa using g k i (by simpa using e)
theorem yc:∀(js:List Nat)(ds:List D)(ρ:En),(lO js ds ρ).length=ρ.length
 |[],ds,ρ=>by cases ds<;>rfl
 |_::_,[],ρ=>rfl
 |j::js,d::ds,ρ=>by rw[lO,yc js ds];simp
theorem pN:∀{js:List Nat}{ds:List D}{ρ:En}{j:Nat},j∉js->(lO js ds ρ)[j]? =ρ[j]?
 |[],ds,ρ,j,_=>by cases ds<;>rfl
 |_::_,[],ρ,j,_=>rfl
 |i::js,d::ds,ρ,j,h=>by
  rw[lO,pN (λz=>h (Y8 _ z)),List.getElem?_set_ne λz=>h (by rw[z];exact Zo)]
theorem vZ:∀{js:List Nat}{ds:List D}{ρ:En}{k j:Nat}{d:D},js.Nodup->js[k]? =ac j->ds[k]? =ac d->j<ρ.length->(lO js ds ρ)[j]? =ac (ac d)
 |[],ds,ρ,k,j,d,_,h,_,_=>by simp at h
 |_::_,[],ρ,k,j,d,_,_,h,_=>by simp at h
 |i::js,d0::ds,ρ,k,j,d,n,h1,h2,hl=>by
  rw[lO];cases k with
  |zero=>
   have e1:i=j:=by simpa using h1
   have e2:d0=d:=by simpa using h2
   subst e1 e2;rw[pN (Y5.mp n).1];simp[hl]
  |succ k=>exact vZ (Y5.mp n).2 (by simpa using h1) (by simpa using h2) (by simpa using hl)
def pick(S:Ad)(js:List Nat):Ad:=λi=>match js[i]? with
 |some j=>S j
 |none=>[]
theorem i_(h:a∈pick S js i):∃j,js[i]? =ac j/\a∈S j:=by
 unfold pick at h;split at h
 .rename_i j e;exact⟨j,e,h⟩
 .cases h
def back(S:Ad)(js:List Nat)(Sc:Ad):Ad:=λj=>match js.idxOf? j with
 |some i=>Sc i
 |none=>S j
theorem u_(h:js.idxOf? j=ac i):js[i]? =ac j:=by
 obtain⟨h1,h2,Y⟩:=Zg.mp h;have:js[i]=j:=by simpa using h2
 rw[Yo h1,this]
theorem CN(h:js.idxOf? j=af):j∉js:=by
 intro z;have:=Zn.mp h j z;simp at this
theorem U3(n:js.Nodup)(h:js[i]? =ac j):js.idxOf? j=ac i:=by
 cases e:js.idxOf? j with
 |none=>exact absurd (Y0 h) (CN e)
 |some k=>
  have:=u_ e;have O:k<js.length:=(List.getElem?_eq_some_iff.mp this).1;rw[(adq O n).mp (this.trans h.symm)]
theorem PJ{Sc:Ad}(n:js.Nodup)(h:js[i]? =ac j):back S js Sc j=Sc i:=by unfold back;rw[U3 n h]
theorem Bm{Sc:Ad}(h:j∉js):back S js Sc j=S j:=by
 unfold back;split
 .rename_i i e;exact absurd (Y0 (u_ e)) h
 .rfl
theorem j7{Sc:Ad}(h:a∈back S js Sc j):(∃i,js[i]? =ac j/\a∈Sc i)∨(j∉js/\a∈S j):=by
 unfold back at h;split at h
 .rename_i i e;exact .inl ⟨i,u_ e,h⟩
 .rename_i e;exact .inr ⟨CN e,h⟩
theorem yW(h:aP (ds.take k)=ag)(e:ds[i]? =ac d)(hi:i<k):bj d=ag:=by
 induction ds generalizing k i with
 |nil=>simp at e
 |cons a r I=>
  cases k with
  |zero=>omega
  |succ k=>
   rw[List.take_succ_cons,aP,YS]at h;cases i with
   |zero=>
    have:a=d:=by simpa using e
    rw[←this];exact h.1
   |succ i=>exact I h.2 (by simpa using e) 1.10
theorem HW:∀{js:List Nat},(∀j∈js,∃u,σ[j]? =ac (ac u))->∃us:List V,js.map (λj=>σ[j]?)=us.map (λu=>ac (ac u))
 |[],_=>⟨[],rfl⟩
 |j::js,h=>by
  obtain⟨us,hu⟩:=HW (js:=js) λi hi=>h i (Y8 _ hi);obtain⟨u,q⟩:=h j Zo;exact⟨u::us,by rw[Ys,Ys,hu,q]⟩
theorem T6{oc:Nat->Bool}{F:List D->Option (D×List D)}(hj:js.Nodup)(I:∀j∈js,ob j=ag)(hp:∀i,i<js.length->pr i=ag)(h:RfM G ob t js f){E:XK} :
  lX G ob (λσ H Q=>t σ H λO H1=>spI G oc pr F (O++[]) H1 Q E) (eIo F js f):=λρ d c8 e σ H S Fr s Q q=>by
 unfold eIo at e;split at e
 .rename_i hsome
  cases h0:objs js ρ with
  |none=>rw[h0]at hsome;cases hsome
  |some d6=>
   cases h1:f ρ with
   |none=>simp[h1]at e
   |some p=>
    obtain⟨ds,ρ1⟩:=p;rw[h1]at e;simp![gD]at e;cases h2:objs js ρ1 with
    |none=>simp[h2]at e
    |some os=>
     rw[h2]at e;simp![gD]at e;split at e
     .rename_i hbro
      cases h3:F (os++fzL ds)with
      |none=>simp[h3]at e
      |some z=>
       obtain⟨d1,a2⟩:=z;rw[h3]at e;simp![gD]at e;split at e
       .rename_i b4
        obtain⟨rfl,rfl⟩:d1=d/\lO js a2 ρ1=c8:=by simpa using e
        obtain⟨l0,g0⟩:=yE h0;obtain⟨l1,g1⟩:=yE h2;have a8:∃us:List V,js.map (λj=>σ[j]?)=us.map (λu=>ac (ac u)):=by
         have:∀j∈js,∃u,σ[j]? =ac (ac u):=λj hj=>by
          obtain⟨k,hk⟩:=acJ.mp hj;obtain⟨d0,_,q2⟩:=g0 k j hk;obtain⟨v,q3,_⟩:=s.sl j d0 q2;exact⟨v,q3⟩
         exact HW this
        obtain⟨us,a8⟩:=a8;have b8:us.length=js.length:=by have:=congrArg aaF a8;simpa using this.symm
        have c5:∀(k j:Nat)(u:V),js[k]? =ac j->us[k]? =ac u->σ[j]? =ac (ac u):=λk j u h1 h2=>by
         have:=congrArg (λl=>l[k]?) a8;simp![List.getElem?_map,h1,h2,Y9,abe]at this;exact this
        refine h ρ ds ρ1 h1 σ H S Fr s us a8 _ λO H1 M S1 Z r1 d5 c6=>?_;rw[Za];have b0:∀{i a},a∈pick S1 js i->inO ob S1 a:=λ{i a} z=>by
         obtain⟨j,e,y⟩:=i_ z;exact⟨j,I j (Y0 e),y⟩
        have a1:∀{a},inS (pick S1 js) a->inO ob S1 a:=λ⟨i,z⟩=>b0 z;have b1:∀{i a},a∈S1 i->¬(wn ob S1 (plus M Fr)).free a:=λ{i a} z f=>by
         cases b3:ob i with
         |false=>exact f.2.1 ⟨i,b3,z⟩
         |true=>exact f.2.2 ⟨i,b3,z⟩
        let a4:Addr->Prop:=λa=>aB ds=ag/\((Fr a∨inS S1 a)/\¬inS (pick S1 js) a)
        have a9:∀a,(wn ob S1 (plus M Fr)).free a->(wn oc (pick S1 js) a4).free a:=λa f=>by
         refine⟨λz=>?_,λ⟨i,_,z⟩=>?_,λ⟨i,_,z⟩=>?_⟩
         .rcases z.2.1 with y|⟨i,y⟩
          .exact f.1 (.inr y)
          .exact b1 y f
         .exact f.2.2 (b0 z)
         .exact f.2.2 (b0 z)
        have d3:∀a∈M,¬Fr a:=λa Y z=>by
         rcases c6.fm a Y with y|y
         .exact s.notO z y
         .obtain⟨o,I,_⟩:=s.fdm a z
          rw[y]at I;cases I
        have b9:∀a∈M,(wn oc (pick S1 js) a4).free a:=λa Y=>by
         refine⟨λz=>?_,λ⟨i,_,z⟩=>?_,λ⟨i,_,z⟩=>?_⟩
         .rcases z.2.1 with y|⟨i,y⟩
          .exact d3 a Y y
          .exact Z.fdj i a (.inl Y) y
         .obtain⟨j,_,y⟩:=i_ z;exact Z.fdj j a (.inl Y) y
         .obtain⟨j,_,y⟩:=i_ z;exact Z.fdj j a (.inl Y) y
        have c3:aG G H1 (wn oc (pick S1 js) a4) (fzL ds) O []:=by
         refine r1.fz2 ⟨a9,b9⟩ ?_ (.inl hbro);by_cases c7:aB ds=ag
         .exact .inl c7
         .refine .inr λa Y=>⟨λz=>c7 z.1,λ⟨i,_,z⟩=>?_,λ⟨i,_,z⟩=>?_⟩
          .obtain⟨i1,o1,y1⟩:=Y
           obtain⟨i2,o2,y2⟩:=b0 z;rw[Z.dj i1 i2 a y1 y2,o2]at o1;cases o1
          .obtain⟨i1,o1,y1⟩:=Y
           obtain⟨i2,o2,y2⟩:=b0 z;rw[Z.dj i1 i2 a y1 y2,o2]at o1;cases o1
        have sc:Sta G H1 oc ((os++fzL ds).map ac) ((us++O).map ac) (pick S1 js) a4:=by
         refine⟨by simp[l1,b8,c3.length],λi d0 hi=>?_,λi hi=>?_,λi=>?_,λi k a h1 h2=>?_,λi a h1 h2=>h1.2.2 ⟨i,h2⟩,λa Y=>?_⟩
         .have hi:=lE hi
          by_cases b5:i<js.length
          .obtain⟨dd,q1,q2⟩:=g1 i js[i] (by simp[b5])
           rw[Zm 1.10,q1]at hi;cases hi;obtain⟨v,q3,q4,q5⟩:=Z.sl _ _ q2;have a6:=(by simpa[clean]using q5:az d0=ag/\au d0=ag);have c9:∃u,us[i]? =ac u:=⟨us[i],by simp[b8,b5]⟩;obtain⟨u,hu⟩:=c9;have:=c5 i js[i] u (by simp[b5]) hu;rw[q3]at this;cases this;refine⟨v,fJ (by rw[Zm 1.10];exact hu),?_,q5⟩;have:pick S1 js i=S1 js[i]:=by unfold pick;rw[Yo b5]
           rw[this];have ev:Evo H1 H1 (wn ob S1 (plus M Fr)) (wn oc (pick S1 js) a4):=⟨λb u h f=>⟨h,a9 b f⟩,λ_ _ h=>h⟩;exact q4.mono ev (.inl a6.1) (.inl a6.2) λ_ _ _ h=>h
          .rw[ZM 1.10]at hi
           obtain⟨x,M',q1,q2,q3⟩:=c3.get hi;have:M'=[]:=by simpa using q3
           subst this;refine⟨x,fJ (by rw[ZM 1.10,b8,←l1];exact q1),?_,by simp[clean,iJ (gQ ds) hi,iM (gR ds) hi]⟩;have:pick S1 js i=[]:=by unfold pick;rw[ZD 1.10]
           rw[this];exact q2
         .unfold pick
          split
          .rename_i j hj'
           exfalso;obtain⟨dd,q1,q2⟩:=g1 i j hj';exact hi dd (fJ (by rw[Zm (by rw[l1];exact(List.getElem?_eq_some_iff.mp hj').1)];exact q1))
          .rfl
         .unfold pick
          split
          .exact Z.nd _
          .exact List.nodup_nil
         .obtain⟨j1,e1,y1⟩:=i_ h1
          obtain⟨j2,e2,y2⟩:=i_ h2;have:=Z.dj j1 j2 a y1 y2;rw[this,←e2]at e1;exact(adq (by
           cases hh:js[i]? with
           |none=>rw[hh,e2]at e1;cases e1
           |some _=>exact(List.getElem?_eq_some_iff.mp hh).1) hj).mp e1
         .rcases Y.2.1 with y|⟨i,y⟩
          .exact Z.fdm a (.inr y)
          .exact Z.mu y
        refine⟨os++fzL ds,pick S1 js,a4,sc,λi hi=>?_,d1,a2,h3,λv H2 Mc Sc s2 r2 c2 n2 c0 m2=>?_⟩
        .unfold pick
         split
         .rename_i j hj'
          rw[hp i (List.getElem?_eq_some_iff.mp hj').1]at hi;cases hi
         .rfl
        .have l2:a2.length=(os++fzL ds).length:=by
          have h1:=s2.len;have h2:=sc.len;simp![Yt]at h1 h2;rw[h1,←h2]
         have kept:∀b u,H1 b=ac u->¬inS (pick S1 js) b->H2 b=ac u:=λb u U n=>m2.kp b u U n (by simp);have a5:∀{i b},b∈Sc i->inS (pick S1 js) b∨H1 b=af:=λ{i b} z=>(m2.gr i b z).imp id λy=>y.resolve_left (by simp);have b6:∀{b},Fr b->¬inS (pick S1 js) b:=λ{b} z ⟨i,y⟩=>by obtain⟨j,_,y⟩:=i_ y;exact Z.fdj j b (.inr z) y
         have a0:∀{j b},j∉js->b∈S1 j->¬inS (pick S1 js) b:=λ{j b} hn z ⟨i,y⟩=>by
          obtain⟨k,e,y⟩:=i_ y;rw[Z.dj j k b z y]at hn;exact hn (Y0 e)
         have b7:∀{i b},b∈S1 i->H1 b≠af:=λ{i b} z y=>by obtain⟨o,I,_⟩:=Z.mu z;rw[y]at I;cases I
         have ev:Evo H1 H2 (wn ob S1 (plus M Fr)) (wn ob (back S1 js Sc) (plus Mc Fr)):=by
          refine⟨λb u U f=>?_,λb xs h=>?_⟩
          .have n1:¬inS (pick S1 js) b:=λz=>f.2.2 (a1 z)
           have n2:∀i,b∉back S1 js Sc i:=λi z=>by
            rcases j7 z with⟨k,_,y⟩|⟨_,y⟩
            .rcases a5 y with y|y
             .exact n1 y
             .rw[U]at y;cases y
            .exact b1 y f
           refine⟨kept b u U n1,λz=>?_,λ⟨i,_,z⟩=>n2 i z,λ⟨i,_,z⟩=>n2 i z⟩;rcases z with z|z
           .rcases c0 b z with y|y
            .exact n1 y
            .rw[U]at y;cases y
           .exact f.1 (.inr z)
          .have no:∀u,H1 b=ac u->muO u=ae->H2 b=ac u:=λu hu mu=>kept b u hu λ⟨i,z⟩=>by
            obtain⟨j,_,z⟩:=i_ z;obtain⟨o,I,hm⟩:=Z.mu z;rw[hu]at I;cases I;rw[mu]at hm;cases hm
           exact no _ h rfl
         have conv:∀(e:D)(x:V)(L:List Addr),(aB ds=ag∨bj e=ag)->clean e=ag->Rep G H2 (wn oc Sc (plus Mc a4)) e x L->Rep G H2 (wn ob (back S1 js Sc) (plus Mc Fr)) e x L:=λe x L B b4 r=>by
          rcases B with B|B
          .have a6:=(by simpa[clean]using b4:az e=ag/\au e=ag)
           have d4:Evo H2 H2 (wn oc Sc (plus Mc a4)) (wn ob (back S1 js Sc) (plus Mc Fr)):=⟨λb u U f=>?_,λ_ _ h=>h⟩
           .exact r.mono d4 (.inl a6.1) (.inl a6.2) λ_ _ _ h=>h
           .have nSc:∀i,b∉Sc i:=λi z=>by
             cases b3:oc i with
             |false=>exact f.2.1 ⟨i,b3,z⟩
             |true=>exact f.2.2 ⟨i,b3,z⟩
            have nb:∀j,b∉back S1 js Sc j:=λj z=>by
             rcases j7 z with⟨k,_,y⟩|⟨hn,y⟩
             .exact nSc k y
             .exact f.1 (.inr ⟨B,.inr ⟨j,y⟩,a0 hn y⟩)
            refine⟨U,λz=>?_,λ⟨i,_,z⟩=>nb i z,λ⟨i,_,z⟩=>nb i z⟩;rcases z with z|z
            .exact f.1 (.inl z)
            .exact f.1 (.inr ⟨B,.inl z,b6 z⟩)
          .exact r.own B
         have d2:∀(j:Nat)(d0:D),(lO js a2 ρ1)[j]? =ac (ac d0)->∃v,σ[j]? =ac (ac v)/\Rep G H2 (wn ob (back S1 js Sc) (plus Mc Fr)) d0 v (back S1 js Sc j)/\clean d0=ag:=λj d0 a7=>by
          by_cases a3:j∈js
          .obtain⟨k,hk⟩:=acJ.mp a3
           have c4:k<js.length:=(List.getElem?_eq_some_iff.mp hk).1;obtain⟨dd,q1,q2⟩:=g1 k j hk;have c1:j<ρ1.length:=(List.getElem?_eq_some_iff.mp q2).1;have b2:k<a2.length:=by rw[l2,Zd];omega
           rw[vZ hj hk (d:=a2[k]) (by simp[b2]) c1]at a7;cases a7;obtain⟨v,q3,q4,q5⟩:=s2.sl k a2[k] (fJ (by simp[b2]));have q3:=lE q3;rw[Zm 1.10]at q3;refine⟨v,c5 k j v hk q3,?_,q5⟩;rw[PJ hj hk];refine conv _ _ _ (b4.imp id λz=>yW z.2 (by simp[b2]) c4) q5 q4
          .rw[pN a3]at a7
           obtain⟨v,q1,q2,q3⟩:=Z.sl j d0 a7;have a6:=(by simpa[clean]using q3:az d0=ag/\au d0=ag);refine⟨v,q1,?_,q3⟩;rw[Bm a3];exact q2.mono ev (.inl a6.1) (.inl a6.2) λc B u hu=>kept c u hu (a0 a3 B)
         refine q v H2 Mc (back S1 js Sc) ⟨?_,d2,?_,?_,?_,?_,?_⟩ (conv _ _ _ (b4.imp id λz=>z.1) c2 r2) n2 ?_
         .rw[yc];exact Z.len
         .intro j a7
          by_cases a3:j∈js
          .obtain⟨k,hk⟩:=acJ.mp a3
           obtain⟨dd,q1,q2⟩:=g1 k j hk;have c1:j<ρ1.length:=(List.getElem?_eq_some_iff.mp q2).1;have c4:k<js.length:=(List.getElem?_eq_some_iff.mp hk).1;have b2:k<a2.length:=by rw[l2,Zd];omega
           exact absurd (vZ hj hk (d:=a2[k]) (by simp[b2]) c1) (a7 _)
          .rw[Bm a3]
           exact Z.em j λd0=>by have:=a7 d0;rwa[pN a3]at this
         .intro j
          unfold back;split
          .exact s2.nd _
          .exact Z.nd j
         .intro i k a y1 y2
          rcases j7 y1 with⟨i1,e1,z1⟩|⟨e1,z1⟩<;>rcases j7 y2 with⟨i2,e2,z2⟩|⟨e2,z2⟩
          .have:=s2.dj i1 i2 a z1 z2
           rw[this,e2]at e1;exact(Zr e1).symm
          .rcases a5 z1 with y|y
           .exact absurd y (a0 e2 z2)
           .exact absurd y (b7 z2)
          .rcases a5 z2 with y|y
           .exact absurd y (a0 e1 z1)
           .exact absurd y (b7 z1)
          .exact Z.dj i k a z1 z2
         .intro j a Y z
          rcases j7 z with⟨i,_,y⟩|⟨hn,y⟩
          .rcases Y with Y|Y
           .exact s2.fdj i a (.inl Y) y
           .rcases a5 y with y|y
            .exact b6 Y y
            .obtain⟨o,I,_⟩:=Z.fdm a (.inr Y)
             rw[y]at I;cases I
          .rcases Y with Y|Y
           .rcases c0 a Y with y'|y'
            .exact a0 hn y y'
            .exact b7 y y'
           .exact Z.fdj j a (.inr Y) y
         .intro a Y
          rcases Y with Y|Y
          .exact r2.dom a Y
          .obtain⟨o,I,hm⟩:=Z.fdm a (.inr Y)
           exact⟨o,kept a o I (b6 Y),hm⟩
         .have ef2:Eff ob H1 H2 S1 (back S1 js Sc) Mc:=by
           refine⟨λb u U n=>kept b u U λz=>n (a1 z),λi hi=>Bm (λz=>by rw[I i z]at hi;cases hi),λi a hi z=>?_,λa Y=>(c0 a Y).imp (λy=>a1 y) id⟩;rcases j7 z with⟨k,_,y⟩|⟨_,y⟩
           .exact(a5 y).imp (λy=>a1 y) id
           .exact .inl ⟨i,hi,y⟩
          exact(c6.trans ef2).same (Same.refl _) λc B=>.inl (Yn _ B)
       .cases e
     .cases e
 .cases e
theorem eO(js:List Nat){oc:Nat->Bool}{F:List D->Option (D×List D)}(C:∀c,Cal (X c).prog (X c).w (X c).K (X c).mg (X c).base k x ps (spI G oc pr F))(Z:∀c,jh k (X c).A)(Y:PVM X G ob (e::es) js f)(B:js.Nodup:=by decide)(I:∀j∈js,ob j=ag:=by decide)(V:∀i,i<js.length->pr i=ag:=by decide)(U:∀c,Gl (X c) x:=by intro _;rfl)(z:1.21=ae:=by decide)(O:∀c,YD (e::es) (X c).env=(ae,eval e (X c).env)::YD es (X c).env:=by intro _;rfl)(q:∀c,(Z4 pos (YD es (X c).env)).any (·.1)=ae:=by intro _;rfl) :
 PVe X G ob (.Call (.Name x p) (e::es) [] pos) (eIo F js f):=let⟨t,a1,a2⟩:=Y.ex;⟨_,λc=>MJ (C c) (Z c) (U c) (a1 c) z (O c) (q c),T6 B I V a2⟩
def kids:D->List D
 |.tup ds=>ds
 |.lst _ ds=>ds
 |.dct _ _ ds=>ds
 |.ins _ _ _ ds=>ds
 |_=>[]
def zN:D->List D->D
 |.tup _,es=>.tup es
 |.lst m _,es=>.lst m es
 |.dct m ks _,es=>.dct m ks es
 |.ins m c fs _,es=>.ins m c fs es
 |d,_=>d
def d_:List Nat->D->Option D
 |[],d=>ac d
 |j::p,d=>((kids d)[j]?).bind (d_ p)
def cY:List Nat->D->D->D
 |[],e,_=>e
 |j::p,e,d=>match(kids d)[j]? with
  |some c=>zN d ((kids d).set j (cY p e c))
  |none=>d
theorem Evo.trans{H1:Hp}{W1:Wn}(a:Evo H H1 W W1)(b:Evo H1 H2 W1 Z):Evo H H2 W Z:=⟨λc u h f=>let⟨h1,f1⟩:=a.k c u h f;b.k c u h1 f1,λc xs h=>b.t c xs (a.t c xs h)⟩
structure Foc(G:Gc)(H:Hp)(W:Wn)(d0:D)(v0:V)(L:List Addr)(p:List Nat)(d:D)(v:V)(M:List Addr):Prop where
 r:Rep G H W d v M
 b:∃A B,L=A++(M++B)/\∀H' W' d' M',Evo H H' W W'->(∀c∈A++B,∀u,H c=ac u->H' c=ac u)->Rep G H' W' d' v M'->Rep G H' W' (cY p d' d0) v0 (A++(M'++B))
theorem Foc.nil(r:Rep G H W d v L):Foc G H W d v L [] d v L:=⟨r,[],[],by simp,λH' W' d' M' _ _ h=>by simpa[cY]using h⟩
variable{p:List Nat}{d0:D}
theorem Foc.mono{H1:Hp}{W1:Wn}{q:V}(f:Foc G H W d0 q L p d v M)(F:clean d=ag∨Up H H1 W W1)(e:Evo H H1 W W1)(k:∀c∈L,∀u,H c=ac u->H1 c=ac u):Foc G H1 W1 d0 q L p d v M:=by
 obtain⟨A,B,O,U⟩:=f.b;refine⟨?_,A,B,O,λH' W' d' M' e' k' Z=>U H' W' d' M' (e.trans e') (λc F u hu=>k' c F u (k c ?_ u hu)) Z⟩
 .rcases F with F|F
  .have hcc:=(by simpa[clean]using F:az d=ag/\au d=ag)
   exact f.r.mono e (.inl hcc.1) (.inl hcc.2) λc F u hu=>k c (by rw[O];simp[F]) u hu
  .exact f.r.up F
 .rw[O]
  simp![Yl]at F⊢;rcases F with z|z<;>simp[z]
theorem LR(p:List Nat)(j:Nat)(e:D):∀(d0:D){d:D},d_ p d0=ac d->(kids d)[j]?≠af->cY (p++[j]) e d0=cY p (cY [j] e d) d0:=by
 induction p with
 |nil=>intro d0 d h _;cases h;rfl
 |cons k p I=>
  intro d0 d h hn;simp![d_]at h;cases h1:(kids d0)[k]? with
  |none=>simp[h1]at h
  |some c=>
   have h:d_ p c=ac d:=by simpa[h1]using h
   rw[YW,cY,cY,h1];simp only;rw[I c h hn]
theorem L_(p:List Nat)(j:Nat):∀(d0:D){d:D},d_ p d0=ac d->d_ (p++[j]) d0=(kids d)[j]?:=by
 induction p with
 |nil=>
  intro d0 d h;cases h;simp![List.nil_append,d_];cases (kids d0)[j]?<;>rfl
 |cons k p I=>
  intro d0 d h;simp![d_]at h;cases h1:(kids d0)[k]? with
  |none=>simp[h1]at h
  |some c=>
   have h:d_ p c=ac d:=by simpa[h1]using h
   rw[YW,d_,h1];exact I c h
theorem kO(h:clean (.lst m ds)=ag):aB ds=ag/\aC ds=ag:=by simp[clean,az,au]at h;exact⟨h.1.2,h.2.2⟩
theorem iH{a b:List D}:aB (a++b)=(aB a&&aB b):=by
 induction a with
 |nil=>rfl
 |cons d r I=>rw[YW,aB,aB,I,afx]
theorem iG{a b:List D}:aC (a++b)=(aC a&&aC b):=by
 induction a with
 |nil=>rfl
 |cons d r I=>rw[YW,aC,aC,I,afx]
variable{c:D}
theorem aG.kid(Z:aG G H W ds xs L)(U:aB ds=ag)(I:aC ds=ag)(e:ds[j]? =ac c) :
  ∃x A M B,xs[j]? =ac x/\L=A++(M++B)/\Rep G H W c x M/\∀H' W' d' M',Evo H H' W W'->(∀b∈A++B,∀u,H b=ac u->H' b=ac u)->Rep G H' W' d' x M'->aG G H' W' (ds.set j d') xs (A++(M'++B)):=by
 obtain⟨P,Q,x,ys,zs,z,O,LB,rfl,q,rfl,F,rfl,h1,h2,Y⟩:=Z.at e;simp![iH,iG,aB,aC,YS]at U I;refine⟨x,z,O,LB,by rw[ZM 1.10,F,aaR];rfl,rfl,h2,λH' W' d' M' ev kp r'=>?_⟩;rw[←q,abI _ _ (YB _),aaR];exact aG.append (h1.mono ev (.inl U.1) (.inl I.1) λb U u hu=>kp b (Yv _ U) u hu) (aG.cons r' (Y.mono ev (.inl U.2.2) (.inl I.2.2) λb U u hu=>kp b (Yn _ U) u hu))
theorem Foc.lst{ds:List D}(r:Rep G H W (.lst .own ds) v L)(q:clean (.lst .own ds)=ag)(e:ds[j]? =ac c):∃a xs x M,v= .ref a/\H a=ac (.lst xs)/\xs.length=ds.length/\xs[j]? =ac x/\Foc G H W (.lst .own ds) v L [j] c x M:=by
 rw[Rep]at r;obtain⟨a,xs,N,rfl,Z,Y,rfl⟩:=r;obtain⟨h1,h2⟩:=kO q;obtain⟨x,A,M,B,F,rfl,rx,U⟩:=Z.kid h1 h2 e;refine⟨a,xs,x,M,rfl,Y,Z.length.symm,F,rx,a::A,B,by simp,λH' W' d' M' I kp O=>?_⟩;have z:cY [j] d' (.lst .own ds)= .lst .own (ds.set j d'):=by simp![cY,kids,e,zN]
 rw[z,Rep];exact⟨a,xs,A++(M'++B),rfl,U H' W' d' M' I (λb U u hu=>kp b (Y8 _ U) u hu) O,kp a (by simp) _ Y,by simp⟩
theorem Foc.tup{ds:List D}(r:Rep G H W (.tup ds) v L)(O:clean (.tup ds)=ag)(e:ds[j]? =ac c):∃a xs x M,v= .ref a/\H a=ac (.tup xs)/\xs.length=ds.length/\xs[j]? =ac x/\Foc G H W (.tup ds) v L [j] c x M:=by
 rw[Rep]at r;obtain⟨a,xs,rfl,Y,Z⟩:=r;have q:aB ds=ag/\aC ds=ag:=by simpa[clean,az,au]using O
 obtain⟨x,A,M,B,F,rfl,rx,U⟩:=Z.kid q.1 q.2 e;refine⟨a,xs,x,M,rfl,Y,Z.length.symm,F,rx,A,B,rfl,λH' W' d' M' I kp V=>?_⟩;have z:cY [j] d' (.tup ds)= .tup (ds.set j d'):=by simp![cY,kids,e,zN]
 rw[z,Rep];exact⟨a,xs,rfl,I.t a xs Y,U H' W' d' M' I kp V⟩
variable{ks:List Key}
theorem Foc.dct(r:Rep G H W (.dct .own ks ds) v L)(V:clean (.dct .own ks ds)=ag)(e:ds[j]? =ac c):∃a kvs x M,v= .ref a/\H a=ac (.dK kvs)/\(kvs.map (·.1)=ks/\ks.Nodup)/\(kvs.map (·.2))[j]? =ac x/\Foc G H W (.dct .own ks ds) v L [j] c x M:=by
 rw[Rep]at r;obtain⟨a,kvs,N,rfl,O,Z,Y,rfl⟩:=r;have q:aB ds=ag/\aC ds=ag:=by simp[clean,az,au]at V;exact V
 obtain⟨x,A,M,B,F,rfl,rx,U⟩:=Z.kid q.1 q.2 e;refine⟨a,kvs,x,M,rfl,Y,O,F,rx,a::A,B,by simp,λH' W' d' M' I kp r'=>?_⟩;have z:cY [j] d' (.dct .own ks ds)= .dct .own ks (ds.set j d'):=by simp![cY,kids,e,zN]
 rw[z,Rep];exact⟨a,kvs,A++(M'++B),rfl,O,U H' W' d' M' I (λb U u hu=>kp b (Y8 _ U) u hu) r',kp a (by simp) _ Y,by simp⟩
theorem Foc.trans{q x:V}{F:List Addr}(f:Foc G H W d0 q F p d v L)(g:Foc G H W d v L [j] c x M)(hp:d_ p d0=ac d)(hj:(kids d)[j]?≠af):Foc G H W d0 q F (p++[j]) c x M:=by
 obtain⟨A,B,O,U⟩:=f.b;obtain⟨A',B',a0,Y⟩:=g.b;refine⟨g.r,A++A',B'++B,by rw[O,a0];simp,λH' W' d' M' I kp Z=>?_⟩;rw[LR p j d' d0 hp hj];have:=U H' W' (cY [j] d' d) (A'++(M'++B')) I (λb U u hu=>kp b ?_ u hu) (Y H' W' d' M' I (λb U u hu=>kp b ?_ u hu) Z)
 .simpa using this
 .simp![Yl]at U⊢
  rcases U with z|z<;>simp[z]
 .simp![Yl]at U⊢
  rcases U with z|z<;>simp[z]
def RfP(G:Gc)(ob:Nat->Bool)(t:TE)(i:Nat)(pf:En->Option (List Nat)):Prop:=∀(ρ:En)(p:List Nat),pf ρ=ac p->∀(σ:L2.St)(H:Hp)(S:Ad)(Fr:Addr->Prop),Sta G H ob ρ σ S Fr->∃d0 d,ρ[i]? =ac (ac d0)/\d_ p d0=ac d/\∀Q:VK,
 (∀v q H' M,Same H H'->σ[i]? =ac (ac q)->Foc G H' (wn ob S Fr) d0 q (S i) p d v M->Q v H')->t σ H Q
structure PVP{ι:Type}(X:ι->Cx)(G:Gc)(ob:Nat->Bool)(e:Expr)(i:Nat)(pf:En->Option (List Nat)):Prop where
 mk::(ex:∃t,(∀c,PE (X c) e t)/\RfP G ob t i pf)
def eV(i:Nat):En->Option (List Nat):=λρ=>match ρ[i]? with
 |some (ac _)=>ac []
 |_=>af
theorem eG(i:Nat)(z:∀c,(X c).N[i]? =ac x:=by intro _;rfl)(B:∀c,Vis (X c).env.scope x:=by intro _;first|exact aab rfl|exact ZC (aab rfl)|exact ZC (ZC rfl))(hd:1.21=ae:=by decide)
  (I:(x==("__classdict__":Str))=ae:=by decide):PVP X G ob (.Name x pos) i (eV i):=by
 refine⟨_,λc=>pv i (z c) (B c) hd I,λρ p e σ H S Fr s=>?_⟩;unfold eV at e;split at e
 .rename_i d h1
  cases e;obtain⟨v,h2,Y,F⟩:=s.sl i d h1;exact⟨d,d,h1,rfl,λQ q=>⟨v,h2,q v v H _ (Same.refl H) h2 (.nil Y)⟩⟩
 .cases e
theorem rR:∀{p:List Nat}{d:D},clean d0=ag->d_ p d0=ac d->clean d=ag:=by
 intro p
 induction p generalizing d0 with
 |nil=>intro d h e;cases e;exact h
 |cons j p I=>
  intro d h e;simp![d_]at e;cases h1:(kids d0)[j]? with
  |none=>simp[h1]at e
  |some c=>
   have e:d_ p c=ac d:=by simpa[h1]using e
   refine I ?_ e;have O:aB (kids d0)=ag/\aC (kids d0)=ag:=by
    cases d0<;>simp[kids,clean,az,au,aB,aC]at h h1⊢<;>(try exact h)<;>exact⟨h.1.2,h.2.2⟩
   simp[clean,iJ O.1 h1,iM O.2 h1]
def cQ:D->Option Key
 |.int i=>ac (.inl i)
 |.str x=>ac (.inr x)
 |_=>af
def cP(ks:List Key)(k:Key):Option Nat:=ks.findIdx? λx=>decide (x=k)
def ixP:D->D->Option Nat
 |.lst .own ds,.int i=>ixN ds.length i
 |.tup ds,.int i=>ixN ds.length i
 |.dct .own ks ds,k=>(cQ k).bind λk=>(cP ks k).bind λj=>if j<ds.length then ac j else af
 |_,_=>af
def qy(i:Nat)(pf:En->Option (List Nat))(fk:En->Option D):En->Option (List Nat):=λρ=>(pf ρ).bind λp=>(fk ρ).bind λk=>match ρ[i]? with
 |some (ac d0)=>(d_ p d0).bind λd=>(ixP d k).bind λj=>if j<(kids d).length then ac (p++[j])else af
 |_=>af
def Ro:R2:=λx y H Q=>∃a v,x= .ref a/\mX H a y (ac v)/\Q v H
variable{Y:Cx}
theorem Ri(hu:Y.A.units+1<cLine):IxR Y Ro:=by
 intro U O pins s σ H x y v u Q I rx B h hs;obtain⟨a,z,rfl,g,q⟩:=h;cases rx;exact tail_any (DN I g) PySem.F.slot_dict_getitem.lookup (Ig hu I g B λZ s3 I3 V=>⟨z,H,I3,V,q⟩) hs
theorem Mf(hu:Y.A.units+1<cLine):IxR Y (λx y H Q=>rIx Y.K x y H Q∨Ro x y H Q):=Tg.or (Ri hu)
theorem gj:∀{kvs:List (Key×V)}{k:Key}{j:Nat},cP (kvs.map (·.1)) k=ac j->iu kvs k=(kvs.map (·.2))[j]?
 |[],k,j,h=>by simp[cP]at h
 |(k0,v)::r,k,j,h=>by
  simp![Ys,cP,ac9]at h;by_cases e:k0=k
  .subst e
   simp at h;subst h;simp[iu]
  .rw[Zc e]at h
   simp![ZV,abo]at h;cases h1:(r.map (·.1)).findIdx? (λx=>decide (x=k))with
   |none=>rw[h1]at h;cases h
   |some i=>
    rw[h1]at h;have:i+1=j:=by simpa using h
    subst this;have I:=gj (kvs:=r) (k:=k) (j:=i) h1;simp![iu,aaQ,Zc e,Ys,YJ];exact I
theorem iI:∀{kvs:List (Key×V)}{k:Key},cP (kvs.map (·.1)) k=af->iu kvs k=af
 |[],k,h=>rfl
 |(k0,v)::r,k,h=>by
  simp![Ys,cP,ac9]at h;by_cases e:k0=k
  .subst e
   simp at h
  .rw[Zc e]at h
   simp![ZV,abo]at h;have h1:(r.map (·.1)).findIdx? (λx=>decide (x=k))=af:=by
    cases h1:(r.map (·.1)).findIdx? (λx=>decide (x=k))with
    |none=>rfl
    |some i=>rw[h1]at h;cases h
   have I:=iI (kvs:=r) (k:=k) h1;simp![iu,aaQ,Zc e];exact I
theorem ir{k:Key}(r:Rep G H W d v L)(h:cQ d=ac k):v=kV k:=by
 cases d<;>simp[cQ]at h<;>subst h<;>rw[Rep]at r<;>exact r.1
variable{pf:En->Option (List Nat)}{fk:En->Option D}
theorem QF{to ti:TE}{i0:Nat}(I:RfP G ob to i0 pf)(hi:RfE G ob ti fk):RfP G ob (tOp (λx y H Q=>rIx G.K x y H Q∨Ro x y H Q) to ti) i0 (qy i0 pf fk):=λρ p e σ H S Fr s=>by
 unfold qy at e;cases h1:pf ρ with
 |none=>simp[h1]at e
 |some p0=>
  cases h2:fk ρ with
  |none=>simp[h1,h2]at e
  |some k=>
   rw[h1,h2]at e;simp![gD]at e;split at e
   .rename_i d0 h3
    cases h4:d_ p0 d0 with
    |none=>simp[h4]at e
    |some d=>
     cases U:ixP d k with
     |none=>simp[h4,U]at e
     |some j=>
      by_cases h6:j<(kids d).length
      .obtain rfl:p0++[j]=p:=by simpa[h4,U,h6]using e
       obtain⟨a7,d',g1,g2,g3⟩:=I ρ p0 h1 σ H S Fr s;rw[h3]at g1;cases g1;rw[h4]at g2;cases g2;have a1:clean d=ag:=rR (let⟨_,_,_,h⟩:=s.sl i0 d0 h3;h) h4;refine⟨d0,(kids d)[j],h3,by rw[L_ p0 j d0 h4,Yo h6],λQ q=>?_⟩;refine g3 _ λv v0 H1 M Z a3 a5=>?_;have a2:Sta G H1 ob ρ σ S Fr:=s.grow Z λa z=>.inl z;refine hi ρ k h2 σ H1 _ a2.rel a2.wok _ λy H2 L2 s2 B fy ny=>?_;have up:Up H1 H2 (wn ob S Fr) (wn ob S Fr):=Up.same s2;have a0:=a5.mono (.inr up) up.evo λc _ u hu=>s2 c u hu;have V:(kids d)[j]? =ac (kids d)[j]:=Yo h6;have fin:∀x M',Foc G H2 (wn ob S Fr) d v M [j] (kids d)[j] x M'->Q x H2:=λx M' f=>q x v0 H2 M' (Z.trans s2) a3 (a0.trans f h4 (by rw[V];simp));cases d with
       |lst m ds=>
        cases m<;>(try(simp[ixP]at U));cases k<;>(try(simp[ixP]at U));rename_i n;rw[Rep]at B;obtain⟨a,xs,x,M',rfl,Y,hl,F,f⟩:=Foc.lst a0.r a1 V;refine .inl (.inl ⟨a,xs,n,x,rfl,B.1,SqL.of Y,?_,fin x M' f⟩);unfold atI;rw[hl,U];exact F
       |tup ds=>
        cases k<;>(try(simp[ixP]at U));rename_i n;rw[Rep]at B;obtain⟨a,xs,x,M',rfl,Y,hl,F,f⟩:=Foc.tup a0.r a1 V;refine .inl (.inr (.inl ⟨a,xs,n,x,rfl,B.1,SqT.of Y,?_,fin x M' f⟩));unfold atI;rw[hl,U];exact F
       |dct m ks ds=>
        cases m<;>(try(simp[ixP]at U));cases O:cQ k with
        |none=>simp[O]at U
        |some kk=>
         cases F:cP ks kk with
         |none=>simp[O,F]at U
         |some j'=>
          have:j'=j:=by
           have:=U;simp[O,F]at this;exact this.2
          subst this;obtain⟨a,kvs,x,M',rfl,Y,a6,a4,f⟩:=Foc.dct a0.r a1 V;refine .inr ⟨a,x,rfl,?_,fin x M' f⟩;have:=ir B O;subst this;have hv:=gj (kvs:=kvs) (k:=kk) (j:=j') (by rw[a6.1];exact F);rw[a4]at hv;rw[←hv];exact mX.k Y
       |_=>simp[ixP]at U
      .simp[h4,U,h6]at e
   .cases e
theorem uy{o i:Expr}{z:Nat}(hu:∀c,(X c).A.units+1<cLine)(I:PVP X G ob o z pf)(hi:PV X G ob i fk)(hs:um i:=by exact λ_ _=>rfl)(q:∀c,(X c).K=G.K:=by intro _;rfl):PVP X G ob (.Subscript o i pos) z (qy z pf fk):=let⟨t,a1,a2⟩:=I.ex;let⟨u,b1,b2⟩:=hi.ex;⟨_,λc=>(by rw[←q c];exact Mt (Mf (hu c)) (a1 c) (b1 c) hs),QF a2 b2⟩
def MuV(G:Gc)(r:V->List V->Hp->VK->Prop)(op:D->List D->Option (D×D)):Prop:=∀(d:D)(es:List D)(d' res:D),op d es=ac (d',res)->∀(v:V)(xs:List V)(H:Hp)(W:Wn)(M N:List Addr),Rep G H W d v M->aG G H W es xs N->(M++N).Nodup->(∀a∈M,¬W.free a)->
 clean d=ag->aB es=ag->aC es=ag->∀Q:VK,(∀x H' M' R,(∀b u,H b=ac u->b∉M->H' b=ac u)->(∀W',Evo H H' W W'->Rep G H' W' d' v M'/\Rep G H' W' res x R)->(M'++R).Nodup->(∀a∈M'++R,a∈M∨a∈N∨H a=af)->clean d'=ag->clean res=ag->Q x H')->r v xs H Q
theorem Gv{e:D}:∀{p:List Nat},clean d0=ag->clean e=ag->clean (cY p e d0)=ag:=by
 intro p
 induction p generalizing d0 with
 |nil=>intro _ h;exact h
 |cons j p I=>
  intro h O;simp![cY];cases h1:(kids d0)[j]? with
  |none=>exact h
  |some c=>
   have B:clean c=ag:=rR (p:=[j]) h (by simp[d_,h1]);have:=I (d0:=c) B O;have z:∀{ds:List D}{j:Nat}{x:D},aB ds=ag->aC ds=ag->clean x=ag->aB (ds.set j x)=ag/\aC (ds.set j x)=ag:=λ{ds}=>by
    induction ds with
    |nil=>intro j x a b _;simp[a,b]
    |cons y r q=>
     intro j x a b F;simp![aB,aC,YS]at a b;have U:=(by simpa[clean]using F:az x=ag/\au x=ag);cases j with
     |zero=>simp[aB,aC,U,a,b]
     |succ j=>simp![Ze,aB,aC,YS];exact⟨⟨a.1,(q a.2 b.2 F).1⟩,⟨b.1,(q a.2 b.2 F).2⟩⟩
   cases d0<;>simp![kids,List.getElem?_nil]at h1<;>(try cases h1)<;>simp![zN,kids]<;>simp[clean,az,au]at h⊢
   .exact⟨(z h.1 h.2 this).1,(z h.1 h.2 this).2⟩
   .exact⟨⟨h.1.1,(z h.1.2 h.2.2 this).1⟩,h.2.1,(z h.1.2 h.2.2 this).2⟩
   .exact⟨⟨h.1.1,(z h.1.2 h.2.2 this).1⟩,h.2.1,(z h.1.2 h.2.2 this).2⟩
   .exact⟨⟨h.1.1,(z h.1.2 h.2.2 this).1⟩,h.2.1,(z h.1.2 h.2.2 this).2⟩
variable{res:D}
theorem Sta.mut{Fr:Addr->Prop}{d':D}{v0 x:V}{N M' R:List Addr}(s:Sta G H ob ρ σ S (plus N Fr))(e:ρ[i]? =ac (ac d0))(b1:σ[i]? =ac (ac v0))(b4:Foc G H (wn ob S (plus N Fr)) d0 v0 (S i) p d v M)
  (hF:∀a∈N,¬Fr a) (kp:∀b u,H b=ac u->b∉M->H' b=ac u) (Z:∀W',Evo H H' (wn ob S (plus N Fr)) W'->Rep G H' W' d' v M'/\Rep G H' W' res x R) (nd:(M'++R).Nodup) (gr:∀a∈M'++R,a∈M∨a∈N∨H a=af) (hc:clean d'=ag) :
  ∃S',Sta G H' ob (ρ.set i (ac (cY p d' d0))) σ S' (plus R Fr)/\Rep G H' (wn ob S' (plus R Fr)) res x R/\(∀j,j≠i->S' j=S j)/\(∀a∈S' i,a∈S i∨a∈N∨H a=af)/\(∀a∈R,a∈S i∨a∈N∨H a=af)/\(∀b u,H b=ac u->b∉S i->H' b=ac u):=by
 obtain⟨A,B,O,U⟩:=b4.b;have b0:i<ρ.length:=(List.getElem?_eq_some_iff.mp e).1;have a1:∀a∈M,a∈S i:=λa Y=>by rw[O];simp[Y]
 have a2:∀a∈A++B,a∈S i/\a∉M:=λa Y=>by
  have hn:=s.nd i;rw[O]at hn;have h1:=List.nodup_append.mp hn;have h2:=List.nodup_append.mp h1.2.1;rcases Yl.mp Y with z|z
  .exact⟨by rw[O];simp[z],λy=>h1.2.2 a z a (by simp[y]) rfl⟩
  .exact⟨by rw[O];simp[z],λy=>h2.2.2 a y a z rfl⟩
 have a7:∀a∈M'++R,∀j,j≠i->a∉S j:=λa Y j hj z=>by
  rcases gr a Y with y|y|y
  .exact hj (s.dj j i a z (a1 a y))
  .exact s.fdj j a (.inl y) z
  .obtain⟨o,I,_⟩:=s.mu z;rw[y]at I;cases I
 have b2:∀a∈M'++R,¬Fr a:=λa Y z=>by
  rcases gr a Y with y|y|y
  .exact s.fdj i a (.inr z) (a1 a y)
  .exact hF a y z
  .obtain⟨o,I,_⟩:=s.fdm a (.inr z);rw[y]at I;cases I
 have a3:∀a∈M'++R,a∉A++B:=λa Y z=>by
  obtain⟨z1,z2⟩:=a2 a z;rcases gr a Y with y|y|y
  .exact z2 y
  .exact s.fdj i a (.inl y) z1
  .obtain⟨o,I,_⟩:=s.mu z1;rw[y]at I;cases I
 let S':=eY S i (A++(M'++B))
 have a5:∀a∈S' i,a∈S i∨a∈N∨H a=af:=λa Y=>by
  have Y:a∈eY S i (A++(M'++B)) i:=Y;rw[dm]at Y;simp![Yl]at Y;rcases Y with z|z|z
  .exact .inl (a2 a (Yv _ z)).1
  .exact(gr a (Yv _ z)).imp (a1 a) id
  .exact .inl (a2 a (Yn _ z)).1
 have a6:∀b u,H b=ac u->(wn ob S (plus N Fr)).free b->H' b=ac u/\(wn ob S' (plus R Fr)).free b:=λb u U f=>by
  have nS:∀j,b∉S j:=λj z=>by
   cases I:ob j with
   |false=>exact f.2.1 ⟨j,I,z⟩
   |true=>exact f.2.2 ⟨j,I,z⟩
  have a9:∀j,b∉S' j:=λj z=>by
   by_cases hj:j=i
   .subst hj
    rcases a5 b z with y|y|y
    .exact nS j y
    .exact f.1 (.inl y)
    .rw[U]at y;cases y
   .have z:b∈eY S i (A++(M'++B)) j:=z
    rw[dG hj]at z;exact nS j z
  refine⟨kp b u U λz=>nS i (a1 b z),λz=>?_,λ⟨j,_,z⟩=>a9 j z,λ⟨j,_,z⟩=>a9 j z⟩;rcases z with z|z
  .rcases gr b (Yn _ z)with y|y|y
   .exact nS i (a1 b y)
   .exact f.1 (.inl y)
   .rw[U]at y;cases y
  .exact f.1 (.inr z)
 have ev:Evo H H' (wn ob S (plus N Fr)) (wn ob S' (plus R Fr)):=⟨a6,λb xs h=>by
  have no:∀u,H b=ac u->muO u=ae->H' b=ac u:=λu hu mu=>kp b u hu λz=>by
   obtain⟨o,I,hm⟩:=s.mu (a1 b z);rw[hu]at I;cases I;rw[mu]at hm;cases hm
  exact no _ h rfl⟩
 obtain⟨r1,r2⟩:=Z _ ev;have a8:=List.nodup_append.mp nd;refine⟨S',⟨by simp[s.len],λj dj hj=>?_,λj hj=>?_,λj=>?_,λj k a h1 h2=>?_,λj a h1 h2=>?_,λa Y=>?_⟩,r2,λj hj=>dG hj,a5,λa Y=>(gr a (Yn _ Y)).imp (a1 a) id,λb u U n=>kp b u U λz=>n (a1 b z)⟩
 .by_cases a0:j=i
  .subst a0
   have:cY p d' d0=dj:=by simpa[b0]using hj
   subst this;have b3:clean d0=ag:=let⟨_,_,_,h⟩:=s.sl j d0 e;h;refine⟨v0,b1,?_,Gv b3 hc⟩;show Rep G H' _ _ v0 (eY S j (A++(M'++B)) j);rw[dm];exact U H' _ d' M' ev (λc hc u hu=>kp c u hu (a2 c hc).2) r1
  .rw[List.getElem?_set_ne (Zy a0)]at hj
   obtain⟨w,q1,q2,F⟩:=s.sl j dj hj;have q:=(by simpa[clean]using F:az dj=ag/\au dj=ag);refine⟨w,q1,?_,F⟩;show Rep G H' _ dj w (eY S i (A++(M'++B)) j);rw[dG a0];exact q2.mono ev (.inl q.1) (.inl q.2) λc hc u hu=>kp c u hu λz=>a0 (s.dj j i c hc (a1 c z))
 .by_cases a0:j=i
  .subst a0
   exact absurd (by simp[b0]) (hj (cY p d' d0))
  .show eY S i (A++(M'++B)) j=[]
   rw[dG a0];exact s.em j λd1=>by have:=hj d1;rwa[List.getElem?_set_ne (Zy a0)]at this
 .by_cases a0:j=i
  .subst a0
   show(eY S j (A++(M'++B)) j).Nodup;rw[dm];have hn:=s.nd j;rw[O]at hn;have h1:=List.nodup_append.mp hn;have h2:=List.nodup_append.mp h1.2.1;refine dR h1.1 (dR a8.1 h2.2.1 λa Y z=>a3 a (Yv _ Y) (Yn _ z)) λa Y z=>?_;rcases Yl.mp z with z|z
   .exact a3 a (Yv _ z) (Yv _ Y)
   .exact h1.2.2 a Y a (by simp[z]) rfl
  .show(eY S i (A++(M'++B)) j).Nodup
   rw[dG a0];exact s.nd j
 .have key:∀{j:Nat}{a:Addr},j≠i->a∈S j->a∈S' i->False:=λ{j a} hj z1 z2=>by
   have z2:a∈eY S i (A++(M'++B)) i:=z2;rw[dm]at z2;simp![Yl]at z2;rcases z2 with z|z|z
   .exact hj (s.dj j i a z1 (a2 a (Yv _ z)).1)
   .exact a7 a (Yv _ z) j hj z1
   .exact hj (s.dj j i a z1 (a2 a (Yn _ z)).1)
  by_cases a0:j=i<;>by_cases a4:k=i
  .rw[a0,a4]
  .subst a0
   have h2:a∈eY S j (A++(M'++B)) k:=h2;rw[dG a4]at h2;exact(key a4 h2 h1).elim
  .subst a4
   have h1:a∈eY S k (A++(M'++B)) j:=h1;rw[dG a0]at h1;exact(key a0 h1 h2).elim
  .have h1:a∈eY S i (A++(M'++B)) j:=h1
   have h2:a∈eY S i (A++(M'++B)) k:=h2;rw[dG a0]at h1;rw[dG a4]at h2;exact s.dj j k a h1 h2
 .by_cases a0:j=i
  .subst a0
   have h2:a∈eY S j (A++(M'++B)) j:=h2;rw[dm]at h2;simp![Yl]at h2;rcases h1 with h1|h1
   .rcases h2 with z|z|z
    .exact a3 a (Yn _ h1) (Yv _ z)
    .exact a8.2.2 a z a h1 rfl
    .exact a3 a (Yn _ h1) (Yn _ z)
   .rcases h2 with z|z|z
    .exact s.fdj j a (.inr h1) (a2 a (Yv _ z)).1
    .exact b2 a (Yv _ z) h1
    .exact s.fdj j a (.inr h1) (a2 a (Yn _ z)).1
  .have h2:a∈eY S i (A++(M'++B)) j:=h2
   rw[dG a0]at h2;rcases h1 with h1|h1
   .exact a7 a (Yn _ h1) j a0 h2
   .exact s.fdj j a (.inr h1) h2
 .rcases Y with Y|Y
  .exact r2.dom a Y
  .obtain⟨o,I,hm⟩:=s.fdm a (.inr Y)
   exact⟨o,kp a o I λz=>s.fdj i a (.inr Y) (a1 a z),hm⟩
section
variable{ι:Type}{X:ι->Cx}{G:Gc}{ob P:Nat->Bool}
theorem qW{G:Gc}{r:V->List V->Hp->VK->Prop}{op:D->List D->Option (D×D)}{H:Hp}{ρ:En}{σ:L2.St}{S:Ad}{Fr:Addr->Prop}{i:Nat}{p:List Nat}{d0 d d' res:D}{v v0:V}{M N:List Addr}{es:List D}{xs:List V}(hm:MuV G r op)(s:Sta G H ob ρ σ S (plus N Fr))(e:ρ[i]? =ac (ac d0))(a2:σ[i]? =ac (ac v0))(hp:d_ p d0=ac d)
  (F:Foc G H (wn ob S (plus N Fr)) d0 v0 (S i) p d v M) (re:aG G H (wn ob S (plus N Fr)) es xs N) (nd:N.Nodup) (hF:∀a∈N,¬Fr a) (U:aB es=ag) (z:aC es=ag) (h:op d es=ac (d',res)) {Q:VK}
  (q:∀x H' R S',Sta G H' ob (ρ.set i (ac (cY p d' d0))) σ S' (plus R Fr)->Rep G H' (wn ob S' (plus R Fr)) res x R->R.Nodup->clean res=ag->(∀j,j≠i->S' j=S j)->(∀a∈S' i,a∈S i∨a∈N∨H a=af)->(∀a∈R,a∈S i∨a∈N∨H a=af)->(∀b u,H b=ac u->b∉S i->H' b=ac u)->Q x H'):r v xs H Q:=by
 have a0:aal M (S i):=by
  obtain⟨A,B,O,_⟩:=F.b;rw[O];exact(aar M B).trans (ZK A _)
 have a4:clean d0=ag:=let⟨_,_,_,h⟩:=s.sl i d0 e;h;refine hm d es d' res h v xs H _ M N F.r re (dR (a0.nodup (s.nd i)) nd λa h1 h2=>s.fdj i a (.inl h2) (a0.subset h1)) (λa Y f=>?_) (rR a4 hp) U z Q λx H' M' R kp Z I gr a1 a3=>?_
 .cases ho:ob i with
  |false=>exact f.2.1 ⟨i,ho,a0.subset Y⟩
  |true=>exact f.2.2 ⟨i,ho,a0.subset Y⟩
 .obtain⟨S',q1,q2,q3,q4,q5,q6⟩:=s.mut e a2 F hF kp Z I gr a1
  exact q x H' R S' q1 q2 (List.nodup_append.mp I).2.1 a3 q3 q4 q5 q6
def upS(op:D->List D->Option (D×D))(i:Nat)(p:List Nat)(es:List D)(ρ:En):Option (D×En):=match ρ[i]? with
 |some (ac d0)=>(d_ p d0).bind λd=>if aB es=ag/\aC es=ag then(op d es).map λq=>(q.2,ρ.set i (ac (cY p q.1 d0)))else af
 |_=>af
theorem Gb{op:D->List D->Option (D×D)}{i:Nat}{p:List Nat}{es:List D}{ρ z:En}{res:D}(h:upS op i p es ρ=ac (res,z)):∃d0 d d',ρ[i]? =ac (ac d0)/\d_ p d0=ac d/\aB es=ag/\aC es=ag/\op d es=ac (d',res)/\z=ρ.set i (ac (cY p d' d0)):=by
 unfold upS at h;split at h
 .rename_i d0 h1
  cases h2:d_ p d0 with
  |none=>simp[h2]at h
  |some d=>
   by_cases B:aB es=ag/\aC es=ag
   .cases h3:op d es with
    |none=>simp[h2,B,h3]at h
    |some q=>
     obtain⟨d',Z⟩:=q;obtain⟨rfl,rfl⟩:Z=res/\ρ.set i (ac (cY p d' d0))=z:=by simpa[h2,B,h3]using h
     exact⟨d0,d,d',h1,h2,B.1,B.2,h3,rfl⟩
   .simp[h2,B]at h
 .cases h
def m6(op:D->List D->Option (D×D))(i:Nat)(pf:En->Option (List Nat))(f:En->Option (List D)):En->Option (D×En):=λρ=>(pf ρ).bind λp=>(f ρ).bind λes=>upS op i p es ρ
def iK(op:D->List D->Option (D×D))(i:Nat)(pf:En->Option (List Nat))(f:En->Option (List D)):En->Option Fl:=λρ=>(m6 op i pf f ρ).map λq=>.nx q.2
def Jx(G:Gc)(T:String)(op:D->List D->Option (D×D)):Prop:=∀d es q,op d es=ac q->∀(v:V)(H:Hp)(W:Wn)(L:List Addr),Rep G H W d v L->tyV G.K T v H
theorem Kr{T:String}{r:V->List V->Hp->VK->Prop}{op:D->List D->Option (D×D)}{to:TE}{t:TA}{i:Nat}{pf:En->Option (List Nat)}{f:En->Option (List D)}(hm:MuV G r op)(ht:Jx G T op)(I:RfP G ob to i pf)(Y:RfA G ob t f){ρ B:En}{res:D}(e:m6 op i pf f ρ=ac (res,B))
  {σ:L2.St} {H:Hp} {S:Ad} {Fr:Addr->Prop} (s:Sta G H ob ρ σ S Fr) {Q:VK}
  (q:∀x H' R S',Sta G H' ob B σ S' (plus R Fr)->Rep G H' (wn ob S' (plus R Fr)) res x R->R.Nodup->clean res=ag->(∀j,j≠i->S' j=S j)->(∀a∈S' i,a∈S i∨H a=af)->(∀a∈R,a∈S i∨H a=af)->(∀b u,H b=ac u->b∉S i->H' b=ac u)->Q x H'):tBM G.K T r to t σ H Q:=by
 unfold m6 at e;cases h1:pf ρ with
 |none=>simp[h1]at e
 |some p=>
  cases h2:f ρ with
  |none=>simp[h1,h2]at e
  |some es=>
   have e:upS op i p es ρ=ac (res,B):=by simpa[h1,h2]using e
   obtain⟨d0,d,d',g1,g2,c1,c2,g3,rfl⟩:=Gb e;obtain⟨a5,dd,k1,k2,k3⟩:=I ρ p h1 σ H S Fr s;rw[g1]at k1;cases k1;rw[g2]at k2;cases k2;refine k3 _ λv v0 H1 M Z a4 a2=>⟨ht d es _ g3 v H1 _ M a2.r,?_⟩;have a0:Sta G H1 ob ρ σ S Fr:=s.grow Z λa z=>.inl z;refine Y ρ es h2 σ H1 _ a0.rel a0.wok _ λxs H2 N O re F nd=>?_;have a3:Sta G H2 ob ρ σ S (plus N Fr):=a0.grow O λa z=>z.elim (λz=>.inr ⟨F a z,re.dom a z⟩) .inl;have up:Up H1 H2 (wn ob S Fr) (wn ob S (plus N Fr)):=Up.add O F;have a1:=a2.mono (.inr up) up.evo λc _ u hu=>O c u hu;have hF:∀a∈N,¬Fr a:=λa Y z=>by
    obtain⟨o,I,_⟩:=a0.fdm a z;rw[F a Y]at I;cases I
   have nf:∀{a},a∈S i∨a∈N∨H2 a=af->a∈S i∨H a=af:=λ{a} z=>z.imp id λz=>z.elim (λz=>Z.none' (F a z)) λz=>(Z.trans O).none' z;exact qW hm a3 g1 a4 g2 a1 re nd hF c1 c2 g3 λx H' R S' q1 q2 q3 q4 q5 q6 q7 q8=>q x H' R S' q1 q2 q3 q4 q5 (λa Y=>nf (q6 a Y)) (λa Y=>nf (q7 a Y)) λb u U n=>q8 b u ((Z.trans O) b u U) n
theorem Qq{T:String}{r:V->List V->Hp->VK->Prop}{op:D->List D->Option (D×D)}{to:TE}{t:TA}{i:Nat}{pf:En->Option (List Nat)}{f:En->Option (List D)}(hm:MuV G r op)(ht:Jx G T op)(I:RfP G ob to i pf)(Y:RfA G ob t f):RfS G ob P (Ni (tBM G.K T r to t)) (iK op i pf f):=λρ r e σ H S Fr s E q=>by
 unfold iK at e;cases h1:m6 op i pf f ρ with
 |none=>simp[h1]at e
 |some p=>
  obtain⟨res,B⟩:=p;have:Fl.nx B=r:=by simpa[h1]using e
  subst this;refine Kr hm ht I Y h1 s λx H' R S' q1 q2 F q4 q5 q6 Z O=>q σ H' S' (q1.lessF λa z=>.inr z) ⟨λb u U n _=>O b u U λz=>n ⟨i,z⟩,λj a z=>?_,.refl⟩;by_cases hj:j=i
  .subst hj;exact(q6 a z).imp (λz=>⟨j,z⟩) .inr
  .rw[q5 j hj]at z;exact .inl ⟨j,z⟩
theorem Qt{T:String}{r:V->List V->Hp->VK->Prop}{op:D->List D->Option (D×D)}{to:TE}{t:TA}{i:Nat}{pf:En->Option (List Nat)}{f:En->Option (List D)}(a0:ob i=ag)(hm:MuV G r op)(ht:Jx G T op)(I:RfP G ob to i pf)(Y:RfA G ob t f):lX G ob (tBM G.K T r to t) (m6 op i pf f):=λρ d B e σ H S Fr s Q q=>by
 refine Kr hm ht I Y e s λx H' R S' q1 q2 F q4 q5 q6 Z q8=>q x H' R S' q1 q2 F ⟨λb u U n=>q8 b u U λz=>n ⟨i,a0,z⟩,λj hj=>q5 j (λz=>by rw[z,a0]at hj;cases hj),λj a hj z=>?_,λa Y=>(Z a Y).imp (λz=>⟨i,a0,z⟩) id⟩;by_cases O:j=i
 .subst O;exact(q6 a z).imp (λz=>⟨j,a0,z⟩) id
 .rw[q5 j O]at z;exact .inl ⟨j,hj,z⟩
structure MuB{ι:Type}(X:ι->Cx)(G:Gc)(T id:String)(op:D->List D->Option (D×D)):Prop where
 ex:∃r,(∀c,MtR (X c) id r)/\MuV G r op/\Jx G T op
section
variable{T name id:String}{op:D->List D->Option (D×D)}{o e:Expr}{es:List Expr}{apos cpos pos:Pos}{i:Nat}{pf:En->Option (List Nat)}
theorem iT{Z:Str}(m:MuB X G T id op)(pa:aer T)(slot:Slot T Z id)(O:typeOf (.builtin id)=pure (.type "method_descriptor")){f:En->Option (List D)}(I:PVP X G ob o i pf)(Y:PVA X G ob (e::es) f)(V:∀c,abk (.Call (.Attribute o Z apos) (e::es) [] cpos) af pos.line (X c).env=pure ae:=by intro _;rfl)(z:∀c,abd o Z (X c).env (eval o (X c).env)=eval o (X c).env:=by intro _;rfl)(F:∀c,((Z4 cpos (YD (e::es) (X c).env)).all (λx=>!x.1)&&(acD cpos (abA [] (X c).env)).all (λx=>x.1.isSome)
  &&decide 1.24)=ag:=by intro _;rfl) (B:(apos.endLine==cpos.line)=ag:=by rfl) (hs:∀c,YD (e::es) (X c).env=(ae,eval e (X c).env)::YD es (X c).env:=by intro _;rfl) (U:∀c,(Z4 cpos (YD es (X c).env)).any (·.1)=ae:=by intro _;rfl) (q:∀c,(X c).K=G.K:=by intro _;rfl) :
 PVS X G ob P (.Expr (.Call (.Attribute o Z apos) (e::es) [] cpos) pos) (iK op i pf f):=let⟨r,m1,m2,m3⟩:=m.ex;let⟨t,a1,a2⟩:=I.ex;let⟨u,b1,b2⟩:=Y.ex;⟨_,λc=>(by rw[←q c];exact HS (DK pa slot O (m1 c) (a1 c) (b1 c) (z c) (F c) B (hs c) (U c)) (V c)),Qq m2 m3 a2 b2⟩
theorem Rf{Z:Str}(m:MuB X G T id op)(pa:aer T)(slot:Slot T Z id)(O:typeOf (.builtin id)=pure (.type "method_descriptor")){f:En->Option (List D)}(I:PVP X G ob o i pf)(Y:PVA X G ob (e::es) f)(V:ob i=ag:=by rfl)(z:∀c,abd o Z (X c).env (eval o (X c).env)=eval o (X c).env:=by intro _;rfl)(F:∀c,((Z4 cpos (YD (e::es) (X c).env)).all (λx=>!x.1)&&(acD cpos (abA [] (X c).env)).all (λx=>x.1.isSome)
  &&decide 1.24)=ag:=by intro _;rfl) (B:(apos.endLine==cpos.line)=ag:=by rfl) (hs:∀c,YD (e::es) (X c).env=(ae,eval e (X c).env)::YD es (X c).env:=by intro _;rfl) (U:∀c,(Z4 cpos (YD es (X c).env)).any (·.1)=ae:=by intro _;rfl) (q:∀c,(X c).K=G.K:=by intro _;rfl) :
 PVe X G ob (.Call (.Attribute o Z apos) (e::es) [] cpos) (m6 op i pf f):=let⟨r,m1,m2,m3⟩:=m.ex;let⟨t,a1,a2⟩:=I.ex;let⟨u,b1,b2⟩:=Y.ex;⟨_,λc=>(by rw[←q c];exact DK pa slot O (m1 c) (a1 c) (b1 c) (z c) (F c) B (hs c) (U c)),Qt V m2 m3 a2 b2⟩
end
structure MuT{ι:Type}(X:ι->Cx)(G:Gc)(op:D->List D->Option (D×D)):Prop where
 ex:∃t:Im,(∀c,Qk (X c) t)/\MuV G (λo xs H Q=>∃i v,xs=[i,v]/\t o i v H λH'=>Q .non H') op
def jb(op:D->List D->Option (D×D))(i:Nat)(pf:En->Option (List Nat))(fk:En->Option D):D->En->Option En:=λd ρ=>(pf ρ).bind λp=>(fk ρ).bind λk=>(upS op i p [k,d] ρ).map λq=>q.2
theorem Rb{t:Im}{op:D->List D->Option (D×D)}{to ti:TE}{i:Nat}{pf:En->Option (List Nat)}{fk:En->Option D}(V:MuV G (λo xs H Q=>∃i v,xs=[i,v]/\t o i v H λH'=>Q .non H') op)(I:RfP G ob to i pf)(hi:RfE G ob ti fk):RfG G ob P (jf to ti t) (jb op i pf fk):=λd ρ B e v σ H S M Fr s r nd hF Q q=>by
 unfold jb at e;cases h1:pf ρ with
 |none=>simp[h1]at e
 |some p=>
  cases h2:fk ρ with
  |none=>simp[h1,h2]at e
  |some k=>
   cases h3:upS op i p [k,d] ρ with
   |none=>simp[h1,h2,h3]at e
   |some w=>
    obtain⟨res,ρ1⟩:=w;obtain rfl:ρ1=B:=by simpa[h1,h2,h3]using e
    obtain⟨d0,dd,d',g1,g2,c1,c2,g3,rfl⟩:=Gb h3;obtain⟨b0,b1,k1,k2,k3⟩:=I ρ p h1 σ H S (plus M Fr) s;rw[g1]at k1;cases k1;rw[g2]at k2;cases k2;refine k3 _ λo v0 H1 M1 Z a4 a7=>?_;have a0:Sta G H1 ob ρ σ S (plus M Fr):=s.grow Z λa z=>.inl z;refine hi ρ k h2 σ H1 _ a0.rel a0.wok _ λy H2 N O ry F nN=>?_;have a3:Sta G H2 ob ρ σ S (plus (N++M) Fr):=a0.grow O λa z=>z.elim (λz=>(Yl.mp z).elim (λz=>.inr ⟨F a z,ry.dom a z⟩) λz=>.inl (.inl z)) λz=>.inl (.inr z);have up:Up H1 H2 (wn ob S (plus M Fr)) (wn ob S (plus (N++M) Fr)):=⟨O,λb u U f=>⟨λz=>z.elim (λz=>(Yl.mp z).elim (λz=>by rw[F b z]at U;cases U) λz=>f.1 (.inl z)) λz=>f.1 (.inr z),f.2⟩,λ_ _ _ f=>f⟩;have a9:Up H H2 (wn ob S (plus M Fr)) (wn ob S (plus (N++M) Fr)):=(Up.same Z).trans up;have a1:=a7.mono (.inr up) up.evo λc _ u hu=>O c u hu;have a8:(wn ob S (plus M Fr)).add N=wn ob S (plus (N++M) Fr):=by
     show Wn.mk _ _ _=Wn.mk _ _ _;congr 1;funext a;simp![plus,Yl,eq_iff_iff,or_assoc];constructor
     .rintro(z|z)
      .exact .inl z
      .exact .inr z
     .rintro(z|z)
      .exact .inl z
      .exact .inr z
    rw[a8]at ry;have a6:∀a∈N,a∉M:=λa h1 h2=>by
     obtain⟨o,I,_⟩:=r.dom a h2;rw[Z.none' (F a h1)]at I;cases I
    have re:aG G H2 (wn ob S (plus (N++M) Fr)) [k,d] [y,v] (N++M):=.cons ry (.one (r.up a9));have a5:∀a∈N++M,¬Fr a:=λa Y z=>by
     rcases Yl.mp Y with y|y
     .obtain⟨o,I,_⟩:=a0.fdm a (.inr z)
      rw[F a y]at I;cases I
     .exact hF a y z
    have a2:=qW V a3 g1 a4 g2 a1 re (dR nN nd a6) a5 c1 c2 g3 (Q:=λ_ H'=>Q σ H') λx H' R S' q1 q2 q3 q4 q5 q6 q7 q8=>q σ H' S' (q1.lessF λa z=>.inr z) ⟨λb u U n m=>?_,λj a z=>?_,.refl⟩
    .obtain⟨i1,v1,e1,k⟩:=a2
     cases e1;exact k
    .exact q8 b u ((Z.trans O) b u U) λz=>n ⟨i,z⟩
    .by_cases hj:j=i
     .subst hj
      rcases q6 a z with y|y|y
      .exact .inl ⟨j,y⟩
      .exact(Yl.mp y).elim (λy=>.inr (.inr (Z.none' (F a y)))) λy=>.inr (.inl y)
      .exact .inr (.inr ((Z.trans O).none' y))
     .rw[q5 j hj]at z;exact .inl ⟨j,z⟩
theorem nj{op:D->List D->Option (D×D)}{o k:Expr}{pos:Pos}{i:Nat}{pf:En->Option (List Nat)}{fk:En->Option D}(m:MuT X G op)(I:PVP X G ob o i pf)(O:PV X G ob k fk)(Y:∀c,∀v,ab5 (.Subscript o k pos) (X c).env v=(do
 let ov ←ach [v] (eval o (X c).env)
 let iv ←ach [v,ov] (eval k (X c).env)
 standAt pos
 ach [v,ov,iv] (setItem ov iv v)
 release [v,ov,iv] []):=by intro _;intro _;rfl):PVG X G ob P (.Subscript o k pos) (jb op i pf fk):=let⟨t,m1,m2⟩:=m.ex;let⟨_,a1,a2⟩:=I.ex;let⟨_,b1,b2⟩:=O.ex;⟨_,λc=>Vn (a1 c) (b1 c) (m1 c) (Y c),Rb m2 a2 b2⟩
theorem nu{G:Gc}{H:Hp}{W:Wn}:Rep G H W .non .non []:=by rw[Rep];exact⟨rfl,rfl⟩
theorem m_{ds:List D}(h1:aB ds=ag)(h2:aC ds=ag):clean (.lst .own ds)=ag:=by simp[clean,az,au,h1,h2]
theorem Ao{G:Gc}{H:Hp}{W W':Wn}{a:Addr}{xs:List V}{ds:List D}{M:List Addr}{ys:List V}(Z:aG G H W ds xs M)(q:aB ds=ag)(F:aC ds=ag)(hn:a∉M)(I:Evo H (upd H a (.lst ys)) W W'):aG G (upd H a (.lst ys)) W' ds xs M:=
 Z.mono I (.inl q) (.inl F) λc B u hu=>by rw[aK (show c≠a from λz=>hn (z▸B))];exact hu
def aX:D->List D->Option (D×D)
 |.lst .own ds,[e]=>if ds.length<1000000 then ac (.lst .own (ds++[e]),.non)else af
 |_,_=>af
theorem vD{n:Nat}(h:n<1000000):n<Yx:=YQ h (by decide)
theorem uJ{G:Gc}:MuV G qD aX:=λd es d' res h v xs H W M N r V nd hM B c1 c2 Q q=>by
 unfold aX at h;split at h
 .rename_i ds e
  split at h
  .rename_i hl
   cases h;rw[Rep]at r;obtain⟨a,ys,M0,rfl,Z,Y,rfl⟩:=r;obtain⟨x,zs,N1,N2,rfl,rfl,F,hz⟩:=V.inv;obtain⟨rfl,rfl⟩:=hz.inv0;rw[Za]at nd V;obtain⟨O,k2⟩:=kO B;have a0:=List.nodup_append.mp nd;have hn:=Y5.mp a0.1;have a1:a∉N1:=λz=>a0.2.2 a (by simp) a z rfl;simp![aB,aC,YS]at c1 c2;refine⟨a,ys,x,rfl,rfl,Y,vD (by rw[←Z.length];exact hl),q .non _ (a::(M0++N1)) [] (λb u U n=>by rw[aK (show b≠a from λz=>n (by rw[z];simp))];exact U) (λW' I=>⟨?_,nu⟩) ?_ (λb U=>?_) (m_ (by rw[iH];simp[O,aB,c1]) (by rw[iG];simp[k2,aC,c2])) rfl⟩
   .rw[Rep]
    refine⟨a,ys++[x],M0++N1,rfl,(Ao Z O k2 hn.1 I).append (.one (F.mono I (.inl c1.1) (.inl c2.1) λc B u hu=>?_)),aQ,rfl⟩;rw[aK (show c≠a from λz=>a1 (z▸B))];exact hu
   .rw[Za]
    exact nd
   .rw[Za]at U
    rcases Yu.mp U with z|z
    .exact .inl (by simp[z])
    .rcases Yl.mp z with z|z
     .exact .inl (by simp[z])
     .exact .inr (.inl (by simp[z]))
  .cases h
 .cases h
theorem EY{T:String}{op:D->List D->Option (D×D)}(z:T="list")(h:∀d es q,op d es=ac q->∃m ds,d= .lst m ds):Jx G T op:=λd es q e v H W L r=>by
 obtain⟨m,ds,rfl⟩:=h d es q e;rw[Rep]at r;obtain⟨a,xs,M,rfl,Z,hs⟩:=r;exact .inl ⟨z,xs,hs.sq⟩
theorem gG:MuB X G "list" "list.append" aX:=⟨_,λc=>yd,uJ,EY rfl λd es q e=>by
 unfold aX at e;split at e
 .exact⟨_,_,rfl⟩
 .cases e⟩
def gV(ks:List Key)(ds:List D)(k:Key)(v:D):List Key×List D:=match cP ks k with
 |some j=>(ks,ds.set j v)
 |none=>(ks++[k],ds++[v])
def dH:D->List D->Option (D×D)
 |.lst .own ds,[.int k,v]=>(ixN ds.length k).map λj=>(.lst .own (ds.set j v),.non)
 |.dct .own ks ds,[k,v]=>(cQ k).bind λk=>if ks.length<1000000 then ac (.dct .own (gV ks ds k v).1 (gV ks ds k v).2,.non)else af
 |_,_=>af
def RT:Im:=λo i v H Q=>Ry o i v H Q∨∃a H',o= .ref a/\Nx H a i v H'/\Q H'
theorem QH{Y:Cx}(hu:Y.A.units+1<cLine):Qk Y RT:=by
 intro pins s σ H o i v O B u Q I V F U h;rcases h with h|⟨a,H',rfl,g,q⟩
 .exact set_list pins s σ H o i v O B u Q I V F U h
 .cases V
  exact IV hu I g F U λZ z=>⟨H',z,q⟩
theorem aG.set{G:Gc}{H:Hp}{W:Wn}{ds:List D}{xs:List V}{L:List Addr}{j:Nat}{c d':D}{y:V}{M':List Addr}(Z:aG G H W ds xs L)(e:ds[j]? =ac c)(U:Rep G H W d' y M'):∃A M B,L=A++(M++B)/\aG G H W (ds.set j d') (xs.set j y) (A++(M'++B)):=by
 obtain⟨P,Q,x,ys,zs,z,O,I,rfl,q,rfl,F,rfl,h1,h2,Y⟩:=Z.at e;refine⟨z,O,I,rfl,?_⟩;rw[←q,abI _ _ (YB _),aaR];rw[show P.length=ys.length by omega,abI _ _ (YB _),aaR];exact aG.append h1 (aG.cons U Y)
theorem uN{ds:List D}{j:Nat}{x:D}(h:aB ds=ag)(F:az x=ag):aB (ds.set j x)=ag:=by
 induction ds generalizing j with
 |nil=>simpa using h
 |cons y r I=>
  simp![aB,YS]at h;cases j with
  |zero=>simp[aB,F,h]
  |succ j=>simp![Ze,aB,YS];exact⟨h.1,I h.2⟩
theorem vN{ds:List D}{j:Nat}{x:D}(h:aC ds=ag)(F:au x=ag):aC (ds.set j x)=ag:=by
 induction ds generalizing j with
 |nil=>simpa using h
 |cons y r I=>
  simp![aC,YS]at h;cases j with
  |zero=>simp[aC,F,h]
  |succ j=>simp![Ze,aC,YS];exact⟨h.1,I h.2⟩
theorem S6{n:Nat}{k:Int}{j:Nat}(h:ixN n k=ac j):j<n:=by
 unfold ixN at h;split at h
 .split at h
  .cases h;omega
  .cases h
 .split at h
  .cases h;omega
  .cases h
theorem Af{ks:List Key}{k:Key}{j:Nat}(h:cP ks k=ac j):j<ks.length:=(Zg.mp h).1
theorem Cm:∀{kvs:List (Key×V)}{k:Key}{j:Nat}{v:V},cP (kvs.map (·.1)) k=ac j->(kvs.map (·.1)).Nodup->(putK kvs k v).map (·.1)=kvs.map (·.1)/\(putK kvs k v).map (·.2)=(kvs.map (·.2)).set j v:=by
 intro kvs k j v h n;have hj:=Zg.mp h;obtain⟨Z,O,_⟩:=hj;have U:j<kvs.length:=by simpa using Z
 have F:kvs[j].1=k:=by simpa using O
 have a0:(kvs.any λkv=>decide (kv.1=k))=ag:=abq.mpr ⟨kvs[j],aaj _,by simpa using F⟩;unfold putK;rw[YH a0];constructor
 .rw[Yw]
  apply YT;intro p _;simp![aat];split<;>rfl
 .apply aaz
  intro i;rw[Yw,List.getElem?_map];by_cases I:j=i
  .subst I
   rw[Z_ (by simpa using U)];simp[U,F]
  .rw[List.getElem?_set_ne I,List.getElem?_map]
   cases e:kvs[i]? with
   |none=>rfl
   |some p=>
    have B:i<kvs.length:=(List.getElem?_eq_some_iff.mp e).1;have Y:kvs[i]=p:=(List.getElem?_eq_some_iff.mp e).2;have q:p.1≠k:=λz=>by
     have e1:(kvs.map (·.1))[i]? =(kvs.map (·.1))[j]?:=by
      rw[List.getElem?_map,List.getElem?_map,e,Yo U];simp[z,F]
     exact I ((adq (by simpa using B) n).mp e1).symm
    simp[q]
theorem jw{kvs:List (Key×V)}{k:Key}{v:V}(h:cP (kvs.map (·.1)) k=af):putK kvs k v=kvs++[(k,v)]:=by
 unfold putK;rw[Y4];intro z;obtain⟨p,q,e⟩:=abq.mp z;have:=Zn.mp h p.1 (Yr.mpr ⟨p,q,rfl⟩);simp at this e;exact this e
theorem v_{ks:List Key}{k:Key}(h:cP ks k=af):k∉ks:=λz=>by
 have:=Zn.mp h k z;simp at this
def v5{α:Type}(j:Option Nat)(l:List α)(y:α):List α:=match j with
 |some j=>l.set j y
 |none=>l++[y]
theorem zr{G:Gc}{H:Hp}{W:Wn}{ds:List D}{xs:List V}{a:Addr}{M0 N:List Addr}{e:D}{x:V}{o:HO}{j:Option Nat}(Z:aG G H W ds xs M0)(F:Rep G H W e x N)(nd:(a::M0++N).Nodup)(O:aB ds=ag)(k2:aC ds=ag)(c1:az e=ag)(c2:au e=ag)(hj:∀i,j=ac i->i<ds.length) :
  ∃M',(a::M').Nodup/\(∀b∈a::M',b∈a::M0∨b∈N)/\(∀W',Evo H (upd H a o) W W'->aG G (upd H a o) W' (v5 j ds e) (v5 j xs x) M')/\aB (v5 j ds e)=ag/\aC (v5 j ds e)=ag:=by
 have a1:=List.nodup_append.mp nd;have hn:=Y5.mp a1.1;have a3:a∉N:=λz=>a1.2.2 a (by simp) a z rfl;have kp:∀{L:List Addr},a∉L->∀c∈L,∀u,H c=ac u->upd H a o c=ac u:=λh c hc u hu=>by rw[aK (show c≠a from λz=>h (z▸hc))];exact hu
 cases j with
 |none=>
  refine⟨M0++N,by simpa using nd,λb U=>by simpa[or_assoc]using U,λW' I=>?_,by simp[v5,iH,aB,O,c1],by simp[v5,iG,aC,k2,c2]⟩;exact(Z.mono I (.inl O) (.inl k2) (kp hn.1)).append (.one (F.mono I (.inl c1) (.inl c2) (kp a3)))
 |some j=>
  obtain⟨A,M1,B,a5,a4⟩:=Z.set (Yo (hj j rfl)) F;have a0:aal (A++B) M0:=by rw[a5];exact(abf A).append (ZK M1 B)
  have n3:=List.nodup_append.mp (a0.nodup hn.2);have a2:∀z∈N,z∉A++B:=λz h1 h2=>a1.2.2 z (Y8 _ (a0.subset h2)) z h1 rfl;have q:∀b∈A++(N++B),b∈M0∨b∈N:=λb U=>by
   simp![Yl]at U;rcases U with y|y|y
   .exact .inl (a0.subset (by simp[y]))
   .exact .inr y
   .exact .inl (a0.subset (by simp[y]))
  have Y:a∉A++(N++B):=λz=>(q a z).elim hn.1 a3;refine⟨A++(N++B),Y5.mpr ⟨Y,dR n3.1 (dR a1.2.1 n3.2.1 λz h1 h2=>a2 z h1 (by simp[h2])) λz h1 h2=>?_⟩,λb U=>(Yu.mp U).elim (λz=>.inl (by simp[z])) λz=>(q b z).imp (Y8 _) id,λW' I=>a4.mono I (.inl (uN O c1)) (.inl (vN k2 c2)) (kp Y),uN O c1,vN k2 c2⟩;rcases Yl.mp h2 with y|y
  .exact a2 z y (by simp[h1])
  .exact n3.2.2 z h1 z y rfl
theorem Hn{G:Gc}:MuV G (λo xs H Q=>∃i v,xs=[i,v]/\RT o i v H λH'=>Q .non H') dH:=λd es d' res h v xs H W M N r re nd hM B c1 c2 Q q=>by
 have kp:∀{a:Addr}{L:List Addr}{o:HO}(b:Addr)(u:HO),H b=ac u->b∉a::L->upd H a o b=ac u:=λb u U n=>by rw[aK (show b≠_ from λz=>n (by rw[z];simp))];exact U
 unfold dH at h;split at h
 .rename_i ds k e
  cases V:ixN ds.length k with
  |none=>simp[V]at h
  |some j=>
   obtain⟨rfl,rfl⟩:D.lst .own (ds.set j e)=d'/\D.non=res:=by simpa[V]using h
   rw[Rep]at r;obtain⟨a,ys,M0,rfl,Z,Y,rfl⟩:=r;obtain⟨x1,zs,N1,N2,rfl,rfl,a0,hz⟩:=re.inv;obtain⟨x,zs,N3,N4,rfl,rfl,F,hz⟩:=hz.inv;obtain⟨rfl,rfl⟩:=hz.inv0;rw[Rep]at a0;obtain⟨rfl,rfl⟩:=a0;rw[Za,List.nil_append]at nd re;obtain⟨k1,k2⟩:=kO B;simp![aB,aC,YS]at c1 c2;obtain⟨M',n1,n2,n3,n4,n5⟩:=zr (o:=.lst (ys.set j x)) (j:=ac j) Z F nd k1 k2 c1.2.1 c2.2.1 λi hi=>by cases hi;exact S6 V
   refine⟨_,_,rfl,.inl ⟨a,ys,k,j,rfl,rfl,Y,by rw[←Z.length];exact V,q .non _ (a::M') [] kp (λW' I=>⟨?_,nu⟩) (by simpa using n1) (λb U=>(n2 b (by simpa using U)).imp id λz=>.inl (by simpa using z)) (m_ n4 n5) rfl⟩⟩;rw[Rep];exact⟨a,_,M',rfl,n3 W' I,aQ,rfl⟩
 .rename_i ks ds k0 e
  cases O:cQ k0 with
  |none=>simp[O]at h
  |some k=>
   rw[O]at h;simp![gD]at h;split at h
   .rename_i hl
    cases h;rw[Rep]at r;obtain⟨a,kvs,M0,rfl,⟨rfl,a1⟩,Z,Y,rfl⟩:=r;obtain⟨x1,zs,N1,N2,rfl,rfl,a0,hz⟩:=re.inv;obtain⟨x,zs,N3,N4,rfl,rfl,F,hz⟩:=hz.inv;obtain⟨rfl,rfl⟩:=hz.inv0;have a2:=ir a0 O;subst a2;have a3:N1=[]:=by
     cases k0<;>simp[cQ]at O<;>rw[Rep]at a0<;>exact a0.2
    subst a3;rw[Za,List.nil_append]at nd re;have k1:aB ds=ag/\aC ds=ag:=by simp[clean,az,au]at B;exact B
    simp![aB,aC,YS]at c1 c2;obtain⟨M',n1,n2,n3,n4,n5⟩:=zr (o:=.dK (putK kvs k x)) (j:=cP (kvs.map (·.1)) k) Z F nd k1.1 k1.2 c1.2.1 c2.2.1 λi hi=>by rw[Z.length];simpa using Af hi
    have pe:(putK kvs k x).map (·.1)=(gV (kvs.map (·.1)) ds k e).1/\(putK kvs k x).map (·.2)=v5 (cP (kvs.map (·.1)) k) (kvs.map (·.2)) x/\v5 (cP (kvs.map (·.1)) k) ds e=(gV (kvs.map (·.1)) ds k e).2/\(gV (kvs.map (·.1)) ds k e).1.Nodup:=by
     cases V:cP (kvs.map (·.1)) k with
     |some j=>
      obtain⟨p1,p2⟩:=Cm (v:=x) V a1;simp![gV,V];exact⟨p1,p2,rfl,a1⟩
     |none=>
      rw[jw V];simp![gV,V];refine⟨by simp,by simp[v5],rfl,Zz.mpr ⟨a1,by simp,λy hy z hz=>?_⟩⟩;obtain rfl:z=k:=by simpa using hz
      exact λe=>v_ V (e▸hy)
    refine⟨_,_,rfl,.inr ⟨a,_,rfl,Nx.k (k:=k) Y (vD (by simpa using hl)),q .non _ (a::M') [] kp (λW' I=>⟨?_,nu⟩) (by simpa using n1) (λb U=>(n2 b (by simpa using U)).imp id λz=>.inl (by simpa using z)) ?_ rfl⟩⟩
    .rw[Rep]
     exact⟨a,_,M',rfl,⟨pe.1,pe.2.2.2⟩,by rw[←pe.2.2.1,pe.2.1];exact n3 W' I,aQ,rfl⟩
    .rw[←pe.2.2.1]
     simp[clean,az,au,n4,n5]
   .cases h
 .cases h
theorem nU(hu:∀c,(X c).A.units+1<cLine):MuT X G dH:=⟨_,λc=>QH (hu c),Hn⟩
end
noncomputable abbrev InX(X:ι->Cx)(N':List Str)(scope:Scope):ι×(Addr×Ym×Hp×List Addr)->Cx:=λp=>bM (X p.1) N' scope p.2.1 p.2.2.1 p.2.2.2.1 p.2.2.2.2
def dI(cap:List (Option Nat))(ρ:En):En:=cap.map λo=>o.bind λj=>(ρ[j]?).bind id
def obC(cap:List (Option Nat))(ob:Nat->Bool):Nat->Bool:=λi=>match cap[i]? with
 |some (ac j)=>ob j
 |_=>ae
variable{x:α}{l:List (Option α)}
theorem qz{α:Type}{cap:List (Option Nat)}{l:List (Option α)}{x:α}(h:(cap.map λo=>o.bind λj=>(l[j]?).bind id)[i]? =ac (ac x)):∃j,cap[i]? =ac (ac j)/\l[j]? =ac (ac x):=by
 rw[List.getElem?_map]at h;cases e:cap[i]? with
 |none=>rw[e]at h;cases h
 |some o=>
  rw[e]at h;cases o with
  |none=>simp at h
  |some j=>
   refine⟨j,rfl,?_⟩;have h:(l[j]?).bind id=ac x:=by simpa using h
   cases e2:l[j]? with
   |none=>rw[e2]at h;cases h
   |some o=>rw[e2]at h;simpa using h
theorem zg{α:Type}{cap:List (Option Nat)}{l:List (Option α)}{x:α}(h:cap[i]? =ac (ac j))(h2:l[j]? =ac (ac x)):(cap.map λo=>o.bind λj=>(l[j]?).bind id)[i]? =ac (ac x):=by
 rw[List.getElem?_map,h];simp[h2]
theorem Rel.cap{cap:List (Option Nat)}(r:Rel G H W ob ρ σ):Rel G H W (obC cap ob) (dI cap ρ) (fV cap σ):=λi d e=>by
 obtain⟨j,h1,h2⟩:=qz e;obtain⟨v,L,q1,q2,F⟩:=r j d h2;refine⟨v,L,zg h1 q1,q2,λz=>F ?_⟩;unfold obC at z;rw[h1]at z;exact z
def Fb(G:Gc)(ob own:Nat->Bool)(g:TG)(f:D->En->Option En):Prop:=∀(d:D)(ρ B:En),f d ρ=ac B->∀(x:V)(σ:L2.St)(H:Hp)(W:Wn),Rep G H W d x []->Rel G H W ob ρ σ->σ.length=ρ.length->∀Q:L2.St->Hp->Prop,
 (∀F,Rel G H W ob B F->F.length=B.length->(∀j,own j=ae->F[j]? =σ[j]?)->Q F H)->g x σ H Q
def Bu(G:Gc)(ob own:Nat->Bool)(g:TGs)(f:List D->En->Option En):Prop:=∀(ds:List D)(ρ B:En),f ds ρ=ac B->∀(xs:List V)(σ:L2.St)(H:Hp)(W:Wn),aG G H W ds xs []->Rel G H W ob ρ σ->σ.length=ρ.length->∀Q:L2.St->Hp->Prop,
 (∀F,Rel G H W ob B F->F.length=B.length->(∀j,own j=ae->F[j]? =σ[j]?)->Q F H)->g xs σ H Q
structure Gp{ι:Type}(X:ι->Cx)(G:Gc)(ob own:Nat->Bool)(tg:Expr)(f:D->En->Option En):Prop where
 mk::(ex:∃t,(∀c,PG (X c) tg t)/\Fb G ob own t f)
structure Ho{ι:Type}(X:ι->Cx)(G:Gc)(ob own:Nat->Bool)(tg:List Expr)(f:List D->En->Option En):Prop where
 mk::(ex:∃t,(∀c,PGs (X c) tg t)/\Bu G ob own t f)
def tpN(i:Nat):D->En->Option En:=λd ρ=>ac (ρ.set i (ac d))
def tpT(n:Nat)(g:List D->En->Option En):D->En->Option En:=λd ρ=>match d with
 |.tup ds=>if ds.length=n then g ds ρ else af
 |_=>af
theorem Jp{own:Nat->Bool}(I:own i=ag):Fb G ob own (sH i) (tpN i):=λd ρ O e x σ H W r F Z Q q=>by
 cases e;refine q _ (λj d' V=>?_) (by simp[Z]) λj V=>?_
 .by_cases e:i=j
  .subst e
   rw[aan]at V;split at V
   .split at V
    .rename_i h2
     have:d=d':=by simpa using V
     subst this;exact⟨x,[],by simp[Z,h2],r,λ_ c B=>by cases B⟩
    .cases V
   .exact absurd rfl ‹_›
  .rw[List.getElem?_set_ne e]at V
   obtain⟨v,L,h1,h2,Y⟩:=F j d' V;exact⟨v,L,by rw[List.getElem?_set_ne e];exact h1,h2,Y⟩
 .have:i≠j:=λz=>by rw[←z,I]at V;cases V
  rw[List.getElem?_set_ne this]
theorem JM{own:Nat->Bool}:Bu G ob own QR cz:=λds ρ B e xs σ H W r I Z Q q=>by
 cases ds with
 |nil=>
  cases e;obtain⟨rfl,_⟩:=r.inv0;exact⟨rfl,q σ I Z λ_ _=>rfl⟩
 |cons d r=>cases e
variable{g:List D->En->Option En}
theorem Ey{own:Nat->Bool}{t:TG}{u:TGs}{f:D->En->Option En}(h1:Fb G ob own t f)(h2:Bu G ob own u g):Bu G ob own (Lb t u) (aO f g):=λds ρ B e xs σ H W r I hl Q q=>by
 cases ds with
 |nil=>cases e
 |cons d ds=>
  obtain⟨x,ys,M1,z,rfl,O,F,Z⟩:=r.inv;obtain⟨rfl,rfl⟩:M1=[]/\z=[]:=by simpa using O.symm
  simp![aO]at e;cases Y:f d ρ with
  |none=>rw[Y]at e;cases e
  |some ρ1=>
   have e:g ds ρ1=ac B:=by simpa[Y]using e
   exact⟨x,ys,rfl,h1 d ρ ρ1 Y x σ H W F I hl _ λU a0 a1 k1=>h2 ds ρ1 B e ys U H W Z a0 a1 Q λσ2 a3 a2 k2=>q σ2 a3 a2 λj V=>(k2 j V).trans (k1 j V)⟩
theorem J8{own:Nat->Bool}{t:TGs}(h:Bu G ob own t g):Fb G ob own (SX G.K n t) (tpT n g):=λd ρ B e x σ H W r I z Q q=>by
 cases d with
 |tup ds=>
  simp![tpT]at e;split at e
  .rename_i hn
   rw[Rep]at r;obtain⟨a,xs,rfl,U,Z⟩:=r;exact⟨a,xs,rfl,SqT.of U,by rw[←Z.length];exact hn,h ds ρ B e xs σ H W Z I z Q q⟩
  .cases e
 |_=>cases e
section
variable{ι:Type}{X:ι->Cx}{G:Gc}{ob own:Nat->Bool}
theorem cN(i:Nat){x:Str}{pos:Pos}(z:∀c,(X c).N.Nodup)(I:own i=ag:=by rfl)(hi:∀c,(X c).N[i]? =ac x:=by intro _;rfl)(F:∀c,Loc (X c).env.scope x:=by intro _;first|exact aab rfl|exact ZC rfl)(Y:∀c,(X c).fn x=ag∨(X c).env.scope.names.lookup x=ac .local:=by intro _;first|exact .inl rfl|exact .inr rfl):Gp X G ob own (.Name x pos) (tpN i):=⟨_,λc=>ur (z c) (hi c) (F c) (Y c),Jp I⟩
theorem wY:Ho X G ob own [] cz:=⟨_,λc=>Hk,JM⟩
theorem jy{e:Expr}{es:List Expr}{f:D->En->Option En}{g:List D->En->Option En}(h1:Gp X G ob own e f)(h2:Ho X G ob own es g)(hs:∀c,(Z1 (e::es) (X c).env).map (·.2)=ab5 e (X c).env::(Z1 es (X c).env).map (·.2):=by intro _;rfl):Ho X G ob own (e::es) (aO f g):=
 let⟨t,a1,a2⟩:=h1.ex;let⟨u,b1,b2⟩:=h2.ex;⟨_,λc=>Dk (a1 c) (b1 c) (hs c),Ey a2 b2⟩
theorem Cg{es:List Expr}{k n:Nat}{pos:Pos}{g:List D->En->Option En}(B:∀c,(X c).calm=ag)(h:Ho X G ob own es g)(hn:∀c,(Z1 es (X c).env).length=n:=by intro _;rfl)(Y:∀c,(Z1 es (X c).env).findIdx? (·.1)=af:=by intro _;rfl)(q:∀c,(X c).K=G.K:=by intro _;rfl):Gp X G ob own (.Tuple es k pos) (tpT n g):=
 let⟨t,a1,a2⟩:=h.ex;⟨_,λc=>(by rw[←q c];exact KR (B c) (a1 c) (hn c) (Y c)),J8 a2⟩
structure Gj{ι:Type}(X:ι->Cx)(G:Gc)(ob:Nat->Bool)(ifs:List Expr)(f:En->Option Bool):Prop where
 mk::(ex:∃t,(∀c,PTs (X c) ifs t)/\RfT G ob t f)
def eTT:En->Option Bool:=λ_=>ac ag
theorem fj:Gj X G ob [] eTT:=⟨_,λc=>Q3,λρ b e σ H W I w Q q=>by cases e;exact q H (Same.refl H)⟩
theorem Nq{c:Expr}{f:En->Option Bool}(h:PVT X G ob c f):Gj X G ob [c] f:=let⟨t,a1,a2⟩:=h.ex;⟨t,λc=>Pu (a1 c),a2⟩
def f9(tg:D->En->Option En)(c:En->Option Bool)(e:En->Option D)(ρ0:En):List D->Option (List D)
 |[]=>ac []
 |d::r=>(tg d ρ0).bind λρ1=>(c ρ1).bind λb=>if b=ag then(e ρ1).bind λx=>(f9 tg c e ρ0 r).map λt=>x::t else f9 tg c e ρ0 r
def bU(cap:List (Option Nat))(it:En->Option (Bool×List D))(tg:D->En->Option En)(c:En->Option Bool)(e:En->Option D):En->Option D:=λρ=>(it ρ).bind λp=>if p.2.length<=1000000 then(f9 tg c e (dI cap ρ) p.2).map λys=>.lst .own ys else af
theorem six{n:Nat}(h:n<=1000000):n<Yx:=aeT h (by decide)
theorem Gw{cap:List (Option Nat)}{σ F:L2.St}(B:∀i:Nat,own i=ag->cap[i]?≠af->cap[i]? =ac af)(h:∀j,own j=ae->F[j]? =(fV cap σ)[j]?):Kp (fV cap σ) F:=λi v e=>by
 cases I:own i with
 |false=>rw[h i I];exact e
 |true=>
  obtain⟨j,h1,_⟩:=qz e;rw[B i I (by rw[h1];simp)]at h1;cases h1
theorem zY{cap:List (Option Nat)}{wi:TI}{g:TG}{tt:TT}{te:TE}{it:En->Option (Bool×List D)}{tg:D->En->Option En}{c:En->Option Bool}{e:En->Option D}(a8:∀i:Nat,own i=ag->cap[i]?≠af->cap[i]? =ac af)(hi:RfI G ob wi it)(F:Fb G (obC cap ob) own g tg)(ht:RfT G (obC cap ob) tt c)(O:RfE G (obC cap ob) te e):RfE G ob (Cz cap wi g tt te) (bU cap it tg c e):=λρ d ee σ H W rl w Q q=>by
 unfold bU at ee;cases h1:it ρ with
 |none=>simp[h1]at ee
 |some p=>
  obtain⟨b,items⟩:=p;rw[h1]at ee;simp![gD]at ee;split at ee
  .rename_i hlen
   cases h2:f9 tg c e (dI cap ρ) items with
   |none=>simp[h2]at ee
   |some a4=>
    obtain rfl:D.lst .own a4=d:=by simpa[h2]using ee
    refine hi ρ b items h1 σ H W rl w _ λJ H1 Z wk=>?_;refine⟨λi m ys H2=>i+m=items.length/\ys.length<=i/\∃acc L rest,Same H1 H2/\aG G H2 (W.add L) acc ys L/\(∀a∈L,H1 a=af)/\L.Nodup/\WOk H2 (W.add L)/\f9 tg c e (dI cap ρ) (items.drop i)=ac rest/\acc++rest=a4,⟨items.length,by omega,by simp,[],[],a4,Same.refl _,.nil,by simp,List.nodup_nil,?_,h2,rfl⟩,?_⟩
    .rw[qY];exact w.up Z
    rintro i m ys H2 ⟨b3,b4,acc,L,rest,s2,ra,fa,na,wa,B,a0⟩;have a3:Up H1 H2 W (W.add L):=Up.add s2 fa
    .by_cases hil:i<items.length
     .have hdr:=(ZS hil).symm
      rw[hdr,f9]at B;refine .inr ⟨wk.go i items[i] (by simp[hil]) H2 _ (LtB.up a3),by have:=six hlen;omega,λa5 H'=>(i+1)+(m-1)=items.length/\a5.length<=i+1/\∃acc L rest,Same H1 H'/\aG G H' (W.add L) acc a5 L/\(∀a∈L,H1 a=af)/\L.Nodup/\WOk H' (W.add L)/\f9 tg c e (dI cap ρ) (items.drop (i+1))=ac rest/\acc++rest=a4,λa5 H' h=>⟨m-1,by omega,h⟩,λx H3 hy=>?_⟩;obtain⟨s3,rx⟩:=wk.yld i items[i] (by simp[hil]) H2 _ (LtB.up a3) x H3 hy;cases h3:tg items[i] (dI cap ρ)with
      |none=>simp[h3]at B
      |some ρ1=>
       rw[h3]at B;simp![gD]at B;have b2:Rel G H3 (W.add L) (obC cap ob) (dI cap ρ) (fV cap σ):=(rl.cap).up ((Up.same Z).trans (a3.trans (Up.same s3)));have a2:=ra.up (Up.same s3 (W:=W.add L));have a6:WOk H3 (W.add L):=wa.up s3;refine F items[i] _ ρ1 h3 x _ H3 (W.add L) rx b2 (by simp[dI,fV]) _ λσ2 a9 b5 k4=>⟨Gw a8 k4,?_⟩;cases h4:c ρ1 with
       |none=>simp[h4]at B
       |some bb=>
        rw[h4]at B;simp![gD]at B;refine ht ρ1 bb h4 σ2 H3 (W.add L) a9 a6 _ λH4 s4=>?_;have b1:=a9.up (Up.same s4);have a7:=a6.up s4;cases bb with
        |false=>
         simp![ZV,abo]at B;exact zM ⟨by omega,by omega,acc,L,rest,((s2.trans s3).trans s4),a2.up (Up.same s4),fa,na,a7,B,a0⟩
        |true=>
         simp![Y6]at B;cases h5:e ρ1 with
         |none=>simp[h5]at B
         |some y=>
          cases h6:f9 tg c e (dI cap ρ) (items.drop (i+1))with
          |none=>simp[h5,h6]at B
          |some a1=>
           obtain rfl:y::a1=rest:=by simpa[h5,h6]using B
           refine uf (O ρ1 y h5 σ2 H4 (W.add L) b1 a7 _ λv H5 M s5 ry fy ny=>?_);have fM:∀a∈M,H1 a=af:=λa Y=>(((s2.trans s3).trans s4)).none' (fy a Y);have b0:∀a∈L,a∉M:=λa h1 h2=>by
            obtain⟨o,I,_⟩:=(a2.up (Up.same s4 (W:=W.add L))).dom a h1;rw[fy a h2]at I;cases I
           have u5:Up H4 H5 (W.add L) (W.add (L++M)):=⟨s5,λb u U f=>⟨λz=>z.elim (λz=>(Yl.mp z).elim (λz=>f.1 (.inl z)) λz=>by rw[fy b z]at U;cases U) λz=>f.1 (.inr z),f.2⟩,λ_ _ _ f=>f⟩;have u6:Up H5 H5 ((W.add L).add M) (W.add (L++M)):=⟨Same.refl _,λb u U f=>⟨λz=>by
            rcases z with z|z
            .exact(Yl.mp z).elim (λz=>f.1 (.inr (.inl z))) λz=>f.1 (.inl z)
            .exact f.1 (.inr (.inr z)),f.2⟩,λ_ _ _ f=>f⟩
           refine⟨by omega,by simp;omega,acc++[y],L++M,a1,((s2.trans s3).trans s4).trans s5,((a2.up (Up.same s4)).up u5).append (.one (ry.up u6)),λa Y=>(Yl.mp Y).elim (fa a) (fM a),dR na ny b0,?_,rfl,by rw[←a0];simp⟩;exact w.add (((Z.trans s2).trans s3).trans s4 |>.trans s5) λa Y=>(Yl.mp Y).elim (λz=>let⟨o,h,m⟩:=(a2.up (Up.same s4 (W:=W.add L))).dom a z;⟨o,s5 a o h,m⟩) (ry.dom a)
     .have hl:i=items.length:=by omega
      subst hl;rw[aai,f9]at B;cases B;refine .inl ⟨wk.stop H2 _ (LtB.up a3),aa3 (six 1.10),λp V=>?_⟩;have sm:Same H2 (upd H2 p (.lst ys)):=Same.new V;rw[Za]at a0;subst a0;refine q (.ref p) _ (p::L) ((Z.trans s2).trans sm) ?_ (λa Y=>(Yu.mp Y).elim (λz=>by rw[z];exact(Z.trans s2).none' V) λz=>Z.none' (fa a z)) (Y5.mpr ⟨λz=>?_,na⟩)
      .rw[Rep]
       exact⟨p,ys,L,rfl,ra.up ⟨sm,λb u U f=>⟨λz=>z.elim (λz=>(Yu.mp z).elim (λz=>by rw[z,V]at U;cases U) λz=>f.1 (.inl z)) λz=>f.1 (.inr z),f.2⟩,λ_ _ _ f=>f⟩,aQ,rfl⟩
      .obtain⟨o,I,_⟩:=ra.dom p z
       rw[V]at I;cases I
  .cases ee
end
def oU(cap:List (Option Nat)):Prop:=∀(i k j:Nat),cap[i]? =ac (ac j)->cap[k]? =ac (ac j)->i=k
def lz(cap:List (Option Nat))(S:Ad):Ad:=λi=>match cap[i]? with
 |some (ac j)=>S j
 |_=>[]
def rJ(cap:List (Option Nat))(S:Ad)(Fr:Addr->Prop):Addr->Prop:=λa=>Fr a∨∃j:Nat,(∀i:Nat,cap[i]?≠ac (ac j))/\a∈S j
theorem iZ{cap:List (Option Nat)}(h:a∈lz cap S i):∃j,cap[i]? =ac (ac j)/\a∈S j:=by
 unfold lz at h;split at h
 .rename_i j e;exact⟨j,e,h⟩
 .cases h
theorem y_{cap:List (Option Nat)}(h:cap[i]? =ac (ac j)):lz cap S i=S j:=by unfold lz;rw[h]
theorem Gs{cap:List (Option Nat)}(h:cap[i]? =ac (ac j)):obC cap ob i=ob j:=by unfold obC;rw[h]
section
variable{G:Gc}{ob own:Nat->Bool}{cap:List (Option Nat)}
theorem zP{S:Ad}{Fr:Addr->Prop}{a:Addr}:(wn ob S Fr).free a↔(wn (obC cap ob) (lz cap S) (rJ cap S Fr)).free a:=by
 constructor
 .intro f
  have q:∀j,a∉S j:=λj z=>by
   cases I:ob j with
   |false=>exact f.2.1 ⟨j,I,z⟩
   |true=>exact f.2.2 ⟨j,I,z⟩
  refine⟨λz=>z.elim f.1 λ⟨j,_,z⟩=>q j z,λ⟨i,_,z⟩=>?_,λ⟨i,_,z⟩=>?_⟩
  .obtain⟨j,_,z⟩:=iZ z;exact q j z
  .obtain⟨j,_,z⟩:=iZ z;exact q j z
 .intro f
  have q:∀j,a∉S j:=λj z=>by
   by_cases B:∃i:Nat,cap[i]? =ac (ac j)
   .obtain⟨i,hi⟩:=B
    have F:a∈lz cap S i:=by rw[y_ hi];exact z
    cases I:obC cap ob i with
    |false=>exact f.2.1 ⟨i,I,F⟩
    |true=>exact f.2.2 ⟨i,I,F⟩
   .exact f.1 (.inr ⟨j,λi hi=>B ⟨i,hi⟩,z⟩)
  exact⟨λz=>f.1 (.inl z),λ⟨j,_,z⟩=>q j z,λ⟨j,_,z⟩=>q j z⟩
theorem U6{H:Hp}{S:Ad}{Fr:Addr->Prop}{d:D}{v:V}{L:List Addr}(B:clean d=ag):Rep G H (wn ob S Fr) d v L↔Rep G H (wn (obC cap ob) (lz cap S) (rJ cap S Fr)) d v L:=by
 have q:=(by simpa[clean]using B:az d=ag/\au d=ag);constructor
 .intro r
  have I:Evo H H (wn ob S Fr) (wn (obC cap ob) (lz cap S) (rJ cap S Fr)):=⟨λb u U f=>⟨U,zP.mp f⟩,λ_ _ h=>h⟩;exact r.mono I (.inl q.1) (.inl q.2) λ_ _ _ h=>h
 .intro r
  have I:Evo H H (wn (obC cap ob) (lz cap S) (rJ cap S Fr)) (wn ob S Fr):=⟨λb u U f=>⟨U,zP.mpr f⟩,λ_ _ h=>h⟩;exact r.mono I (.inl q.1) (.inl q.2) λ_ _ _ h=>h
theorem Sta.inn{H:Hp}{ρ:En}{σ:L2.St}{S:Ad}{Fr:Addr->Prop}(V:oU cap)(s:Sta G H ob ρ σ S Fr):Sta G H (obC cap ob) (dI cap ρ) (fV cap σ) (lz cap S) (rJ cap S Fr)where
 len:=by simp[dI,fV]
 sl:=λi d e=>by
  obtain⟨j,h1,h2⟩:=qz e;obtain⟨v,q1,q2,F⟩:=s.sl j d h2;exact⟨v,zg h1 q1,by rw[y_ h1];exact(U6 F).mp q2,F⟩
 em:=λi h=>by
  unfold lz;split
  .rename_i j e
   exact s.em j λd hd=>h d (zg e hd)
  .rfl
 nd:=λi=>by
  unfold lz;split
  .exact s.nd _
  .exact List.nodup_nil
 dj:=λi k a h1 h2=>by
  obtain⟨I,e1,B⟩:=iZ h1;obtain⟨q,e2,U⟩:=iZ h2;have:=s.dj I q a B U;subst this;exact V i k I e1 e2
 fdj:=λi a h z=>by
  obtain⟨j,e,z⟩:=iZ z;rcases h with h|⟨k,O,h⟩
  .exact s.fdj j a h z
  .have:=s.dj j k a z h
   subst this;exact O i e
 fdm:=λa h=>by
  rcases h with h|⟨k,_,h⟩
  .exact s.fdm a h
  .exact s.mu h
def iy:List (Option Nat)->En->En->En
 |some j::cs,d::ds,ρ=>iy cs ds (ρ.set j d)
 |none::cs,_::ds,ρ=>iy cs ds ρ
 |_,_,ρ=>ρ
theorem nH:∀(cap:List (Option Nat))(ds ρ:En),(iy cap ds ρ).length=ρ.length
 |[],ds,ρ=>by cases ds<;>rfl
 |some j::cs,[],ρ=>rfl
 |none::cs,[],ρ=>rfl
 |some j::cs,d::ds,ρ=>by rw[iy,nH cs ds];simp
 |none::cs,d::ds,ρ=>by rw[iy,nH cs ds]
theorem mq:∀{cap:List (Option Nat)}{ds ρ:En}{j:Nat},(∀i:Nat,cap[i]?≠ac (ac j))->(iy cap ds ρ)[j]? =ρ[j]?
 |[],ds,ρ,j,_=>by cases ds<;>rfl
 |some k::cs,[],ρ,j,_=>rfl
 |none::cs,[],ρ,j,_=>rfl
 |some k::cs,d::ds,ρ,j,h=>by
  rw[iy,mq λi e=>h (i+1) (by simpa using e),List.getElem?_set_ne λz=>h 0 (by simp[z])]
 |none::cs,d::ds,ρ,j,h=>by rw[iy,mq λi e=>h (i+1) (by simpa using e)]
theorem qJ:∀{cap:List (Option Nat)}{ds ρ:En}{i j:Nat}{x:Option D},oU cap->cap[i]? =ac (ac j)->ds[i]? =ac x->j<ρ.length->(iy cap ds ρ)[j]? =ac x
 |[],ds,ρ,i,j,x,_,h,_,_=>by simp at h
 |some k::cs,[],ρ,i,j,x,_,_,h,_=>by simp at h
 |none::cs,[],ρ,i,j,x,_,_,h,_=>by simp at h
 |some k::cs,d::ds,ρ,i,j,x,hj,h1,h2,hl=>by
  rw[iy];cases i with
  |zero=>
   have e1:k=j:=by simpa using h1
   have e2:d=x:=by simpa using h2
   subst e1 e2;rw[mq λi e=>?_]
   .simp[hl]
   .have:=hj 0 (i+1) k (by simp) (by simpa using e)
    omega
  |succ i=>exact qJ (λa b c h1 h2=>by have:=hj (a+1) (b+1) c (by simpa using h1) (by simpa using h2);omega) (by simpa using h1) (by simpa using h2) (by simpa using hl)
 |none::cs,d::ds,ρ,i,j,x,hj,h1,h2,hl=>by
  rw[iy];cases i with
  |zero=>simp at h1
  |succ i=>exact qJ (λa b c h1 h2=>by have:=hj (a+1) (b+1) c (by simpa using h1) (by simpa using h2);omega) (by simpa using h1) (by simpa using h2) hl
def tO(cap:List (Option Nat))(q S:Ad):Ad:=λj=>match cap.findIdx? (λo=>o==ac j)with
 |some i=>q i
 |none=>S j
theorem ik{q S:Ad}{i j:Nat}(V:oU cap)(h:cap[i]? =ac (ac j)):tO cap q S j=q i:=by
 unfold tO;split
 .rename_i k e
  obtain⟨h1,h2,_⟩:=Zg.mp e;have:cap[k]=ac j:=by simpa using h2
  rw[V i k j h (by rw[Yo h1,this])]
 .rename_i e
  have:=Zn.mp e (ac j) (Y0 h);simp at this
theorem gW{q S:Ad}{j:Nat}(h:∀i:Nat,cap[i]?≠ac (ac j)):tO cap q S j=S j:=by
 unfold tO;split
 .rename_i k e
  obtain⟨h1,h2,_⟩:=Zg.mp e;have:cap[k]=ac j:=by simpa using h2
  exact absurd (by rw[Yo h1,this]) (h k)
 .rfl
theorem gw(cap:List (Option Nat))(j:Nat):(∃i:Nat,cap[i]? =ac (ac j))∨(∀i:Nat,cap[i]?≠ac (ac j)):=by
 by_cases h:∃i:Nat,cap[i]? =ac (ac j)
 .exact .inl h
 .exact .inr λi z=>h ⟨i,z⟩
theorem Sta.out{H H':Hp}{ρ a2:En}{σ a7:L2.St}{S Si:Ad}{Fr:Addr->Prop}{M:List Addr}(V:oU cap)(s:Sta G H ob ρ σ S Fr)(I:∀i:Nat,cap[i]? =ac af->True)(O:∀i j:Nat,cap[i]? =ac (ac j)->a7[i]? =(fV cap σ)[i]?)
  (si:Sta G H' (obC cap ob) a2 a7 Si (plus M (rJ cap S Fr))) (ef:Eff (obC cap ob) H H' (lz cap S) Si M):Sta G H' ob (iy cap a2 ρ) σ (tO cap Si S) (plus M Fr)/\Eff ob H H' S (tO cap Si S) M/\
   (∀d v L,clean d=ag->Rep G H' (wn (obC cap ob) Si (plus M (rJ cap S Fr))) d v L->Rep G H' (wn ob (tO cap Si S) (plus M Fr)) d v L):=by
 have a0:∀{a},inO (obC cap ob) (lz cap S) a->inO ob S a:=λ{a}⟨i,h1,h2⟩=>by
  obtain⟨j,e,z⟩:=iZ h2;exact⟨j,by rw[←Gs (ob:=ob) e];exact h1,z⟩
 have a9:Eff ob H H' S (tO cap Si S) M:=by
  refine⟨λb u U n=>ef.kp b u U λz=>n (a0 z),λj a3=>?_,λj a a3 z=>?_,λa Y=>(ef.fm a Y).imp a0 id⟩
  .rcases gw cap j with⟨i,hi⟩|hn
   .rw[ik V hi,ef.sn i (by rw[Gs hi];exact a3),y_ hi]
   .exact gW hn
  .rcases gw cap j with⟨i,hi⟩|hn
   .rw[ik V hi]at z
    exact(ef.gr i a (by rw[Gs hi];exact a3) z).imp a0 id
   .rw[gW hn]at z;exact .inl ⟨j,a3,z⟩
 have a5:∀a,(wn (obC cap ob) Si (plus M (rJ cap S Fr))).free a->(wn ob (tO cap Si S) (plus M Fr)).free a:=λa f=>by
  have nS:∀j,a∉tO cap Si S j:=λj z=>by
   rcases gw cap j with⟨i,hi⟩|hn
   .rw[ik V hi]at z
    cases b0:obC cap ob i with
    |false=>exact f.2.1 ⟨i,b0,z⟩
    |true=>exact f.2.2 ⟨i,b0,z⟩
   .rw[gW hn]at z
    exact f.1 (.inr (.inr ⟨j,hn,z⟩))
  exact⟨λz=>z.elim (λz=>f.1 (.inl z)) λz=>f.1 (.inr (.inl z)),λ⟨j,_,z⟩=>nS j z,λ⟨j,_,z⟩=>nS j z⟩
 have conv:∀d v L,clean d=ag->Rep G H' (wn (obC cap ob) Si (plus M (rJ cap S Fr))) d v L->Rep G H' (wn ob (tO cap Si S) (plus M Fr)) d v L:=λd v L B r=>by
  have q:=(by simpa[clean]using B:az d=ag/\au d=ag);have ev:Evo H' H' (wn (obC cap ob) Si (plus M (rJ cap S Fr))) (wn ob (tO cap Si S) (plus M Fr)):=⟨λb u U f=>⟨U,a5 b f⟩,λ_ _ h=>h⟩;exact r.mono ev (.inl q.1) (.inl q.2) λ_ _ _ h=>h
 have a1:∀{j a},(∀i:Nat,cap[i]?≠ac (ac j))->a∈S j->∀i,a∉Si i:=λ{j a} hn z i y=>si.fdj i a (.inr (.inr ⟨j,hn,z⟩)) y;refine⟨⟨by rw[nH];exact s.len,λj d hd=>?_,λj hd=>?_,λj=>?_,λj k a h1 h2=>?_,λj a h z=>?_,λa h=>?_⟩,a9,conv⟩
 .rcases gw cap j with⟨i,hi⟩|hn
  .have Z:j<ρ.length:=by
    have:=(List.getElem?_eq_some_iff.mp hd).1;rwa[nH]at this
   cases F:a2[i]? with
   |none=>
    have h1:a2.length<=i:=ab3.mp F;have h2:a7.length<=i:=by rw[←si.len];exact h1
    have h3:=O i j hi;rw[ab3.mpr h2]at h3;have h4:(fV cap σ).length<=i:=ab3.mp h3.symm;have h5:i<cap.length:=(List.getElem?_eq_some_iff.mp hi).1;simp[fV]at h4;omega
   |some x=>
    rw[qJ V hi F Z]at hd;cases hd;obtain⟨v,q1,q2,q3⟩:=si.sl i d F;rw[O i j hi]at q1;obtain⟨j',e1,e2⟩:=qz q1;rw[hi]at e1;cases e1;exact⟨v,e2,by rw[ik V hi];exact conv _ _ _ q3 q2,q3⟩
  .rw[mq hn]at hd
   obtain⟨v,q1,q2,q3⟩:=s.sl j d hd;refine⟨v,q1,?_,q3⟩;rw[gW hn];have q:=(by simpa[clean]using q3:az d=ag/\au d=ag);refine q2.mono (a9.evo s) (.inl q.1) (.inl q.2) λc B u hu=>?_;exact ef.kp c u hu λ⟨i,_,z⟩=>by
    obtain⟨k,e,z⟩:=iZ z;have:=s.dj j k c B z;subst this;exact hn i e
 .rcases gw cap j with⟨i,hi⟩|hn
  .rw[ik V hi]
   refine si.em i λd a8=>?_;by_cases Z:j<ρ.length
   .exact hd d (qJ V hi a8 Z)
   .
    obtain⟨v,q1,_⟩:=si.sl i d a8;rw[O i j hi]at q1;obtain⟨j',e1,e2⟩:=qz q1;rw[hi]at e1;cases e1;have:=(List.getElem?_eq_some_iff.mp e2).1;rw[←s.len]at this;exact Z this
  .rw[gW hn]
   exact s.em j λd=>by have:=hd d;rwa[mq hn]at this
 .rcases gw cap j with⟨i,hi⟩|hn
  .rw[ik V hi];exact si.nd i
  .rw[gW hn];exact s.nd j
 .rcases gw cap j with⟨i,hi⟩|hn<;>rcases gw cap k with⟨i',a4⟩|a6
  .rw[ik V hi]at h1
   rw[ik V a4]at h2;have:=si.dj i i' a h1 h2;subst this;rw[hi]at a4;cases a4;rfl
  .rw[ik V hi]at h1
   rw[gW a6]at h2;exact absurd h1 (a1 a6 h2 i)
  .rw[gW hn]at h1
   rw[ik V a4]at h2;exact absurd h2 (a1 hn h1 i')
  .rw[gW hn]at h1
   rw[gW a6]at h2;exact s.dj j k a h1 h2
 .rcases gw cap j with⟨i,hi⟩|hn
  .rw[ik V hi]at z
   exact si.fdj i a (h.imp id .inl) z
  .rw[gW hn]at z
   rcases h with h|h
   .rcases ef.fm a h with y|y
    .obtain⟨k,_,y⟩:=a0 y
     have:=s.dj j k a z y;subst this;obtain⟨i,hi,y'⟩:∃i,obC cap ob i=ag/\a∈lz cap S i:=by assumption
     obtain⟨k',e,y'⟩:=iZ y';have:=s.dj j k' a z y';subst this;exact hn i e
    .obtain⟨o,I,_⟩:=s.mu z
     rw[y]at I;cases I
   .exact s.fdj j a h z
 .rcases h with h|h
  .exact si.fdm a (.inl h)
  .exact si.fdm a (.inr (.inl h))
end
section
variable{ι:Type}{X:ι->Cx}{G:Gc}{ob own:Nat->Bool}
def R9(G:Gc)(ob own:Nat->Bool)(g:TG)(f:D->En->Option En):Prop:=∀(d:D)(ρ B:En),f d ρ=ac B->∀(x:V)(σ:L2.St)(H:Hp)(S:Ad)(Fr:Addr->Prop),Sta G H ob ρ σ S Fr->(∀i,own i=ag->S i=[])->Rep G H (wn ob S Fr) d x []->∀Q:L2.St->Hp->Prop,
 (∀F,Sta G H ob B F S Fr->(∀j,own j=ae->F[j]? =σ[j]?)->Q F H)->g x σ H Q
theorem Jj{i:Nat}(I:own i=ag):R9 G ob own (sH i) (tgN i):=λd ρ B e x σ H S Fr s U r Q q=>by
 unfold tgN at e;split at e
 .rename_i hc
  cases e;refine q _ ⟨by simp[s.len],λj d' V=>?_,λj V=>?_,s.nd,s.dj,s.fdj,s.fdm⟩ λj V=>?_
  .by_cases ej:i=j
   .subst ej
    rw[aan]at V;split at V
    .split at V
     .rename_i h2
      have:d=d':=by simpa using V
      subst this;exact⟨x,by simp[←s.len,h2],by rw[U i I];exact r,hc⟩
     .cases V
    .exact absurd rfl ‹_›
   .rw[List.getElem?_set_ne ej]at V
    obtain⟨v,h1,h2,Y⟩:=s.sl j d' V;exact⟨v,by rw[List.getElem?_set_ne ej];exact h1,h2,Y⟩
  .by_cases ej:i=j
   .subst ej;exact U i I
   .exact s.em j λd'=>by have:=V d';rwa[List.getElem?_set_ne ej]at this
  .have:i≠j:=λz=>by rw[←z,I]at V;cases V
   rw[List.getElem?_set_ne this]
 .cases e
structure VB{ι:Type}(X:ι->Cx)(G:Gc)(ob own:Nat->Bool)(tg:Expr)(f:D->En->Option En):Prop where
 mk::(ex:∃t,(∀c,PG (X c) tg t)/\R9 G ob own t f)
theorem Jy(i:Nat){x:Str}{pos:Pos}(z:∀c,(X c).N.Nodup)(I:own i=ag:=by rfl)(hi:∀c,(X c).N[i]? =ac x:=by intro _;rfl)(F:∀c,Loc (X c).env.scope x:=by intro _;first|exact aab rfl|exact ZC rfl)(Y:∀c,(X c).fn x=ag∨(X c).env.scope.names.lookup x=ac .local:=by intro _;first|exact .inl rfl|exact .inr rfl):VB X G ob own (.Name x pos) (tgN i):=⟨_,λc=>ur (z c) (hi c) (F c) (Y c),Jj I⟩
def jQ(cap:List (Option Nat))(tg:D->En->Option En)(c:En->Option Bool)(e:En->Option (D×En)):List D->En->Option (List D×En)
 |[],ρ=>ac ([],ρ)
 |d::r,ρ=>(tg d (dI cap ρ)).bind λρ1=>(c ρ1).bind λb=>if b=ag then(e ρ1).bind λp=>if clean p.1=ag then(jQ cap tg c e r (iy cap p.2 ρ)).map λt=>(p.1::t.1,t.2)else af else jQ cap tg c e r ρ
def vK(cap:List (Option Nat))(it:En->Option (Bool×List D))(tg:D->En->Option En)(c:En->Option Bool)(e:En->Option (D×En)):En->Option (D×En):=λρ=>(it ρ).bind λp=>if p.1=ag/\p.2.length<=1000000 then(jQ cap tg c e p.2 ρ).map λt=>(.lst .own t.1,t.2)else af
theorem Nf{cap:List (Option Nat)}{wi:TI}{g:TG}{tt:TT}{te:TE}{it:En->Option (Bool×List D)}{tg:D->En->Option En}{c:En->Option Bool}{e:En->Option (D×En)}(hj:oU cap)(a6:∀i:Nat,own i=ag->cap[i]?≠af->cap[i]? =ac af)(hi:RfI G ob wi it)(F:R9 G (obC cap ob) own g tg)(ht:RfT G (obC cap ob) tt c)(he:lX G (obC cap ob) te e) :
  lX G ob (Cz cap wi g tt te) (vK cap it tg c e):=λρ d c9 ee σ H S Fr s Q q=>by
 unfold vK at ee;cases h1:it ρ with
 |none=>simp[h1]at ee
 |some p=>
  obtain⟨b,items⟩:=p;rw[h1]at ee;simp![gD]at ee;split at ee
  .rename_i a1
   obtain⟨U,a1⟩:=a1;change b=ag at U;change items.length<=1000000 at a1;subst U;cases h2:jQ cap tg c e items ρ with
   |none=>simp[h2]at ee
   |some w=>
    obtain⟨a9,a7⟩:=w;obtain⟨rfl,rfl⟩:D.lst .own a9=d/\a7=c9:=by simpa[h2]using ee
    refine hi ρ ag items h1 σ H _ s.rel s.wok _ λJ H1 sm wk=>?_;have s1:Sta G H1 ob ρ σ S Fr:=s.grow sm λa z=>.inl z;have e1:Eff ob H H1 S S []:=⟨λb u h _=>sm b u h,λ_ _=>rfl,λi a h z=>.inl ⟨i,h,z⟩,by simp⟩;refine⟨λi m ys H2=>i+m=items.length/\ys.length<=i/\∃ρ2 S2 acc L rest,Sta G H2 ob ρ2 σ S2 (plus L Fr)/\aG G H2 (wn ob S2 (plus L Fr)) acc ys L/\L.Nodup/\aB acc=ag/\aC acc=ag/\Eff ob H1 H2 S S2 L/\jQ cap tg c e (items.drop i) ρ2=ac (rest,a7)/\acc++rest=a9,
     ⟨items.length,by omega,by simp,ρ,S,[],[],a9,by rw[jE];exact s1,.nil,List.nodup_nil,rfl,rfl,.refl,h2,rfl⟩,?_⟩
    rintro i m ys H2 ⟨d3,d4,ρ2,S2,acc,L,rest,s2,ra,na,b1,b3,ef,a0,a2⟩;have lt:LtB ag H1 (wn ob S Fr) H2 (wn (obC cap ob) (lz cap S2) (rJ cap S2 (plus L Fr))):=uf ⟨λb u U f=>let⟨h1,h2⟩:=(ef.evo s1).k b u U f;⟨h1,zP.mp h2⟩,(ef.evo s1).t⟩;by_cases b7:i<items.length
    .have hdr:=(ZS b7).symm
     rw[hdr,jQ]at a0;refine .inr ⟨wk.go i items[i] (by simp[b7]) H2 _ lt,by have:=six a1;omega,λb4 H'=>(i+1)+(m-1)=items.length/\b4.length<=i+1/\∃ρ2 S2 acc L rest,Sta G H' ob ρ2 σ S2 (plus L Fr)/\aG G H' (wn ob S2 (plus L Fr)) acc b4 L/\L.Nodup/\aB acc=ag/\aC acc=ag/\Eff ob H1 H' S S2 L/\jQ cap tg c e (items.drop (i+1)) ρ2=ac (rest,a7)/\acc++rest=a9,λb4 H' h=>⟨m-1,by omega,h⟩,λx H3 hy=>?_⟩;obtain⟨s3,rx⟩:=wk.yld i items[i] (by simp[b7]) H2 _ lt x H3 hy;have c0:Sta G H3 ob ρ2 σ S2 (plus L Fr):=s2.grow s3 λa z=>.inl z;have c7:Eff ob H1 H3 S S2 L:=ef.same s3 λc B=>.inl B;have c6:aG G H3 (wn ob S2 (plus L Fr)) acc ys L:=ra.up (Up.same s3);have si:=c0.inn (cap:=cap) hj;cases Y:tg items[i] (dI cap ρ2)with
     |none=>simp[Y]at a0
     |some a3=>
      rw[Y]at a0;simp![gD]at a0;have d1:∀k,own k=ag->lz cap S2 k=[]:=λk O=>by
       unfold lz;split
       .rename_i j e
        rw[a6 k O (by rw[e];simp)]at e;cases e
       .rfl
      refine F items[i] _ a3 Y x _ H3 _ (rJ cap S2 (plus L Fr)) si d1 rx _ λb0 s4 b9=>⟨Gw a6 b9,?_⟩;cases h4:c a3 with
      |none=>simp[h4]at a0
      |some bb=>
       rw[h4]at a0;simp![gD]at a0;refine ht a3 bb h4 b0 H3 _ s4.rel s4.wok _ λH4 a8=>?_;have a5:Sta G H4 ob ρ2 σ S2 (plus L Fr):=c0.grow a8 λa z=>.inl z;have d2:Sta G H4 (obC cap ob) a3 b0 (lz cap S2) (rJ cap S2 (plus L Fr)):=s4.grow a8 λa z=>.inl z;have b8:Eff ob H1 H4 S S2 L:=c7.same a8 λc B=>.inl B;have b5:aG G H4 (wn ob S2 (plus L Fr)) acc ys L:=c6.up (Up.same a8);cases bb with
       |false=>
        simp![ZV,abo]at a0;exact zM ⟨by omega,by omega,ρ2,S2,acc,L,rest,a5,b5,na,b1,b3,b8,a0,a2⟩
       |true=>
        simp![Y6]at a0;cases h5:e a3 with
        |none=>simp[h5]at a0
        |some w=>
         obtain⟨y,b6⟩:=w;rw[h5]at a0;simp![gD]at a0;split at a0
         .rename_i hcy
          cases h6:jQ cap tg c e (items.drop (i+1)) (iy cap b6 ρ2)with
          |none=>simp[h6]at a0
          |some w=>
           obtain⟨a4,c1⟩:=w;obtain⟨rfl,rfl⟩:y::a4=rest/\c1=a7:=by simpa[h6]using a0
           refine uf (he a3 y b6 h5 b0 H4 _ _ d2 _ λv H5 M S5 s5 ry ny d0=>?_);have c8:∀i j:Nat,cap[i]? =ac (ac j)->b0[i]? =(fV cap σ)[i]?:=λi j hi=>b9 i (by
            cases I:own i with
            |false=>rfl
            |true=>rw[a6 i I (by rw[hi];simp)]at hi;cases hi)
           obtain⟨o1,o2,o3⟩:=a5.out hj (λ_ _=>trivial) c8 s5 d0;have c4:=(by simpa[clean]using hcy:az y=ag/\au y=ag);have c3:=b5.mono (o2.evo a5) (.inl b1) (.inl b3) λc B u hu=>o2.keepsF a5 (.inl B) u hu;rw[nZ]at o1 c3;have c2:=o3 y v M hcy ry;rw[nZ]at c2;have c5:∀a∈L,a∉M:=λa z1 z2=>by
            rcases o2.fm a z2 with y|y
            .exact a5.notO (.inl z1) y
            .obtain⟨o,I,_⟩:=b5.dom a z1
             rw[y]at I;cases I
           exact⟨by omega,by simp;omega,iy cap b6 ρ2,_,acc++[y],L++M,a4,o1,c3.append (.one c2),dR na ny c5,by rw[iH];simp[b1,aB,c4],by rw[iG];simp[b3,aC,c4],b8.trans o2,h6,by rw[←a2];simp⟩
         .cases a0
    .have hl:i=items.length:=by omega
     subst hl;rw[aai,jQ]at a0;obtain⟨rfl,rfl⟩:[]=rest/\ρ2=a7:=by simpa using a0
     refine .inl ⟨wk.stop H2 _ lt,aa3 (six 1.10),λp V=>?_⟩;have b2:Same H2 (upd H2 p (.lst ys)):=Same.new V;rw[Za]at a2;subst a2;have np:p∉L:=λz=>by obtain⟨o,I,_⟩:=ra.dom p z;rw[V]at I;cases I
     have Z:Rep G (upd H2 p (.lst ys)) (wn ob S2 (plus (p::L) Fr)) (.lst .own acc) (.ref p) (p::L):=by
      rw[Rep];exact⟨p,ys,L,rfl,ra.up ⟨b2,λb u U f=>⟨λz=>z.elim (λz=>(Yu.mp z).elim (λz=>by rw[z,V]at U;cases U) λz=>f.1 (.inl z)) λz=>f.1 (.inr z),f.2⟩,λ_ _ _ f=>f⟩,aQ,rfl⟩
     refine q (.ref p) _ (p::L) S2 (s2.grow b2 λa z=>?_) Z (Y5.mpr ⟨np,na⟩) ?_
     .rcases z with z|z
      .rcases Yu.mp z with z|z
       .exact .inr ⟨by rw[z];exact V,Z.dom a (by simp[z])⟩
       .exact .inl (.inl z)
      .exact .inl (.inr z)
     .exact(e1.trans ef).same b2 λc B=>(Yu.mp B).elim (λz=>.inr (by rw[z];exact V)) λz=>.inl (by simpa using z)
  .cases ee
section
variable{elt target iter:Expr}{ifs:List Expr}{scope:Scope}{pos pos' pos2:Pos}{N':List Str}{it:En->Option (Bool×List D)}{tg:D->En->Option En}{fc:En->Option Bool}
theorem jl(cap:List (Option Nat))(own:Nat->Bool){fe:En->Option D}(F:∀c,(X c).xe=NoX)(B:∀c,(X c).calm=ag)(O:∀c,cj (X c).env.scope (X c).N N' scope cap)(q:∀i:Nat,own i=ag->cap[i]?≠af->cap[i]? =ac af)(hi:PVI X G ob target iter it)(z:Gp (InX X N' scope) G (obC cap ob) own target tg)(U:Gj (InX X N' scope) G (obC cap ob) ifs fc)(I:PV (InX X N' scope) G (obC cap ob) elt fe)
  (hs:∀c,∀x,ZL iter (X c).env x=pure x:=by intro _ _;rfl):PV X G ob 1.15 (bU cap it tg fc fe):=
 let⟨_,i1,i2⟩:=hi.ex;let⟨_,g1,g2⟩:=z.ex;let⟨_,t1,t2⟩:=U.ex;let⟨_,e1,e2⟩:=I.ex
 ⟨_,λc=>Hu (F c) (B c) (O c) (i1 c) (λC s H fp=>g1 (c,C,s,H,fp)) (λC s H fp=>t1 (c,C,s,H,fp)) (λC s H fp=>e1 (c,C,s,H,fp)) (hs c),zY q i2 g2 t2 e2⟩
variable{P:Nat->Bool}{x:Str}
theorem C_(i:Nat)(cap:List (Option Nat))(own:Nat->Bool){fe:En->Option D}(z:∀c,(X c).N.Nodup)(F:∀c,(X c).xe=NoX)(B:∀c,(X c).calm=ag)(O:∀c,cj (X c).env.scope (X c).N N' scope cap)(q:∀i:Nat,own i=ag->cap[i]?≠af->cap[i]? =ac af)(hi:PVI X G ob target iter it)(hg:Gp (InX X N' scope) G (obC cap ob) own target tg)(U:Gj (InX X N' scope) G (obC cap ob) ifs fc)(he:PV (InX X N' scope) G (obC cap ob) elt fe)
  (V:P i=ae:=by rfl) (I:∀c,(X c).N[i]? =ac x:=by intro _;rfl) (Z:∀c,Loc (X c).env.scope x:=by intro _;first|exact aab rfl|exact ZC rfl) (hw:∀c,abk 1.15 (ac (.Name x pos')) pos2.line (X c).env=pure ag:=by intro _;rfl) (hs:∀c,∀x,ZL iter (X c).env x=pure x:=by intro _ _;rfl)
  (Y:∀c,(X c).fn x=ag∨(X c).env.scope.names.lookup x=ac .local:=by intro _;first|exact .inl rfl|exact .inr rfl):PVS X G ob P (.Assign [.Name x pos'] 1.15 pos2) (bN (bU cap it tg fc fe) (tgN i)):=
 let⟨_,i1,i2⟩:=hi.ex;let⟨_,g1,g2⟩:=hg.ex;let⟨_,t1,t2⟩:=U.ex;let⟨_,e1,e2⟩:=he.ex
 ⟨_,λc=>GZ (F c) (B c) (z c) (I c) (Z c) (O c) (i1 c) (λC s H fp=>g1 (c,C,s,H,fp)) (λC s H fp=>t1 (c,C,s,H,fp)) (λC s H fp=>e1 (c,C,s,H,fp)) (hw c) (hs c) (Y c),by rw[←zU];exact ju (xP (zY q i2 g2 t2 e2)) (jc V)⟩
theorem Ip(i:Nat)(cap:List (Option Nat))(own:Nat->Bool){fe:En->Option (D×En)}(z:∀c,(X c).N.Nodup)(F:∀c,(X c).xe=NoX)(B:∀c,(X c).calm=ag)(O:∀c,cj (X c).env.scope (X c).N N' scope cap)(V:oU cap)(q:∀i:Nat,own i=ag->cap[i]?≠af->cap[i]? =ac af)(hi:PVI X G ob target iter it)(hg:VB (InX X N' scope) G (obC cap ob) own target tg)(U:Gj (InX X N' scope) G (obC cap ob) ifs fc)(he:PVe (InX X N' scope) G (obC cap ob) elt fe)
  (hP:P i=ae:=by rfl) (I:∀c,(X c).N[i]? =ac x:=by intro _;rfl) (Z:∀c,Loc (X c).env.scope x:=by intro _;first|exact aab rfl|exact ZC rfl) (hw:∀c,abk 1.15 (ac (.Name x pos')) pos2.line (X c).env=pure ag:=by intro _;rfl) (hs:∀c,∀x,ZL iter (X c).env x=pure x:=by intro _ _;rfl)
  (Y:∀c,(X c).fn x=ag∨(X c).env.scope.names.lookup x=ac .local:=by intro _;first|exact .inl rfl|exact .inr rfl):PVS X G ob P (.Assign [.Name x pos'] 1.15 pos2) (gf (vK cap it tg fc fe) (tgN i)):=
 let⟨_,i1,i2⟩:=hi.ex;let⟨_,g1,g2⟩:=hg.ex;let⟨_,t1,t2⟩:=U.ex;let⟨_,e1,e2⟩:=he.ex
 ⟨_,λc=>GZ (F c) (B c) (z c) (I c) (Z c) (O c) (i1 c) (λC s H fp=>g1 (c,C,s,H,fp)) (λC s H fp=>t1 (c,C,s,H,fp)) (λC s H fp=>e1 (c,C,s,H,fp)) (hw c) (hs c) (Y c),ju (Nf V q i2 g2 t2 e2) (jc hP)⟩
end
end
inductive Sc:Dt->Dt->Prop
 |bl (a b:Bool):Sc (.bl a) (.bl b)
 |int (a b:Int):Sc (.int a) (.int b)
 |str (a b:Str):Sc (.str a) (.str b)
 |non:Sc .non .non
 |ns (b:Str):Sc .non (.str b)
def Flt(d e:Dt):Prop:=∃a b,d= .tup a/\e= .tup b/\∀p∈a.zip b,Sc p.1 p.2
def Sw(d e:Dt):Prop:=∃a b,d= .lst a/\e= .lst b/\∀p∈a.zip b,Sc p.1 p.2
inductive Alk:Dt->Dt->Prop
 |sc {d e:Dt}:Sc d e->Alk d e
 |lst {a b:List Dt}:(∀p∈a.zip b,Sc p.1 p.2)->Alk (.lst a) (.lst b)
 |tup {a b:List Dt}:(∀p∈a.zip b,Sc p.1 p.2)->Alk (.tup a) (.tup b)
 |deep {a b:List Dt}:(∀p∈a.zip b,Flt p.1 p.2)->Alk (.lst a) (.lst b)
 |deepL {a b:List Dt}:(∀p∈a.zip b,Sw p.1 p.2)->Alk (.lst a) (.lst b)
 |deepT {a b:List Dt}:(∀p∈a.zip b,Flt p.1 p.2)->Alk (.tup a) (.tup b)
section
variable{X:Cx}{pins:List (Addr×Obj)}{σ:L2.St}{H:Hp}{s:Shared}{A:Around}
open PySem.SeqAt
theorem Hb{d e:Dt}{v u:V}{v' u':Value}(h:Sc d e)(h1:Brs X.K H d v)(h2:Brs X.K H e u)(z:RelV v v')(q:RelV u u'):EqAt A s v' u' (eqD d e)/\RcAt A s v' u' (eqD d e)/\RcNeAt A s v' u' (!eqD d e):=by
 cases h<;>simp![Brs]at h1 h2<;>subst h1 h2
 case bl a b=>cases z;cases q;exact⟨EqAt.bool_bool a b,RcAt.bool_bool a b,RcNeAt.bool_bool a b⟩
 case int a b=>obtain⟨t,rfl⟩:=z;obtain⟨t',rfl⟩:=q;exact⟨EqAt.int_int a t b t',RcAt.int_int a t b t',RcNeAt.int_int a t b t'⟩
 case non=>cases z;cases q;exact⟨afF _,RcAt.none_none,RcNeAt.none_none⟩
 case ns b=>cases z;obtain⟨t',rfl⟩:=q;exact⟨EqAt.none_str b t',RcAt.none_str b t',RcNeAt.none_str b t'⟩
 case str a b=>obtain⟨t,rfl⟩:=z;obtain⟨t',rfl⟩:=q;exact⟨EqAt.str_str a t b t',RcAt.str_str a t b t',RcNeAt.str_str a t b t'⟩
theorem v6{R:Dt->Dt->Prop}(B:∀{d e:Dt}{v u:V}{v' u':Value},R d e->Brs X.K H d v->Brs X.K H e u->RelV v v'->RelV u u'->EqAt A s v' u' (eqD d e)):∀{ds es:List Dt}{ys xs:List V}{z its:List Value},(∀p∈ds.zip es,R p.1 p.2)->jg X.K H ds ys->jg X.K H es xs->Vals ys z->Vals xs its->
  ∀j (h1:j<z.toArray.size)(h2:j<its.toArray.size),EqAt A s z.toArray[j] its.toArray[j] (eqJ ds es j)
 |[],es,ys,xs,z,its,_,h,h',r,r',j,h1,h2=>by
  simp![jg]at h;subst h;cases r;simp at h1
 |d::ds,[],ys,xs,z,its,_,h,h',r,r',j,h1,h2=>by
  simp![jg]at h';subst h';cases r';simp at h2
 |d::ds,e::es,ys,xs,z,its,ha,h,h',r,r',j,h1,h2=>by
  simp![jg]at h h';obtain⟨y,q,rfl,hd,Z⟩:=h;obtain⟨x,a0,rfl,F,O⟩:=h';cases r with
  |cons I rb=>
   cases r' with
   |cons U Y=>
    cases j with
    |zero=>exact B (ha (d,e) (by simp)) hd F I U
    |succ j=>exact v6 B (λp hp=>ha p (by simp[hp])) Z O rb Y j (by simpa using h1) (by simpa using h2)
theorem zO(I:Inv X pins σ H s){R:Dt->Dt->Prop}(hR:∀{d e:Dt}{v u:V}{v' u':Value},R d e->Brs X.K H d v->Brs X.K H e u->RelV v v'->RelV u u'->EqAt A.in1 s v' u' (eqD d e)){ds es:List Dt}{v u:V}{v' u':Value}(h:∀p∈ds.zip es,R p.1 p.2)(h1:Brs X.K H (.lst ds) v)(h2:Brs X.K H (.lst es) u)(z:RelV v v')(q:RelV u u')(hz:A.units<cLine):RcAt A s v' u' (eqD (.lst ds) (.lst es))/\RcNeAt A s v' u' (!eqD (.lst ds) (.lst es)):=by
 simp![Brs]at h1 h2;obtain⟨F,a7,rfl,a5,Y⟩:=h1;obtain⟨B,a8,rfl,a6,U⟩:=h2;cases z;cases q;obtain⟨a0,a4,p1,_⟩:=I.list a5;obtain⟨O,a3,p2,_⟩:=I.list a6;have l1:=Y.length;have l2:=U.length;have l3:=a4.length;have l4:=a3.length;rw[show eqD (.lst ds) (.lst es)=eqL ds es by simp[eqD]];by_cases Z:ds.length=es.length
 .have e1:a0.toArray.size=O.toArray.size:=by rw[List.size_toArray,List.size_toArray];omega
  have e2:ds.length=a0.toArray.size:=by rw[List.size_toArray];omega
  rw[←zG Z,e2];exact⟨RcAt.lists p1.isList p2.isList e1 hz (v6 hR h Y U a4 a3),RcNeAt.lists p1.isList p2.isList e1 hz (v6 hR h Y U a4 a3)⟩
 .have e1:(a0.toArray.size !=O.toArray.size)=ag:=by rw[List.size_toArray,List.size_toArray];exact bne_iff_ne.mpr 1.10
  rw[An Z];exact⟨RcAt.lists_lengths p1.isList p2.isList e1 hz,RcNeAt.lists_lengths p1.isList p2.isList e1 hz⟩
theorem Hw(I:Inv X pins σ H s){R:Dt->Dt->Prop}(hR:∀{d e:Dt}{v u:V}{v' u':Value},R d e->Brs X.K H d v->Brs X.K H e u->RelV v v'->RelV u u'->EqAt A.in1 s v' u' (eqD d e)){ds es:List Dt}{v u:V}{v' u':Value}(h:∀p∈ds.zip es,R p.1 p.2)(h1:Brs X.K H (.tup ds) v)(h2:Brs X.K H (.tup es) u)(z:RelV v v')(q:RelV u u')(hz:A.units<cLine):RcAt A s v' u' (eqD (.tup ds) (.tup es))/\RcNeAt A s v' u' (!eqD (.tup ds) (.tup es)):=by
 simp![Brs]at h1 h2;obtain⟨F,a7,rfl,a5,Y⟩:=h1;obtain⟨B,a8,rfl,a6,U⟩:=h2;cases z;cases q;obtain⟨a0,a4,p1,_⟩:=I.tuple a5;obtain⟨O,a3,p2,_⟩:=I.tuple a6;have l1:=Y.length;have l2:=U.length;have l3:=a4.length;have l4:=a3.length;have e:eqD (.tup ds) (.tup es)=((Zw (min a0.toArray.size O.toArray.size)).all (eqJ ds es)&&a0.toArray.size==O.toArray.size):=by
  rw[show eqD (.tup ds) (.tup es)=eqL ds es by simp[eqD],List.size_toArray,List.size_toArray];by_cases Z:ds.length=es.length
  .rw[show min a0.length O.length=ds.length by omega,zG Z,show(a0.length==O.length)=ag by simp;omega,adk]
  .rw[An Z,show(a0.length==O.length)=ae by simp;omega,afy]
 rw[e];exact⟨RcAt.tuples p1 p2 hz (v6 hR h Y U a4 a3),RcNeAt.tuples p1 p2 hz (v6 hR h Y U a4 a3)⟩
theorem M9(I:Inv X pins σ H s){ds es:List Dt}{v u:V}{v' u':Value}(h:∀p∈ds.zip es,Sc p.1 p.2)(h1:Brs X.K H (.tup ds) v)(h2:Brs X.K H (.tup es) u)(z:RelV v v')(q:RelV u u')(hz:A.units<cLine):RcAt A s v' u' (eqD (.tup ds) (.tup es))/\RcNeAt A s v' u' (!eqD (.tup ds) (.tup es)):=
 Hw I (λh a b c d=>(Hb h a b c d).1) h h1 h2 z q hz
theorem yP{K:YC}:∀{ds es:List Dt}{xs:List V},(∀p∈ds.zip es,Sc p.1 p.2)->jg K H ds xs->jg K H es xs->eqL ds es=ag
 |[],[],_,_,_,_=>by simp[eqL]
 |[],_::_,_,_,h,h'=>by simp![jg]at h;subst h;simp[jg]at h'
 |_::_,[],_,_,h,h'=>by simp![jg]at h';subst h';simp[jg]at h
 |d::r,e::q,_,ha,h,h'=>by
  simp![jg]at h h';obtain⟨x,ys,rfl,hd,Z⟩:=h;obtain⟨_,_,e1,F,O⟩:=h';cases e1;rw[eqL,yP (λp z=>ha p (by simp[z])) Z O,adk];have hs:=ha (d,e) (by simp);dsimp only at hs;cases hs<;>simp![Brs]at hd F<;>rw[hd]at F<;>first|(cases F;done)|(cases F;simp[eqD];done)|simp[eqD]
theorem Ei(I:Inv X pins σ H s)(hz:A.units<cLine){d e:Dt}{v u:V}{v' u':Value}(h:Flt d e)(h1:Brs X.K H d v)(h2:Brs X.K H e u)(z:RelV v v')(q:RelV u u'):EqAt A s v' u' (eqD d e):=by
 obtain⟨a,b,rfl,rfl,h⟩:=h;have U:=(M9 I h h1 h2 z q hz).1;simp![Brs]at h1 h2;obtain⟨F,a4,rfl,Z,Y⟩:=h1;obtain⟨B,a5,rfl,a0,a3⟩:=h2;cases z;cases q;by_cases O:F=B
 .subst O
  obtain rfl:=I.tuple_inj Z a0;rw[show eqD (.tup a) (.tup b)=ag by rw[eqD];exact yP h Y a3];exact afF _
 .exact EqAt.of_refs O U
theorem Qv(I:Inv X pins σ H s)(hz:A.units<cLine){d e:Dt}{v u:V}{v' u':Value}(h:Sw d e)(h1:Brs X.K H d v)(h2:Brs X.K H e u)(z:RelV v v')(q:RelV u u'):EqAt A s v' u' (eqD d e):=by
 obtain⟨a,b,rfl,rfl,h⟩:=h;have U:=(zO I (λh a b c d=>(Hb h a b c d).1) h h1 h2 z q hz).1;simp![Brs]at h1 h2;obtain⟨F,a4,rfl,Z,Y⟩:=h1;obtain⟨B,a5,rfl,a0,a3⟩:=h2;cases z;cases q;by_cases O:F=B
 .subst O
  obtain rfl:=I.list_inj Z a0;rw[show eqD (.lst a) (.lst b)=ag by rw[eqD];exact yP h Y a3];exact afF _
 .exact EqAt.of_refs O U
theorem M7(I:Inv X pins σ H s){d e:Dt}{v u:V}{v' u':Value}(h:Alk d e)(h1:Brs X.K H d v)(h2:Brs X.K H e u)(z:RelV v v')(q:RelV u u')(hz:A.units+1<cLine):RcAt A s v' u' (eqD d e)/\RcNeAt A s v' u' (!eqD d e):=by
 cases h with
 |sc h=>exact(Hb h h1 h2 z q).2
 |lst h=>exact zO I (λh a b c d=>(Hb h a b c d).1) h h1 h2 z q 1.10
 |tup h=>exact M9 I h h1 h2 z q 1.10
 |deepL h=>exact zO I (λh a b c d=>Qv I (show A.units+1<cLine from hz) h a b c d) h h1 h2 z q 1.10
 |deepT h=>exact Hw I (λh a b c d=>Ei I (show A.units+1<cLine from hz) h a b c d) h h1 h2 z q 1.10
 |deep h=>exact zO I (λh a b c d=>Ei I (show A.units+1<cLine from hz) h a b c d) h h1 h2 z q 1.10
def VM(K:YC)(A:Zx):R2:=λx y H Q=>∃d e,Alk d e/\Brs K H d x/\Brs K H e y/\A.units+1<cLine/\Q (.bl (eqD d e)) H
def Wb(K:YC)(A:Zx):R2:=λx y H Q=>∃d e,Alk d e/\Brs K H d x/\Brs K H e y/\A.units+1<cLine/\Q (.bl (!eqD d e)) H
theorem Vw:OpR X (Zf .Eq) (VM X.K X.A):=by
 intro pins s σ H x y v u Q I rx B ⟨d,e,h,h1,h2,hu,q⟩;exact(M7 I h h1 h2 rx B hu).1 _ _ _ _ ⟨.bl (eqD d e),H,I,rfl,q⟩
theorem Th:OpR X (Zf .NotEq) (Wb X.K X.A):=by
 intro pins s σ H x y v u Q I rx B ⟨d,e,h,h1,h2,hu,q⟩;exact(M7 I h h1 h2 rx B hu).2 _ _ _ _ ⟨.bl (!eqD d e),H,I,rfl,q⟩
end
theorem OpR.or{f:Value->Value->Sem Value}{r Z:R2}(h:OpR Y f r)(h':OpR Y f Z):OpR Y f (λx y H Q=>r x y H Q∨Z x y H Q):=λpins s σ H x y v u Q I rx B q=>q.elim (h pins s σ H x y v u Q I rx B) (h' pins s σ H x y v u Q I rx B)
theorem gh.or{f:Value}{Z:List V->Hp->VK->Prop}(h:gh Y f r)(h':gh Y f Z):gh Y f (λxs H Q=>r xs H Q∨Z xs H Q):=λpins s σ H xs us Q I U q=>q.elim (h pins s σ H xs us Q I U) (h' pins s σ H xs us Q I U)
variable{i:Int}
theorem dZ:Rep G H W (.int i) (.int i) []:=by rw[Rep];exact⟨rfl,rfl⟩
theorem uz{i:Str}:Rep G H W (.str i) (.str i) []:=by rw[Rep];exact⟨rfl,rfl⟩
theorem eZ{i:Bool}:Rep G H W (.bl i) (.bl i) []:=by rw[Rep];exact⟨rfl,rfl⟩
theorem bF(r:Rep G H W (.int i) v L):v= .int i/\L=[]:=by rw[Rep]at r;exact r
theorem cC{i:Str}(r:Rep G H W (.str i) v L):v= .str i/\L=[]:=by rw[Rep]at r;exact r
theorem v4{i:Bool}(r:Rep G H W (.bl i) v L):v= .bl i/\L=[]:=by rw[Rep]at r;exact r
variable{g:Int->Int->V}{z:D->D->Option D}
theorem Ht(h:∀dx F d,z dx F=ac d->∃i j,dx= .int i/\F= .int j/\C i j/\∀H W,Rep G H W d (g i j) []):OpV G (rI C g) z:=λdx F d e x y H W I Y rx O nd hn w Q q=>by
 obtain⟨i,j,rfl,rfl,B,Z⟩:=h dx F d e;obtain⟨rfl,rfl⟩:=bF rx;obtain⟨rfl,rfl⟩:=bF O;exact⟨i,j,rfl,rfl,B,q.scal (λW=>Z H W)⟩
theorem Bl(h:∀dx F d,z dx F=ac d->∃i j,dx= .int i/\F= .int j/\∀H W,Rep G H W d (g i j) []):OpV G (rI0 g) z:=λdx F d e x y H W I Y rx B nd hn w Q q=>by
 obtain⟨i,j,rfl,rfl,Z⟩:=h dx F d e;obtain⟨rfl,rfl⟩:=bF rx;obtain⟨rfl,rfl⟩:=bF B;exact⟨i,j,rfl,rfl,q.scal (λW=>Z H W)⟩
def jf:D->D->Option D
 |.int a,.int b=>ac (.int (a-b))
 |_,_=>af
def jZ:D->D->Option D
 |.int a,.int b=>if(-(2 ^ 64)<a/\a<2 ^ 64)∨(-(2 ^ 64)<b/\b<2 ^ 64)then ac (.int (a*b))else af
 |_,_=>af
def lN:D->D->Option D
 |.int a,.int b=>if 0<b/\b<18446744073709551616 then ac (.int (a / b))else af
 |_,_=>af
def mL:D->D->Option D
 |.int a,.int b=>if 0<b then ac (.int (a % b))else af
 |_,_=>af
def tV:D->D->Option D
 |.int a,.int b=>if 0<=b/\b<=1000000/\a.natAbs<2 ^ 64 then ac (.int (a ^ b.toNat))else af
 |_,_=>af
theorem zc:OpB X G (aah .Sub) jf:=⟨_,λc=>Ue,Bl λdx F d e=>by
 unfold jf at e;split at e
 .cases e;exact⟨_,_,rfl,rfl,λ_ _=>dZ⟩
 .cases e⟩
theorem mZ:OpB X G (aah .Mult) jZ:=⟨_,λc=>TY,Ht λdx F d e=>by
 unfold jZ at e;split at e
 .split at e
  .cases e;exact⟨_,_,rfl,rfl,‹_›,λ_ _=>dZ⟩
  .cases e
 .cases e⟩
theorem QD:OpB X G (aah .FloorDiv) lN:=⟨_,λc=>Ka,Ht λdx F d e=>by
 unfold lN at e;split at e
 .split at e
  .cases e;exact⟨_,_,rfl,rfl,‹_›,λ_ _=>dZ⟩
  .cases e
 .cases e⟩
theorem rO:OpB X G (aah .Mod) mL:=⟨_,λc=>Vt,Ht λdx F d e=>by
 unfold mL at e;split at e
 .split at e
  .cases e;exact⟨_,_,rfl,rfl,‹_›,λ_ _=>dZ⟩
  .cases e
 .cases e⟩
theorem Uo:OpB X G (aah .Pow) tV:=⟨_,λc=>U_,Ht λdx F d e=>by
 unfold tV at e;split at e
 .split at e
  .cases e;exact⟨_,_,rfl,rfl,‹_›,λ_ _=>dZ⟩
  .cases e
 .cases e⟩
def jJ:D->Option D
 |.int a=>ac (.int (-a))
 |_=>af
theorem rn:UnB X G (unaryOp .USub) jJ:=⟨_,λc=>Sx,λdx d e x H W I rx nd hn w Q q=>by
 unfold jJ at e;split at e
 .cases e
  obtain⟨rfl,rfl⟩:=bF rx;exact⟨_,rfl,q.scal λW=>dZ⟩
 .cases e⟩
def fQ:D->D->Option D
 |.int a,.int b=>ac (.int (a+b))
 |.str a,.str b=>if a.length+b.length<=Yx then ac (.str (a++b))else af
 |.lst m a,.lst n b=>if m≠.scr/\n≠.scr/\a.length+b.length<=1000000 then ac (.lst .own (a++b))else af
 |.tup a,.tup b=>if a.length+b.length<=1000000 then ac (.tup (a++b))else af
 |_,_=>af
theorem yo{dx dy:List D}{ys:List V}{I Y B Z:List Addr}(F:aG G H W dx xs B)(hy:aG G H W dy ys Z)(sx:aal B I)(sy:aal Z Y)(hn:∀a∈I++Y,W.tmp a)(s:Same H H')(q:List Addr)(O:∀a∈q,H a=af):aG G H' ((W.drop (I++Y)).add (q++(B++Z))) (dx++dy) (xs++ys) (B++Z):=by
 refine(F.append hy).up ⟨s,λb u U f=>⟨λz=>z.elim (λz=>?_) λz=>f.1 z.1,f.2⟩,λ_ _ _ f=>f⟩;rcases Yl.mp z with z|z
 .rw[O b z]at U;cases U
 .rcases Yl.mp z with z|z
  .exact f.1 (hn b (Yv _ (sx.subset z))).1
  .exact f.1 (hn b (Yn _ (sy.subset z))).1
def WP(K:YC):R2:=λx y H Q=>((rI0 (λi j=>.int (i+j)) x y H Q∨(∃i j,x= .str i/\y= .str j/\i.length+j.length<=Yx/\Q (.str (i++j)) H))∨WQ x y H Q)∨K4 K x y H Q
theorem Rg:OpV G (WP G.K) fQ:=λdx dy d e x y H W Lx Y rx ry nd hn w Q q=>by
 unfold fQ at e;split at e
 .cases e
  obtain⟨rfl,rfl⟩:=bF rx;obtain⟨rfl,rfl⟩:=bF ry;exact .inl (.inl (.inl ⟨_,_,rfl,rfl,q.scal λ_=>dZ⟩))
 .split at e
  .cases e
   obtain⟨rfl,rfl⟩:=cC rx;obtain⟨rfl,rfl⟩:=cC ry;exact .inl (.inl (.inr ⟨_,_,rfl,rfl,‹_›,q.scal λ_=>uz⟩))
  .cases e
 .rename_i m a n b
  split at e
  .rename_i B
   cases e;rw[Rep]at rx ry;obtain⟨p,xs,Mx,rfl,F,sx⟩:=rx;obtain⟨p',ys,My,rfl,hy,sy⟩:=ry;refine .inl (.inr ⟨p,p',xs,ys,rfl,rfl,sx.at B.1,sy.at B.2.1,by rw[←F.length,←hy.length];exact aa3 (six B.2.2),λr Z=>?_⟩);have O:Same H (upd H r (.lst (xs++ys))):=Same.new Z;have nr:r∉Mx++My:=λz=>by
    obtain⟨o,I,_⟩:=(F.append hy).dom r z;rw[Z]at I;cases I
   have a1:(Mx++My).Nodup:=(sx.sub.append sy.sub).nodup nd;refine q (.ref r) _ (r::(Mx++My)) O ?_ (λc B=>?_) (Y5.mpr ⟨nr,a1⟩)
   .rw[Rep]
    exact⟨r,xs++ys,Mx++My,rfl,yo F hy sx.sub sy.sub hn O [r] (by simpa using Z),aQ,rfl⟩
   .rcases Yu.mp B with z|z
    .exact .inr (by rw[z];exact Z)
    .exact .inl ((sx.sub.append sy.sub).subset z)
  .cases e
 .rename_i a b
  split at e
  .rename_i B
   cases e;rw[Rep]at rx ry;obtain⟨p,xs,rfl,V,F⟩:=rx;obtain⟨p',ys,rfl,a0,hy⟩:=ry;have base:∀H' p2,Same H H'->H' p2=ac (.tup (xs++ys))->Q (.ref p2) H':=λH' p2 O U=>by
    refine q (.ref p2) H' (Lx++Y) O ?_ (λc B=>.inl B) nd;rw[Rep];exact⟨p2,xs++ys,rfl,U,yo F hy (abf _) (abf _) hn O [] (by simp)⟩
   refine .inr ⟨p,p',xs,ys,rfl,rfl,SqT.of V,SqT.of a0,by rw[←F.length,←hy.length];exact aa3 (six B),λz=>base H p' (Same.refl H) (by rw[z];exact a0),λ_ z=>base H p (Same.refl H) (by rw[z,Za];exact V),λ_ _ r Z=>base _ r (Same.new Z) aQ⟩
  .cases e
 .cases e
theorem je(q:∀c,(X c).K=G.K:=by intro _;rfl):OpB X G (aah .Add) fQ:=⟨_,λc=>by rw[←q c];exact OpR.or (OpR.or (OpR.or Ti Em) Ud) Ln,Rg⟩
def gLt:D->D->Option D
 |.int a,.int b=>ac (.bl (decide (a<b)))
 |.str a,.str b=>ac (.bl (decide (a.cps.toList<b.cps.toList)))
 |_,_=>af
def gLe:D->D->Option D
 |.int a,.int b=>ac (.bl (decide (a<=b)))
 |_,_=>af
def gGt:D->D->Option D
 |.int a,.int b=>ac (.bl (decide (b<a)))
 |_,_=>af
def gGe:D->D->Option D
 |.int a,.int b=>ac (.bl (decide (b<=a)))
 |_,_=>af
theorem HQ:OpB X G (Zf .Lt) gLt:=⟨_,λc=>OpR.or Wm Jk,λdx F d e x y H W I Y rx B nd hn w Q q=>by
 unfold gLt at e;split at e
 .cases e
  obtain⟨rfl,rfl⟩:=bF rx;obtain⟨rfl,rfl⟩:=bF B;exact .inl ⟨_,_,rfl,rfl,q.scal λ_=>eZ⟩
 .cases e
  obtain⟨rfl,rfl⟩:=cC rx;obtain⟨rfl,rfl⟩:=cC B;exact .inr ⟨_,_,rfl,rfl,q.scal λ_=>eZ⟩
 .cases e⟩
theorem W7:OpB X G (Zf .LtE) gLe:=⟨_,λc=>V1,Bl λdx F d e=>by
 unfold gLe at e;split at e
 .cases e;exact⟨_,_,rfl,rfl,λ_ _=>eZ⟩
 .cases e⟩
theorem J3:OpB X G (Zf .Gt) gGt:=⟨_,λc=>Xy,Bl λdx F d e=>by
 unfold gGt at e;split at e
 .cases e;exact⟨_,_,rfl,rfl,λ_ _=>eZ⟩
 .cases e⟩
theorem R4:OpB X G (Zf .GtE) gGe:=⟨_,λc=>WL,Bl λdx F d e=>by
 unfold gGe at e;split at e
 .cases e;exact⟨_,_,rfl,rfl,λ_ _=>eZ⟩
 .cases e⟩
def j9:D->Bool
 |.non=>ag
 |_=>ae
def gIs:D->D->Option D
 |x,.non=>ac (.bl (j9 x))
 |_,_=>af
theorem JG(r:Rep G H W d v L):decide (v= .non)=j9 d:=by
 cases d<;>rw[Rep]at r
 case non=>obtain⟨rfl,_⟩:=r;rfl
 case bl=>obtain⟨rfl,_⟩:=r;rfl
 case int=>obtain⟨rfl,_⟩:=r;rfl
 case str=>obtain⟨rfl,_⟩:=r;rfl
 case ty=>obtain⟨rfl,_⟩:=r;rfl
 case tup=>obtain⟨a,xs,rfl,_⟩:=r;rfl
 case lst=>obtain⟨a,xs,M,rfl,_⟩:=r;rfl
 case dct=>obtain⟨a,xs,M,rfl,_⟩:=r;rfl
 case ins=>obtain⟨a,C,dx,xs,M,rfl,_⟩:=r;rfl
theorem R1:OpB X G (Zf .Is) gIs:=⟨_,λc=>Vg,λdx F d e x y H W I Y rx B nd hn w Q q=>by
 unfold gIs at e;split at e
 .cases e
  rw[Rep]at B;exact⟨B.1,by rw[JG rx];exact q.scal λ_=>eZ⟩
 .cases e⟩
mutual
noncomputable def dt:D->Dt
 |.non=>.non
 |.bl b=>.bl b
 |.int i=>.int i
 |.str x=>.str x
 |.tup ds=>.tup (dtL ds)
 |.lst _ ds=>.lst (dtL ds)
 |_=>.non
noncomputable def dtL:List D->List Dt
 |[]=>[]
 |d::r=>dt d::dtL r
end
mutual
noncomputable def tG:D->Bool
 |.ty _=>ae
 |.dct _ _ _=>ae
 |.ins _ _ _ _=>ae
 |.tup ds=>mR ds
 |.lst _ ds=>mR ds
 |_=>ag
noncomputable def mR:List D->Bool
 |[]=>ag
 |d::r=>tG d&&mR r
end
mutual
theorem Rep.brs{H:Hp}{W:Wn}:∀{d:D}{v:V}{L:List Addr},Rep G H W d v L->tG d=ag->Brs G.K H (dt d) v
 |.non,v,L,r,_=>by rw[Rep]at r;simp[dt,Brs,r]
 |.bl _,v,L,r,_=>by rw[Rep]at r;simp[dt,Brs,r]
 |.int _,v,L,r,_=>by rw[Rep]at r;simp[dt,Brs,r]
 |.str _,v,L,r,_=>by rw[Rep]at r;simp[dt,Brs,r]
 |.ty _,v,L,r,h=>by cases h
 |.dct _ _ _,v,L,r,h=>by cases h
 |.ins _ _ _ _,v,L,r,h=>by cases h
 |.tup ds,v,L,r,h=>by
  rw[Rep]at r;obtain⟨a,xs,rfl,U,Z⟩:=r;rw[dt,Brs];exact⟨a,xs,rfl,SqT.of U,aG.brs Z h⟩
 |.lst m ds,v,L,r,h=>by
  rw[Rep]at r;obtain⟨a,xs,M,rfl,Z,hs⟩:=r;rw[dt,Brs];exact⟨a,xs,rfl,hs.sq,aG.brs Z h⟩
theorem aG.brs{H:Hp}{W:Wn}:∀{ds:List D}{O:List V}{L:List Addr},aG G H W ds O L->mR ds=ag->jg G.K H (dtL ds) O
 |[],O,L,r,_=>by obtain⟨rfl,_⟩:=r.inv0;simp[dtL,jg]
 |d::r,O,L,hr,h=>by
  obtain⟨x,ys,M,M',rfl,rfl,h1,h2⟩:=hr.inv;rw[mR,YS]at h;rw[dtL,jg];exact⟨x,ys,rfl,Rep.brs h1 h.1,aG.brs h2 h.2⟩
end
open Classical in
def gEq:D->D->Option D:=λx y=>if tG x=ag/\tG y=ag/\Alk (dt x) (dt y)then ac (.bl (eqD (dt x) (dt y)))else af
open Classical in
def gNe:D->D->Option D:=λx y=>if tG x=ag/\tG y=ag/\Alk (dt x) (dt y)then ac (.bl (!eqD (dt x) (dt y)))else af
theorem cb_eq(A:Zx)(V:∀c,(X c).A=A)(hu:A.units+64<cLine)(z:∀c,(X c).K=G.K:=by intro _;rfl):OpB X G (Zf .Eq) gEq:=⟨VM G.K A,λc=>by rw[←z c,←V c];exact Vw,λdx F d e x y H W I Y rx B nd hn w Q q=>by
 unfold gEq at e;split at e
 .rename_i hc
  cases e;exact⟨_,_,hc.2.2,rx.brs hc.1,B.brs hc.2.1,by omega,q.scal λ_=>eZ⟩
 .cases e⟩
theorem yq(A:Zx)(V:∀c,(X c).A=A)(hu:A.units+64<cLine)(z:∀c,(X c).K=G.K:=by intro _;rfl):OpB X G (Zf .NotEq) gNe:=⟨Wb G.K A,λc=>by rw[←z c,←V c];exact Th,λdx F d e x y H W I Y rx B nd hn w Q q=>by
 unfold gNe at e;split at e
 .rename_i hc
  cases e;exact⟨_,_,hc.2.2,rx.brs hc.1,B.brs hc.2.1,by omega,q.scal λ_=>eZ⟩
 .cases e⟩
def gIx:D->D->Option D
 |.lst _ ds,.int i=>atI ds i
 |.tup ds,.int i=>atI ds i
 |.str z,.int i=>if z.length<=Yx then(atI z.cps.toList i).map λc=>.str ⟨#[c]⟩else af
 |.dct _ ks ds,k=>(cQ k).bind λk=>(cP ks k).bind λj=>ds[j]?
 |_,_=>af
theorem Ov(Z:aG G H W ds xs L)(e:atI ds i=ac d):∃j:Nat,ds[j]? =ac d/\∀x,xs[j]? =ac x->atI xs i=ac x:=by
 unfold atI at e⊢;rw[←Z.length];cases h:ixN ds.length i with
 |none=>simp[h]at e
 |some j=>
  refine⟨j,by simpa[h]using e,λx F=>by simpa using F⟩
variable{x:V}
theorem rP{I B:List Addr}(r:Rep G H W d x M)(s:aal M I)(nd:(I++B).Nodup)(hn:∀a∈I++B,W.tmp a)(q:Done G H W (I++B) d Q):Q x H:=by
 refine q x H M (Same.refl H) (r.up ⟨Same.refl H,λb u U f=>⟨λz=>z.elim (λz=>f.1 (hn b (Yv _ (s.subset z))).1) λz=>f.1 z.1,f.2⟩,λ_ _ _ f=>f⟩) (λa Y=>.inl (Yv _ (s.subset Y))) (s.nodup (List.nodup_append.mp nd).1)
theorem Vh:OpV G (λx y H Q=>rIx G.K x y H Q∨Ro x y H Q) gIx:=λdx dy d e x y H W I Ly rx B nd hn w Q q=>by
 unfold gIx at e;split at e
 .rename_i m ds i
  obtain⟨rfl,rfl⟩:=bF B;rw[Rep]at rx;obtain⟨a,xs,M,rfl,Z,hs⟩:=rx;obtain⟨j,h1,h2⟩:=Ov Z e;obtain⟨z,Mz,Y,F,h5⟩:=Z.get h1;exact .inl (.inl ⟨a,xs,i,z,rfl,rfl,hs.sq,h2 z Y,rP F (h5.trans hs.sub) nd hn q⟩)
 .rename_i ds i
  obtain⟨rfl,rfl⟩:=bF B;rw[Rep]at rx;obtain⟨a,xs,rfl,U,Z⟩:=rx;obtain⟨j,h1,h2⟩:=Ov Z e;obtain⟨z,Mz,Y,F,h5⟩:=Z.get h1;exact .inl (.inr (.inl ⟨a,xs,i,z,rfl,rfl,SqT.of U,h2 z Y,rP F h5 nd hn q⟩))
 .rename_i z i
  obtain⟨rfl,rfl⟩:=bF B;obtain⟨rfl,rfl⟩:=cC rx;split at e
  .rename_i hl
   cases h1:atI z.cps.toList i with
   |none=>simp[h1]at e
   |some c=>
    obtain rfl:D.str ⟨#[c]⟩=d:=by simpa[h1]using e
    exact .inl (.inr (.inr ⟨z,i,c,rfl,rfl,hl,h1,q.scal λ_=>uz⟩))
  .cases e
 .rename_i m ks ds
  cases O:cQ dy with
  |none=>simp[O]at e
  |some k=>
   cases V:cP ks k with
   |none=>simp[O,V]at e
   |some j=>
    have e':ds[j]? =ac d:=by simpa[O,V]using e
    rw[Rep]at rx;obtain⟨a,kvs,M,rfl,⟨rfl,a0⟩,Z,hs⟩:=rx;obtain⟨z,Mz,Y,F,h5⟩:=Z.get e';have hv:=gj V;rw[Y]at hv;refine .inr ⟨a,z,rfl,.inl ⟨kvs,k,hs.rdD,ir B O,hv.symm⟩,rP F (h5.trans hs.sub) nd hn q⟩
 .cases e
theorem ixb(hu:∀c,(X c).A.units+1<cLine)(q:∀c,(X c).K=G.K:=by intro _;rfl):IxB X G gIx:=⟨_,λc=>by rw[←q c];exact Mf (hu c),Vh⟩
def scV:D->Option V
 |.non=>ac .non
 |.bl b=>ac (.bl b)
 |.int i=>ac (.int i)
 |.str x=>ac (.str x)
 |_=>af
def wL:List D->Option (List V)
 |[]=>ac []
 |d::r=>(scV d).bind λv=>(wL r).map λt=>v::t
theorem yV{u:V}(r:Rep G H W d v L)(h:scV d=ac u):v=u/\lM u=ag:=by
 cases d<;>simp[scV]at h<;>subst h<;>rw[Rep]at r<;>exact⟨r.1,rfl⟩
theorem v8:∀{ds:List D}{O us:List V}{L:List Addr},aG G H W ds O L->wL ds=ac us->O=us/\us.all lM=ag
 |[],O,us,L,r,h=>by
  cases h;exact⟨r.inv0.1,rfl⟩
 |d::t,O,us,L,r,h=>by
  obtain⟨x,ys,M,M',rfl,rfl,h1,h2⟩:=r.inv;rw[wL]at h;cases e1:scV d with
  |none=>simp[e1]at h
  |some v=>
   cases e2:wL t with
   |none=>simp[e1,e2]at h
   |some w=>
    obtain rfl:v::w=us:=by simpa[e1,e2]using h
    obtain⟨rfl,q⟩:=yV h1 e1;obtain⟨rfl,I⟩:=v8 h2 e2;exact⟨rfl,by simp[q,I]⟩
def xM(x y:Str):Bool:=!(ZF y x 0 y.length 1).isEmpty
def uY:D->D->Option Bool
 |x,.lst _ ds=>(scV x).bind λv=>(wL ds).map λO=>inV v O
 |x,.tup ds=>(scV x).bind λv=>(wL ds).map λO=>inV v O
 |.str x,.str y=>ac (xM x y)
 |x,.dct _ ks _=>(cQ x).map λk=>(cP ks k).isSome
 |_,_=>af
def gIn(x y:D):Option D:=(uY x y).map .bl
def dF(x y:D):Option D:=(uY x y).map λb=>.bl !b
theorem Ft(hu:Y.A.units+1<cLine):OpR Y (Zf .In) (λx y H Q=>∃a o,y= .ref a/\mX H a x o/\Q (.bl o.isSome) H):=λpins s σ H x y v u Q I rx B h=>by
 obtain⟨a,o,rfl,g,q⟩:=h;cases B;exact XQ hu I g rx λz U=>⟨.bl o.isSome,H,U,rfl,q⟩
theorem ww(hu:Y.A.units+1<cLine):OpR Y (Zf .NotIn) (λx y H Q=>∃a o,y= .ref a/\mX H a x o/\Q (.bl (!o.isSome)) H):=λpins s σ H x y v u Q I rx B h=>by
 obtain⟨a,o,rfl,g,q⟩:=h;cases B;exact Qh hu I g rx λz U=>⟨.bl (!o.isSome),H,U,rfl,q⟩
theorem Kf{dx F:D}{y:V}{Lx Y:List Addr}(e:uY dx F=ac b)(rx:Rep G H W dx x Lx)(B:Rep G H W F y Y) :
  (∃p xs,y= .ref p/\(SqL G.K H p xs∨SqT G.K H p xs)/\lM x=ag/\xs.all lM=ag/\b=inV x xs)∨(∃i j,x= .str i/\y= .str j/\b=xM i j)∨(∃a o,y= .ref a/\mX H a x o/\b=o.isSome):=by
 unfold uY at e;split at e
 .rename_i m ds
  cases e1:scV dx with
  |none=>simp[e1]at e
  |some v=>
   cases e2:wL ds with
   |none=>simp[e1,e2]at e
   |some O=>
    obtain rfl:inV v O=b:=by simpa[e1,e2]using e
    rw[Rep]at B;obtain⟨a,xs,M,rfl,Z,hs⟩:=B;obtain⟨rfl,q⟩:=yV rx e1;obtain⟨rfl,I⟩:=v8 Z e2;exact .inl ⟨a,_,rfl,.inl hs.sq,q,I,rfl⟩
 .rename_i ds
  cases e1:scV dx with
  |none=>simp[e1]at e
  |some v=>
   cases e2:wL ds with
   |none=>simp[e1,e2]at e
   |some O=>
    obtain rfl:inV v O=b:=by simpa[e1,e2]using e
    rw[Rep]at B;obtain⟨a,xs,rfl,U,Z⟩:=B;obtain⟨rfl,q⟩:=yV rx e1;obtain⟨rfl,I⟩:=v8 Z e2;exact .inl ⟨a,_,rfl,.inr (SqT.of U),q,I,rfl⟩
 .cases e
  obtain⟨rfl,_⟩:=cC rx;obtain⟨rfl,_⟩:=cC B;exact .inr (.inl ⟨_,_,rfl,rfl,rfl⟩)
 .rename_i m ks ds
  cases e1:cQ dx with
  |none=>simp[e1]at e
  |some k=>
   have e':(cP ks k).isSome=b:=by simpa[e1]using e
   rw[Rep]at B;obtain⟨a,kvs,M,rfl,⟨rfl,z⟩,Z,hs⟩:=B;refine .inr (.inr ⟨a,iu kvs k,rfl,.inl ⟨kvs,k,hs.rdD,ir rx e1,rfl⟩,?_⟩);rw[←e'];cases hj:cP (kvs.map (·.1)) k with
   |none=>rw[iI hj];rfl
   |some j=>
    rw[gj hj,Yo (by simpa using Af hj)];rfl
 .cases e
def Yb(K:YC):R2:=λx y H Q=>(rIn K ae x y H Q∨(∃i j,x= .str i/\y= .str j/\Q (.bl (!(ZF j i 0 j.length 1).isEmpty)) H))∨∃a o,y= .ref a/\mX H a x o/\Q (.bl o.isSome) H
def Q9(K:YC):R2:=λx y H Q=>(rIn K ag x y H Q∨(∃i j,x= .str i/\y= .str j/\Q (.bl (!(!(ZF j i 0 j.length 1).isEmpty))) H))∨∃a o,y= .ref a/\mX H a x o/\Q (.bl (!o.isSome)) H
theorem K7(hu:∀c,(X c).A.units+1<cLine)(U:∀c,(X c).K=G.K:=by intro _;rfl):OpB X G (Zf .In) gIn:=⟨Yb G.K,λc=>by rw[←U c];exact OpR.or (OpR.or Jl Io) (Ft (hu c)),λdx O d e x y H W I V rx B nd hn w Q q=>by
 unfold gIn at e;cases h1:uY dx O with
 |none=>simp[h1]at e
 |some b=>
  obtain rfl:D.bl b=d:=by simpa[h1]using e
  have z:Q (.bl b) H:=q.scal λ_=>eZ;rcases Kf h1 rx B with⟨p,xs,rfl,h2,Y,F,rfl⟩|⟨i,j,rfl,rfl,rfl⟩|⟨a,o,rfl,h2,rfl⟩
  .exact .inl (.inl ⟨p,xs,rfl,h2,Y,F,z⟩)
  .exact .inl (.inr ⟨i,j,rfl,rfl,z⟩)
  .exact .inr ⟨a,o,rfl,h2,z⟩⟩
theorem mF(hu:∀c,(X c).A.units+1<cLine)(U:∀c,(X c).K=G.K:=by intro _;rfl):OpB X G (Zf .NotIn) dF:=⟨Q9 G.K,λc=>by rw[←U c];exact OpR.or (OpR.or Ai zx) (ww (hu c)),λdx O d e x y H W I V rx B nd hn w Q q=>by
 unfold dF at e;cases h1:uY dx O with
 |none=>simp[h1]at e
 |some b=>
  obtain rfl:D.bl (!b)=d:=by simpa[h1]using e
  have z:Q (.bl (!b)) H:=q.scal λ_=>eZ;rcases Kf h1 rx B with⟨p,xs,rfl,h2,Y,F,rfl⟩|⟨i,j,rfl,rfl,rfl⟩|⟨a,o,rfl,h2,rfl⟩
  .exact .inl (.inl ⟨p,xs,rfl,h2,Y,F,z⟩)
  .exact .inl (.inr ⟨i,j,rfl,rfl,z⟩)
  .exact .inr ⟨a,o,rfl,h2,z⟩⟩
theorem aG.inv1(r:aG G H W [d] xs L):∃x,xs=[x]/\Rep G H W d x L:=by
 obtain⟨x,ys,M,M',rfl,rfl,h1,h2⟩:=r.inv;obtain⟨rfl,rfl⟩:=h2.inv0;exact⟨x,rfl,by rw[Za];exact h1⟩
theorem aG.inv2{e:D}(r:aG G H W [d,e] xs L):∃x y M N,xs=[x,y]/\L=M++N/\Rep G H W d x M/\Rep G H W e y N:=by
 obtain⟨x,ys,M,M',rfl,rfl,h1,h2⟩:=r.inv;obtain⟨y,rfl,Y⟩:=h2.inv1;exact⟨x,y,M,M',rfl,rfl,h1,Y⟩
def bT:List D->Option D
 |[.lst _ ds]=>ac (.int ds.length)
 |[.tup ds]=>ac (.int ds.length)
 |[.str z]=>if z.length<=Yx then ac (.int z.length)else af
 |[.dct m _ ds]=>if m= .scr then af else ac (.int ds.length)
 |_=>af
theorem cT(B:∀c,(X c).K=G.K:=by intro _;rfl):CaB X G (.builtin "len") bT:=⟨λxs H Q=>((∃p ys,xs=[.ref p]/\(SqL G.K H p ys∨SqT G.K H p ys)/\Q (.int ys.length) H)∨∃z,xs=[.str z]/\z.length<=Yx/\Q (.int z.length) H)∨∃a kvs,xs=[V.ref a]/\H a=ac (.dK kvs)/\Q (.int kvs.length) H,λc=>by rw[←B c];exact gh.or (gh.or Bc Ae) Il,λds d e xs H W F r nd hn w Q q=>by
 unfold bT at e;split at e
 .cases e
  show 6;exact .inl (.inl ⟨a,ys,rfl,.inl hs.sq,by rw[←Z.length];exact q.scal λ_=>dZ⟩)
 .cases e
  obtain⟨x,rfl,rx⟩:=r.inv1;rw[Rep]at rx;obtain⟨a,ys,rfl,U,Z⟩:=rx;exact .inl (.inl ⟨a,ys,rfl,.inr (SqT.of U),by rw[←Z.length];exact q.scal λ_=>dZ⟩)
 .split at e
  .cases e
   obtain⟨x,rfl,rx⟩:=r.inv1;obtain⟨rfl,rfl⟩:=cC rx;exact .inl (.inr ⟨_,rfl,‹_›,q.scal λ_=>dZ⟩)
  .cases e
 .split at e
  .cases e
  .cases e
   obtain⟨x,rfl,rx⟩:=r.inv1;rw[Rep]at rx;obtain⟨a,kvs,M,rfl,O,Z,hs⟩:=rx;exact .inr ⟨a,kvs,rfl,hs.at ‹_›,by have:=Z.length;simp at this;rw[←this];exact q.scal λ_=>dZ⟩
 .cases e⟩
def n_:List D->Option D
 |[.int i]=>ac (.int (if i<0 then -i else i))
 |_=>af
theorem QX:CaB X G (.builtin "abs") n_:=⟨_,λc=>Kg,λds d e xs H W F r nd hn w Q q=>by
 unfold n_ at e;split at e
 .cases e
  obtain⟨x,rfl,rx⟩:=r.inv1;obtain⟨rfl,rfl⟩:=bF rx;exact⟨_,rfl,q.scal λ_=>dZ⟩
 .cases e⟩
def rE:List D->Option D
 |[.int i]=>ac (.int i)
 |[.bl k]=>ac (.int (if k then 1 else 0))
 |_=>af
theorem Rn:CaB X G (.type "int") rE:=⟨_,λc=>JK,λds d e xs H W F r nd hn w Q q=>by
 unfold rE at e;split at e
 .cases e
  obtain⟨x,rfl,rx⟩:=r.inv1;obtain⟨rfl,rfl⟩:=bF rx;exact .inl ⟨_,rfl,q.scal λ_=>dZ⟩
 .cases e
  obtain⟨x,rfl,rx⟩:=r.inv1;obtain⟨rfl,rfl⟩:=v4 rx;exact .inr ⟨_,rfl,q.scal λ_=>dZ⟩
 .cases e⟩
def qu:List D->Option D
 |[.int i,.int j]=>ac (.int (if j<i then j else i))
 |_=>af
def uw:List D->Option D
 |[.int i,.int j]=>if 0<j/\j<1073741824 then ac (.tup [.int (i / j),.int (i % j)])else af
 |_=>af
theorem Gr:CaB X G (.builtin "divmod") uw:=⟨_,λc=>Dy,λds d e xs H W F r nd hn w Q q=>by
 unfold uw at e;split at e
 .split at e
  .cases e
   obtain⟨x,y,M,N,rfl,rfl,rx,B⟩:=r.inv2;obtain⟨rfl,rfl⟩:=bF rx;obtain⟨rfl,rfl⟩:=bF B;refine⟨_,_,rfl,‹_›,λp V=>q (.ref p) _ [] (Same.new V) ?_ (by simp) List.nodup_nil⟩;rw[Rep];exact⟨p,_,rfl,aQ,.cons (M:=[]) (M':=[]) dZ (.one dZ)⟩
  .cases e
 .cases e⟩
variable{p:Addr}
theorem rC{F:List Addr}(Z:aG G H W ds xs M)(s:aal M F)(nd:F.Nodup)(hn:∀a∈F,W.tmp a)(hp:H p=af)(q:Done G H W F (.lst .own ds) Q):Q (.ref p) (upd H p (.lst xs)):=by
 have O:Same H (upd H p (.lst xs)):=Same.new hp;have B:p∉M:=λz=>by obtain⟨o,I,_⟩:=Z.dom p z;rw[hp]at I;cases I
 refine q (.ref p) _ (p::M) O ?_ (λa Y=>(Yu.mp Y).elim (λz=>.inr (by rw[z];exact hp)) λz=>.inl (s.subset z)) (Y5.mpr ⟨B,s.nodup nd⟩);rw[Rep];exact⟨p,xs,M,rfl,Z.up ⟨O,λb u U f=>⟨λz=>z.elim (λz=>(Yu.mp z).elim (λz=>by rw[z,hp]at U;cases U) λz=>f.1 (hn b (s.subset z)).1) λz=>f.1 z.1,f.2⟩,λ_ _ _ f=>f⟩,aQ,rfl⟩
theorem Jq{F:List Addr}(Z:aG G H W ds xs M)(s:aal M F)(nd:F.Nodup)(hn:∀a∈F,W.tmp a)(B:H p=af)(q:Done G H W F (.tup ds) Q):Q (.ref p) (upd H p (.tup xs)):=by
 have O:Same H (upd H p (.tup xs)):=Same.new B;refine q (.ref p) _ M O ?_ (λa Y=>.inl (s.subset Y)) (s.nodup nd);rw[Rep];exact⟨p,xs,rfl,aQ,Z.up ⟨O,λb u U f=>⟨λz=>z.elim (λz=>f.1 (hn b (s.subset z)).1) λz=>f.1 z.1,f.2⟩,λ_ _ _ f=>f⟩⟩
theorem iC{F:List Addr}(Z:Rep G H W d x M)(s:aal M F)(nd:F.Nodup)(hn:∀a∈F,W.tmp a)(q:Done G H W F d Q):Q x H:=by
 refine q x H M (Same.refl H) (Z.up ⟨Same.refl H,λb u U f=>⟨λz=>z.elim (λz=>f.1 (hn b (s.subset z)).1) λz=>f.1 z.1,f.2⟩,λ_ _ _ f=>f⟩) (λa Y=>.inl (s.subset Y)) (s.nodup nd)
def Hd:List D->Option D
 |[.lst _ ds]=>ac (.lst .own ds)
 |[.tup ds]=>ac (.lst .own ds)
 |_=>af
def eQ:List D->Option D
 |[.lst _ ds]=>ac (.tup ds)
 |[.tup ds]=>ac (.tup ds)
 |_=>af
theorem K9(z:∀c,(X c).K=G.K:=by intro _;rfl):CaB X G (.type "list") Hd:=⟨λxs H Q=>∃p ys,xs=[.ref p]/\(SqL G.K H p ys∨SqT G.K H p ys)/\∀l,H l=af->Q (.ref l) (upd H l (.lst ys)),λc=>by rw[←z c];exact zA,λds d e xs H W F r nd hn w Q q=>by
 unfold Hd at e;split at e
 .cases e
  show 6;exact⟨a,ys,rfl,.inl hs.sq,λp V=>rC Z hs.sub nd hn V q⟩
 .cases e
  obtain⟨x,rfl,rx⟩:=r.inv1;rw[Rep]at rx;obtain⟨a,ys,rfl,U,Z⟩:=rx;exact⟨a,ys,rfl,.inr (SqT.of U),λp V=>rC Z (abf _) nd hn V q⟩
 .cases e⟩
theorem nT(B:∀c,(X c).K=G.K:=by intro _;rfl):CaB X G (.type "tuple") eQ:=⟨λxs H Q=>∃p ys,xs=[.ref p]/\((SqL G.K H p ys/\∀l,H l=af->Q (.ref l) (upd H l (.tup ys)))∨(SqT G.K H p ys/\Q (.ref p) H)),λc=>by rw[←B c];exact wO,λds d e xs H W F r nd hn w Q q=>by
 unfold eQ at e;split at e
 .cases e
  show 6;exact⟨a,ys,rfl,.inl ⟨hs.sq,λp V=>Jq Z hs.sub nd hn V q⟩⟩
 .cases e
  obtain⟨x,rfl,rx⟩:=r.inv1;have z:=rx;rw[Rep]at rx;obtain⟨a,ys,rfl,U,Z⟩:=rx;exact⟨a,ys,rfl,.inr ⟨SqT.of U,iC z (abf _) nd hn q⟩⟩
 .cases e⟩
def tyN:D->Option String
 |.non=>ac "NoneType"
 |.bl _=>ac "bool"
 |.int _=>ac "int"
 |.str _=>ac "str"
 |.tup _=>ac "tuple"
 |.lst m _=>if m= .scr then af else ac "list"
 |.dct m _ _=>if m= .scr then af else ac "dict"
 |_=>af
def okT(n:String):Bool:=n=="int"||n=="bool"||n=="str"||n=="list"||n=="tuple"
def isT(t n:String):Bool:=t==n||(t=="bool"&&n=="int")
variable{t:String}
theorem Hv{K:YC}{n:String}(h1:tyN d=ac t)(h2:okT n=ag):acR K (.type t) (.type n)=ac (isT t n):=by
 have U:t="NoneType"∨t="bool"∨t="int"∨t="str"∨t="tuple"∨t="list"∨t="dict":=by
  cases d<;>simp[tyN]at h1<;>(try split at h1)<;>simp_all
 have hn:n="int"∨n="bool"∨n="str"∨n="list"∨n="tuple":=by simpa[okT,or_assoc]using h2
 rcases U with rfl|rfl|rfl|rfl|rfl|rfl|rfl<;>rcases hn with rfl|rfl|rfl|rfl|rfl<;>with_unfolding_all rfl
theorem Du(r:Rep G H W d v L)(h:tyN d=ac t):lV G.K H v (.type t):=by
 cases d with
 |non=>rw[Rep]at r;obtain⟨rfl,_⟩:=r;cases h;exact .non
 |bl b=>rw[Rep]at r;obtain⟨rfl,_⟩:=r;cases h;exact .bl _
 |int b=>rw[Rep]at r;obtain⟨rfl,_⟩:=r;cases h;exact .int _
 |str b=>rw[Rep]at r;obtain⟨rfl,_⟩:=r;cases h;exact .str _
 |ty n=>cases h
 |tup ds=>rw[Rep]at r;obtain⟨a,xs,rfl,U,Z⟩:=r;cases h;exact .tup U
 |lst m ds=>
  rw[Rep]at r;obtain⟨a,xs,M,rfl,Z,hs⟩:=r;simp![tyN]at h;split at h
  .cases h
  .cases h;exact .lst (hs.at ‹_›)
 |dct m ks ds=>
  rw[Rep]at r;obtain⟨a,xs,M,rfl,O,Z,hs⟩:=r;simp![tyN]at h;split at h
  .cases h
  .cases h;exact .dK (hs.at ‹_›)
 |ins m c fs ds=>cases h
def BL:List D->Option (List String)
 |[]=>ac []
 |.ty n::r=>(BL r).map λt=>n::t
 |_::_=>af
theorem xx:∀{ds:List D}{O:List V}{L:List Addr}{ns:List String},aG G H W ds O L->BL ds=ac ns->O=ns.map V.ty
 |[],O,L,ns,r,h=>by cases h;rw[r.inv0.1];rfl
 |d::t,O,L,ns,r,h=>by
  obtain⟨x,ys,M,M',rfl,rfl,h1,h2⟩:=r.inv;cases d<;>simp[BL]at h;obtain⟨w,Y,rfl⟩:=h;rw[Rep]at h1;rw[h1.1,xx h2 Y];rfl
theorem vO{K:YC}(h1:tyN d=ac t):∀{ns:List String},ns.all okT=ag->acU K (.type t) (ns.map aau)=ac (ns.any (isT t))
 |[],_=>rfl
 |n::r,h=>by
  rw[abT,YS]at h;rw[Ys,acU,Hv h1 h.1];cases e:isT t n with
  |true=>simp[e]
  |false=>simp![e];rw[vO h1 h.2];simp[e]
def cR:List D->Option D
 |[x,.ty n]=>(tyN x).bind λt=>if okT n=ag then ac (.bl (isT t n))else af
 |[x,.tup ts]=>(tyN x).bind λt=>(BL ts).bind λns=>if ns.all okT=ag then ac (.bl (ns.any (isT t)))else af
 |_=>af
theorem fZ(I:∀c,(X c).K=G.K:=by intro _;rfl):CaB X G (.builtin "isinstance") cR:=⟨λxs H Q=>(∃x n t b,xs=[x,.ty n]/\lV G.K H x t/\acR G.K t (.type n)=ac b/\Q (.bl b) H)∨∃x z O t b,xs=[x,.ref z]/\H z=ac (.tup (YK V.ty O))/\lV G.K H x t/\acU G.K t (O.map aau)=ac b/\Q (.bl b) H,λc=>by rw[←I c];exact gh.or B_ zp,λds d e xs H W F r nd hn w Q q=>by
 unfold cR at e;split at e
 .rename_i x n
  cases e1:tyN x with
  |none=>simp[e1]at e
  |some t=>
   rw[e1]at e;simp![gD]at e;split at e
   .cases e
    obtain⟨u,v,M,N,rfl,rfl,rx,B⟩:=r.inv2;rw[Rep]at B;obtain⟨rfl,_⟩:=B;exact .inl ⟨u,n,_,_,rfl,Du rx e1,Hv e1 ‹_›,q.scal λ_=>eZ⟩
   .cases e
 .rename_i x ts
  cases e1:tyN x with
  |none=>simp[e1]at e
  |some t=>
   cases e2:BL ts with
   |none=>simp[e1,e2]at e
   |some ns=>
    rw[e1,e2]at e;simp![gD]at e;split at e
    .cases e
     obtain⟨u,v,M,N,rfl,rfl,rx,B⟩:=r.inv2;rw[Rep]at B;obtain⟨a,ys,rfl,U,Z⟩:=B;have:=xx Z e2;subst this;exact .inr ⟨u,a,ns,_,_,rfl,U,Du rx e1,vO e1 ‹_›,q.scal λ_=>eZ⟩
    .cases e
 .cases e⟩
theorem MT{a1:List V}{a0:List D}{M0 N M1 R:List Addr}(Z:aG G H W a0 a1 M1)(rr:Rep G H W res x R)(O:aB a0=ag)(F:aC a0=ag)(kr:clean res=ag)
  (Y:a∉M1++R) (nd:(M1++R).Nodup) (sub:∀b∈M1++R,b∈M0∨b∈N)
  (q:∀x H' M' R,(∀b u,H b=ac u->b∉a::M0->H' b=ac u)->(∀W',Evo H H' W W'->Rep G H' W' (.lst .own a0) (.ref a) M'/\Rep G H' W' res x R)->(M'++R).Nodup->(∀b∈M'++R,b∈a::M0∨b∈N∨H b=af)->clean (.lst .own a0)=ag->clean res=ag->Q x H'):Q x (upd H a (.lst a1)):=by
 have a2:=(by simpa[clean]using kr:az res=ag/\au res=ag);refine q x _ (a::M1) R (λb u U n=>by rw[aK (show b≠a from λz=>n (by rw[z];simp))];exact U) (λW' I=>⟨?_,?_⟩) ?_ (λb U=>?_) (m_ O F) kr
 .rw[Rep]
  exact⟨a,a1,M1,rfl,Ao Z O F (λz=>Y (Yv _ z)) I,aQ,rfl⟩
 .exact rr.mono I (.inl a2.1) (.inl a2.2) λc B u hu=>by rw[aK (show c≠a from λz=>Y (Yn _ (z▸B)))];exact hu
 .rw[YW]
  exact Y5.mpr ⟨Y,nd⟩
 .rw[YW]at U
  rcases Yu.mp U with z|z
  .exact .inl (by simp[z])
  .exact(sub b z).imp (λz=>Y8 _ z) .inl
theorem pA(h:aB ds=ag):∀d∈ds,az d=ag:=λd hd=>let⟨i,hi⟩:=abM hd;iJ h hi
theorem ph(h:aC ds=ag):∀d∈ds,au d=ag:=λd hd=>let⟨i,hi⟩:=abM hd;iM h hi
theorem cg:∀{ds:List D},(∀d∈ds,az d=ag)->aB ds=ag
 |[],_=>rfl
 |d::r,h=>by rw[aB,h d (by simp),cg λe O=>h e (by simp[O])];rfl
theorem bL:∀{ds:List D},(∀d∈ds,au d=ag)->aC ds=ag
 |[],_=>rfl
 |d::r,h=>by rw[aC,h d (by simp),bL λe O=>h e (by simp[O])];rfl
def jN:D->List D->Option (D×D)
 |.lst .own ds,[.int i]=>if ds.length<1000000 then(ixN ds.length i).bind λk=>(ds[k]?).map λe=>(.lst .own (ds.eraseIdx k),e)else af
 |_,_=>af
theorem aG.erase(h:aG G H W ds xs L)(e:ds[j]? =ac d):∃x M N,xs[j]? =ac x/\Rep G H W d x M/\aG G H W (ds.eraseIdx j) (xs.eraseIdx j) N/\Zu (N++M) L:=by
 obtain⟨A,B,x,ys,zs,z,M,I,rfl,q,rfl,Z,rfl,h1,h2,Y⟩:=h.at e;refine⟨x,M,z++I,by rw[ZM 1.10,Z,aaR];rfl,h2,?_,?_⟩
 .have e1:(A++d::B).eraseIdx j=A++B:=by rw[acx 1.10,q,aaR];rfl
  have e2:(ys++x::zs).eraseIdx j=ys++zs:=by rw[acx 1.10,Z,aaR];rfl
  rw[e1,e2];exact h1.append Y
 .rw[aaW]
  exact List.Perm.append_left z aeg
theorem yj(h:d∈ds.eraseIdx k):d∈ds:=(List.eraseIdx_sublist ds k).subset h
theorem La{ys:List V}{e:D}{M0 N:List Addr}(Z:aG G H W ds ys M0)(nd:((a::M0)++N).Nodup)(B:clean (.lst .own ds)=ag)(O:ds[k]? =ac e)
  (q:∀x H' M' R,(∀b u,H b=ac u->b∉a::M0->H' b=ac u)->(∀W',Evo H H' W W'->Rep G H' W' (.lst .own (ds.eraseIdx k)) (.ref a) M'/\Rep G H' W' e x R)->(M'++R).Nodup->(∀b∈M'++R,b∈a::M0∨b∈N∨H b=af)->clean (.lst .own (ds.eraseIdx k))=ag->clean e=ag->Q x H'):∃y,ys[k]? =ac y/\Q y (upd H a (.lst (ys.eraseIdx k))):=by
 obtain⟨k1,k2⟩:=kO B;obtain⟨x,M,L,F,rx,I,pm⟩:=Z.erase O;have Y:=List.nodup_append.mp nd;have hn:=Y5.mp Y.1;refine⟨x,F,MT (M0:=M0) (N:=N) I rx (cg λd hd=>pA k1 d (yj hd)) (bL λd hd=>ph k2 d (yj hd)) (by simp[clean,iJ k1 O,iM k2 O]) (λz=>hn.1 (pm.mem_iff.mp z)) (pm.nodup_iff.mpr hn.2) (λb U=>.inl (pm.mem_iff.mp U)) q⟩
theorem Jm:MuV G K6 jN:=λd es d' res h v xs H W M N r re nd I B U z Q q=>by
 unfold jN at h;split at h
 .rename_i ds i
  split at h
  .rename_i hl
   cases h1:ixN ds.length i with
   |none=>simp[h1]at h
   |some k=>
    cases h2:ds[k]? with
    |none=>simp[h1,h2]at h
    |some e=>
     obtain⟨rfl,rfl⟩:D.lst .own (ds.eraseIdx k)=d'/\e=res:=by simpa[h1,h2]using h
     rw[Rep]at r;obtain⟨a,ys,M0,rfl,Z,Y,rfl⟩:=r;obtain⟨x,rfl,F⟩:=re.inv1;obtain⟨rfl,rfl⟩:=bF F;obtain⟨g1,g2,O,g4⟩:=zQ h1;obtain⟨y,V,q'⟩:=La Z nd B h2 q;exact⟨a,ys,i,k,y,rfl,rfl,Y,by omega,by omega,by rw[←Z.length];exact g1,V,q'⟩
  .cases h
 .cases h
theorem Jc:MuB X G "list" "list.pop" jN:=⟨_,λc=>J1,Jm,EY rfl λd es q e=>by
 unfold jN at e;split at e
 .exact⟨_,_,rfl⟩
 .cases e⟩
theorem aG.takeDrop(h:aG G H W ds xs L)(k:Nat):∃A B,aG G H W (ds.take k) (xs.take k) A/\aG G H W (ds.drop k) (xs.drop k) B/\L=A++B:=by
 rw[←aaM k ds]at h;obtain⟨ys,zs,A,B,rfl,rfl,h1,h2⟩:=h.split;have Z:=h1.length;by_cases O:k<=ds.length
 .have hk':ys.length=k:=by rw[←Z,aaa];omega
  refine⟨A,B,?_,?_,rfl⟩
  .rw[←hk',List.take_left,hk'];exact h1
  .rw[←hk',List.drop_left,hk'];exact h2
 .have e1:ds.take k=ds:=aaG 1.10
  have e2:ds.drop k=[]:=ad6 1.10;rw[e1]at h1 Z;rw[e2]at h2;obtain⟨rfl,rfl⟩:=h2.inv0;refine⟨A,[],?_,?_,by simp⟩
  .rw[e1,Za,aaG 1.10];exact h1
  .rw[e2,Za,ad6 1.10];exact .nil
def iR:List Key->List D->List (Key×D)->List Key×List D
 |ks,ds,[]=>(ks,ds)
 |ks,ds,p::r=>iR (gV ks ds p.1 p.2).1 (gV ks ds p.1 p.2).2 r
variable{k:Key}
theorem Qj{N:List Addr}(Z:aG G H W ds (YK (·.2) kvs) M)(hn:(YK (·.1) kvs).Nodup)(F:Rep G H W d x N)(nd:(M++N).Nodup) :
  (YK (·.1) (putK kvs k x)=(gV (YK (·.1) kvs) ds k d).1/\(YK (·.1) (putK kvs k x)).Nodup)/\(putK kvs k x).length<=kvs.length+1/\∃M',aG G H W (gV (YK (·.1) kvs) ds k d).2 (YK (·.2) (putK kvs k x)) M'/\M'.Nodup/\∀a∈M',a∈M∨a∈N:=by
 have I:=List.nodup_append.mp nd;cases hj:cP (kvs.map (·.1)) k with
 |some j=>
  have a3:j<ds.length:=by rw[Z.length];simpa using Af hj
  obtain⟨A,O,B,a2,a0⟩:=Z.set (Yo a3) F;obtain⟨p1,p2⟩:=Cm (v:=x) hj hn;have q:aal (A++B) M:=by rw[a2];exact(abf A).append (ZK O B)
  have U:=List.nodup_append.mp (q.nodup I.1);have a1:∀z∈N,z∉A++B:=λz h1 h2=>I.2.2 z (q.subset h2) z h1 rfl;simp![gV,hj];refine⟨⟨p1,by rw[p1];exact hn⟩,?_,A++(N++B),by rw[p2];exact a0,dR U.1 (dR I.2.1 U.2.1 λz h1 h2=>a1 z h1 (by simp[h2])) λz h1 h2=>?_,λa Y=>?_⟩
  .have:(putK kvs k x).length=kvs.length:=by have:=congrArg aaF p1;simpa using this
   omega
  .rcases Yl.mp h2 with y|y
   .exact a1 z y (by simp[h1])
   .exact U.2.2 z h1 z y rfl
  .simp![Yl]at Y
   rcases Y with z|z|z
   .exact .inl (q.subset (by simp[z]))
   .exact .inr z
   .exact .inl (q.subset (by simp[z]))
 |none=>
  simp![gV,hj];have e:putK kvs k x=kvs++[(k,x)]:=jw hj;rw[e];refine⟨⟨by simp,?_⟩,by simp,M++N,by rw[Zt];exact Z.append (.one F),nd,λa Y=>Yl.mp Y⟩;rw[Zt];exact Zz.mpr ⟨hn,by simp,λa h1 b h2 z=>by
   obtain rfl:b=k:=by simpa using h2
   exact v_ hj (z▸h1)⟩
theorem v9{H:Hp}{W:Wn}:∀{es:List (Key×D)}{prs kvs:List (Key×V)}{ds:List D}{M N:List Addr},YK (·.1) es=YK (·.1) prs->aG G H W (YK (·.2) es) (YK (·.2) prs) N->aG G H W ds (YK (·.2) kvs) M->(YK (·.1) kvs).Nodup->(M++N).Nodup->
  (YK (·.1) (putAll kvs prs)=(iR (YK (·.1) kvs) ds es).1/\(YK (·.1) (putAll kvs prs)).Nodup)/\∃M',aG G H W (iR (YK (·.1) kvs) ds es).2 (YK (·.2) (putAll kvs prs)) M'/\M'.Nodup/\∀a∈M',a∈M∨a∈N
 |[],prs,kvs,ds,M,N,hk,h1,h2,hn,nd=>by
  have:prs=[]:=by cases prs with
   |nil=>rfl
   |cons p r=>cases hk
  subst this;exact⟨⟨rfl,hn⟩,M,h2,(List.nodup_append.mp nd).1,λa Y=>.inl Y⟩
 |e::es,prs,kvs,ds,M,N,hk,h1,h2,hn,nd=>by
  cases prs with
  |nil=>cases hk
  |cons p prs=>
   obtain⟨x,ys,N1,N2,a2,rfl,F,a4⟩:=aG.inv h1;simp![Ys,afs]at hk a2;obtain⟨rfl,rfl⟩:=a2;have a0:=List.nodup_append.mp nd;have a1:=List.nodup_append.mp a0.2.1;have a3:(M++N1).Nodup:=dR a0.1 a1.1 λa B z2=>a0.2.2 a B a (by simp[z2]) rfl;obtain⟨⟨q1,q2⟩,q3,O,q4,q5,q6⟩:=Qj (k:=p.1) h2 hn F a3;have Z:(O++N2).Nodup:=dR q5 a1.2.1 λa B z2=>by
    rcases q6 a B with z|z
    .exact a0.2.2 a z a (by simp[z2]) rfl
    .exact a1.2.2 a z a z2 rfl
   rw[←hk.1]at q1 q2 q4;have I:=v9 (es:=es) (prs:=prs) (kvs:=putK kvs e.1 p.2) hk.2 a4 q4 q2 Z;rw[q1]at I;obtain⟨⟨r1,q⟩,M',U,r4,r5⟩:=I;have a5:putAll kvs (p::prs)=putAll (putK kvs e.1 p.2) prs:=by rw[hk.1];rfl
   rw[a5];refine⟨⟨r1,q⟩,M',U,r4,λa Y=>?_⟩;rcases r5 a Y with z|z
   .exact(q6 a z).imp id λz=>by simp[z]
   .exact .inr (by simp[z])
theorem mY(P:D->Prop):∀{es:List (Key×D)}{ks:List Key}{ds:List D},(∀d∈ds,P d)->(∀p∈es,P p.2)->∀d∈(iR ks ds es).2,P d
 |[],ks,ds,h1,h2=>h1
 |p::r,ks,ds,h1,h2=>by
  rw[iR];refine mY P (λd hd=>?_) λq U=>h2 q (by simp[U]);unfold gV at hd;split at hd
  .rcases List.mem_or_eq_of_mem_set hd with z|z
   .exact h1 d z
   .rw[z];exact h2 p (by simp)
  .rcases Yl.mp hd with z|z
   .exact h1 d z
   .obtain rfl:d=p.2:=by simpa using z
    exact h2 p (by simp)
theorem di.at2(h:di B H W a o m L M)(V:(m== .scr)=ae):H a=ac o:=h.at (by intro z;rw[z]at V;cases V)
theorem Ik(h1:aB ds=ag)(h2:aC ds=ag):clean (.dct .own ks ds)=ag:=by simp[clean,az,au,h1,h2]
theorem K1{op:D->List D->Option (D×D)}(z:T="dict")(h:∀d es q,op d es=ac q->∃ks ds,d= .dct .own ks ds):Jx G T op:=λd es q e v H W L r=>by
 obtain⟨ks,ds,rfl⟩:=h d es q e;rw[Rep]at r;obtain⟨a,xs,M,rfl,O,Z,hs⟩:=r;exact .inr (.inr (.inl ⟨z,.inl ⟨_,hs.1⟩⟩))
def eMt(g:D->List D->Option D)(V:En->Option D)(f:En->Option (List D)):En->Option D:=λρ=>(V ρ).bind λx=>(f ρ).bind λds=>g x ds
theorem Cy{id:String}{Z:Str}{g:D->List D->Option D}{o:Expr}{V:En->Option D}{f:En->Option (List D)}(m:MtB X G T id g)(pa:aer T)(slot:Slot T Z id)(O:typeOf (.builtin id)=pure (.type "method_descriptor"))(I:PV X G ob o V)(Y:PVA X G ob (e::es) f)(z:∀c,abd o Z (X c).env (eval o (X c).env)=eval o (X c).env:=by intro _;rfl)(F:∀c,((Z4 cpos (YD (e::es) (X c).env)).all (λx=>!x.1)&&(acD cpos (abA [] (X c).env)).all (λx=>x.1.isSome)
  &&decide 1.24)=ag:=by intro _;rfl) (B:(apos.endLine==cpos.line)=ag:=by rfl) (hs:∀c,YD (e::es) (X c).env=(ae,eval e (X c).env)::YD es (X c).env:=by intro _;rfl) (U:∀c,(Z4 cpos (YD es (X c).env)).any (·.1)=ae:=by intro _;rfl) (q:∀c,(X c).K=G.K:=by intro _;rfl) :
 PV X G ob (.Call (.Attribute o Z apos) (e::es) [] cpos) (eMt g V f):=let⟨r,m1,m2,m3⟩:=m.ex;let⟨t,a1,a2⟩:=I.ex;let⟨u,b1,b2⟩:=Y.ex;⟨_,λc=>(by rw[←q c];exact DK pa slot O (m1 c) (a1 c) (b1 c) (z c) (F c) B (hs c) (U c)),VR m2 m3 a2 b2⟩
def Aq(a b:Str):Option (List Str):=
 if(decide (a.length<b.length)||decide (abZ a<abZ b))=ae/\(b.length==0)=ae/\(ZF a b 0 a.length (a.length+1)).isEmpty=ae/\a.length<=Yx/\(acb a (ZF a b 0 a.length (a.length+1)) b.length).length<=Yx
 then ac (acb a (ZF a b 0 a.length (a.length+1)) b.length)else af
def vd:D->List D->Option D
 |.str a,[.str b]=>(Aq a b).map λl=>.lst .own (l.map D.str)
 |_,_=>af
theorem Cd:∀l:List Str,aG G H W (l.map D.str) (l.map V.str) []
 |[]=>.nil
 |x::r=>aG.cons (M:=[]) (M':=[]) (by rw[Rep];exact⟨rfl,rfl⟩) (Cd r)
theorem Ii:MtB X G "str" "str.split" vd:=⟨_,λc=>NP,λdx ds d e x xs H W I F rx r nd hn w Q q=>(by
 unfold vd at e;split at e
 .rename_i a b
  cases h1:Aq a b with
  |none=>simp[h1]at e
  |some l=>
   obtain rfl:D.lst .own (l.map D.str)=d:=by simpa[h1]using e
   obtain⟨y,rfl,B⟩:=r.inv1;obtain⟨rfl,rfl⟩:=cC rx;obtain⟨rfl,rfl⟩:=cC B;unfold Aq at h1;split at h1
   .rename_i hh
    cases h1;refine⟨a,b,_,rfl,rfl,hh.1,hh.2.1,hh.2.2.1,hh.2.2.2.1,rfl,hh.2.2.2.2,λp V=>?_⟩;refine q (.ref p) _ [p] (Same.new V) ?_ (λa Y=>.inr (by rw[show a=p by simpa using Y];exact V)) (by simp);rw[Rep];exact⟨p,_,[],rfl,Cd _,aQ,rfl⟩
   .cases h1
 .cases e),λdx ds d e x H W I rx=>by
 unfold vd at e;split at e
 .obtain⟨rfl,rfl⟩:=cC rx
  exact rfl
 .cases e⟩
def iW:D->List D->Option D
 |.dct m ks ds,[k]=>if m= .scr then af else(cQ k).bind λk=>match cP ks k with
  |some j=>ds[j]?
  |none=>ac .non
 |.dct m ks ds,[k,x]=>if m= .scr then af else(cQ k).bind λk=>match cP ks k with
  |some j=>ds[j]?
  |none=>ac x
 |_,_=>af
def VL:V->List V->Hp->VK->Prop:=λx O H Q=>∃a o y,x= .ref a/\mX H a y o/\(O=[y]/\Q (o.getD .non) H∨∃z,O=[y,z]/\Q (o.getD z) H)
theorem Lg(hu:Y.A.units+1<cLine):MtR Y "dict.get" VL:=λpins s σ H x O v us Q I rx U h=>by
 obtain⟨a,o,y,rfl,g,h⟩:=h;cases rx;rcases h with⟨rfl,q⟩|⟨z,rfl,q⟩
 .obtain⟨u,rfl,F⟩:=vals1 U
  exact Uv hu I g F λZ s3 I3 V=>⟨_,H,I3,V,q⟩
 .cases U with
  |cons B U=>
   obtain⟨u,rfl,F⟩:=vals1 U;exact U7 hu I g B F λZ s4 I4 V=>⟨_,H,I4,V,q⟩
theorem uB(hu:∀c,(X c).A.units+1<cLine):MtB X G "dict" "dict.get" iW:=⟨_,λc=>Lg (hu c),λdx ds d e x xs H W I F rx r nd hn w Q q=>(by
 have a0:∀{m:Mk}{ks:List Key}{es:List D}{k:D}{U:Key}{y:V}{Ly:List Addr},m≠.scr->Rep G H W (.dct m ks es) x I->cQ k=ac U->Rep G H W k y Ly->∃a kvs M,x= .ref a/\H a=ac (.dK kvs)/\mX H a y (iu kvs U)/\YK (·.1) kvs=ks/\aG G H W es (YK (·.2) kvs) M/\aal M I:=λ{m ks es k U y Ly} hm rx O ry=>by
  rw[Rep]at rx;obtain⟨a,kvs,M,rfl,⟨rfl,a1⟩,Z,hs⟩:=rx;have:=ir ry O;subst this;exact⟨a,kvs,M,rfl,hs.at hm,.inl ⟨kvs,U,hs.rdD,rfl,rfl⟩,rfl,Z,hs.sub⟩
 unfold iW at e;split at e
 .rename_i m ks es k
  split at e
  .cases e
  .rename_i hm
   cases O:cQ k with
   |none=>simp[O]at e
   |some U=>
    obtain⟨y,rfl,ry⟩:=r.inv1;obtain⟨a,kvs,M,rfl,Y,g,rfl,Z,sub⟩:=a0 hm rx O ry;refine⟨a,_,y,rfl,g,.inl ⟨rfl,?_⟩⟩;simp![O,gD]at e;cases hj:cP (YK (·.1) kvs) U with
    |none=>
     simp![hj]at e;cases e;rw[iI hj];exact q.scal λ_=>nu
    |some j=>
     simp![hj]at e;obtain⟨v,M',h1,h2,h3⟩:=Z.get e;rw[gj hj,h1];exact iC h2 (h3.trans (sub.trans (aar _ _))) nd hn q
 .rename_i m ks es k x0
  split at e
  .cases e
  .rename_i hm
   cases O:cQ k with
   |none=>simp[O]at e
   |some U=>
    obtain⟨y,z,A,B,rfl,rfl,ry,rz⟩:=r.inv2;obtain⟨a,kvs,M,rfl,Y,g,rfl,Z,sub⟩:=a0 hm rx O ry;refine⟨a,_,y,rfl,g,.inr ⟨z,rfl,?_⟩⟩;simp![O,gD]at e;cases hj:cP (YK (·.1) kvs) U with
    |none=>
     simp![hj]at e;cases e;rw[iI hj];exact iC rz ((ZK _ _).trans (ZK _ _)) nd hn q
    |some j=>
     simp![hj]at e;obtain⟨v,M',h1,h2,h3⟩:=Z.get e;rw[gj hj,h1];exact iC h2 (h3.trans (sub.trans (aar _ _))) nd hn q
 .cases e),λdx ds d e x H W I rx=>by
 have a0:∀{m:Mk}{ks:List Key}{es:List D},m≠.scr->Rep G H W (.dct m ks es) x I->tyV G.K "dict" x H:=λ{m ks es} hm rx=>by
  rw[Rep]at rx;obtain⟨a,kvs,M,rfl,O,Z,hs⟩:=rx;exact .inr (.inr (.inl ⟨rfl,.inl ⟨_,hs.at hm⟩⟩))
 unfold iW at e;split at e
 .split at e
  .cases e
  .exact a0 ‹_› rx
 .split at e
  .cases e
  .exact a0 ‹_› rx
 .cases e⟩
def RfO(G:Gc)(ob:Nat->Bool)(t:TO)(f:En->Option (Option Int)):Prop:=∀(ρ:En)(o:Option Int),f ρ=ac o->∀(σ:L2.St)(H:Hp)(W:Wn),Rel G H W ob ρ σ->WOk H W->∀Q:Option Int->Hp->Prop,(∀H',Same H H'->Q o H')->t σ H Q
structure PVO{ι:Type}(X:ι->Cx)(G:Gc)(ob:Nat->Bool)(e:Option Expr)(f:En->Option (Option Int)):Prop where
 mk::(ex:∃t,(∀c,PO (X c) e t)/\RfO G ob t f)
def xf:En->Option (Option Int):=λ_=>ac af
def vX(f:En->Option D):En->Option (Option Int):=λρ=>(f ρ).bind λd=>match d with
 |.int i=>ac (ac i)
 |_=>af
theorem qG:PVO X G ob af xf:=⟨_,λc=>OD,λρ o e σ H W I w Q q=>by cases e;exact q H (Same.refl H)⟩
theorem qK{f:En->Option D}(h:PV X G ob e f):PVO X G ob (ac e) (vX f):=let⟨t,a1,a2⟩:=h.ex;⟨_,λc=>Qi (a1 c),λρ o e σ H W I w Q q=>by
 unfold vX at e;cases h1:f ρ with
 |none=>simp[h1]at e
 |some d=>
  rw[h1]at e;simp![gD]at e;split at e
  .cases e
   refine a2 ρ _ h1 σ H W I w _ λv H' L s r F nd=>?_;obtain⟨rfl,rfl⟩:=bF r;exact⟨_,rfl,q H' s⟩
  .cases e⟩
def SlV(G:Gc)(r:V->Option Int->Option Int->Hp->VK->Prop)(g:D->Option Int->Option Int->Option D):Prop:=∀(dx:D)(lo hi:Option Int)(d:D),g dx lo hi=ac d->∀(x:V)(H:Hp)(W:Wn)(I:List Addr),Rep G H W dx x I->I.Nodup->(∀a∈I,W.tmp a)->WOk H W->∀Q:VK,Done G H W I d Q->r x lo hi H Q
structure SlB{ι:Type}(X:ι->Cx)(G:Gc)(g:D->Option Int->Option Int->Option D):Prop where
 ex:∃r,(∀c,SlR (X c) r)/\SlV G r g
def zm(g:D->Option Int->Option Int->Option D)(f:En->Option D)(fl q:En->Option (Option Int)):En->Option D:=λρ=>(f ρ).bind λx=>(fl ρ).bind λl=>(q ρ).bind λh=>g x l h
def Ru(g:D->Option Int->Option Int->Option D)(f:En->Option (D×En))(fl q:En->Option (Option Int)):En->Option (D×En):=λρ=>(f ρ).bind λp=>(fl p.2).bind λl=>(q p.2).bind λh=>(g p.1 l h).map λd=>(d,p.2)
theorem Wq{r:V->Option Int->Option Int->Hp->VK->Prop}{g:D->Option Int->Option Int->Option D}{tl th:TO}{f:En->Option D}{fl fh:En->Option (Option Int)}(I:SlV G r g)(h:RfE G ob te f)(hl:RfO G ob tl fl)(B:RfO G ob th fh):RfE G ob (tSl r te tl th) (zm g f fl fh):=λρ d e σ H W rl w Q q=>by
 unfold zm at e;cases h1:f ρ with
 |none=>simp[h1]at e
 |some x=>
  cases h2:fl ρ with
  |none=>simp[h1,h2]at e
  |some l=>
   cases h3:fh ρ with
   |none=>simp[h1,h2,h3]at e
   |some u=>
    have e:g x l u=ac d:=by simpa[h1,h2,h3]using e
    refine h ρ x h1 σ H W rl w _ λv H1 L Z r1 F nd=>?_;have u1:Up H H1 W (W.add L):=.add Z F;have w1:WOk H1 (W.add L):=w.add Z r1.dom;refine hl ρ l h2 σ H1 _ (rl.up u1) w1 _ λH2 O=>?_;have u2:Up H1 H2 (W.add L) (W.add L):=.same O;have w2:WOk H2 (W.add L):=λa Y=>let⟨o,I,hm⟩:=w1 a Y;⟨o,O a o I,hm⟩;refine B ρ u h3 σ H2 _ ((rl.up u1).up u2) w2 _ λH3 s3=>?_;have u3:Up H2 H3 (W.add L) (W.add L):=.same s3;have w3:WOk H3 (W.add L):=λa Y=>let⟨o,I,hm⟩:=w2 a Y;⟨o,s3 a o I,hm⟩;have ss:=(Z.trans O).trans s3;refine I x l u d e v H3 _ L ((r1.up u2).up u3) nd (w.tmp F) w3 Q λv' H4 L4 s4 r4 f4 n4=>?_;refine q v' H4 L4 (ss.trans s4) ?_ (λa Y=>(f4 a Y).elim (F a) λz=>ss.none' z) n4;exact r4.up ⟨Same.refl _,λb u U f=>⟨λz=>z.elim (λz=>f.1 (.inl z)) λz=>f.1 (.inr ⟨.inr z,WOk.new w F z⟩),f.2⟩,λ_ _ _ f=>f⟩
def cutD(ds:List D)(lo hi:Option Int):List D:=(ds.drop (HT.sIx ds.length 0 lo)).take (HT.sIx ds.length ds.length hi-HT.sIx ds.length 0 lo)
def gSl:D->Option Int->Option Int->Option D
 |.lst _ ds,lo,hi=>ac (.lst .own (cutD ds lo hi))
 |.tup ds,lo,hi=>ac (.tup (cutD ds lo hi))
 |_,_,_=>af
theorem aG.cut(h:aG G H W ds xs L)(lo hi:Option Int):∃M,aG G H W (cutD ds lo hi) (Jd xs lo hi) M/\aal M L:=by
 unfold cutD Jd;rw[h.length];obtain⟨A,B,_,h2,rfl⟩:=h.takeDrop (HT.sIx xs.length 0 lo);obtain⟨Z,z,Y,_,rfl⟩:=h2.takeDrop (HT.sIx xs.length xs.length hi-HT.sIx xs.length 0 lo);exact⟨Z,Y,(aar Z z).trans (ZK A _)⟩
def eSl:=zm gSl
def XR:=Ru gSl
def inK(S:List Key)(k:Key):Bool:=S.any λx=>decide (x=k)
def jK(S:List Key)(k:Key):List Key:=if inK S k then S else S++[k]
def m8(ks:List Key):List Key:=ks.foldl jK []
variable{S:List Key}
theorem jU:inK S k=ag↔k∈S:=by
 unfold inK;rw[abq];constructor
 .rintro⟨x,h1,h2⟩
  rw[←of_decide_eq_true h2];exact h1
 .exact λh=>⟨k,h,by simp⟩
theorem Qu{x:Key}:inK (jK S k) x=(inK S x||decide (x=k)):=by
 rw[aap,ab2,jU,jU,aaN];unfold jK;split
 .rename_i h
  rw[jU]at h;exact⟨.inl,λz=>z.elim id λz=>by rw[z];exact h⟩
 .simp
theorem vC:(jK S k).length=if inK S k then S.length else S.length+1:=by
 unfold jK;split<;>simp
theorem N6{P:Y7}{w:World}(r:RelV (kV k) u):u.scannable=ag:=by
 cases k with
 |inl i=>obtain⟨t,rfl⟩:=r;rfl
 |inr x=>obtain⟨t,rfl⟩:=r;rfl
abbrev ou(q:Bool):Obj:={cls:=.type "set",dict:=af,data:=.set #[] 0 (.fresh 0 0 q)}
theorem MK(ks:List Key):(m8 ks).length<=ks.length:=by
 have:∀(ks acc:List Key),(ks.foldl jK acc).length<=acc.length+ks.length:=by
  intro ks
  induction ks with
  |nil=>intro acc;simp
  |cons k r I=>
   intro acc;have h1:=I (jK acc k);have h2:(jK acc k).length<=acc.length+1:=by rw[vC];split<;>omega
   simp![aby,Yy];omega
 have:=this ks [];rw[YX,aaS]at this;exact this
variable{bs:List Bool}
theorem range_all:((Zw bs.length).all λi=>bs.getD i ag)=bs.all id:=by
 induction bs with
 |nil=>rfl
 |cons b r I=>
  rw[Yy,acv,abT,abH,abT,←I];rfl
theorem Xj(U:Vals (bs.map V.bl) its){i:Nat}{v:Value}(h:its.toArray[i]? =ac v):v= .bool (bs.getD i ag):=by
 have h:its[i]? =ac v:=by simpa using h
 have Z:=U.length;rw[Yt]at Z;have hi:i<bs.length:=by rw[Z];exact(List.getElem?_eq_some_iff.mp h).1
 obtain⟨u,h1,h2⟩:=U.get (show(bs.map V.bl)[i]? =ac (V.bl bs[i])by rw[List.getElem?_map,Yo hi];rfl);rw[h]at h1;cases h1;cases h2;simp[List.getD,hi]
variable{X:Cx}
theorem IW{s:Ym}{xs:List V}(I:Inv X pins σ H s)(pl:s.heap.IsList a its.toArray) :
  a≠s.heap.objs.size:=by
 obtain⟨o,h,_⟩:=pl;exact YZ (YF h)
theorem Ih(B:X.calm=ag):gh X (.builtin "all") (λxs H Q=>∃a bs,xs=[.ref a]/\SqL X.K H a (YK V.bl bs)/\Q (.bl (List.all bs id)) H):=by
 intro pins s σ H xs us Q I r h;obtain⟨a,bs,rfl,U,q⟩:=h;obtain⟨u,rfl,F⟩:=vals1 r;cases F;obtain⟨its,rv,pl,hz⟩:=I.list U;have hh:X.A.handled=af:=I.ok.hd B;have Y:a≠s.heap.objs.size:=IW (xs:=[]) I pl.isList;have Z:=rv.length;rw[Yt]at Z;refine call_all_walk (adp pl.isList ⟨s.heap.objs.size,[s.heap.objs.size,a],[s.heap.objs.size],its.toArray.size,_,_,λi=>bs.getD i ag,rfl,Walks.list (show X.A.in1.handled=af from hh) s.heap.objs.size a Y its.toArray,⟨⟨_,YG _ rfl,rfl,rfl⟩,pl.isList.push _⟩,λi v O Q2 z hP hQ=>?_,λh' tk kp=>?_⟩)
 .rw[Xj rv hP]
  exact abF hQ
 .rw[List.size_toArray,←Z,range_all]
  exact⟨.bl _,H,I.kept (t':=tk) λb o e=>kp b o (by simp;exact YZ (YF e)) (Yp _ e),rfl,q⟩
def pZ:D->D->Option D
 |.lst _ ds,.int i=>if i= -1 then ac (.lst .own ds.reverse)else af
 |.tup ds,.int i=>if i= -1 then ac (.tup ds.reverse)else if i=1 then ac (.tup ds)else af
 |_,_=>af
def jr:List D->Option (List Key)
 |[]=>ac []
 |d::r=>(cQ d).bind λk=>(jr r).map λt=>k::t
theorem xK:∀{ds:List D}{ks:List Key}{xs:List V}{L:List Addr},jr ds=ac ks->aG G H W ds xs L->xs=ks.map kV
 |[],ks,xs,L,h,r=>by cases h;exact r.inv0.1
 |d::t,ks,xs,L,h,r=>by
  obtain⟨x,ys,M,M',rfl,rfl,h1,h2⟩:=r.inv;cases e1:cQ d with
  |none=>simp[jr,e1]at h
  |some k=>
   cases e2:jr t with
   |none=>simp[jr,e1,e2]at h
   |some w=>
    obtain rfl:k::w=ks:=by simpa[jr,e1,e2]using h
    rw[xK e2 h2,ir h1 e1];rfl
theorem yp:∀{ds:List D}{ks:List Key},jr ds=ac ks->ks.length=ds.length
 |[],ks,h=>by cases h;rfl
 |d::t,ks,h=>by
  cases e1:cQ d with
  |none=>simp[jr,e1]at h
  |some k=>
   cases e2:jr t with
   |none=>simp[jr,e1,e2]at h
   |some w=>
    obtain rfl:k::w=ks:=by simpa[jr,e1,e2]using h
    simp[yp e2]
def FN:List D->Option (List Bool)
 |[]=>ac []
 |.bl b::r=>(FN r).map λt=>b::t
 |_::_=>af
theorem Bp:∀{ds:List D}{bs:List Bool}{xs:List V}{L:List Addr},FN ds=ac bs->aG G H W ds xs L->xs=bs.map V.bl
 |[],ks,xs,L,h,r=>by cases h;exact r.inv0.1
 |d::t,ks,xs,L,h,r=>by
  obtain⟨x,ys,M,M',rfl,rfl,h1,h2⟩:=r.inv;cases d<;>simp[FN]at h;obtain⟨w,Y,rfl⟩:=h;rw[Rep]at h1;rw[Bp Y h2,h1.1];rfl
def kY:List D->Option D
 |[.lst _ ds]=>(FN ds).map λbs=>.bl (bs.all id)
 |_=>af
variable{X:ι->Cx}
theorem nW(B:∀c,(X c).calm=ag)(z:∀c,(X c).K=G.K:=by intro _;rfl):CaB X G (.builtin "all") kY:=⟨λxs H Q=>∃a bs,xs=[.ref a]/\SqL G.K H a (YK V.bl bs)/\Q (.bl (List.all bs id)) H,λc=>by rw[←z c];exact Ih (B c),λds d e xs H W F r nd hn w Q q=>by
 unfold kY at e;split at e
 .rename_i m ds
  cases h1:FN ds with
  |none=>simp[h1]at e
  |some ks=>
   obtain rfl:D.bl (ks.all id)=d:=by simpa[h1]using e
   show 6;have:=Bp h1 Z;subst this;exact⟨a,ks,rfl,hs.sq,q.scal λ_=>eZ⟩
 .cases e⟩
def XD(g:Int->Int->Int)(i:Nat)(f:En->Option D):En->Option Fl:=λρ=>match ρ[i]? with
 |some (ac (.int m))=>(f ρ).bind λd=>match d with
  |.int n=>ac (.nx (ρ.set i (ac (.int (g m n)))))
  |_=>af
 |_=>af
def SN(G:Gc)(ob:Nat->Bool)(wi:TI)(f:En->Option (List D×En)):Prop:=∀(ρ:En)(items:List D)(B:En),f ρ=ac (items,B)->∀(σ:L2.St)(H:Hp)(S:Ad)(Fr:Addr->Prop),Sta G H ob ρ σ S Fr->∀R:It->Hp->Prop,
 (∀J H' S',Sta G H' ob B σ S' Fr->Eff ob H H' S S' []->Wk G J (LtB ag H' (wn ob S' Fr)) items->R J H')->wi σ H R
variable{c:Expr}
structure WX{ι:Type}(X:ι->Cx)(G:Gc)(ob:Nat->Bool)(tg it:Expr)(f:En->Option (List D×En)):Prop where
 mk::(ex:∃t,(∀c,PI (X c) tg it t)/\SN G ob t f)
def vp(f:En->Option (List D×En)):En->Option (List D×En):=λρ=>(f ρ).bind λp=>match p.1 with
 |[.int j]=>if -(2 ^ 62)<=j/\j<2 ^ 62 then ac (jk 0 j.toNat,p.2)else af
 |_=>af
theorem QT{t:TA}(h:Fi G ob t f):SN G ob (Lq t) (vp f):=λρ items B e σ H S Fr s R q=>by
 unfold vp at e;cases h1:f ρ with
 |none=>simp[h1]at e
 |some p=>
  obtain⟨ds,ρ1⟩:=p;rw[h1]at e;simp![gD]at e;split at e
  .rename_i j
   split at e
   .rename_i hj
    obtain⟨rfl,rfl⟩:jk 0 j.toNat=items/\ρ1=B:=by simpa using e
    refine h ρ _ _ h1 σ H S Fr s _ λxs H' L S' s' rx nd Z=>?_;obtain⟨x,rfl,z⟩:=rx.inv1;obtain⟨rfl,rfl⟩:=bF z;rw[jE]at s';exact⟨j,rfl,by omega,by omega,q _ H' S' s' Z Ml⟩
   .cases e
  .cases e
def uO(it:En->Option (List D×En))(tg:D->En->Option En)(body:En->Option Fl):En->Option Fl:=λρ=>(it ρ).bind λp=>forL tg body p.1 p.2
variable{it:En->Option (List D×En)}
theorem Nv{g:TG}(hi:SN G ob wi it)(hg:RfG G ob P g tg)(U:RfS G ob P tb body):RfS G ob P (KD wi g tb) (uO it tg body):=λρ0 r e σ H0 S0 Fr s0 E q=>by
 unfold uO at e;cases h1:it ρ0 with
 |none=>simp[h1]at e
 |some p=>
  obtain⟨items,ρ⟩:=p;have e:forL tg body items ρ=ac r:=by simpa[h1]using e
  refine hi ρ0 items ρ h1 σ H0 S0 Fr s0 _ λJ H1 S Z ef wk=>?_;have m1:Mv P H0 H1 σ σ S0 S []:=ef.mv;show 4
  .refine .inr ⟨wk.go i items[i] (by simp[B]) H2 _ (a0 (ρ2:=ρ2) m2),λF H'=>(i+1)+(m-1)=items.length/\∃ρ2 S2,Sta G H' ob ρ2 F S2 Fr/\Mv P H1 H' σ F S S2 []/\forL tg body (items.drop (i+1)) ρ2=ac r,λF H' h=>⟨m-1,by omega,h⟩,λx H3 V=>?_⟩
   obtain⟨s3,rx⟩:=wk.yld i items[i] (by simp[B]) H2 _ (a0 (ρ2:=ρ2) m2) x H3 V;rw[←ZS B,forL]at e2;cases Y:tg items[i] ρ2 with
   |none=>simp[Y]at e2
   |some a2=>
    rw[Y]at e2;simp![gD]at e2;have a4:Sta G H3 ob ρ2 σ2 S2 Fr:=O.grow s3 λa z=>.inl z;refine hg items[i] ρ2 a2 Y x σ2 H3 S2 [] Fr (by rw[jE];exact a4) (by rw[jE];exact rx) List.nodup_nil (by simp) _ λa3 H4 S4 s4 m4=>?_;have a1:Mv P H1 H4 σ a3 S S4 []:=(m2.trans (S2:=S2) ⟨λb u h _ _=>s3 b u h,λi a z=>.inl ⟨i,z⟩,.refl⟩).trans m4;cases h5:body a2 with
    |none=>rw[h5]at e2;cases e2
    |some fl=>
     rw[h5]at e2;refine U a2 fl h5 a3 H4 S4 Fr s4 _ ?_;cases fl with
     |nx I=>exact λF H' S' s' m'=>⟨by omega,I,S',s',a1.trans m',e2⟩
     |cnt I=>exact λF H' S' s' m'=>⟨by omega,I,S',s',a1.trans m',e2⟩
     |brk I=>cases e2;exact λF H' S' s' m'=>q1 F H' S' s' (a1.trans m')
     |ret d I=>cases e2;exact q1.from a1
  .have hl:i=items.length:=by omega
   rw[hl,aai,forL]at e2;cases e2;subst hl;exact .inl ⟨wk.stop H2 _ (a0 (ρ2:=ρ2) m2),q1 σ2 H2 S2 O m2⟩
theorem Cu{tg iter:Expr}{body:List Stmt}{g:D->En->Option En}{f:En->Option Fl}(V:∀c,acH (model (X c).prog (X c).w) (X c).A (X c).env (X c).xe)(B:∀c,(X c).calm=ag)(hi:WX X G ob tg iter it)(F:PVG X G ob P tg g)(U:j6 X G ob P body f)(hs:∀c,∀x,ZL iter (X c).env x=pure x:=by intro _;intro _;rfl):PVS X G ob P (.For tg iter body [] pos) (uO it g f):=let⟨v,c1,c2⟩:=hi.ex;let⟨t,a1,a2⟩:=F.ex;let⟨u,b1,b2⟩:=U.ex;⟨_,λc=>Bg (V c) (B c) (c1 c) (a1 c) (b1 c) (hs c),Nv c2 a2 b2⟩
theorem Hm{tg a:Expr}{p:Pos}(F:∀c,Gl (X c) "range")(V:∀c,(X c).mg "range"=af)(Y:Az X G ob [a] f)(hs:∀c,YD [a] (X c).env=[(ae,eval a (X c).env)]:=by intro _;rfl):WX X G ob tg (.Call (.Name "range" p) [a] [] pos) (vp f):=let⟨t,a1,a2⟩:=Y.ex;⟨_,λc=>xJ (F c) (V c) (a1 c) (hs c),QT a2⟩
def Ws(own:Nat->Bool)(cap:List (Option Nat)):Bool:=(Zw cap.length).all λi=>!own i||(match cap[i]? with
 |some af=>ag
 |_=>ae)
theorem fW{own:Nat->Bool}{cap:List (Option Nat)}(h:Ws own cap=ag):∀i:Nat,own i=ag->cap[i]?≠af->cap[i]? =ac af:=λi I hn=>by
 have hi:i<cap.length:=by
  by_cases z:i<cap.length
  .exact z
  .exact absurd (ZD 1.10) hn
 have:=aa1.mp h i (abl.mpr hi);rw[I]at this;simp![Bool.not_true,Bool.false_or]at this;split at this
 .assumption
 .cases this
def PP(cap:List (Option Nat)):Bool:=(Zw cap.length).all λi=>(Zw cap.length).all λk=>match cap[i]?,cap[k]? with
 |some (ac a),ac (ac b)=>!(a==b)||i==k
 |_,_=>ag
theorem Qc{cap:List (Option Nat)}(h:PP cap=ag):oU cap:=λi k j h1 h2=>by
 have hi:i<cap.length:=(List.getElem?_eq_some_iff.mp h1).1;have O:k<cap.length:=(List.getElem?_eq_some_iff.mp h2).1;have:=aa1.mp (aa1.mp h i (abl.mpr hi)) k (abl.mpr O);rw[h1,h2]at this;simpa using this
def Wp(o:Option α)(Q:α->Prop):Prop:=∃a,o=ac a/\Q a
variable{Q:α->Prop}
theorem aF{a:α}:Wp (ac a) Q↔Q a:=⟨λ⟨b,e,q⟩=>by cases e;exact q,λq=>⟨a,rfl,q⟩⟩
theorem uM:Wp (af:Option α) Q↔False:=⟨λ⟨b,e,q⟩=>(by cases e),λz=>z.elim⟩
variable{o:Option α}{R:β->Prop}
theorem aL{f:α->Option β}:Wp (o.bind f) R↔Wp o λa=>Wp (f a) R:=by
 cases o with
 |none=>simp[uM]
 |some a=>simp[aF]
variable{f:α->β}
theorem bV:Wp (o.map f) R↔Wp o λa=>R (f a):=by
 cases o with
 |none=>simp[uM]
 |some a=>simp[aF]
theorem w_ite{c:Prop}[Decidable c]{a b:Option α}:Wp (if c then a else b) Q↔(if c then Wp a Q else Wp b Q):=by
 split<;>exact Iff.rfl
theorem Wp.mono{V:α->Prop}(h:Wp o Q)(k:∀a,Q a->V a):Wp o V:=let⟨a,e,q⟩:=h;⟨a,e,k a q⟩
theorem Wp.eq{a:α}(h:Wp o λx=>x=a):o=ac a:=let⟨b,e,q⟩:=h;by rw[e,q]
theorem Rt{a:α}(h:o=ac a)(q:Q a):Wp o Q:=⟨a,h,q⟩
variable{Q:Fl->Prop}
theorem xr{f g:En->Option Fl}:Wp (bw f g ρ) Q↔Wp (f ρ) λr=>match r with
 |.nx B=>Wp (g B) Q
 |.ret d B=>Q (.ret d B)
 |.brk B=>Q (.brk B)
 |.cnt B=>Q (.cnt B):=by
 unfold bw;cases f ρ with
 |none=>simp[uM]
 |some r=>cases r<;>simp[aF]
theorem RC(I:Nat->En->Prop):∀{items:List D}{ρ:En}{k:Nat},I k ρ->
  (∀(i:Nat)(d:D)(ρ:En),items[i]? =ac d->I (k+i) ρ->Wp (tg d ρ) λρ1=>Wp (body ρ1) λr=>match r with
   |.nx ρ2=>I (k+i+1) ρ2
   |.cnt ρ2=>I (k+i+1) ρ2
   |.brk ρ2=>Q (.nx ρ2)
   |.ret d ρ2=>Q (.ret d ρ2))->
  (∀ρ,I (k+items.length) ρ->Q (.nx ρ))->Wp (forL tg body items ρ) Q
 |[],ρ,k,h0,_,h=>by rw[forL];exact aF.mpr (h ρ h0)
 |d::r,ρ,k,h0,hs,h=>by
  rw[forL];obtain⟨ρ1,e1,w⟩:=hs 0 d ρ rfl h0;obtain⟨fl,e2,w⟩:=w;rw[e1,gD,e2];have q:∀{ρ2:En},I (k+1) ρ2->Wp (forL tg body r ρ2) Q:=λO=>RC I O (λi d ρ hi O=>by
   have:=hs (i+1) d ρ (by simpa using hi) (by rw[show k+(i+1)=k+1+i by omega];exact O);rw[show k+(i+1)+1=k+1+i+1 by omega]at this;exact this) λρ O=>h ρ (by rw[Yy,show k+(r.length+1)=k+1+r.length by omega];exact O)
  cases fl with
  |nx ρ2=>exact q w
  |cnt ρ2=>exact q w
  |brk ρ2=>exact aF.mpr w
  |ret d ρ2=>exact aF.mpr w
variable{c:En->Option Bool}
theorem fO{tg:D->En->Option En}{c:En->Option Bool}{e:En->Option D}{ρ0:En}{p:D->Bool}{f:D->D}:∀{items:List D},(∀d∈items,Wp (tg d ρ0) λρ1=>c ρ1=ac (p d)/\(p d=ag->e ρ1=ac (f d)))->f9 tg c e ρ0 items=ac ((items.filter p).map f)
 |[],_=>rfl
 |d::r,h=>by
  obtain⟨ρ1,e1,h1,h2⟩:=h d (by simp);have I:=fO (tg:=tg) (c:=c) (e:=e) (ρ0:=ρ0) (p:=p) (f:=f) (items:=r) λx F=>h x (by simp[F]);rw[f9];cases V:p d with
  |false=>simp[e1,h1,V,I]
  |true=>simp[e1,h1,V,h2 V,I]
variable{e:En->Option (D×En)}{Q:List D×En->Prop}
theorem G7{cap:List (Option Nat)}(I:Nat->List D->En->Prop):∀{items:List D}{ρ:En}{k:Nat}{acc:List D},I k acc ρ->
  (∀(i:Nat)(d:D)(acc:List D)(ρ:En),items[i]? =ac d->I (k+i) acc ρ->Wp (tg d (dI cap ρ)) λρ1=>Wp (c ρ1) λb=>if b=ag then Wp (e ρ1) λp=>clean p.1=ag/\I (k+i+1) (acc++[p.1]) (iy cap p.2 ρ)else I (k+i+1) acc ρ)->
  (∀ys ρ,I (k+items.length) ys ρ->Q (ys,ρ))->Wp (jQ cap tg c e items ρ) λt=>Q (acc++t.1,t.2)
 |[],ρ,k,acc,h0,_,h=>by rw[jQ];exact aF.mpr (by rw[Za];exact h acc ρ h0)
 |d::r,ρ,k,acc,h0,hs,h=>by
  rw[jQ];obtain⟨ρ1,e1,b,e2,w⟩:=hs 0 d acc ρ rfl h0;rw[e1,gD,e2,gD];have q:∀{ρ2:En}{acc:List D},I (k+1) acc ρ2->Wp (jQ cap tg c e r ρ2) λt=>Q (acc++t.1,t.2):=λO=>G7 I O (λi d acc ρ hi O=>by
   have:=hs (i+1) d acc ρ (by simpa using hi) (by rw[show k+(i+1)=k+1+i by omega];exact O);rw[show k+(i+1)+1=k+1+i+1 by omega]at this;exact this) λys ρ O=>h ys ρ (by rw[Yy,show k+(r.length+1)=k+1+r.length by omega];exact O)
  cases b with
  |false=>
   simp![ZV,abo]at w⊢;exact q w
  |true=>
   simp![Y6]at w⊢;obtain⟨p,Z,B,O⟩:=w;rw[Z,gD,YH B];rw[bV];refine(q O).mono λt U=>?_;simpa using U
theorem dq(l:List Str):aB (l.map D.str)=ag:=cg λd hd=>by obtain⟨x,_,rfl⟩:=Yr.mp hd;rfl
theorem bQ(l:List Str):aC (l.map D.str)=ag:=bL λd hd=>by obtain⟨x,_,rfl⟩:=Yr.mp hd;rfl
theorem dX(b:Bool)(l:List Str):eE b (l.map D.str)=l.map D.str:=by rw[eF,Yw];rfl
theorem jm(l:List Str):fzL (l.map D.str)=l.map D.str:=by rw[fX,Yw];rfl
theorem il(l:List Str):gM (l.map D.str)=l.map D.str:=by rw[fL,Yw];rfl
theorem pW{β:Type}{f:α->β}{l:List α}(B:0<=i)(h1:i<l.length):∃x,x∈l/\l[i.toNat]? =ac x/\atI (l.map f) i=ac (f x):=by
 have:i.toNat<l.length:=by omega
 refine⟨l[i.toNat],aaj _,by simp[this],?_⟩;unfold atI ixN;rw[YH B,YH (by simpa using h1)];simp[this]
theorem Ax{lo:Int}:(jk lo n).length=n:=by simp[jk]
theorem filter_tt(l:List α):l.filter (λ_=>ag)=l:=by simp
theorem uC{i:Nat}(h:(jk 0 n)[i]? =ac d):i<n/\d= .int (i:Int):=by
 have hi:i<n:=by have:=(List.getElem?_eq_some_iff.mp h).1;simpa[jk]using this
 refine⟨hi,?_⟩;unfold jk at h;rw[List.getElem?_map,aeF hi]at h;simpa using h.symm
abbrev Jt:=Str×Str×Int
def jD(j:Jt):D:=.tup [.str j.1,.str j.2.1,.int j.2.2]
theorem sE(l:List Jt):aB (l.map jD)=ag:=cg λd hd=>by obtain⟨x,_,rfl⟩:=Yr.mp hd;rfl
theorem oN(l:List Jt):aC (l.map jD)=ag:=bL λd hd=>by obtain⟨x,_,rfl⟩:=Yr.mp hd;rfl
theorem uQ(b:Bool)(l:List Jt):eE b (l.map jD)=l.map jD:=by rw[eF,Yw];rfl
theorem lR(l:List Jt):fzL (l.map jD)=l.map jD:=by rw[fX,Yw];rfl
theorem HB(l:List Jt):gM (l.map jD)=l.map jD:=by rw[fL,Yw];rfl
theorem x_:∀l:List Str,mR (l.map D.str)=ag
 |[]=>rfl
 |j::r=>by simp[mR,tG,x_ r]
theorem eq_int{j:Int}:gEq (.int i) (.int j)=ac (.bl (decide (i=j))):=by
 unfold gEq;rw[YH ⟨rfl,rfl,.sc (.int i j)⟩];simp[dt,eqD];exact aap.mpr (by simp)
variable{items:List D}
theorem Ma{cap:List (Option Nat)}(I:Nat->List D->En->Prop)(B:I 0 [] ρ)
  (hs:∀(i:Nat)(d:D)(acc:List D)(ρ:En),items[i]? =ac d->I i acc ρ->Wp (tg d (dI cap ρ)) λρ1=>Wp (c ρ1) λb=>if b=ag then Wp (e ρ1) λp=>clean p.1=ag/\I (i+1) (acc++[p.1]) (iy cap p.2 ρ)else I (i+1) acc ρ)
  (h:∀ys ρ,I items.length ys ρ->Q (ys,ρ)):Wp (jQ cap tg c e items ρ) Q:=by
 have:=G7 (cap:=cap) (tg:=tg) (c:=c) (e:=e) (Q:=Q) I (items:=items) (ρ:=ρ) (k:=0) (acc:=[]) B (λi d acc ρ hi O=>by
  rw[aaS]at O⊢;exact hs i d acc ρ hi O) λys ρ O=>h ys ρ (by rw[aaS]at O;exact O)
 simpa using this
variable{Q:Fl->Prop}
theorem iQ(I:Nat->En->Prop)(B:I 0 ρ)
  (hs:∀(i:Nat)(d:D)(ρ:En),items[i]? =ac d->I i ρ->Wp (tg d ρ) λρ1=>Wp (body ρ1) λr=>match r with
   |.nx ρ2=>I (i+1) ρ2
   |.cnt ρ2=>I (i+1) ρ2
   |.brk ρ2=>Q (.nx ρ2)
   |.ret d ρ2=>Q (.ret d ρ2))
  (h:∀ρ,I items.length ρ->Q (.nx ρ)):Wp (forL tg body items ρ) Q:=
 RC (k:=0) I B (λi d ρ hi O=>by
  rw[aaS]at O⊢;exact hs i d ρ hi O) λρ O=>h ρ (by rw[aaS]at O;exact O)
theorem a_{f g:En->Option Fl}(P:En->Prop)(h1:∀V:Fl->Prop,(∀B,P B->V (.nx B))->Wp (f ρ) V)(h2:∀B,P B->Wp (g B) Q):Wp (bw f g ρ) Q:=by
 rw[xr];exact h1 _ λB h=>h2 B h
theorem Sy{f g:En->Option Fl}(P:En->Prop)(R:D->Prop)(h1:∀V:Fl->Prop,(∀B,P B->V (.nx B))->(∀d B,R d->V (.ret d B))->Wp (f ρ) V)(h2:∀B,P B->Wp (g B) Q)(Y:∀d B,R d->Q (.ret d B)):Wp (bw f g ρ) Q:=by
 rw[xr];exact h1 _ (λB h=>h2 B h) λd B h=>Y d B h
theorem Ww(j:Jt):az (jD j)=ag:=rfl
theorem V_(j:Jt):au (jD j)=ag:=rfl
theorem XC(b:Bool)(j:Jt):view b (jD j)=jD j:=rfl
open PySem PySem.W PyProof.Rows
section
variable(ρ:Nat->Int)
abbrev bk:Nat->Nat->Bool:=λi j=>decide (ρ i<ρ j)
end
variable{x:Value}{Q:Value->Ym->Prop}
theorem xm(B:∀q (V:List Value->Ym->Prop),(∀O Z,wpAny 1.16 A.in1 (adA O >>=λl=>ach [l] (call (.builtin "list.sort") [l] []) >>=λ_=>ret l) (λfin s'=>∃v,fin= .done (.ret v)/\Q v s') q Z->V O Z)->wpAny 1.16 A.in1 (ae2 x) V q s) :
  wpAny 1.16 A (call (.builtin "sorted") [x]) Q E s:=by
 refine Calls.call_function_entry kind_sorted plain_sorted entry_sorted (args_sorted1 _) ?_;unfold Builtin.«sorted»;refine W2 (m:=checkCount "sorted" 1 1 _) (Yq ?_);exact W2 (B _ _ λO Z h=>h)
def strsOf:List D->Option (List Str)
 |[]=>ac []
 |.str x::r=>(strsOf r).map λt=>x::t
 |_=>af
theorem nM:∀{ds:List D}{k:List Str},strsOf ds=ac k->ds=k.map D.str
 |[],k,h=>by cases h;rfl
 |d::r,k,h=>by
  cases d<;>simp![strsOf]at h<;>try cases h
  cases e:strsOf r with
  |none=>rw[e]at h;cases h
  |some t=>rw[e]at h;cases h;rw[nM e];rfl
theorem o5{F:List Addr}{Q:VK}(Z:aG G H W ds xs M)(s:∀a∈M,a∈F)(nd:M.Nodup)(hn:∀a∈F,W.tmp a)(hp:H p=af)(q:Done G H W F (.lst .own ds) Q):Q (.ref p) (upd H p (.lst xs)):=by
 have O:Same H (upd H p (.lst xs)):=Same.new hp;have B:p∉M:=λz=>by obtain⟨o,I,_⟩:=Z.dom p z;rw[hp]at I;cases I
 refine q (.ref p) _ (p::M) O ?_ (λa Y=>(Yu.mp Y).elim (λz=>.inr (by rw[z];exact hp)) λz=>.inl (s a z)) (Y5.mpr ⟨B,nd⟩);rw[Rep];exact⟨p,xs,M,rfl,Z.up ⟨O,λb u U f=>⟨λz=>z.elim (λz=>(Yu.mp z).elim (λz=>by rw[z,hp]at U;cases U) λz=>f.1 (hn b (s b z)).1) λz=>f.1 z.1,f.2⟩,λ_ _ _ f=>f⟩,aQ,rfl⟩
theorem pQ:∀{k:List Str}{xs:List V}{M:List Addr},aG G H W (k.map D.str) xs M->xs=k.map V.str
 |[],xs,M,r=>r.inv0.1
 |x::k,xs,M,r=>by
  obtain⟨y,ys,A,B,rfl,_,z,q⟩:=r.inv;rw[(cC z).1,pQ q];rfl
theorem qb{env:Env}{x:Str}:∀{names:List (Str×aaP)},(names.lookup x=ac .cell∨names.lookup x=ac .free)->(names.map λ(n,k)=>if(k==acB&&env.scope.kind== .function&&env.kindOf n==ac .cell)then(n,aaH)else(n,k)).lookup x=ac .cell∨(names.map λ(n,k)=>if(k==acB&&env.scope.kind== .function&&env.kindOf n==ac .cell)then(n,aaH)else(n,k)).lookup x=ac .free
 |[],h=>by simp at h
 |(n,k)::r,h=>by
  rw[Ys];by_cases e:x=n
  .subst e
   have h:k= .cell∨k= .free:=by simpa using h
   dsimp only;split
   .exact .inl (by simp)
   .rcases h with h|h<;>subst h
    .exact .inl (by simp)
    .exact .inr (by simp)
  .have hne:(x==n)=ae:=by simpa using e
   rw[ZP,hne]at h;have I:=qb (env:=env) h;dsimp only;split<;>(rw[ZP,hne];exact I)
theorem cj.rel{z:Scope}{cap:List (Option Nat)}(O:cj z N N' scope cap):cj (ae0 z env) N N' scope cap:=⟨O.kind,O.cellnm,O.nm,λy V q=>qb (O.free y V q),O.len,O.cap⟩
def ue:List D->Option D
 |[]=>ac (.dct .own [] [])
 |_=>af
theorem QS:CaV G (λxs H Q=>∀p,H p=af->Q (.ref p) (upd H p (.dK []))) ue:=λds d e xs H W F r nd hn w Q q=>by
 unfold ue at e;split at e
 .cases e
  intro p V;have O:Same H (upd H p (.dK [])):=Same.new V;refine q (.ref p) _ [p] O ?_ (λa Y=>.inr (by rw[Yz.mp Y];exact V)) (Y5.mpr ⟨by simp,List.nodup_nil⟩);rw[Rep];exact⟨p,[],[],rfl,⟨rfl,List.nodup_nil⟩,.nil,aQ,rfl⟩
 .cases e
theorem uq:PV X G ob (.Dict [] [] pos) (eAp ue aA):=⟨_,λc=>J4,sU QS Kh⟩
def sG:List Key->Option (List Str)
 |[]=>ac []
 |.inr x::r=>(sG r).map (x::·)
 |_=>af
theorem Dq:∀{ks:List Key}{ys:List Str},sG ks=ac ys->ks=ys.map YM
 |[],ys,h=>by cases h;rfl
 |.inr x::r,ys,h=>by
  simp![sG,ad5]at h;obtain⟨t,h1,rfl⟩:=h;rw[Dq h1];rfl
 |.inl _::r,ys,h=>by simp[sG]at h
theorem mj:∀ys:List Str,aG G H W (ys.map D.str) (ys.map V.str) []
 |[]=>.nil
 |x::r=>aG.cons (M:=[]) (M':=[]) uz (mj r)
def jB(tg:D->En->Option En)(c:En->Option Bool)(fk q:En->Option D)(ρ0:En):List D->Option (List (Key×D))
 |[]=>ac []
 |d::r=>(tg d ρ0).bind λρ1=>(c ρ1).bind λb=>if b=ag then((fk ρ1).bind cQ).bind λk=>(q ρ1).bind λx=>(jB tg c fk q ρ0 r).map λt=>(k,x)::t else jB tg c fk q ρ0 r
def qx(es:List (Key×D)):Option D:=if(es.map (·.1)).Nodup then ac (.dct .own (es.map (·.1)) (es.map (·.2)))else af
def wj(cap:List (Option Nat))(it:En->Option (Bool×List D))(tg:D->En->Option En)(c:En->Option Bool)(fk q:En->Option D):En->Option D:=λρ=>(it ρ).bind λp=>if p.2.length<=1000000 then(jB tg c fk q (dI cap ρ) p.2).bind qx else af
theorem Hz(h:k∉ks):cP ks k=af:=Zn.mpr λx F=>by
 have:x≠k:=λz=>h (z▸F);simpa using this
theorem G_{x:V}(e:cQ d=ac k)(r:Rep G H W d x L):x=kV k/\L=[]:=by
 cases d with
 |int i=>cases e;rw[Rep]at r;exact r
 |str i=>cases e;rw[Rep]at r;exact r
 |_=>cases e
section
variable{G:Gc}{ob own:Nat->Bool}
theorem J0{cap:List (Option Nat)}{wi:TI}{g:TG}{tt:TT}{tk te:TE}{it:En->Option (Bool×List D)}{tg:D->En->Option En}{c:En->Option Bool}{fk e:En->Option D}(b5:∀i:Nat,own i=ag->cap[i]?≠af->cap[i]? =ac af)(hi:RfI G ob wi it)(F:Fb G (obC cap ob) own g tg)(ht:RfT G (obC cap ob) tt c)(O:RfE G (obC cap ob) tk fk)(he:RfE G (obC cap ob) te e):RfE G ob (J9 cap wi g tt tk te) (wj cap it tg c fk e):=λρ d ee σ H W rl w Q q=>by
 unfold wj at ee;cases h1:it ρ with
 |none=>simp[h1]at ee
 |some p=>
  obtain⟨b,items⟩:=p;rw[h1]at ee;simp![gD]at ee;split at ee
  .rename_i hlen
   cases h2:jB tg c fk e (dI cap ρ) items with
   |none=>simp[h2]at ee
   |some a8=>
    rw[h2]at ee;simp![gD,qx]at ee;split at ee
    .rename_i hnd
     cases ee;refine hi ρ b items h1 σ H W rl w _ λJ H1 Z wk=>?_;refine⟨λi m ys H2=>i+m=items.length/\ys.length<=i/\∃acc L rest,Same H1 H2/\YK (·.1) ys=YK (·.1) acc/\aG G H2 (W.add L) (YK (·.2) acc) (YK (·.2) ys) L/\(∀a∈L,H1 a=af)/\L.Nodup/\WOk H2 (W.add L)/\jB tg c fk e (dI cap ρ) (items.drop i)=ac rest/\acc++rest=a8,⟨items.length,by omega,by simp,[],[],a8,Same.refl _,rfl,.nil,by simp,List.nodup_nil,?_,h2,rfl⟩,?_⟩
     .rw[qY];exact w.up Z
     rintro i m ys H2 ⟨c4,c5,acc,L,rest,s2,a5,ra,fa,na,wa,B,a0⟩;have a2:Up H1 H2 W (W.add L):=Up.add s2 fa
     .by_cases hil:i<items.length
      .have hdr:=(ZS hil).symm
       rw[hdr,jB]at B;refine .inr ⟨wk.go i items[i] (by simp[hil]) H2 _ (LtB.up a2),by have:=six hlen;omega,λa4 H'=>(i+1)+(m-1)=items.length/\a4.length<=i+1/\∃acc L rest,Same H1 H'/\YK (·.1) a4=YK (·.1) acc/\aG G H' (W.add L) (YK (·.2) acc) (YK (·.2) a4) L/\(∀a∈L,H1 a=af)/\L.Nodup/\WOk H' (W.add L)/\jB tg c fk e (dI cap ρ) (items.drop (i+1))=ac rest/\acc++rest=a8,λa4 H' h=>⟨m-1,by omega,h⟩,λx H3 hy=>?_⟩;obtain⟨s3,rx⟩:=wk.yld i items[i] (by simp[hil]) H2 _ (LtB.up a2) x H3 hy;cases h3:tg items[i] (dI cap ρ)with
       |none=>simp[h3]at B
       |some ρ1=>
        rw[h3]at B;simp![gD]at B;have b9:Rel G H3 (W.add L) (obC cap ob) (dI cap ρ) (fV cap σ):=(rl.cap).up ((Up.same Z).trans (a2.trans (Up.same s3)));have b4:=ra.up (Up.same s3 (W:=W.add L));have b1:WOk H3 (W.add L):=wa.up s3;refine F items[i] _ ρ1 h3 x _ H3 (W.add L) rx b9 (by simp[dI,fV]) _ λσ2 b6 c7 k4=>⟨Gw b5 k4,?_⟩;cases h4:c ρ1 with
        |none=>simp[h4]at B
        |some bb=>
         rw[h4]at B;simp![gD]at B;refine ht ρ1 bb h4 σ2 H3 (W.add L) b6 b1 _ λH4 s4=>?_;have b2:=b6.up (Up.same s4);have a6:=b1.up s4;cases bb with
         |false=>
          simp![ZV,abo]at B;exact zM ⟨by omega,by omega,acc,L,rest,((s2.trans s3).trans s4),a5,b4.up (Up.same s4),fa,na,a6,B,a0⟩
         |true=>
          simp![Y6]at B;cases h7:fk ρ1 with
          |none=>simp[h7]at B
          |some dk=>
          cases h8:cQ dk with
          |none=>simp[h7,h8]at B
          |some k=>
          cases h5:e ρ1 with
          |none=>simp[h5,h7,h8]at B
          |some y=>
           cases h6:jB tg c fk e (dI cap ρ) (items.drop (i+1))with
           |none=>simp[h5,h6,h7,h8]at B
           |some a1=>
            obtain rfl:(k,y)::a1=rest:=by simpa[h5,h6,h7,h8]using B
            refine uf (O ρ1 dk h7 σ2 H4 (W.add L) b2 a6 _ λxk b0 c2 a3 b8 c3 c6=>?_);obtain⟨rfl,rfl⟩:=G_ h8 b8;refine⟨k,rfl,?_⟩;have c0:=b2.up (Up.same a3);have c1:=a6.up a3;have a9:Same H1 b0:=((s2.trans s3).trans s4).trans a3;have a7:=(b4.up (Up.same s4 (W:=W.add L))).up (Up.same a3 (W:=W.add L));refine he ρ1 y h5 σ2 b0 (W.add L) c0 c1 _ λv H5 M s5 ry fy ny=>?_;have fM:∀a∈M,H1 a=af:=λa Y=>a9.none' (fy a Y);have b7:∀a∈L,a∉M:=λa h1 h2=>by
             obtain⟨o,I,_⟩:=a7.dom a h1;rw[fy a h2]at I;cases I
            have u5:Up b0 H5 (W.add L) (W.add (L++M)):=⟨s5,λb u U f=>⟨λz=>z.elim (λz=>(Yl.mp z).elim (λz=>f.1 (.inl z)) λz=>by rw[fy b z]at U;cases U) λz=>f.1 (.inr z),f.2⟩,λ_ _ _ f=>f⟩;have u6:Up H5 H5 ((W.add L).add M) (W.add (L++M)):=⟨Same.refl _,λb u U f=>⟨λz=>by
             rcases z with z|z
             .exact(Yl.mp z).elim (λz=>f.1 (.inr (.inl z))) λz=>f.1 (.inl z)
             .exact f.1 (.inr (.inr z)),f.2⟩,λ_ _ _ f=>f⟩
            have b3:cP (ys.map (·.1)) k=af:=Hz λz=>by
             rw[a5]at z;rw[←a0,Zt]at hnd;exact(List.nodup_append.mp hnd).2.2 k z k (by simp) rfl
            rw[jw b3];refine⟨by omega,by simp;omega,acc++[(k,y)],L++M,a1,a9.trans s5,by simp[a5],?_,λa Y=>(Yl.mp Y).elim (fa a) (fM a),dR na ny b7,?_,rfl,by rw[←a0];simp⟩
            .rw[Zt,Zt];exact(a7.up u5).append (.one (ry.up u6))
            exact w.add (Z.trans (a9.trans s5)) λa Y=>(Yl.mp Y).elim (λz=>let⟨o,h,m⟩:=a7.dom a z;⟨o,s5 a o h,m⟩) (ry.dom a)
      .have hl:i=items.length:=by omega
       subst hl;rw[aai,jB]at B;cases B;refine .inl ⟨wk.stop H2 _ (LtB.up a2),aa3 (six 1.10),λp V=>?_⟩;have sm:Same H2 (upd H2 p (.dK ys)):=Same.new V;rw[Za]at a0;subst a0;refine q (.ref p) _ (p::L) ((Z.trans s2).trans sm) ?_ (λa Y=>(Yu.mp Y).elim (λz=>by rw[z];exact(Z.trans s2).none' V) λz=>Z.none' (fa a z)) (Y5.mpr ⟨λz=>?_,na⟩)
       .rw[Rep]
        exact⟨p,ys,L,rfl,⟨a5,hnd⟩,ra.up ⟨sm,λb u U f=>⟨λz=>z.elim (λz=>(Yu.mp z).elim (λz=>by rw[z,V]at U;cases U) λz=>f.1 (.inl z)) λz=>f.1 (.inr z),f.2⟩,λ_ _ _ f=>f⟩,aQ,rfl⟩
       .obtain⟨o,I,_⟩:=ra.dom p z
        rw[V]at I;cases I
    .cases ee
  .cases ee
end
section
variable{ι:Type}{X:ι->Cx}{G:Gc}{ob:Nat->Bool}{kx vx target iter:Expr}{ifs:List Expr}{scope:Scope}{pos pos' pos2:Pos}{N':List Str}{it:En->Option (Bool×List D)}{tg:D->En->Option En}{fc:En->Option Bool}{fk fe:En->Option D}
variable{P:Nat->Bool}{x:Str}
theorem N_(i:Nat)(cap:List (Option Nat))(own:Nat->Bool)(z:∀c,(X c).N.Nodup)(F:∀c,(X c).xe=NoX)(B:∀c,(X c).calm=ag)(O:∀c,cj (X c).env.scope (X c).N N' scope cap)(q:∀i:Nat,own i=ag->cap[i]?≠af->cap[i]? =ac af)(hi:PVI X G ob target iter it)(hg:Gp (InX X N' scope) G (obC cap ob) own target tg)(U:Gj (InX X N' scope) G (obC cap ob) ifs fc)(V:PV (InX X N' scope) G (obC cap ob) kx fk)(he:PV (InX X N' scope) G (obC cap ob) vx fe)
  (hP:P i=ae:=by rfl) (I:∀c,(X c).N[i]? =ac x:=by intro _;rfl) (Z:∀c,Loc (X c).env.scope x:=by intro _;first|exact aab rfl|exact ZC rfl) (hw:∀c,abk 1.22 (ac (.Name x pos')) pos2.line (X c).env=pure ag:=by intro _;rfl) (hs:∀c,∀x,ZL iter (X c).env x=pure x:=by intro _ _;rfl)
  (Y:∀c,(X c).fn x=ag∨(X c).env.scope.names.lookup x=ac .local:=by intro _;first|exact .inl rfl|exact .inr rfl):PVS X G ob P (.Assign [.Name x pos'] 1.22 pos2) (bN (wj cap it tg fc fk fe) (tgN i)):=
 let⟨_,i1,i2⟩:=hi.ex;let⟨_,g1,g2⟩:=hg.ex;let⟨_,t1,t2⟩:=U.ex;let⟨_,k1,k2⟩:=V.ex;let⟨_,e1,e2⟩:=he.ex
 ⟨_,λc=>Qm (F c) (B c) (z c) (I c) (Z c) (O c) (i1 c) (λC s H fp=>g1 (c,C,s,H,fp)) (λC s H fp=>t1 (c,C,s,H,fp)) (λC s H fp=>k1 (c,C,s,H,fp)) (λC s H fp=>e1 (c,C,s,H,fp)) (hw c) (hs c) (Y c),by rw[←zU];exact ju (xP (J0 q i2 g2 t2 k2 e2)) (jc hP)⟩
end
def sV:En->Option (List (Key×D)):=λ_=>ac []
def lD(fk q:En->Option D)(F:En->Option (List (Key×D))):En->Option (List (Key×D)):=λρ=>((fk ρ).bind cQ).bind λk=>(q ρ).bind λx=>(F ρ).map λr=>(k,x)::r
def qw(f:En->Option (List (Key×D))):En->Option D:=λρ=>(f ρ).bind λes=>if es.length<=15/\aB (es.map (·.2))=ag/\aC (es.map (·.2))=ag then qx es else af
def JZ(G:Gc)(ob:Nat->Bool)(t:List (TE×TE))(f:En->Option (List (Key×D))):Prop:=∀(ρ:En)(es:List (Key×D)),f ρ=ac es->∀(σ:L2.St)(H:Hp)(W:Wn),Rel G H W ob ρ σ->WOk H W->∀Q:List (V×V)->Hp->Prop,
 (∀(O:List V) H' L,O.length=es.length->Same H H'->aG G H' (W.add L) (es.map (·.2)) O L->(∀a∈L,H a=af)->L.Nodup->Q ((adF (es.map (·.1)) O).map λkv=>(kV kv.1,kv.2)) H')->yN t σ H Q
structure O4{ι:Type}(X:ι->Cx)(G:Gc)(ob:Nat->Bool)(pos:Pos)(ks:List (Option Expr))(vs:List Expr)(f:En->Option (List (Key×D))):Prop where
 mk::(ex:∃t,(∀c,PPs (X c) pos ks vs t)/\JZ G ob t f)
theorem Ql:JZ G ob [] sV:=λρ es e σ H W I w Q q=>by
 cases e;exact q [] H [] rfl (Same.refl H) .nil (by simp) List.nodup_nil
variable{t:List (TE×TE)}
theorem MP{tk tv:TE}{fv:En->Option D}{fr:En->Option (List (Key×D))}(O:RfE G ob tk fk)(hv:RfE G ob tv fv)(Z:JZ G ob t fr):JZ G ob ((tk,tv)::t) (lD fk fv fr):=λρ es e σ H W rl w Q q=>by
 unfold lD at e;cases h1:fk ρ with
 |none=>simp[h1]at e
 |some dk=>
 cases h2:cQ dk with
 |none=>simp[h1,h2]at e
 |some k=>
 cases h3:fv ρ with
 |none=>simp[h1,h2,h3]at e
 |some dv=>
 cases F:fr ρ with
 |none=>simp[h1,h2,h3,F]at e
 |some rs=>
  obtain rfl:(k,dv)::rs=es:=by simpa[h1,h2,h3,F]using e
  refine O ρ dk h1 σ H W rl w _ λxk H0 L0 s0 rk a0 nk=>?_;obtain⟨rfl,rfl⟩:=G_ h2 rk;refine hv ρ dv h3 σ H0 W (rl.up (Up.same s0)) (w.up s0) _ λx H1 L s1 rx fx nx=>?_;have u1:Up H0 H1 W (W.add L):=.add s1 fx;have w1:WOk H1 (W.add L):=(w.up s0).add s1 rx.dom;refine Z ρ rs F σ H1 (W.add L) ((rl.up (Up.same s0)).up u1) w1 _ λys H2 M hl s2 B fy ny=>?_;have V:∀a∈L,a∉M:=λa h1 h2=>by
   obtain⟨o,I,_⟩:=rx.dom a h1;rw[fy a h2]at I;cases I
  have u2:Up H1 H2 (W.add L) (W.add (L++M)):=⟨s2,λb u U f=>⟨λz=>z.elim (λz=>(Yl.mp z).elim (λz=>f.1 (.inl z)) λz=>by rw[fy b z]at U;cases U) λz=>f.1 (.inr z),f.2⟩,λ_ _ _ f=>f⟩;refine q (x::ys) H2 (L++M) (by simp[hl]) ((s0.trans s1).trans s2) (.cons (rx.up u2) (B.up ⟨Same.refl _,λb u U f=>⟨λz=>?_,f.2⟩,λ_ _ _ f=>f⟩)) (λa Y=>?_) (dR nx ny V)
  .rcases z with z|z
   .exact(Yl.mp z).elim (λz=>f.1 (.inr (.inl z))) λz=>f.1 (.inl z)
   .exact f.1 (.inr (.inr z))
  .rcases Yl.mp Y with z|z
   .exact s0.none' (fx a z)
   .exact(s0.trans s1).none' (fy a z)
theorem oZ:∀{more kvs:List (Key×V)},(YK (·.1) (kvs++more)).Nodup->mJ kvs more=kvs++more
 |[],kvs,h=>by simp[mJ]
 |p::r,kvs,h=>by
  have h1:putK kvs p.1 p.2=kvs++[p]:=jw (Hz λz=>by
   rw[Zt]at h;exact(List.nodup_append.mp h).2.2 p.1 z p.1 (by simp) rfl)
  have:=oZ (more:=r) (kvs:=kvs++[p]) (by simpa using h);show mJ (putK kvs p.1 p.2) r=_;rw[h1,this];simp
variable{f:En->Option (List (Key×D))}
theorem QB(h:JZ G ob t f):RfE G ob (Kw t) (qw f):=λρ d e σ H W rl w Q q=>by
 unfold qw at e;cases h1:f ρ with
 |none=>simp[h1]at e
 |some es=>
  rw[h1]at e;simp![gD]at e;split at e
  .rename_i hc
   unfold qx at e;split at e
   .rename_i hnd
    cases e;intro p V;have sm:Same H (upd H p (.dK [])):=Same.new V;have u0:Up H (upd H p (.dK [])) W (W.add [p]):=.add sm (by simpa using V);have w0:WOk (upd H p (.dK [])) (W.add [p]):=w.add sm λa Y=>by
     obtain rfl:a=p:=by simpa using Y
     exact⟨_,aQ,rfl⟩
    refine h ρ es h1 σ _ _ (rl.up u0) w0 _ λO H2 L Z s2 r2 f2 n2=>?_;have B:H2 p=ac (.dK []):=s2 p _ aQ;have a0:YK (·.1) (adF (es.map (·.1)) O)=es.map (·.1):=afm (by simp[Z]);have a3:YK (·.2) (adF (es.map (·.1)) O)=O:=afn (by simp[Z]);refine⟨B,adF (es.map (·.1)) O,rfl,by simp[Z];exact hc.1,?_⟩;rw[oZ (by simpa[a0]using hnd),List.nil_append];have a2:p∉L:=λz=>by have:=f2 p z;rw[aQ]at this;cases this
    have a4:Same H (upd H2 p (.dK (adF (es.map (·.1)) O))):=λb u U=>by
     have a1:b≠p:=λz=>by rw[z,V]at U;cases U
     rw[aK a1];exact s2 b u (by rw[aK a1];exact U)
    refine q (.ref p) _ (p::L) a4 ?_ (λa Y=>?_) (Y5.mpr ⟨a2,n2⟩)
    .rw[Rep]
     refine⟨p,_,L,rfl,⟨a0,hnd⟩,?_,aQ,rfl⟩;rw[a3];have I:Evo H2 (upd H2 p (.dK (adF (es.map (·.1)) O))) ((W.add [p]).add L) (W.add (p::L)):=⟨λb u U F=>⟨by rw[aK λz=>F.1 (.inr (.inl (by simp[z])))];exact U,λz=>by
      rcases z with z|z
      .rcases Yu.mp z with z|z
       .exact F.1 (.inr (.inl (by simp[z])))
       .exact F.1 (.inl z)
      .exact F.1 (.inr (.inr z)),F.2⟩,λb xs U=>by rw[aK λz=>by rw[z,B]at U;cases U];exact U⟩
     exact r2.mono I (.inl hc.2.1) (.inl hc.2.2) λc a6 u hu=>by
      have a5:c≠p:=λz=>a2 (by rw[←z];exact a6);rw[aK a5];exact hu
    .rcases Yu.mp Y with z|z
     .rw[z];exact V
     .have:=f2 a z
      by_cases U:a=p
      .rw[U];exact V
      .rwa[aK U]at this
   .cases e
  .cases e
theorem vz:O4 X G ob pos [] [] sV:=⟨_,λc=>G9,Ql⟩
theorem rK{k v:Expr}{ks:List (Option Expr)}{q:En->Option D}{F:En->Option (List (Key×D))}(z:PV X G ob k fk)(B:PV X G ob v q)(Z:O4 X G ob pos ks O F):O4 X G ob pos (ac k::ks) (v::O) (lD fk q F):=
 let⟨_,a1,a2⟩:=z.ex;let⟨_,b1,b2⟩:=B.ex;let⟨_,c1,c2⟩:=Z.ex;⟨_,λc=>uD (a1 c) (b1 c) (c1 c),MP a2 b2 c2⟩
theorem yC{F:List Expr}(h:O4 X G ob pos U F f)(V:U.all (·.isSome)=ag:=by rfl)(Z:U.length=F.length:=by rfl)(B:U≠[]:=by simp)(q:U.length<=15:=by decide):PV X G ob (.Dict U F pos) (qw f):=
 let⟨_,a1,a2⟩:=h.ex;⟨_,λc=>Hh (a1 c) V Z B q,QB a2⟩
def Ke:Option D->Option D
 |some d=>if bj d then ac d else af
 |none=>af
def pJ(i:Nat)(es:List D)(ks:List Nat)(ρ B:En):En:=B.mapIdx λj o=>if j=i then ac (.lst .own es)else if ks.contains j then(ρ[j]?).bind id else Ke o
theorem xu(b:List Stmt)(env:Env):∀a:List Stmt,execs (a++b) env=(do match ←execs a env with|.next=>execs b env|f=>pure f)
 |[]=>by
  show execs b env=(pure afD >>=λf=>match f with|.next=>execs b env|f=>pure f);rw[pure_bind]
 |st::a=>by
  rw[YW,execs_cons,execs_cons,xu b env a,bind_assoc];congr 1;funext f;cases f with
  |next=>rfl
  |_=>simp![pure_bind]
theorem O5{X:Cx}{a b:List Stmt}{t u:TS}(h1:PSs X a t)(h2:PSs X b u):PSs X (a++b) (Qe t u):=by
 intro pins s σ H D I h;rw[xu];refine W2 (thn (h1 pins s σ H {D with nx:=u D} I h) λf Z q=>?_);cases f with
 |next=>
  obtain⟨F,H',z,q⟩:=q;exact h2 pins Z F H' D z q
 |ret v=>exact Yq q
 |brk=>exact Yq q
 |cont=>exact Yq q
def forM(j:Nat)(body:En->Option Fl):List D->List D->En->Option (List D×En)
 |done,[],ρ=>ac (done,ρ)
 |done,d::r,ρ=>(body (ρ.set j (ac d))).bind λfl=>match fl with
  |.nx B=>(match B[j]? with
   |some (ac d')=>if bj d'=ag then forM j body (done++[d']) r (B.set j af)else af
   |_=>af)
  |_=>af
def xG(i j:Nat)(body:En->Option Fl):En->Option Fl:=λρ=>match ρ[i]? with
 |some (ac (.lst .own ds))=>if i≠j/\aP ds=ag/\j<ρ.length then(forM j body [] ds ((ρ.set i af).set j af)).map λp=>.nx (p.2.set i (ac (.lst .own p.1)))else af
 |_=>af
mutual
theorem oW:∀{d:D},bj d=ag->az d=ag/\au d=ag
 |.non,_=>⟨rfl,rfl⟩|.bl _,_=>⟨rfl,rfl⟩|.int _,_=>⟨rfl,rfl⟩|.str _,_=>⟨rfl,rfl⟩|.ty _,_=>⟨rfl,rfl⟩
 |.tup ds,h=>by simp[bj]at h;obtain⟨a,b⟩:=fG h;exact⟨by simp[az,a],by simp[au,b]⟩
 |.lst m ds,h=>by simp[bj]at h;obtain⟨a,b⟩:=fG h.2;exact⟨by simp[az,a,h.1],by simp[au,b,h.1]⟩
 |.dct m _ ds,h=>by simp[bj]at h;obtain⟨a,b⟩:=fG h.2;exact⟨by simp[az,a,h.1],by simp[au,b,h.1]⟩
 |.ins m _ _ ds,h=>by simp[bj]at h;obtain⟨a,b⟩:=fG h.2;exact⟨by simp[az,a,h.1],by simp[au,b,h.1]⟩
theorem fG:∀{ds:List D},aP ds=ag->aB ds=ag/\aC ds=ag
 |[],_=>⟨rfl,rfl⟩
 |d::r,h=>by simp[aP]at h;obtain⟨a,b⟩:=oW h.1;obtain⟨c,e⟩:=fG h.2;exact⟨by simp[aB,a,c],by simp[aC,b,e]⟩
end
def Ir:Wn:=⟨λ_=>True,λ_=>True,λ_=>True⟩
theorem Br(r:aG G H W ds xs L)(I:aP ds=ag)(U:∀b ys,H b=ac (.tup ys)->H' b=ac (.tup ys))(O:∀c∈L,∀u,H c=ac u->H' c=ac u):aG G H' W' ds xs L:=
 ((r.own (W':=Ir) I).mono (W':=Ir) ⟨λb u _ f=>absurd trivial f.1,U⟩ (.inl (fG I).1) (.inl (fG I).2) O).own I
variable{i:Nat}
theorem Sta.forget{S:Ad}{Fr:Addr->Prop}(s:Sta G H ob ρ σ S Fr):Sta G H ob (ρ.set i af) σ (eY S i []) Fr:=by
 cases h1:ρ[i]? with
 |none=>
  have e1:ρ.set i af=ρ:=acd (by simpa using h1);have e2:eY S i []=S:=by
   funext j;by_cases e:j=i
   .rw[e,dm,s.em i λd z=>by rw[h1]at z;cases z]
   .rw[dG e]
  rw[e1,e2];exact s
 |some o=>
  cases o with
  |none=>
   have e1:ρ.set i af=ρ:=by
    refine aaz λk=>?_;rw[aan];split
    .rename_i e;subst e
     rw[h1];simp[(List.getElem?_eq_some_iff.mp h1).1]
    .rfl
   have e2:eY S i []=S:=by
    funext j;by_cases e:j=i
    .rw[e,dm,s.em i λd z=>by rw[h1]at z;cases z]
    .rw[dG e]
   rw[e1,e2];exact s
  |some d=>
   obtain⟨v,h2,Y,F,U⟩:=s.move h1;exact F.lessF λa z=>.inr z
theorem Ky(c4:P j=ae)(U:RfS G ob (λk=>k==j||k==i||P k) tb body):RfS G ob P (KD (Ut G.K (Ab i)) (sH j) tb) (xG i j body):=λρ r e σ H S Fr s E q=>by
 unfold xG at e;split at e
 .rename_i ds h1
  split at e
  .rename_i B
   obtain⟨c5,b0,c8⟩:=B;cases h2:forM j body [] ds ((ρ.set i af).set j af)with
   |none=>simp[h2]at e
   |some res=>
    obtain rfl:Fl.nx (res.2.set i (ac (.lst .own res.1)))=r:=by simpa[h2]using e
    obtain⟨v,hv,d1,s0,a8⟩:=s.move h1;rw[Rep]at a8;obtain⟨a,xs,M,rfl,Z,hH,b2⟩:=a8;have b7:j<σ.length:=by rw[←s.len];exact c8
    have s1:=s0.forget (i:=j);refine⟨.ref a,hv,a,rfl,.inl ⟨⟨xs,SqL.of hH⟩,?_⟩⟩;refine⟨λk m F H'=>k+m=ds.length/\∃a0 S' done L1 L2,Sta G H' ob a0 F S' (plus (a::(L1++L2)) Fr)/\H' a=ac (.lst xs)/\aG G H' Ir done (xs.take k) L1/\aP done=ag/\aG G H' Ir (ds.drop k) (xs.drop k) L2/\(a::(L1++L2)).Nodup/\(∀b∈a::(L1++L2),¬Fr b/\(inS S b∨H b=af))/\Mv P H H' σ F S S' []/\F[i]? =ac (ac (.ref a))/\j<F.length/\forM j body done (ds.drop k) a0=ac res,⟨ds.length,by omega,(ρ.set i af).set j af,eY (eY S i []) j [],[],[],M,?_,hH,.nil,rfl,Z.own b0,?_,λb U=>?_,?_,hv,b7,h2⟩,?_⟩
    .rw[List.nil_append,←b2];exact s1
    .rw[List.nil_append,←b2];exact s.nd i
    .rw[List.nil_append,←b2]at U
     exact⟨λz=>s.fdj i b z U,.inl ⟨i,U⟩⟩
    .exact⟨λ_ _ h _ _=>h,λk b z=>(cu z).elim (λz=>by cases z.2) λz=>(cu z.2).elim (λz=>by cases z.2) λz=>.inl ⟨k,z.2⟩,.refl⟩
    rintro k m F H' ⟨d0,a0,S',done,L1,L2,s',a3,rd,od,rr,nd,hL,mv,a2,c0,ef⟩;have b6:ds.length=xs.length:=Z.length;by_cases O:k<ds.length
    .have hxk:k<xs.length:=by omega
     refine .inr ⟨⟨xs,xs[k],SqL.of a3,by simp[hxk]⟩,λa1 Y=>(k+1)+(m-1)=ds.length/\∃a0 S' done L1 L2,Sta G Y ob a0 a1 S' (plus (a::(L1++L2)) Fr)/\Y a=ac (.lst xs)/\aG G Y Ir done (xs.take (k+1)) L1/\aP done=ag/\aG G Y Ir (ds.drop (k+1)) (xs.drop (k+1)) L2/\(a::(L1++L2)).Nodup/\(∀b∈a::(L1++L2),¬Fr b/\(inS S b∨H b=af))/\Mv P H Y σ a1 S S' []/\a1[i]? =ac (ac (.ref a))/\j<a1.length/\forM j body done (ds.drop (k+1)) a0=ac res,λa1 Y h=>⟨m-1,by omega,h⟩,λx H2 y=>?_⟩;obtain⟨rfl,y⟩:=y;have hx:xs[k]? =ac x:=y xs (SqL.of a3);have b8:ds.drop k=ds[k]::ds.drop (k+1):=(ZS O).symm;have c6:xs.drop k=x::xs.drop (k+1):=by
      rw[←ZS hxk];congr 1;simpa[hxk]using hx
     rw[b8]at rr ef;rw[c6]at rr;obtain⟨x0,ys,M1,M2,c9,rfl,r1,r2⟩:=rr.inv;cases c9;rw[forM]at ef;cases h5:body (a0.set j (ac ds[k]))with
     |none=>simp[h5]at ef
     |some fl=>
      rw[h5]at ef;simp![gD]at ef;cases fl with
      |brk _=>cases ef
      |cnt _=>cases ef
      |ret _ _=>cases ef
      |nx ρ2=>
       simp only at ef;split at ef
       .rename_i d' hd'
        split at ef
        .rename_i hod
         have hok:bj ds[k]=ag/\aP (ds.drop (k+1))=ag:=by
          have h6:aP (ds.drop k)=ag:=by
           have:∀(l:List D)(n:Nat),aP l=ag->aP (l.drop n)=ag:=λl n=>by
            induction n generalizing l with
            |zero=>exact id
            |succ n I=>cases l with
             |nil=>exact id
             |cons d r=>intro h;simp[aP]at h;exact I r h.2
           exact this ds k b0
          rw[b8]at h6;simpa[aP]using h6
         have a7:=Y5.mp nd;have a4:=List.nodup_append.mp a7.2;have b1:=List.nodup_append.mp a4.2.1;have a5:plus (a::(L1++(M1++M2))) Fr=plus M1 (plus (a::(L1++M2)) Fr):=by
          funext b;simp![plus,Yu,Yl,eq_iff_iff];constructor
          .rintro((h|h|h|h)|h)
           .exact .inr (.inl (.inl h))
           .exact .inr (.inl (.inr (.inl h)))
           .exact .inl h
           .exact .inr (.inl (.inr (.inr h)))
           .exact .inr (.inr h)
          .rintro(h|((h|h|h)|h))
           .exact .inl (.inr (.inr (.inl h)))
           .exact .inl (.inl h)
           .exact .inl (.inr (.inl h))
           .exact .inl (.inr (.inr (.inr h)))
           .exact .inr h
         rw[a5]at s';have hF:∀b∈M1,¬plus (a::(L1++M2)) Fr b:=λb U z=>by
          rcases z with z|z
          .simp![Yu,Yl]at z
           rcases z with z|z|z
           .exact a7.1 (by rw[←z];simp[U])
           .exact a4.2.2 b z b (by simp[U]) rfl
           .exact b1.2.2 b U b z rfl
          .exact(hL b (by simp[U])).1 z
         obtain⟨S2,s2,b5⟩:=s'.store (i:=j) (r1.own (W':=wn ob S' (plus M1 (plus (a::(L1++M2)) Fr))) hok.1) (by obtain⟨c1,c2⟩:=oW hok.1;simp[clean,c1,c2]) b1.1 hF;have a9:∀b,inS S2 b->inS S b∨H b=af:=λb ⟨j',z⟩=>by
          rcases b5 j' b z with⟨j2,z⟩|z
          .rcases mv.gr j2 b z with z|z|z
           .exact .inl z
           .cases z
           .exact .inr z
          .exact(hL b (by simp[z])).2
         refine U _ _ h5 _ H2 S2 _ s2 _ ?_;intro a1 Y S3 s3 m3;have c7:(F.set j (ac x))[j]? =ac (ac x):=by simp[c0]
         obtain⟨v',q1,q2,q3,q4⟩:=s3.move hd';have ev:v'=x:=by
          have:=m3.pr j (by simp);rw[c7,q1]at this;simpa using this
         subst ev;have b4:∀b u,plus (a::(L1++M2)) Fr b->H2 b=ac u->Y b=ac u:=λb u U hu=>m3.kp b u hu (λ⟨j',z⟩=>s2.fdj j' b U z) (by simp);have tu:=(vy s2 m3).t;have b3:∀b,H2 b=af->inS S b∨H b=af:=λb U=>by
          by_cases hi:inS S b
          .exact .inl hi
          .cases h7:H b with
           |none=>exact .inr rfl
           |some u=>rw[mv.kp b u h7 hi (by simp)]at U;cases U
         have b9:∀j' b,b∈S3 j'->inS S b∨H b=af:=λj' b z=>by
          rcases m3.gr j' b z with z|z|z
          .exact a9 b z
          .cases z
          .exact b3 b z
         refine⟨by omega,ρ2.set j af,eY S3 j [],done++[d'],L1++S3 j,M2,?_,b4 a _ (.inl (by simp)) a3,?_,?_,Br r2 hok.2 tu λc B u hu=>b4 c u (.inl (by simp[B])) hu,?_,λb U=>?_,⟨λb u U hn V=>?_,λk' b z=>?_,λk' a6=>?_⟩,?_,?_,ef⟩
         .have:plus (a::((L1++S3 j)++M2)) Fr=plus (S3 j) (plus (a::(L1++M2)) Fr):=by
           funext b;simp![plus,Yu,Yl,eq_iff_iff];constructor
           .rintro((h|(h|h)|h)|h)
            .exact .inr (.inl (.inl h))
            .exact .inr (.inl (.inr (.inl h)))
            .exact .inl h
            .exact .inr (.inl (.inr (.inr h)))
            .exact .inr (.inr h)
           .rintro(h|((h|h|h)|h))
            .exact .inl (.inr (.inl (.inr h)))
            .exact .inl (.inl h)
            .exact .inl (.inr (.inl (.inl h)))
            .exact .inl (.inr (.inr h))
            .exact .inr h
          rw[this];exact q3
         .have e5:xs.take (k+1)=xs.take k++[v']:=by rw[aaA,hx];rfl
          rw[e5];exact(Br rd od tu λc B u hu=>b4 c u (.inl (by simp[B])) hu).append (.one (q4.own hod))
         .have:∀(l:List D)(d:D),aP l=ag->bj d=ag->aP (l++[d])=ag:=λl d=>by
           induction l with
           |nil=>intro _ h;simp[aP,h]
           |cons e r I=>intro h1 h2;simp[aP]at h1⊢;exact⟨h1.1,by simpa using I h1.2 h2⟩
          exact this done d' od hod
         .refine Y5.mpr ⟨λz=>?_,dR (dR a4.1 (s3.nd j) λb h1 h2=>s3.fdj j b (.inl (by simp[h1])) h2) b1.2.1 λb h1 h2=>?_⟩
          .simp![Yl]at z
           rcases z with(z|z)|z
           .exact a7.1 (by simp[z])
           .exact s3.fdj j a (.inl (by simp)) z
           .exact a7.1 (by simp[z])
          .rcases Yl.mp h1 with z|z
           .exact a4.2.2 b z b (by simp[h2]) rfl
           .exact s3.fdj j b (.inl (by simp[h2])) z
         .simp![Yu,Yl]at U
          rcases U with z|(z|z)|z
          .exact hL b (by simp[z])
          .exact hL b (by simp[z])
          .exact⟨λy=>s3.fdj j b (.inr y) z,b9 j b z⟩
          .exact hL b (by simp[z])
         .exact m3.kp b u (mv.kp b u U hn V) (λz=>(a9 b z).elim hn λz=>by rw[U]at z;cases z) V
         .rcases cu z with⟨_,z⟩|⟨_,z⟩
          .cases z
          .exact(b9 k' b z).imp id .inr
         .have hne:j≠k':=λz=>by rw[←z,c4]at a6;cases a6
          rw[m3.pr k' (by simp[a6]),List.getElem?_set_ne hne];exact mv.pr k' a6
         .rw[m3.pr i (by simp),List.getElem?_set_ne (Zy c5)];exact a2
         .exact(List.getElem?_eq_some_iff.mp q1).1
        .cases ef
       .cases ef
    .have hk2:k=ds.length:=by omega
     subst hk2;rw[aai,forM]at ef;cases ef;refine .inl ⟨⟨xs,SqL.of a3,by omega⟩,?_⟩;rw[aai]at rr;obtain⟨_,rfl⟩:=rr.inv0;rw[Za]at s' nd hL;rw[b6,aaI]at rd;obtain⟨S2,s2,b5⟩:=s'.store (i:=i) (d:=.lst .own done) (v:=.ref a) (by rw[Rep];exact⟨a,xs,L1,rfl,rd.own od,a3,rfl⟩) (by obtain⟨c1,c2⟩:=fG od;simp[clean,az,au,c1,c2]) nd λb U=>(hL b U).1;have c3:F.set i (ac (.ref a))=F:=by
      refine aaz λk=>?_;rw[aan];split
      .rename_i e;subst e
       rw[a2];simp[(List.getElem?_eq_some_iff.mp a2).1]
      .rfl
     rw[c3]at s2;refine q F H' S2 s2 ⟨mv.kp,λj' b z=>?_,mv.pr⟩;rcases b5 j' b z with⟨j2,z⟩|z
     .exact mv.gr j2 b z
     .exact(hL b z).2.imp id .inr
  .cases e
 .cases e
theorem Nj(i j:Nat){x:Str}{body:List Stmt}{f:En->Option Fl}(V:∀c,acH (model (X c).prog (X c).w) (X c).A (X c).env (X c).xe)(B:∀c,(X c).calm=ag)(z:∀c,(X c).N.Nodup)(U:j6 X G ob (λk=>k==j||k==i||P k) body f)
  (Z:P j=ae:=by rfl) (hi:∀c,(X c).N[i]? =ac x:=by intro _;rfl) (O:∀c,Vis (X c).env.scope x:=by intro _;first|exact aab rfl|exact ZC (aab rfl)|exact ZC (ZC rfl)) (hd:1.21=ae:=by decide) (I:(x==("__classdict__":Str))=ae:=by decide)
  (hj:∀c,(X c).N[j]? =ac y:=by intro _;rfl) (F:∀c,Loc (X c).env.scope y:=by intro _;first|exact aab rfl|exact ZC rfl) (Y:∀c,(X c).fn y=ag∨(X c).env.scope.names.lookup y=ac .local:=by intro _;first|exact .inl rfl|exact .inr rfl) (q:∀c,(X c).K=G.K:=by intro _;rfl) (hs:∀c,∀v,ZL (.Name x p2) (X c).env v=pure v:=by intro _;intro _;rfl) :
  PVS X G ob P (.For (.Name y p1) (.Name x p2) body [] pos) (xG i j f):=
 let⟨u,b1,b2⟩:=U.ex
 ⟨_,λc=>Bg (V c) (B c) (by rw[←q c];exact Om (rH (hi c) (O c) hd I)) (ur (z c) (hj c) (F c) (Y c)) (b1 c) (hs c),Ky Z b2⟩
variable{X:Cx}{ob:Obj}
theorem xj{s:Ym}(I:Inv X pins σ H s)(e:H a=ac (.frz ob (.dK kvs)))(B:∀o u,X.H₀ a≠ac (.frz o u)):Inv X pins σ (upd H a (.dK kvs)) s where
 ok:=I.ok
 os:=I.os
 bare:=I.bare
 base:=⟨I.base.keep,I.base.slot,λb o g n F=>by rw[aK (λz=>by have:=I.base.free b o g n F;rw[z,e]at this;cases this)];exact I.base.free b o g n F,I.base.there,
  λb xs g=>by rw[aK (kE (I.base.tups b xs g) e (by intro z;cases z))];exact I.base.tups b xs g,λb o u g=>by rw[aK (λz=>by subst z;exact B o u g)];exact I.base.frzs b o u g,
  λb ps g=>let⟨more,z⟩:=I.base.tbls b ps g;⟨more,by rw[aK (kE z e (by intro z;cases z))];exact z⟩⟩
 loc:=I.loc
 cell:=I.cell
 free:=by rw[aK (λz=>by have:=I.free;rw[z,e]at this;cases this)];exact I.free
 freeC:=λx c g=>by rw[aK (λz=>by have:=I.freeC x c g;rw[z,e]at this;cases this)];exact I.freeC x c g
 pin:=λp O=>let⟨h1,h2,h3⟩:=I.pin p O;⟨h1,by rw[aK (λz=>by rw[z,e]at h2;cases h2)];exact h2,h3⟩
 hok:=λb u g=>by
  by_cases U:b=a
  .subst U
   rw[aQ]at g;cases g;obtain⟨_,q⟩:=(show cG X.prog X.w H s.heap b (.frz ob (.dK kvs))from I.hok b _ e);exact q
  .rw[aK U]at g
   exact(I.hok b u g).stay (λc v _ q=>q) (λc q=>by rw[aK (kE q e (by intro z;cases z))];exact q) λc xs q=>by rw[aK (kE q e (by intro z;cases z))];exact q
 len:=I.len
theorem xF{s:Ym}(I:Inv X pins σ H s)(Y:H a=ac (.dK kvs)):∃ob,Inv X pins σ (upd H a (.frz ob (.dK kvs))) s/\∀o u,X.H₀ a≠ac (.frz o u):=by
 obtain⟨z,hd,O,rel,B⟩:=w6 I.hok Y;obtain⟨ep,ob,es,g,x,d,F,q,U⟩:=B.dictAt;refine⟨ob,nG (t':=s.toks) I (by rw[Y];exact Z2) ⟨rfl,λ_ _=>rfl⟩ ⟨ob,g⟩ ⟨g,z,hd,O,rel,B⟩,λo u g=>?_⟩;have:=I.base.frzs a o u g;rw[Y]at this;cases this
def Gd(tl:TE):TI:=λσ H R=>tl σ H λx H1=>∃a ob kvs,x= .ref a/\H1 a=ac (.frz ob (.dK kvs))/\R (Itd a ob kvs) H1
variable{tg e:Expr}
theorem Eb(hl:PE X e te):PI X tg e (Gd te):=by
 intro pins s σ H R I h;refine thn (hl pins s σ H _ I h) λv Z ⟨x,H1,B,r1,q1⟩=>?_;obtain⟨a,ob,kvs,ex,Y,q⟩:=q1;subst ex;cases r1;obtain⟨h1,z,hd,O,rel,dd⟩:=(show cG X.prog X.w H1 Z.heap a (.frz ob (.dK kvs))from B.hok a _ Y);obtain⟨ep,F,es,g,x,d,r1,r2,r3⟩:=dd.dictAt;have e0:F=ob:=by rw[h1]at g;exact(Zr g).symm
 subst e0;have V:Z.heap.DictAt (bz X.prog X.w) a O ep:=⟨F,es,g,x,d,r1,r2,r3⟩;refine wpAny_pyIter_dict hd V ?_;refine⟨Z.heap.objs.size,[Z.heap.objs.size],_,_,_,rfl,B.kept (t':=Z.toks) λb o e=>Yp _ e,JN a _ F kvs,⟨es,ep,d,_,YG _ rfl,rfl,by rw[show kvs.length=O.length from rel.length];rfl⟩,λb U=>?_,q⟩;have e:b=Z.heap.objs.size:=by simpa using U
 subst e;exact B.fpOk (YB _) (B.hok.fresh (YB _))
def tGh(j:Nat)(te:TE):TE:=λσ H Q=>∃a kvs,σ[j]? =ac (ac (.ref a))/\H a=ac (.dK kvs)/\∀ob,te σ (upd H a (.frz ob (.dK kvs))) λv H'=>H' a=ac (.frz ob (.dK kvs))/\Q v (upd H' a (.dK kvs))
mutual
noncomputable def Ds:D->Bool
 |.tup ds=>sX ds
 |.lst _ ds=>sX ds
 |.dct m _ ds=>(m== .scr)&&sX ds
 |.ins _ _ _ ds=>sX ds
 |_=>ag
noncomputable def sX:List D->Bool
 |[]=>ag
 |d::r=>Ds d&&sX r
end
def Yk(o:HO):Prop:=∀ob u,o≠.frz ob u
structure Chg(fd:Bool)(H H':Hp):Prop where
 l:∀b xs,H b=ac (.lst xs)->H' b=ac (.lst xs)
 t:∀b xs,H b=ac (.tup xs)->H' b=ac (.tup xs)
 i:∀b C dx kv,H b=ac (.ins C dx kv)->H' b=ac (.ins C dx kv)
 d:fd=ae->∀b kvs,H b=ac (.dK kvs)->H' b=ac (.dK kvs)
 r:∀b o,Yk o->Rd H b o->Rd H' b o
theorem di.chg{o:HO}(Z:Rd H a o->Rd H' a o)(h:di B H W a o m L M)(I:m≠.scr->H a=ac o->H' a=ac o):di B H' W a o m L M:=by
 cases m with
 |own=>exact⟨I (by intro z;cases z) h.1,h.2⟩
 |frz=>exact⟨I (by intro z;cases z) h.1,h.2⟩
 |brw=>exact⟨I (by intro z;cases z) h.1,h.2⟩
 |bro=>exact⟨I (by intro z;cases z) h.1,h.2⟩
 |scr=>exact⟨h.1.imp (λz=>⟨Z z.1,z.2⟩) id,h.2⟩
variable{fd:Bool}
mutual
theorem Rep.chg(c:Chg fd H H'):∀{d:D}{v:V}{L:List Addr},Rep G H W d v L->(fd=ag->Ds d=ag)->Rep G H' W d v L
 |.non,v,L,h,_=>by rw[Rep]at h⊢;exact h
 |.bl _,v,L,h,_=>by rw[Rep]at h⊢;exact h
 |.int _,v,L,h,_=>by rw[Rep]at h⊢;exact h
 |.str _,v,L,h,_=>by rw[Rep]at h⊢;exact h
 |.ty _,v,L,h,_=>by rw[Rep]at h⊢;exact h
 |.tup ds,v,L,h,n=>by
  rw[Rep]at h⊢;obtain⟨a,xs,rfl,U,Z⟩:=h;exact⟨a,xs,rfl,c.t a xs U,aG.chg c Z λz=>by simpa[Ds]using n z⟩
 |.lst m ds,v,L,h,n=>by
  rw[Rep]at h⊢;obtain⟨a,xs,M,rfl,Z,hs⟩:=h;exact⟨a,xs,M,rfl,aG.chg c Z λz=>by simpa[Ds]using n z,hs.chg (c.r a _ (λ_ _ z=>by cases z)) λ_=>c.l a xs⟩
 |.dct m ks ds,v,L,h,n=>by
  rw[Rep]at h⊢;obtain⟨a,xs,M,rfl,O,Z,hs⟩:=h;refine⟨a,xs,M,rfl,O,aG.chg c Z λz=>?_,hs.chg (c.r a _ (λ_ _ z=>by cases z)) λB=>?_⟩
  .have:=n z
   rw[Ds,YS]at this;exact this.2
  .cases fd with
   |false=>exact c.d rfl a xs
   |true=>
    have:=n rfl;rw[Ds,YS]at this;cases m<;>first|exact absurd rfl B|(have q:=this.1;cases q)
 |.ins m cc fs ds,v,L,h,n=>by
  rw[Rep]at h⊢;obtain⟨a,C,dx,xs,M,rfl,F,O,Z,hs⟩:=h;exact⟨a,C,dx,xs,M,rfl,F,O,aG.chg c Z λz=>by simpa[Ds]using n z,hs.chg (c.r a _ (λ_ _ z=>by cases z)) λ_=>c.i a C dx xs⟩
theorem aG.chg(c:Chg fd H H'):∀{ds:List D}{O:List V}{L:List Addr},aG G H W ds O L->(fd=ag->sX ds=ag)->aG G H' W ds O L
 |[],O,L,h,_=>by rw[aG]at h⊢;exact h
 |d::r,O,L,h,n=>by
  obtain⟨x,ys,M,M',rfl,rfl,h1,h2⟩:=h.inv;have B:fd=ag->Ds d=ag/\sX r=ag:=λz=>by have:=n z;rwa[sX,YS]at this
  exact .cons (Rep.chg c h1 λz=>(B z).1) (aG.chg c h2 λz=>(B z).2)
end
theorem iz(Y:H a=ac (.dK kvs)):Chg ag H (upd H a (.frz ob (.dK kvs)))where
 l:=λb xs e=>by rw[aK (kE e Y (by intro z;cases z))];exact e
 t:=λb xs e=>by rw[aK (kE e Y (by intro z;cases z))];exact e
 i:=λb C dx kv e=>by rw[aK (kE e Y (by intro z;cases z))];exact e
 d:=λz=>by cases z
 r:=λb o n h=>by
  by_cases U:b=a
  .subst U
   rcases h with h|⟨u,h⟩
   .rw[Y]at h;cases h;exact .inr ⟨ob,aQ⟩
   .rw[Y]at h;cases h
  .rcases h with h|⟨u,h⟩
   .exact .inl (by rw[aK U];exact h)
   .exact .inr ⟨u,by rw[aK U];exact h⟩
theorem De(Y:H a=ac (.frz ob (.dK kvs))):Chg ae H (upd H a (.dK kvs))where
 l:=λb xs e=>by rw[aK (kE e Y (by intro z;cases z))];exact e
 t:=λb xs e=>by rw[aK (kE e Y (by intro z;cases z))];exact e
 i:=λb C dx kv e=>by rw[aK (kE e Y (by intro z;cases z))];exact e
 d:=λ_ b kv e=>by rw[aK (kE e Y (by intro z;cases z))];exact e
 r:=λb o n h=>by
  by_cases U:b=a
  .subst U
   rcases h with h|⟨u,h⟩
   .rw[Y]at h;cases h;exact absurd rfl (n _ _)
   .rw[Y]at h;cases h;exact .inl aQ
  .rcases h with h|⟨u,h⟩
   .exact .inl (by rw[aK U];exact h)
   .exact .inr ⟨u,by rw[aK U];exact h⟩
def kD:Key->D
 |.inl i=>.int i
 |.inr x=>.str x
def wiF(a:Addr)(ob:Obj)(kvs:List (Key×V)):TI:=λ_ H R=>H a=ac (.frz ob (.dK kvs))->R (Itd a ob kvs) H
section
variable{G:Gc}{ob own:Nat->Bool}
theorem H9{a:Addr}{o:Obj}{kvs:List (Key×V)}:RfI G ob (wiF a o kvs) (λ_=>ac (ae,(kvs.map (·.1)).map kD)):=λρ b items e σ H W I w R q F=>by
 cases e;refine q _ H (Same.refl _) ⟨λi d e H2 Z l=>?_,λi d e H2 Z l x Y y=>?_,λH2 Z l=>?_⟩
 .have u:Up H H2 W Z:=by simpa[LtB]using l
  exact⟨u.s a _ F,by have:=(List.getElem?_eq_some_iff.mp e).1;simpa using this⟩
 .obtain⟨rfl,p,hp,rfl⟩:=y
  have:kD p.1=d:=by simpa[hp]using e
  subst this;refine⟨Same.refl _,?_⟩;obtain⟨k,_⟩:=p;cases k<;>· show Rep _ _ _ (kD _) (kV _) _;simp![kD,kV];rw[Rep];exact⟨rfl,rfl⟩
 .have u:Up H H2 W Z:=by simpa[LtB]using l
  exact⟨u.s a _ F,by simp⟩
end
open PySem
def Ris(xs:Array Nat):Prop:=xs.toList.Pairwise (· < ·)
variable{xs:Array Nat}
theorem Ris.lt(h:Ris xs)(I:i<j)(V:j<xs.size):xs.getD i 0<xs.getD j 0:=by
 have:=ab4.mp h i j (by simpa using Nat.lt_trans I V) (by simpa using V) I;rw[abN,abN]at this;rw[Zj,Zj,aaT xs i (Nat.lt_trans I V),aaT xs j V];exact this
theorem getD_in{a b:Nat}(h:i<xs.size):xs.getD i a=xs.getD i b:=by
 rw[Zj,Zj,aaT xs i h];rfl
theorem vU{xs:Array Nat}(Z:Ris xs)(j:Nat):∀(f lo hi:Nat),hi-lo<=f->lo<=hi->hi<=xs.size->(∀i,i<lo->xs.getD i 0<j)->(∀i,hi<=i->i<xs.size->j<=xs.getD i 0)->
  acr xs j f lo hi<=xs.size/\(∀i,i<acr xs j f lo hi->xs.getD i 0<j)/\∀i,acr xs j f lo hi<=i->i<xs.size->j<=xs.getD i 0
 |0,lo,hi,hf,h1,h2,ha,hb=>by
  have e:lo=hi:=by omega
  subst e;exact⟨h2,ha,hb⟩
 |f+1,lo,hi,hf,h1,h2,ha,hb=>by
  rw[acr];split
  .rename_i hlt
   dsimp only;have V:(lo+hi) / 2<hi:=by omega
   have z:lo<=(lo+hi) / 2:=by omega
   split
   .rename_i hc
    rw[getD_in (b:=0) 1.10]at hc;refine vU Z j f _ hi 1.10 1.10 h2 (λi q=>?_) hb;by_cases e:i=(lo+hi) / 2
    .subst e;exact hc
    .exact Nat.lt_trans (Z.lt 1.10 1.10) hc
   .rename_i hc
    rw[getD_in (b:=0) 1.10]at hc;refine vU Z j f lo _ 1.10 1.10 1.10 ha λi q hs=>?_;by_cases e:i=(lo+hi) / 2
    .subst e;omega
    .have:=Z.lt (i:=(lo+hi) / 2) (j:=i) 1.10 hs
     omega
  .have e:lo=hi:=by omega
   subst e;exact⟨h2,ha,hb⟩
theorem vm(Z:Ris xs)(j:Nat):SetTable.below xs j<=xs.size/\(∀i,i<SetTable.below xs j->xs.getD i 0<j)/\∀i,SetTable.below xs j<=i->i<xs.size->j<=xs.getD i 0:=
 vU Z j xs.size 0 xs.size 1.10 1.10 (YB _) (λi h=>absurd h (adZ i)) λi h1 h2=>by omega
theorem below_zero(Z:Ris xs):SetTable.below xs 0=0:=by
 obtain⟨h1,h2,_⟩:=vm Z 0;rcases ac_ (SetTable.below xs 0)with e|e
 .exact e
 .exact absurd (h2 0 e) (adZ _)
theorem below_next(Z:Ris xs)(hi:i<xs.size):SetTable.below xs (xs.getD i 0+1)=i+1:=by
 obtain⟨h1,h2,Y⟩:=vm Z (xs.getD i 0+1);rcases Nat.lt_trichotomy (SetTable.below xs (xs.getD i 0+1)) (i+1)with e|e|e
 .have:=Y i 1.10 hi;omega
 .exact e
 .have:=h2 (i+1) e
  have:=Z.lt (i:=i) (j:=i+1) 1.10 1.10;omega
theorem Fg(Z:Ris xs)(I:xs[SetTable.below xs j]?≠ac j):Ris (ae7 xs (SetTable.below xs j) j):=by
 obtain⟨h1,h2,B⟩:=vm Z j;generalize SetTable.below xs j=p at h1 h2 B I;unfold Ris ae7;have e1:(xs.extract 0 p).toList=xs.toList.take p:=by simp
 have e2:(xs.extract p xs.size).toList=xs.toList.drop p:=by simp;exact aaG (by simp)
 rw[Array.toList_append,adt,e1,e2];have hs:=aaM p xs.toList;have V:(xs.toList.take p++xs.toList.drop p).Pairwise (· < ·):=by rw[hs];exact Z
 obtain⟨p1,p2,q⟩:=abO.mp V;have lo:∀a∈xs.toList.take p,a<j:=λa Y=>by
  obtain⟨i,hi,rfl⟩:=aaC Y;rw[aaa]at hi;have:=h2 i 1.10;rw[List.getElem_take,abN];rwa[Zj,aaT xs i 1.10,abP]at this
 have hi:∀a∈xs.toList.drop p,j<a:=λa Y=>by
  obtain⟨i,hi,rfl⟩:=aaC Y;rw[abn,Z0]at hi;have F:=B (p+i) 1.10 1.10;rw[List.getElem_drop,abN];rw[Zj,aaT xs (p+i) 1.10,abP]at F;rcases Nat.lt_or_eq_of_le F with z|z
  .exact z
  .exfalso
   rcases ac_ i with e|e
   .subst e;apply I;rw[aaT xs p 1.10];simp![Nat.add_zero]at z;rw[z]
   .have:=Z.lt (i:=p) (j:=p+i) 1.10 1.10
    have O:=B p (YB _) 1.10;rw[Zj,Zj,aaT xs (p+i) 1.10,abP]at this;rw[Zj]at O;omega
 refine abO.mpr ⟨abO.mpr ⟨p1,by simp,λa Y b U=>?_⟩,p2,λa Y b U=>?_⟩
 .rw[Yz.mp U];exact lo a Y
 .rcases Yl.mp Y with z|z
  .exact q a z b U
  .rw[Yz.mp z];exact hi b U
theorem JD(n:Nat):Ris (Array.range n):=by
 unfold Ris;rw[Array.toList_range];exact ad7
def RisT(t:abr)(b:Bool):Prop:=Ris t.place/\t.led=b
variable{t:abr}
theorem uF{t:abr}{f:Nat->Int}{h:Int}{j:Nat}{d:Option Nat}:∀{k:Nat}{p:afz},(∀x,p.dummy=ac x->t.slot x= .dummy)->adu t f h k p=ac (.empty j d)->t.slot j= .empty/\∀x,d=ac x->t.slot x= .dummy
 |0,p,_,e=>by simp[adu]at e
 |k+1,p,hd,e=>by
  rw[adu]at e;have z:∀q:afz,(t.advance q).dummy=q.dummy:=λq=>by
   unfold SetTable.advance;split<;>rfl
  split at e
  .rename_i hs
   injection e with e;injection e with e1 e2;subst e1 e2;exact⟨hs,hd⟩
  .rename_i hs
   refine uF (λx F=>?_) e;rw[z]at F;injection F with F;subst F;exact hs
  .split at e
   .cases e
   .refine uF (λx F=>?_) e
    rw[z]at F;exact hd x F
theorem xX(h:t.slot j= .empty∨t.slot j= .dummy):t.place[SetTable.below t.place j]?≠ac j:=λe=>by
 unfold SetTable.slot at h;dsimp only at h;rw[e]at h;simp at h
theorem jP(h:t.led=b):RisT (t.standIn n) b:=⟨JD n,h⟩
variable{es:Array (Int×Value)}
theorem Gh{h:Int}(F:RisT t b):RisT (layNew t es h x).2.1 b:=by
 unfold layNew;cases Y:t.freeSlot h with
 |none=>exact jP F.2
 |some z=>
  obtain⟨slot,B⟩:=z;dsimp only;have V:t.place[SetTable.below t.place slot]?≠ac slot:=by
   unfold SetTable.freeSlot at Y;split at Y
   .rename_i j d hp
    have U:=uF (t:=t) (by simp[SetTable.probeStart]) hp;injection Y with Y;injection Y with h1 h2;subst h1;cases d with
    |none=>exact xX (.inl U.1)
    |some y=>exact xX (.inr (U.2 y rfl))
   .cases Y
  have q:RisT (t.put slot).1 b:=⟨Fg F.1 V,F.2⟩;unfold SetTable.orStandIn;split
  .exact q
  .exact jP q.2
theorem Ba(U:t.led=b):RisT (adG t es n).2.1 b:=by
 unfold adG;cases hf:t.relaid (es.map (·.1)) n with
 |none=>exact jP U
 |some sw=>
  obtain⟨t',a0⟩:=sw;dsimp only;split
  .unfold SetTable.relaid SetTable.laid at hf
   cases I:SetTable.layClean (SetTable.sizeAbove n-1) (es.map (·.1))with
   |none=>simp[I]at hf
   |some owner=>
    simp![I,Option.bind_eq_bind,gD,Option.pure_def,abe,aeC]at hf;obtain⟨rfl,_⟩:=hf;refine⟨?_,U⟩;unfold Ris;dsimp only;have q:∀l:List Nat,l.Pairwise (· < ·)->((l.filterMap λj=>(owner.getD j af).map (j,·)).map (·.1)).Pairwise (· < ·)/\∀x∈(l.filterMap λj=>(owner.getD j af).map (j,·)).map (·.1),x∈l:=by
     intro l
     induction l with
     |nil=>intro _;simp
     |cons a r ih=>
      intro Z;obtain⟨O,B⟩:=ace.mp Z;obtain⟨V,i2⟩:=ih B;rw[abY];cases Y:owner.getD a af with
      |none=>simp![Option.map_none];exact⟨V,λx F=>Y8 _ (i2 x F)⟩
      |some y=>
       simp![Y9,Ys];refine⟨ace.mpr ⟨λx F=>O x (i2 x F),V⟩,λx F=>?_⟩;rcases Yu.mp F with z|z
       .rw[z];exact Zo ..
       .exact Y8 _ (i2 x z)
    exact(q _ ad7).1
  .exact jP U
abbrev ledW(w:World):Bool:=!w.params.followText "set-order"
def ud(knd:KeyKind prog w Key)(h:Heap)(a:Addr)(S:Key->Bool)(n:Nat):Prop:=∃o es ep t,h.get? a=ac o/\o.ExactSet/\o.data= .set es ep t/\ElemsOf knd es.toList/\(∀k,S k=ag↔∃e∈es.toList,knd.is k e.2=ag)/\es.size<abJ/\t.fits es.size=ag/\es.size=n/\RisT t (ledW w)
variable{S:Key->Bool}{knd:KeyKind prog w Key}
theorem ud.of(r:ud knd h a S n):h.SetOf knd a S n:=by
 obtain⟨o,es,ep,t,h1,h2,Y,F,U,I,B,V,_⟩:=r;exact⟨o,es,ep,t,h1,h2,Y,F,U,I,B,V⟩
variable{o:Obj}{S':Key->Bool}
theorem vY(I:h.get? a=ac o)(q:o.ExactSet)(hd:o.data= .set es ep t)
  {B:Array (Int×Value)} {t':abr}  (z:ElemsOf knd B.toList) (O:∀k,S' k=ag↔∃e∈B.toList,knd.is k e.2=ag) (U:B.size<abJ) (Y:t'.fits B.size=ag) (Z:RisT t' (ledW w)) :
  (h.update a (aft B t')).get? a=ac {o with data:=.set B (ep+1) t'}/\ud knd (h.update a (aft B t')) a S' B.size:=by
 obtain⟨F,_⟩:=SetOf_store (knd:=knd) I q hd z O U Y;exact⟨F,_,B,ep+1,t',F,q,rfl,z,O,U,Y,rfl,Z⟩
theorem Ck{g:Bool->Sem Unit}(F:∀(b:Bool)(B:Ym)(Q':Unit->Ym->Prop),Q' () B->wpAny 1.16 A (g b) Q' E B)
       (I:s.heap.get? a=ac o) (a2:o.ExactSet) (hd:o.data= .set es ep t)
  {U:Array (Int×Value)} {t2:abr}  (a1:ElemsOf knd U.toList) (a0:∀k',S' k'=ag↔∃e∈U.toList,knd.is k' e.2=ag)
  (Y:U.size<abJ) (a8:t2.fits U.size=ag) (a7:RisT t2 (ledW w)) {wd:Bool} {R:Option Bool->Ym->Prop}
  (h:∀h',aaO a s.heap h'->ud knd h' a S' U.size->R (ac ag) {s with heap:=h'}) :
  wpAny 1.16 A (do
   storeSet a U t2
   if(!wd&&t2.tooFull)=ag then do
     g (adG t2 U (abm U.size)).2.2
     storeSet a (adG t2 U (abm U.size)).1 (adG t2 U (abm U.size)).2.1
     pure (ac ag)
    else pure (ac ag)) R E s:=by
 refine W2 (wpAny_storeSet_of I hd ?_ (fits_of_scanBound Y));obtain⟨a3,a9⟩:=vY (knd:=knd) I a2 hd a1 a0 Y a8 a7;have V:=acQ s.heap a (aft U t2);split
 .have p:=relayAll_perm t2 U (abm U.size)
  have f:=relayAll_fits t2 U (abm U.size);have r:=Ba (t:=t2) (es:=U) (n:=abm U.size) a7.2;generalize adG t2 U (abm U.size)=Z at p f r⊢;obtain⟨a5,t3,g2⟩:=Z;dsimp only at p f r⊢;have z:a5.size=U.size:=by rw[←Z0,p.length_eq,Z0]
  have a4:a5.size<abJ:=by rw[z];exact Y
  refine W2 (F _ _ _ ?_);refine W2 (wpAny_storeSet_of a3 rfl ?_ (fits_of_scanBound a4));obtain⟨_,a6⟩:=vY (knd:=knd) a3 a2 rfl (a1.perm p) (S':=S') (λk'=>(a0 k').trans ⟨λ⟨e,O,q⟩=>⟨e,p.mem_iff.mpr O,q⟩,λ⟨e,O,q⟩=>⟨e,p.mem_iff.mp O,q⟩⟩) a4 f r;rw[z]at a6;exact Yq (h _ (V.trans (acQ _ a _)) a6)
 .exact Yq (h _ V a9)
theorem Q5{Q:Bool->Ym->Prop}(a0:knd.is k x=ag)(a4:x.scannable=ag)(hS:ud knd s.heap a S n)(a7:n+1<abJ)
  (h:∀h',aaO a s.heap h'->ud knd h' a (λk'=>S k'||decide (k'=k)) (if S k then n else n+1)->Q (!S k) {s with heap:=h'}) :
  wpAny 1.16 A (setAddHashed a x (knd.hash k)) Q E s:=by
 obtain⟨o,es,ep,t,I,q,hd,a3,F,U,Y,hn,hr⟩:=hS;unfold setAddHashed setAddHashedIn;refine aas (W2 (aaX I hd Y ?_));dsimp only;rw[byScan_of a4 U a3];simp![↓reduceIte];unfold setAddByScan;refine W2 (W2 (abx (W2 (wpAny_setScan_of a0 I hd Y a3 ?_))));cases a9:List.findIdx? (λe=>knd.is k e.2) es.toList with
 |some j=>
  dsimp only;obtain⟨hj,b0,_⟩:=Zg.mp a9;have a2:S k=ag:=(F k).mpr ⟨es.toList[j],aaj hj,b0⟩;refine Yq (Yq ?_);have:=h s.heap (Heap.SameBut.refl a s.heap) ⟨o,es,ep,t,I,q,hd,a3,λk'=>by
   rw[ab2,decide_eq_true_eq,←F k'];exact⟨λz=>z.elim id (λe=>e▸a2),.inl⟩,U,Y,by rw[a2];exact hn,hr⟩
  rw[a2]at this;obtain⟨V,g,d,tk,os⟩:=s;exact this
 |none=>
  dsimp only;have a2:S k=ae:=by
   cases O:S k with
   |false=>rfl
   |true=>obtain⟨e,he,V⟩:=(F k).mp O;have:=Zn.mp a9 e he;rw[V]at this;exact Bool.noConfusion this
  have b1:∀(b:Bool){B:Ym}{Q':Unit->Ym->Prop},Q' () B->wpAny 1.16 A (match b with|true=>rule "set.scan.the-table-gave-way"|false=>pure ()) Q' E B:=λb B Q' hq=>by
   cases b<;>first|exact Yq hq|exact abx hq
  have p:=layNew_perm t es (knd.hash k) x;have f:=layNew_fits t es (knd.hash k) x;have r:=Gh (es:=es) (h:=knd.hash k) (x:=x) hr;generalize layNew t es (knd.hash k) x=Z at p f r⊢;obtain⟨a6,t1,wd,gv⟩:=Z;dsimp only at p f r⊢;rw[adt]at p;have z:a6.size=n+1:=by rw[←Z0,p.length_eq,Zd,Z0,hn];rfl
  have a8:a6.size<abJ:=by rw[z];exact a7
  refine W2 (b1 _ ?_);have a5:∀h',aaO a s.heap h'->ud knd h' a (λk'=>S k'||decide (k'=k)) a6.size->Q ag {s with heap:=h'}:=λh' sb a1=>by
   have:=h h' sb;rw[a2]at this;rw[z]at a1;exact this a1
  split
  .refine W2 ?_
   rw[hashByValue_scannable 8 a4];refine Yq ?_;refine Ck ?_ I q hd ((a3.push a0 a4).perm p) (mem_push_iff a0 F p) a8 ?_ ?_ ?_
   .intro b B Q' hq;cases b<;>first|exact Yq hq|exact abx hq
   .split
    .exact f
    .exact SetTable.fits_plain_off f
   .split
    .exact r
    .exact r
   .intro h' sb a1;dsimp only;exact Yq (a5 h' sb a1)
  .refine W2 (Yq ?_)
   simp![↓reduceIte];refine Ck ?_ I q hd ((a3.push a0 a4).perm p) (mem_push_iff a0 F p) a8 f r ?_
   .intro b B Q' hq;cases b<;>first|exact Yq hq|exact abx hq
   .intro h' sb a1;dsimp only;exact Yq (a5 h' sb a1)
theorem QZ(a:Value){Q₁:Value->Ym->Prop}(h:Q₁ (.ref s.heap.objs.size) {s with heap:=s.heap.push (ou (ledW w))}) :
  aa8 1.16 A (.call (.builtin "set.__new__") ⟨[.type "set",a],[]⟩) (wants Q₁ E) s:=by
 refine codeAny_of_tree ?_;show wpAny _ A.in1 (do checkBuiltinCall "set.__new__" ⟨[.type "set",a],[]⟩;again (.builtin "set.__new__" ⟨[.type "set",a],[]⟩)) _ _ s;refine W2 (acw (F.newCall_set_1 a) (Yq ⟨abU F.plain_set_new _,aaU F.entry_set_new ?_⟩));rw[aaw F.plain_set_new _];unfold Builtin.«set.__new__» afI;have q:=sub_set_self;obtain⟨V,g,d,tk,os⟩:=s;dsimp only
 wp_walk
 refine abt (Yq ?_);dsimp only;simp![newObj];refine W2 (wpAny_alloc (Yq ?_));exact Yq h
variable{l:Addr}{A:Zx}
theorem I_{S it:Addr}{R:Result->Ym->Prop}(B:A.handled=af)(Z:ks.length=its.length)(O:∀(j:Nat)(k:Key)(v:Value),ks[j]? =ac k->its[j]? =ac v->RelV (kV k) v)(U:its.length+1<abJ)(nS:S≠it)(nl:l≠it)(a6:l≠S):∀(m i:Nat)(acc:List Key)(s:Ym),its.length-i=m->i<=its.length->s.heap.IsList l its.toArray->s.heap.IsListIter it l i->ud (bz prog w) s.heap S (inK acc) acc.length->acc.length<=i->
  (∀h' tk,(∀b o,b≠S->b≠it->s.heap.get? b=ac o->h'.get? b=ac o)->ud (bz prog w) h' S (inK ((ks.drop i).foldl jK acc)) ((ks.drop i).foldl jK acc).length->R (.ok (.ret .none)) {s with heap:=h',toks:=tk})->
  aa8 1.16 A (.builtin "set.update.loop" ⟨[.ref S,.ref it],[]⟩) R s:=by
 intro m
 induction m with
 |zero=>
  intro i acc s V hi pl q hS Y k;have e:i=its.length:=by omega
  subst e;refine aaU adR ?_;rw[aaw ack _];unfold Builtin.«set.update.loop»;dsimp only;refine W2 (aea (show A.in1.handled=af from B) q pl (by simp) λh' eb=>?_);dsimp only;refine Yq (k h' _ (λb o _ b2 e=>eb b o b2 e) ?_);rw[←Z,aai];obtain⟨o,es,ep,t,I,rest⟩:=hS;exact⟨o,es,ep,t,eb S _ nS I,rest⟩
 |succ m ih=>
  intro i acc s V hi pl q hS Y k;have z:i<its.length:=by omega
  have a2:i<ks.length:=by omega
  refine aaU adR ?_;rw[aaw ack _];unfold Builtin.«set.update.loop»;dsimp only;refine W2 (ad1 q pl (x:=its[i]) (by simp[z]) λh1 a3 a0=>?_);dsimp only;have a5:ud (bz prog w) h1 S (inK acc) acc.length:=by
   obtain⟨o,es,ep,t,I,rest⟩:=hS;exact⟨o,es,ep,t,(a0.2 S nS).trans I,rest⟩
  have rk:=O i ks[i] its[i] (Yo a2) (Yo z);refine W2 (aas ?_);unfold setAdd;refine aas ?_;refine W2 ((bz prog w).pyHash (k:=ks[i]) (lL rk) ?_);refine Q5 (knd:=bz prog w) (lL rk) (N6 (P:=prog) (w:=w) rk) a5 1.10 λh2 a1 a8=>?_;refine Yq ⟨abU ack _,?_⟩;have a7:ud (bz prog w) h2 S (inK (jK acc ks[i])) (jK acc ks[i]).length:=by
   have e1:(λk'=>inK acc k'||decide (k'=ks[i]))=inK (jK acc ks[i]):=funext λk'=>Qu.symm;rw[←e1,vC];exact a8
  refine ih (i+1) (jK acc ks[i]) _ 1.10 z ?_ ?_ a7 ?_ λh' tk kp a4=>k h' tk (λb o b1 b2 e=>kp b o b1 b2 ((a1.2 b b1).trans ((a0.2 b b2).trans e))) ?_
  .obtain⟨o,h1',h2'⟩:=pl
   exact⟨o,(a1.2 l a6).trans ((a0.2 l nl).trans h1'),h2'⟩
  .exact a3.extBut a1.extBut (Zy nS)
  .rw[vC]
   split<;>omega
  .rw[abi a2]
   exact a4
def Aj(prog:Y7)(w:World)(s:Ym)(ks:List Key)(O:Ym):Prop:=∃h' tk,O={s with heap:=h',toks:=tk}/\ud (bz prog w) h' s.heap.objs.size (inK (m8 ks)) (m8 ks).length/\∀b o,s.heap.get? b=ac o->h'.get? b=ac o
variable{E:Value->Ym->Prop}{s:Ym}
theorem Ju(B:A.handled=af)(Z:ks.length=its.length)(O:∀(j:Nat)(k:Key)(v:Value),ks[j]? =ac k->its[j]? =ac v->RelV (kV k) v)(U:its.length+1<abJ)(pl:s.heap.IsList l its.toArray){R:afE->Ym->Prop}
  (hR:∀s2,Aj prog w s ks s2->R (.done (.ret .none)) s2):wpAny 1.16 A (Builtin.«set.__init__» ⟨[.ref s.heap.objs.size,.ref l],[]⟩) R E {s with heap:=s.heap.push (ou (ledW w))}:=by
 obtain⟨ol,a7,a5,nl,Y⟩:=pl;obtain⟨b0,a1,a8,a0⟩:=ol;simp only at a5 Y;subst a5 Y;have hS:(s.heap.push (ou (ledW w))).get? s.heap.objs.size=ac (ou (ledW w)):=YG _ rfl;have z:afJ {s with heap:=s.heap.push (ou (ledW w))} (.ref s.heap.objs.size) "set":=⟨_,hS,rfl⟩;have a3:(s.heap.push (ou (ledW w))).get? l=ac {cls:=.type "list",dict:=a1,data:=.seq its.toArray nl,slots:=a0}:=Yp _ a7;have b2:=F.sub_list_set;have b1:=F.sub_list_frozenset;have q:(aau "list"==aau "dict")=ae:=by decide
 have a4:(s.heap.push (ou (ledW w))).IsList l its.toArray:=⟨_,a3,rfl,nl,rfl⟩;unfold Builtin.«set.__init__» noKeywords afA;generalize a9:ac5=PI
 wp_walk
 subst a9;refine adp a4 ?_;refine W2 (aeh ?_);have a2:l<s.heap.objs.size:=YF a7;refine I_ (prog:=prog) (w:=w) (its:=its) (ks:=ks) (A:=A) (S:=s.heap.objs.size) (l:=l) B Z O U ?_ ?_ (YZ a2) (its.length-0) 0 [] _ rfl (ac1 _) ?_ ?_ ?_ (YB _) λh' tk kp V=>?_
 .show s.heap.objs.size≠(s.heap.push (ou (ledW w))).objs.size
  rw[Z7];exact YZ (abp _)
 .show l≠(s.heap.push (ou (ledW w))).objs.size
  rw[Z7];exact YZ (aay a2)
 .exact a4.push _
 .exact⟨_,YG _ rfl,rfl,rfl⟩
 .have hget:((s.heap.push (ou (ledW w))).push {cls:=.type "list_iterator",data:=.fields #[.ref l,.int 0 0]}).get? s.heap.objs.size=ac (ou (ledW w)):=Yp _ hS
  letI:BEq Key:=instBEqOfDecidableEq
  haveI:LawfulBEq Key:=inferInstance
  have I:(λ_:Key=>ae)=inK []:=funext λ_=>rfl;rw[←I];exact⟨_,#[],0,_,hget,⟨rfl,rfl,rfl⟩,rfl,λe he=>by simp at he,λk=>by simp,by decide,by rfl,rfl,by simp[RisT,Ris,SetTable.fresh]⟩
 .refine Yq ?_
  show wpAny _ _ (ret Z8) _ _ _;refine Yq (hR _ ⟨h',tk,rfl,by rw[afB]at V;exact V,λb o e=>?_⟩);have a6:b<s.heap.objs.size:=YF e;refine kp b o (YZ a6) ?_ (Yp _ (Yp _ e));show b≠(s.heap.push (ou (ledW w))).objs.size;rw[Z7];exact YZ (aay a6)
theorem xH(hh:A.handled=af)(V:ks.length=its.length)(O:∀(j:Nat)(k:Key)(v:Value),ks[j]? =ac k->its[j]? =ac v->RelV (kV k) v)(U:its.length+1<abJ)(pl:s.heap.IsList l its.toArray)
  (h:∀s2,Aj prog w s ks s2->Q (.ref s.heap.objs.size) s2):wpAny 1.16 A (call (.type "set") [.ref l]) Q E s:=by
 obtain⟨c,tl,a3⟩:=abu.mro;have a2:=abu.made;have q:=abu.sub;refine wpAny_call (codeAny_of_tree ?_);show wpAny _ _ (callAny (.type "set") _) _ _ _;refine Yq ⟨Code.quiet_builtin _ (by decide +kernel),aaU F.entry_type_call ?_⟩;rw[Around.under_plain (weight_type_call_type "set" [.ref l] []) rfl];have h1:=abu.notType;have h2:=abu.canCreate;have a4:=F.typeCall_set_1 (.ref l)
 show 1
 refine abG (QZ (.ref l) (E:=E) (Q₁:=λobj B=>obj= .ref s.heap.objs.size/\B={s with heap:=s.heap.push (ou (ledW w))}) ⟨rfl,rfl⟩) λr B Z=>?_;cases r with
 |error e=>exact Z
 |ok fl=>
  cases fl with
  |ret obj=>
   obtain⟨rfl,rfl⟩:=Z;have hS:(s.heap.push (ou (ledW w))).get? s.heap.objs.size=ac (ou (ledW w)):=YG _ rfl;have z:afJ {s with heap:=s.heap.push (ou (ledW w))} (.ref s.heap.objs.size) "set":=⟨_,hS,rfl⟩;have a5:=abu.init.lookup;have a6:=abu.init.bind (.ref s.heap.objs.size)
   show 1
   refine abG (aav (R:=wants (λr Y=>r= .none/\Aj prog w s ks Y) E) abu.init.plain F.entry_set_init (check_set_init_1 z ?_)) λa1 Y I=>?_
   .exact Ju (by simp[hh]) V O U pl λs2 hs=>⟨rfl,hs⟩
   .cases a1 with
    |error e=>exact I
    |ok a0=>
     cases a0 with
     |ret r=>
      obtain⟨rfl,hs⟩:=I
      show 1
      exact h _ hs
     |_=>exact I.elim
  |_=>exact Z.elim
end Jb
namespace PySem
theorem F.jb_owner_seti:Manifest.owners.lookup (String.ofList ['r','o','t','a','r','e','t','i','_','t','e','s'].reverse)=ac Manifest.sig_set_iterator:=by kernel_rfl
theorem F.jb_slot_seti:Slot "set_iterator" "__next__" "set_iterator.__next__" :=
 .of (owner:="set_iterator") (n:="__next__") (by rw[typeLookup_type,aei];kernel_rfl) (by decide +kernel) (by decide +kernel) (by decide +kernel)
  (by first|exact .inl (by decide +kernel)|exact .inr (by decide +kernel)) (by rw[aej];kernel_rfl)
theorem F.jb_entry_seti:entryFor table "set_iterator.__next__"=ac Builtin.«set_iterator.__next__»:=entryFor_of_tree (by kernel_rfl)
theorem F.jb_args_seti(a:Value):argsOk "set_iterator.__next__" ⟨[a],[]⟩:=by
 unfold argsOk;rw[signature?_of (id:="set_iterator.__next__") (n:=['_','_','t','x','e','n','_','_']) (o:=['r','o','t','a','r','e','t','i','_','t','e','s']) (by kernel_rfl) F.jb_owner_seti];kernel_rfl
theorem F.jb_entry_set_iter:entryFor table "set.__iter__"=ac Builtin.«frozenset.__iter__»:=entryFor_alias (id':="frozenset.__iter__") (by kernel_rfl) rfl (by decide +kernel) (by kernel_rfl)
theorem wz{q:Source}{Q:Nat->Ym->Prop}(hn:n≠0)(h:∀i,i<n->Q i {s with drawn:=s.drawn.bump q}):wpAny 1.16 A (choose q n) Q E s:=λ_ _ _=>⟨hn,h _ (Nat.mod_lt _ (Nat.pos_of_ne_zero hn))⟩
theorem pq:∀{l:List α}{i:Nat}(h:i<l.length),Zu (l[i]::l.eraseIdx i) l
 |x::r,0,_=>aek _
 |x::r,i+1,h=>by
  have:=pq (l:=r) (i:=i) (by simpa using h);exact(List.Perm.swap ..).trans (this.cons x)
theorem lQ{α:Type}:∀(n:Nat){xs:List α}{s:Ym}{Q:List α->Ym->Prop},xs.length=n->(∀ys d,Zu ys xs->Q ys {s with drawn:=d})->wpAny 1.16 A (drawOrder n xs) Q E s
 |0,xs,s,Q,hl,h=>by
  have e:xs=[]:=abE hl;subst e;unfold drawOrder;exact Yq (h [] s.drawn (aek _))
 |n+1,[],s,Q,hl,h=>by simp at hl
 |n+1,x::r,s,Q,hl,h=>by
  unfold drawOrder;refine W2 (wz (by simp) λi hi=>?_);have F:(x::r)[i]? =ac (x::r)[i]:=Yo hi;rw[F];dsimp only;refine W2 (lQ n (by rw[aev,YH hi];omega) λys d V=>Yq (h _ d ?_));exact(List.Perm.cons _ V).trans (pq hi)
def lU(first:Value)(i:Nat)(S:Addr)(n ep:Nat):Obj:={cls:=.type "set_iterator",data:=.fields #[first,aaf i,.ref S,aaf n,aaf ep]}
def cY(ps:List Nat):Obj:={cls:=.type "tuple",data:=.seq (ps.map λ(i:Nat)=>aaf i).toArray}
variable{S:Addr}{es:Array (Int×Value)}
theorem rA{t:abr}(I:s.heap.get? S=ac o)(q:o.ExactSet)(hd:o.data= .set es ep t)(Y:t.fits es.size=ag)(hz:es.size<=Yx)
  (h1:w.params.followText "set-order"=ag∨(!t.plain&&decide (es.size>1))=ae->Q (.ref s.heap.objs.size) {s with heap:=s.heap.push (lU (aaf 0) 0 S es.size ep)})
  (h2:w.params.followText "set-order"=ae->∀ps d,Zu ps (Zw es.size)->Q (.ref (s.heap.push (cY ps)).objs.size) {s with heap:=(s.heap.push (cY ps)).push (lU (.ref s.heap.objs.size) 0 S es.size ep),drawn:=d}) :
  wpAny 1.16 A (ac5 (.ref S)) Q E s:=by
 have z:s.TypeIs (.ref S) "set":=⟨o,I,q.1⟩;refine wpAny_pyIter_slot z F.slot_set_iter (adH F.slot_set_iter z F.jb_entry_set_iter ?_ (F.args_set_iter_1 _));unfold Builtin.«frozenset.__iter__» afN slotArgs;simp![List.isEmpty_nil,Bool.not_true,ZV,↓reduceIte,bind_assoc,YX,bne_self_eq_false];unfold afL afM setDrawn setsByText;refine W2 (Yq ?_)
 try dsimp only
 refine W2 (Yq ?_);refine W2 (W2 (wpAny_setEntries_of I hd Y (Yq ?_)));refine W2 (W2 (aaX I hd Y ?_));refine W2 (W2 (abt (Yq ?_)));refine Yq ?_;have fin:∀{first:Value}{Z:Ym},Z.heap.get? S=ac o->Q (.ref Z.heap.objs.size) {Z with heap:=Z.heap.push (lU first 0 S es.size ep)}->wpAny 1.16 A.in1 (do
   let e ←setEpoch S
   let v ←newFields "set_iterator" [first,aaf 0,Zk S,aaf (es.size:Int),aaf (e:Int)]
   ret v) (λfin s'=>∃v,fin=Fin.done (Flow.ret v)/\∃T' r,s'.TypeIs v T'/\typeLookup (aau T') (Str.ofString "__next__")=pure (ac r)/\Q v s') E Z:=λ{first Z} O U=>by
  unfold setEpoch newFields;refine W2 (W2 (aaX O hd Y (Yq ?_)));exact W2 (aac (Yq ⟨_,rfl,"set_iterator",_,⟨_,YG _ rfl,rfl⟩,F.jb_slot_seti.lookup,U⟩))
 split
 .rename_i hc0
  have B:(!w.params.followText "set-order"&&(!t.plain&&decide (es.size>1)))=ag:=hc0;rw[YS]at B;refine W2 (lQ es.size (by simp) λps d V=>?_);refine W2 (wpAny_newTuple ?_ (by rw[Yt,V.length_eq,ae8];exact hz));exact fin (Yp _ I) (h2 (by simpa using B.1) ps d V)
 .rename_i hc0
  have B:¬(!w.params.followText "set-order"&&(!t.plain&&decide (es.size>1)))=ag:=hc0;refine W2 (Yq ?_);refine fin I (h1 ?_);cases e:w.params.followText "set-order" with
  |true=>exact .inl rfl
  |false=>
   rw[e]at B;exact .inr (by simpa using B)
open PySem.Builtin
section
variable{prog:Program}{w:World}{A:Around}{E:Value->Shared->Prop}{it S:Addr}{o:Obj}{es:Array (Int×Value)}{ep i slot:Nat}{t:SetTable}{h:Heap}{g:Array GenState}{d:Drawn}{tk:Nat}{os:OsState}
theorem qX(Y:t.fits es.size=ag):¬(t.place.size !=es.size||decide (t.fill>t.mask))=ag:=by
 unfold afK at Y;simp![YS,beq_iff_eq,decide_eq_true_eq]at Y;simp![ab2,bne_iff_ne,ne_eq,decide_eq_true_eq,not_or,Decidable.not_not];exact⟨Y.1,Nat.not_lt.mpr Y.2⟩
theorem wW{Q:Option Value->Ym->Prop}{x:Value}{next:Nat}(hz:h.get? it=ac (lU (aaf slot) i S es.size ep))(I:h.get? S=ac o)(q:o.ExactSet)(hd:o.data= .set es ep t)(Y:t.fits es.size=ag)
  (hs:∀(A':Zx)(E':Value->Ym->Prop)(V:Option (Value×Nat)->Ym->Prop),V (ac (x,next)) ⟨h,g,d,tk,os⟩->wpAny 1.16 A' (ael S slot i ep) V E' ⟨h,g,d,tk,os⟩)
  (U:∀h' a0,h'.get? it=ac (lU (aaf next) (i+1) S es.size ep)->(∀c o,c≠it->h.get? c=ac o->h'.get? c=ac o)->Q (ac x) ⟨h',g,d,a0,os⟩) :
  wpAny 1.16 A (ab6 (.ref it)) Q E ⟨h,g,d,tk,os⟩:=by
 have z:(⟨h,g,d,tk,os⟩:Ym).TypeIs (.ref it) "set_iterator":=⟨_,hz,rfl⟩;unfold ab6;refine W2 (adl ?_);refine aax z F.jb_slot_seti ?_
 show 1
 show 2
 show 1
 rw[hd];dsimp only;rw[Y4 (qX Y)];refine Yq (Yq ?_);dsimp only;rw[Y4 (by simp)];simp![aaf,aad]at *
 refine W2 (hs _ _ _ ?_);dsimp only;refine W2 (aa5 hz (by simp) λh1 O Z=>?_);refine W2 (aa5 O (by simp) λh2 a1 B=>?_);refine Yq ?_;refine Yq ?_;exact U h2 tk (by rw[a1];simp) λc o n e=>B.extBut c o n (Z.extBut c o n e)
theorem Cw{Q:Option Value->Ym->Prop}(B:A.handled=af)(hz:h.get? it=ac (lU (aaf slot) i S es.size ep))(I:h.get? S=ac o)(q:o.ExactSet)(hd:o.data= .set es ep t)(Y:t.fits es.size=ag)
  (hs:∀(A':Zx)(E':Value->Ym->Prop)(V:Option (Value×Nat)->Ym->Prop),V af ⟨h,g,d,tk,os⟩->wpAny 1.16 A' (ael S slot i ep) V E' ⟨h,g,d,tk,os⟩)
  (U:∀h',(∀c o,c≠it->h.get? c=ac o->h'.get? c=ac o)->Q af ⟨h',g,d,tk,os⟩) :
  wpAny 1.16 A (ab6 (.ref it)) Q E ⟨h,g,d,tk,os⟩:=by
 have z:(⟨h,g,d,tk,os⟩:Ym).TypeIs (.ref it) "set_iterator":=⟨_,hz,rfl⟩;unfold ab6;refine W2 (adl ?_);refine aax z F.jb_slot_seti ?_
 show 1
 show 2
 show 1
 rw[hd];dsimp only;rw[Y4 (qX Y)];refine Yq (Yq ?_);dsimp only;rw[Y4 (by simp)];simp![aaf,aad]at *
 refine W2 (hs _ _ _ ?_);dsimp only;refine W2 (aa5 hz (by simp) λh1 O Z=>?_);refine W2 ?_;simp![newExc,newTuple];refine W2 (aac ?_ (by size_fits));refine W2 (m:=acX _ _) (acw (a:=Z8) (by first|rfl|(simp![acX];rfl)) ?_);refine aac ?_ (by size_fits);simp![raiseNew];refine W2 (aeB ?_);rw[show A.in1.handled=af from B];refine W2 (Yq (afd ?_));refine W2 (adI (T:="StopIteration") (b:=ag) ⟨_,YG _ rfl,rfl⟩ isSubtype_stop ?_);exact Yq (U _ λc o n e=>Yp _ (Yp _ (Z.extBut c o n e)))
theorem Jz{Q:Option Value->Ym->Prop}{x:Value}{p:Addr}{ps:List Nat}{j:Nat}{c:Int}(hz:h.get? it=ac (lU (.ref p) i S es.size ep))(V:h.get? p=ac (cY ps))(I:h.get? S=ac o)(q:o.ExactSet)(hd:o.data= .set es ep t)(Y:t.fits es.size=ag)(hj:ps[i]? =ac j)(hx:es[j]? =ac (c,x))
  (U:∀h' B,h'.get? it=ac (lU (.ref p) (i+1) S es.size ep)->(∀c o,c≠it->h.get? c=ac o->h'.get? c=ac o)->Q (ac x) ⟨h',g,d,B,os⟩) :
  wpAny 1.16 A (ab6 (.ref it)) Q E ⟨h,g,d,tk,os⟩:=by
 have z:(⟨h,g,d,tk,os⟩:Ym).TypeIs (.ref it) "set_iterator":=⟨_,hz,rfl⟩;unfold ab6;refine W2 (adl ?_);refine aax z F.jb_slot_seti ?_
 show 1
 show 2
 show 1
 rw[hd];dsimp only;rw[Y4 (qX Y)];refine Yq (Yq ?_);dsimp only;rw[Y4 (by simp)];have hg:(ps.map λ(i:Nat)=>aaf i).toArray[((i:Nat):Int).toNat]? =ac (aaf j):=by
  rw[aad,aem,List.getElem?_map,hj];rfl
 refine W2 ?_;unfold adY;refine W2 (adv V ?_);refine Yq ?_;dsimp only;rw[hg];dsimp only[aaf];refine W2 ?_;unfold setNextDrawn;refine W2 (aaX I hd Y ?_);simp![aad,bne_self_eq_false,ZV,abo,hx];refine Yq ?_;refine W2 (aa5 hz (by simp) λh1 O Z=>?_);refine Yq ?_;refine Yq ?_;exact U h1 tk (by rw[O];simp[aaf]) λc o n e=>Z.extBut c o n e
theorem JV{Q:Option Value->Ym->Prop}{p:Addr}{ps:List Nat}(B:A.handled=af)(hz:h.get? it=ac (lU (.ref p) i S es.size ep))(V:h.get? p=ac (cY ps))(I:h.get? S=ac o)(q:o.ExactSet)(hd:o.data= .set es ep t)(Y:t.fits es.size=ag)(hj:ps[i]? =af)
  (U:∀h',(∀c o,c≠it->h.get? c=ac o->h'.get? c=ac o)->Q af ⟨h',g,d,tk,os⟩) :
  wpAny 1.16 A (ab6 (.ref it)) Q E ⟨h,g,d,tk,os⟩:=by
 have z:(⟨h,g,d,tk,os⟩:Ym).TypeIs (.ref it) "set_iterator":=⟨_,hz,rfl⟩;unfold ab6;refine W2 (adl ?_);refine aax z F.jb_slot_seti ?_
 show 1
 show 2
 show 1
 rw[hd];dsimp only;rw[Y4 (qX Y)];refine Yq (Yq ?_);dsimp only;rw[Y4 (by simp)];have hg:(ps.map λ(i:Nat)=>aaf i).toArray[((i:Nat):Int).toNat]? =af:=by
  rw[aad,aem,List.getElem?_map,hj];rfl
 refine W2 ?_;unfold adY;refine W2 (adv V ?_);refine Yq ?_;dsimp only;rw[hg];refine W2 (aa5 hz (by simp) λh1 O Z=>?_);refine W2 (aa5 O (by simp) λh2 a1 a0=>?_);refine W2 ?_;simp![newExc,newTuple];refine W2 (aac ?_ (by size_fits));refine W2 (m:=acX _ _) (acw (a:=Z8) (by first|rfl|(simp![acX];rfl)) ?_);refine aac ?_ (by size_fits);simp![raiseNew];refine W2 (aeB ?_);rw[show A.in1.handled=af from B];refine W2 (Yq (afd ?_));refine W2 (adI (T:="StopIteration") (b:=ag) ⟨_,YG _ rfl,rfl⟩ isSubtype_stop ?_);exact Yq (U _ λc o n e=>Yp _ (Yp _ (a0.extBut c o n (Z.extBut c o n e))))
theorem oK{s:Ym}{Q:Option (Value×Nat)->Ym->Prop}(I:s.heap.get? S=ac o)(hd:o.data= .set es ep t)(Y:t.fits es.size=ag)(U:w.params.followText "set-order"=ae)(q:(!t.plain&&decide (es.size>1))=ae)(Z:t.led=ag)
  (B:Q (match es[SetTable.below t.place slot]?,t.place[SetTable.below t.place slot]? with|some (_,x),ac j=>ac (x,j+1)|_,_=>af) s):wpAny 1.16 A (ael S slot i ep) Q E s:=by
 unfold ael setsByText;refine W2 (aaX I hd Y ?_);refine W2 (W2 (abt (Yq ?_)));dsimp only;rw[Y4 (by rw[show(model prog w).w.params.followText "set-order"=ae from U];simp)];split
 .rename_i hc
  have z:(!t.plain&&decide (es.size>1))=ag:=hc;rw[q]at z;cases z
 .refine W2 ?_
  show wpAny _ _ (if(!t.led&& !es.isEmpty)=ag then abW "set:maker-not-led" else pure PUnit.unit) _ _ _;rw[Y4 (by simp[Z])];exact Yq (Yq B)
theorem ql{s:Ym}{Q:Option (Value×Nat)->Ym->Prop}(I:s.heap.get? S=ac o)(hd:o.data= .set es ep t)(Y:t.fits es.size=ag)(U:w.params.followText "set-order"=ag)
  (q:Q (((abz (w.params.setOrder S ep) es)[i]?).map λe=>(e.2,slot)) s):wpAny 1.16 A (ael S slot i ep) Q E s:=by
 unfold ael setWalk setsByText;refine W2 (aaX I hd Y ?_);refine W2 (W2 (abt (Yq ?_)));dsimp only;rw[YH (show(model prog w).w.params.followText "set-order"=ag from U)];rw[Y4 (by simp)];refine W2 (W2 (aaX I hd Y ?_));refine W2 (W2 (abt (Yq ?_)));dsimp only;rw[YH (show(model prog w).w.params.followText "set-order"=ag from U)];refine W2 (abt (Yq ?_));exact Yq q
end
theorem F.jb_slot_seti_iter:Slot "set_iterator" "__iter__" "set_iterator.__iter__" :=
 .of (owner:="set_iterator") (n:="__iter__") (by rw[typeLookup_type,aei];kernel_rfl) (by decide +kernel) (by decide +kernel) (by decide +kernel)
  (by first|exact .inl (by decide +kernel)|exact .inr (by decide +kernel)) (by rw[aej];kernel_rfl)
theorem F.jb_entry_seti_iter:entryFor table "set_iterator.__iter__"=ac Builtin.«dict_keyiterator.__iter__»:=entryFor_alias (id':="dict_keyiterator.__iter__") (by kernel_rfl) rfl (by decide +kernel) (by kernel_rfl)
theorem F.jb_args_seti_iter(a:Value):argsOk "set_iterator.__iter__" ⟨[a],[]⟩:=by
 unfold argsOk;rw[signature?_of (id:="set_iterator.__iter__") (n:=['_','_','r','e','t','i','_','_']) (o:=['r','o','t','a','r','e','t','i','_','t','e','s']) (by kernel_rfl) F.jb_owner_seti];kernel_rfl
theorem rZ{s:Ym}{f:Value}(hz:s.heap.get? it=ac (lU f i S n ep))(h:Q (.ref it) s):wpAny 1.16 A (ac5 (.ref it)) Q E s:=by
 have z:s.TypeIs (.ref it) "set_iterator":=⟨_,hz,rfl⟩;refine wpAny_pyIter_slot z F.jb_slot_seti_iter (adH F.jb_slot_seti_iter z F.jb_entry_seti_iter ?_ (F.jb_args_seti_iter _));show wpAny _ _ (ret (.ref it)) _ _ s;exact Yq ⟨_,rfl,"set_iterator",_,z,F.jb_slot_seti.lookup,h⟩
def atL(L:List (Int×Value))(i:Nat)(v:Value):Prop:=∃c,L[i]? =ac (c,v)
def Ec(t:abr):Nat->Nat
 |0=>0
 |i+1=>t.place.getD i 0+1
variable{t:SetTable}
theorem Bv(B:A.handled=af)(hn:S≠it)(q:o.ExactSet)(hd:o.data= .set es ep t)(Y:t.fits es.size=ag)(U:w.params.followText "set-order"=ae)(a2:(!t.plain&&decide (es.size>1))=ae)(hl:t.led=ag)(Z:Jb.Ris t.place) :
  Walks prog w A it [it,S] [it] es.size (atL es.toList) (λi h=>h.get? it=ac (lU (aaf (Ec t i)) i S es.size ep)/\h.get? S=ac o):=by
 have a5:t.place.size=es.size:=by
  unfold afK at Y;simp![YS,beq_iff_eq]at Y;exact Y.1
 have a0:∀i,i<=es.size->SetTable.below t.place (Ec t i)=i:=λi hi=>by
  cases i with
  |zero=>exact Jb.below_zero Z
  |succ i=>exact Jb.below_next Z 1.10
 refine⟨λb U=>by simp at U;simp[U],λi h h' st O=>⟨O it (by simp) _ st.1,O S (by simp) _ st.2⟩,λi s Q E hi st I=>?_,λs Q E st I=>?_,λi s Q E st I=>rZ st.1 I⟩
 .obtain⟨hp,g,d,tk,os⟩:=s
  obtain⟨e1,e2⟩:∃c v,es[i]? =ac (c,v):=⟨es[i].1,es[i].2,by simp[hi]⟩;obtain⟨v,e2⟩:=e2;have a3:t.place[i]? =ac (t.place.getD i 0):=by
   rw[Zj,aaT t.place i 1.10];rfl
  refine wW (next:=Ec t (i+1)) (x:=v) st.1 st.2 q hd Y (λA' E' V a1=>oK st.2 hd Y U a2 hl ?_) λh' a4 z1 F=>?_
  .rw[a0 i 1.10,e2,a3];exact a1
  .exact I v h' a4 ⟨e1,by simpa using e2⟩ ⟨z1,F S _ hn st.2⟩ λb o U e=>F b o (λz=>U (by simp[z])) e
 .obtain⟨hp,g,d,tk,os⟩:=s
  refine Cw B st.1 st.2 q hd Y (λA' E' V a1=>oK st.2 hd Y U a2 hl ?_) λh' F=>I h' tk λb o U e=>F b o (λz=>U (by simp[z])) e;rw[a0 _ (YB _),ad8 (YB _)];exact a1
theorem pX{α:Type}(next:Nat->Nat):∀(f k:Nat)(left:List α)(out:Array α),left.length=f->Zu (aeU next f k left out).toList (out.toList++left)
 |0,k,left,out,h=>by
  have e:left=[]:=abE h;subst e;simp[aeU]
 |f+1,k,left,out,h=>by
  have hi:next k % left.length<left.length:=Nat.mod_lt _ 1.10
  rw[aeU,Yo hi];dsimp only;refine(pX next f (k+1) _ _ (by rw[aev,YH hi];omega)).trans ?_;rw[adt,aaW];exact(pq hi).append_left _
theorem my(next:Nat->Nat)(xs:Array α):Zu (abz next xs).toList xs.toList:=by
 have:=pX next xs.size 0 xs.toList #[] (by simp)
 simpa[abz]using this
theorem E_(B:A.handled=af)(hn:S≠it)(q:o.ExactSet)(hd:o.data= .set es ep t)(Y:t.fits es.size=ag)(U:w.params.followText "set-order"=ag) :
  Walks prog w A it [it,S] [it] es.size (atL (abz (w.params.setOrder S ep) es).toList) (λi h=>h.get? it=ac (lU (aaf 0) i S es.size ep)/\h.get? S=ac o):=by
 have hsz:(abz (w.params.setOrder S ep) es).size=es.size:=by
  have:=(my (w.params.setOrder S ep) es).length_eq;simpa using this
 refine⟨λb U=>by simp at U;simp[U],λi h h' st O=>⟨O it (by simp) _ st.1,O S (by simp) _ st.2⟩,λi s Q E hi st I=>?_,λs Q E st I=>?_,λi s Q E st I=>rZ st.1 I⟩
 .obtain⟨hp,g,d,tk,os⟩:=s
  have a1:i<(abz (w.params.setOrder S ep) es).size:=by omega
  obtain⟨c,v,e1⟩:∃(c:Int)(v:Value),(abz (w.params.setOrder S ep) es)[i]? =ac (c,v):=⟨((abz (w.params.setOrder S ep) es)[i]'a1).1,((abz (w.params.setOrder S ep) es)[i]'a1).2,aaT (abz (w.params.setOrder S ep) es) i a1⟩;refine wW (slot:=0) (next:=0) (x:=v) st.1 st.2 q hd Y (λZ E' V a0=>ql st.2 hd Y U ?_) λh' a2 z1 F=>?_
  .rw[e1];exact a0
  .exact I _ h' a2 ⟨c,by rw[aaK,e1]⟩ ⟨z1,F S _ hn st.2⟩ λb o U e=>F b o (λz=>U (by simp[z])) e
 .obtain⟨hp,g,d,tk,os⟩:=s
  refine Cw (slot:=0) B st.1 st.2 q hd Y (λZ E' V a0=>ql st.2 hd Y U ?_) λh' F=>I h' tk λb o U e=>F b o (λz=>U (by simp[z])) e;rw[ad8 1.10];exact a0
variable{p:Addr}{ps:List Nat}
theorem Dj(B:A.handled=af)(hn:S≠it)(V:p≠it)(q:o.ExactSet)(hd:o.data= .set es ep t)(Y:t.fits es.size=ag)(Z:Zu ps (Zw es.size)) :
  Walks prog w A it [it,S,p] [it] es.size (atL (ps.map λj=>es.getD j (0,.none))) (λi h=>h.get? it=ac (lU (.ref p) i S es.size ep)/\h.get? S=ac o/\h.get? p=ac (cY ps)):=by
 have hl:ps.length=es.size:=by rw[Z.length_eq,ae8]
 refine⟨λb U=>by simp at U;simp[U],λi h h' st O=>⟨O it (by simp) _ st.1,O S (by simp) _ st.2.1,O p (by simp) _ st.2.2⟩,λi s Q E hi st I=>?_,λs Q E st I=>?_,λi s Q E st I=>rZ st.1 I⟩
 .obtain⟨h0,g,d,tk,os⟩:=s
  have a0:i<ps.length:=by omega
  have hj:ps[i]<es.size:=abl.mp (Z.mem_iff.mp (aaj a0));refine Jz (j:=ps[i]) (c:=es[ps[i]].1) (x:=es[ps[i]].2) st.1 st.2.2 st.2.1 q hd Y (Yo a0) (aaT es _ hj) λh' a1 z1 F=>?_;refine I _ h' a1 ⟨es[ps[i]].1,?_⟩ ⟨z1,F S _ hn st.2.1,F p _ V st.2.2⟩ λb o U e=>F b o (λz=>U (by simp[z])) e;rw[List.getElem?_map,Yo a0];simp[Zj,hj]
 .obtain⟨h0,g,d,tk,os⟩:=s
  exact JV B st.1 st.2.2 st.2.1 q hd Y (ZD 1.10) λh' F=>I h' tk λb o U e=>F b o (λz=>U (by simp[z])) e
theorem Fx(Z:Zu ps (Zw es.size)):Zu (ps.map λj=>es.getD j (0,.none)) es.toList:=by
 refine(Z.map _).trans ?_;have e:(Zw es.size).map (λj=>es.getD j (0,Z8))=es.toList:=by
  refine List.ext_getElem (by simp) λi h1 h2=>?_;simp at h1;simp[Zj,h1]
 rw[e]
section
variable{prog:Program}{w:World}{A:Around}{E:Value->Shared->Prop}{S D:Addr}{o:Obj}{es:Array (Int×Value)}{ep:Nat}{t:SetTable}{s:Shared}
theorem M5{Q:Bool->Ym->Prop}(z:s.TypeIs (.ref S) "set")(h:Q ae s):wpAny 1.16 A (abK (.ref S)) Q E s:=by
 unfold abK;refine W2 (wpAny_specialOf z PySem.F.slot_set_len.lookup ?_);generalize q:("set.__len__":String)=id0
 wp_delta
 rw[show splitId id0=ac ("set","__len__")from by subst q;decide +kernel];subst q;refine W2 (adI (T:="set") (b:=ag) z (by rw[aej];kernel_rfl) ?_);refine ad0 (λO=>absurd O (by decide)) (λ_=>?_);refine ad0 (λ_=>?_) (λO=>absurd (by decide +kernel) O);refine W2 (wpAny_typeOf z ?_);exact Yq h
theorem O_{R:Result->Ym->Prop}(hh:A.handled=af)(I:s.heap.get? S=ac o)(a0:o.ExactSet)(hd:o.data= .set es ep t)(Y:t.fits es.size=ag)(Z:Jb.RisT t (Jb.ledW w))(hz:es.size<=Yx)(a5:D≠S)(res:Value)(a3:Nat)(hD:s.heap.get? D=ac {cls:=.type "list",data:=.seq #[] a3})
  (hR:∀h' tk d' L acc c,(∀b o,b≠D->s.heap.get? b=ac o->h'.get? b=ac o)->h'.get? D=ac {cls:=.type "list",dict:=af,data:=.seq acc c,slots:=#[]}->Zu L es.toList->aen (atL L) acc es.size->R (.ok (.ret res)) {s with heap:=h',drawn:=d',toks:=tk}) :
  wpAny 1.16 A.in1 (aa6 (.ref D) (.ref S) res)
   (λfin s'=>match fin with|.done f=>R (.ok f) s'|.again c'=>c'.quiet=ag/\aa8 1.16 A c' R s') (λe s'=>R (.error e) s') s:=by
 have hT:s.TypeIs (.ref S) "set":=⟨o,I,a0.1⟩;have a7:D<s.heap.objs.size:=YF hD;have a9:S<s.heap.objs.size:=YF I;unfold aa6;refine W2 (wpAny_typeOf (T:="set") hT ?_);have h1:adJ (.ref D) (.ref S)=ae:=by simp[adJ,a5]
 simp![h1,show(aau "set"==aau "list")=ae by decide,show(aau "set"==aau "tuple")=ae by decide,Bool.or_false,ZV,abo];have after:∀{it:Addr}{fp:List Addr}{L:List (Int×Value)}{St:Nat->Heap->Prop}{h1:Heap}{d1:Drawn}{b0:Bool},Walks prog w A.in1 it fp [it] es.size (atL L) St->D∉fp->Zu L es.toList->St 0 h1->h1.get? D=ac {cls:=.type "list",data:=.seq #[] a3}->h1.get? S=ac o->s.heap.objs.size<=it->(∀b o,s.heap.get? b=ac o->h1.get? b=ac o)->
   wpAny 1.16 A.in1 (do
    let room ←ach [.ref it] (abK (.ref S))
    if(room||b0)=ag then do
     rule "list.extend.makes-room"
     Builtin.List.listTouch (.ref D)
     again (.builtin "list.extend.loop" ⟨[.ref D,.ref it,res],[]⟩)
    else again (.builtin "list.extend.loop" ⟨[.ref D,.ref it,res],[]⟩))
   (λfin s'=>match fin with|.done f=>R (.ok f) s'|.again c'=>c'.quiet=ag/\aa8 1.16 A c' R s') (λe s'=>R (.error e) s') {s with heap:=h1,drawn:=d1}:=λ{it fp L St h1 d1 b0} W b3 hL st b1 c0 b7 kp=>by
  have q:∀(h:Heap)(a1 tk:Nat),St 0 h->(∀b o,b≠D->h1.get? b=ac o->h.get? b=ac o)->
    h.get? D=ac {cls:=.type "list",data:=.seq #[] a1}->aa8 1.16 A (.builtin "list.extend.loop" ⟨[.ref D,.ref it,res],[]⟩) R {s with heap:=h,drawn:=d1,toks:=tk}:=by
   intro h a1 tk b8 O b6;refine codeAny_extend_loopS W.toS hz D b3 res es.size 0 _ #[] a1 rfl (ac1 _) b8 b6 (ItemsOf.nil _) λs' b2 c' hm b9 b5=>?_;rw[Moved.eq_with hm];refine hR s'.heap s'.toks d1 L b2 c' (λb o U e=>hm.heap b o (λa2=>?_) (O b o U (kp b o e))) b9 hL b5;rcases Yu.mp a2 with e'|a2
   .exact U e'
   .have:=YF e
    rw[Yz.mp a2]at this;exact absurd this (Nat.not_lt.mpr b7)
  refine W2 (aas (M5 ⟨o,c0,a0.1⟩ ?_));refine ad0 (λ_=>?_) (λ_=>Yq ⟨abU adx _,q _ a3 _ st (λb o _ e=>e) b1⟩);refine W2 (abx ?_);refine W2 ?_;show wpAny _ _ (updateSeq D (·.push .none) >>=λ_=>updateSeq D (·.pop)) _ _ _;refine W2 (wpAny_updateSeq b1 rfl ?_);have a4:=aa9 (aa2 (·.push Z8)) b1 rfl;refine wpAny_updateSeq (hz:=by seq_fits) a4 rfl ?_;have a8:=aa9 (aa2 (·.pop)) a4 rfl;refine Yq ⟨abU adx _,q _ _ _ ?_ (λb o U e=>?_) a8⟩
  .refine W.frame 0 _ _ st λb U o e=>?_
   have b4:b≠D:=λz=>b3 (z▸U);exact(ZR _ _ (Zy b4)).trans ((ZR _ _ (Zy b4)).trans e)
  .exact(ZR _ _ (Zy U)).trans ((ZR _ _ (Zy U)).trans e)
 have a6:∀(x:Obj),(s.heap.push x).objs.size=s.heap.objs.size+1:=λx=>Z7 ..;refine W2 (rA I a0 hd Y hz (λB=>?_) λU ps d V=>?_)
 .cases U:w.params.followText "set-order" with
  |true=>
   refine after (d1:=s.drawn) (E_ (it:=s.heap.objs.size) hh (YZ a9) a0 hd Y U) ?_ (my _ _) ⟨YG _ rfl,Yp _ I⟩ (Yp _ hD) (Yp _ I) (YB _) λb o e=>Yp _ e;simp![Yu,abQ,or_false,not_or];exact⟨YZ a7,a5⟩
  |false=>
   have c1:(!t.plain&&decide (es.size>1))=ae:=B.resolve_left (by rw[U];simp);refine after (d1:=s.drawn) (Bv (it:=s.heap.objs.size) hh (YZ a9) a0 hd Y U c1 (by rw[Z.2];simp[Jb.ledW,U]) Z.1) ?_ (aek _) ⟨YG _ rfl,Yp _ I⟩ (Yp _ hD) (Yp _ I) (YB _) λb o e=>Yp _ e;simp![Yu,abQ,or_false,not_or];exact⟨YZ a7,a5⟩
 .have e2:∀b o,s.heap.get? b=ac o->((s.heap.push (cY ps)).push (lU (.ref s.heap.objs.size) 0 S es.size ep)).get? b=ac o:=λb o e=>Yp _ (Yp _ e)
  refine after (Dj (it:=(s.heap.push (cY ps)).objs.size) (p:=s.heap.objs.size) hh (by rw[a6];exact YZ (aay a9)) (by rw[a6];exact YZ (abp _)) a0 hd Y V) ?_ (Fx V) ⟨YG _ rfl,e2 _ _ I,Yp _ (YG _ rfl)⟩ (e2 _ _ hD) (e2 _ _ I) (by rw[a6];exact abC _) e2;simp![Yu,abQ,or_false,not_or,a6];exact⟨YZ (aay a7),a5,YZ a7⟩
end
open PySem.W
theorem collect_set{Q:List Value->Ym->Prop}(B:A.handled=af)(I:s.heap.get? S=ac o)(q:o.ExactSet)(hd:o.data= .set es ep t)(hf:t.fits es.size=ag)(hr:Jb.RisT t (Jb.ledW w))(hz:es.size<=Yx)
  (hQ:∀h' tk d' L acc,(∀b o,s.heap.get? b=ac o->h'.get? b=ac o)->Zu L es.toList->aen (atL L) acc es.size->Q acc.toList {s with heap:=h',drawn:=d',toks:=tk}):wpAny 1.16 A (ae2 (.ref S)) Q E s:=by
 unfold ae2;refine W2 (aeh (aaU aeo ?_));rw[aaw aep _];show wpAny _ A.in1 (adA [] >>=λl=>again (.builtin "list.__iadd__" ⟨[l,.ref S],[]⟩)) _ _ s;refine W2 (aac ?_);refine Yq ⟨abU acs _,aaU ae9 ?_⟩;rw[aaw acs _];show wpAny _ A.in1 (aa6 (.ref s.heap.objs.size) (.ref S) (.ref s.heap.objs.size)) _ _ _;have hD:(s.heap.push {cls:=.type "list",data:=.seq ([]:List Value).toArray}).get? s.heap.objs.size=ac {cls:=.type "list",data:=.seq #[] 0}:=YG _ rfl
 let Z (s':Ym):Prop:=∃h' tk d' L acc c,s'={s with heap:=h',drawn:=d',toks:=tk}/\(∀b o,s.heap.get? b=ac o->h'.get? b=ac o)/\h'.get? s.heap.objs.size=ac {cls:=.type "list",dict:=af,data:=.seq acc c,slots:=#[]}/\Zu L es.toList/\aen (atL L) acc es.size
 have z:∀s',Z s'->wpAny 1.16 A (match Zk s.heap.objs.size with
   |Zk a=>do
    match(←load a).data with
     |Data.seq xs _=>pure xs.toList
     |_=>abW "internal:collect"
   |_=>abW "internal:collect") Q E s':=by
  rintro s' ⟨h',tk,d',L,acc,c,rfl,O,V,U,Y⟩;show wpAny _ A (load s.heap.objs.size >>=_) _ _ _;refine W2 (adv V ?_);exact Yq (hQ h' tk d' L acc O U Y)
 refine Z9 (O_ (A:=A) (R:=λr s'=>r= .ok (.ret (.ref s.heap.objs.size))/\Z s')
  (s:={s with heap:=s.heap.push {cls:=.type "list",data:=.seq ([]:List Value).toArray}}) B (Yp _ I) q hd hf hr hz (aaE (YF I)) _ 0 hD (λh' tk d' L acc c O V U Y=>⟨rfl,h',tk,d',L,acc,c,rfl,λb o e=>O b o (YZ (YF e)) (Yp _ e),V,U,Y⟩)) (λfin s' h=>?_) (λe s' h=>?_)
 .cases fin with
  |done f=>
   obtain⟨e,h⟩:=h;cases e;exact z _ h
  |again c'=>exact⟨h.1,abG h.2 λr a0 hr=>by obtain⟨rfl,h⟩:=hr;exact z _ h⟩
 .exact absurd h.1 (by simp)
end PySem
namespace Jb
open PySem PySem.Spec PyProof.Rows L2
def mK[DecidableEq α](ns:List α):List α:=ns.foldl (λacc n=>if n∈acc then acc else acc++[n]) []
section
variable{α:Type}[DecidableEq α]
theorem ux:∀(ns acc:List α),acc.Nodup->(ns.foldl (λacc n=>if n∈acc then acc else acc++[n]) acc).Nodup/\∀x,x∈ns.foldl (λacc n=>if n∈acc then acc else acc++[n]) acc↔x∈acc∨x∈ns
 |[],acc,h=>⟨h,λx=>by simp⟩
 |n::r,acc,h=>by
  rw[aby];by_cases e:n∈acc
  .rw[YH e]
   obtain⟨h1,h2⟩:=ux r acc h;refine⟨h1,λx=>(h2 x).trans ⟨λz=>z.imp id (Y8 _),λz=>z.elim .inl λz=>(Yu.mp z).elim (λz=>.inl (z▸e)) .inr⟩⟩
  .rw[Y4 e]
   obtain⟨h1,h2⟩:=ux r (acc++[n]) (by rw[Zz];exact⟨h,by simp,λa Y b U z=>e (by rw[Yz.mp U]at z;exact z▸Y)⟩);refine⟨h1,λx=>(h2 x).trans ?_⟩;simp![Yl,Yu,abQ,or_false,or_assoc]
theorem yL(ns:List α):(mK ns).Nodup:=(ux ns [] List.nodup_nil).1
theorem Bt{ns:List α}{x:α}:x∈mK ns↔x∈ns:=by
 have:=(ux ns [] List.nodup_nil).2 x;simpa[mK]using this
theorem Dr(ns:List α):(mK ns).length<=ns.length:=by
 have:∀(ns acc:List α),(ns.foldl (λacc n=>if n∈acc then acc else acc++[n]) acc).length<=acc.length+ns.length:=by
  intro ns
  induction ns with
  |nil=>intro acc;simp
  |cons n r I=>
   intro acc;rw[aby];refine ZJ (I _) ?_;split<;>simp<;>omega
 have:=this ns [];simpa[mK]using this
theorem uV{f:α->Key}(Y:∀a b,f a=f b->a=b)(ns:List α):m8 (ns.map f)=(mK ns).map f:=by
 have:∀(ns acc:List α),(ns.map f).foldl jK (acc.map f)=(ns.foldl (λacc n=>if n∈acc then acc else acc++[n]) acc).map f:=by
  intro ns
  induction ns with
  |nil=>intro acc;rfl
  |cons n r I=>
   intro acc;rw[Ys,aby,aby,←I];congr 1;unfold jK;by_cases e:n∈acc
   .rw[YH e,YH (jU.mpr (Yr.mpr ⟨n,e,rfl⟩))]
   .rw[Y4 e,Y4 (λz=>e (by obtain⟨m,h1,h2⟩:=Yr.mp (jU.mp z);cases Y _ _ h2;exact h1))]
    simp
 exact this ns []
end
theorem sI:∀{a b:List α},a.Nodup->(∀x∈a,x∈b)->b.length<=a.length->Zu a b
 |[],b,_,_,h=>by
  have e:b=[]:=abE (Nat.le_zero.mp h);rw[e]
 |x::r,b,hn,hs,hl=>by
  obtain⟨h1,h2⟩:=Y5.mp hn;obtain⟨p,q,rfl⟩:=List.append_of_mem (hs x (by simp));have I:Zu r (p++q):=sI h2 (λy V=>by
   have:=hs y (by simp[V]);simp![Yl,Yu]at this⊢;rcases this with z|z|z
   .exact .inl z
   .exact absurd (z▸V) h1
   .exact .inr z) (by simp at hl⊢;omega)
  exact(I.cons x).trans List.perm_middle.symm
open PySem PyProof.Rows
def vl(x:Keyed):Int:=numOf x.1
variable{l:List Keyed}
theorem rd(h:n<=l.length):l.reverse.drop (l.length-n)=(l.take n).reverse:=by
 rw[List.drop_reverse,show l.length-(l.length-n)=n by omega]
variable{k:Nat}
theorem rt(h:n<=l.length)(O:k<=n):(l.reverse.drop (l.length-n)).take (n-k)=((l.take n).drop k).reverse:=by
 rw[rd h,List.take_reverse,aaa,show min n l.length-(n-k)=k by omega]
def keyOf:Value->Key
 |.int n _=>.inl n
 |.str x _=>.inr x
 |_=>.inl 0
theorem vV:∀{us:List Value},(∀u∈us,∃k,oG k u=ag)->Vals ((us.map keyOf).map kV) us
 |[],_=>.nil
 |u::r,h=>by
  obtain⟨k,O⟩:=h u (by simp);refine .cons ?_ (vV λv B=>h v (by simp[B]));rcases cB O with⟨i,t,rfl,rfl⟩|⟨x,t,rfl,rfl⟩<;>exact⟨t,rfl⟩
theorem Kv{k:Key}(h:oG k v=ag):keyOf v=k:=by
 rcases cB h with⟨i,t,rfl,rfl⟩|⟨x,t,rfl,rfl⟩<;>rfl
theorem Rr(ks:List Key):(m8 ks).Nodup:=by
 have:=uV (f:=id) (λ_ _ h=>h) ks;rw[abX,abX]at this;rw[this];exact yL ks
theorem Qa(ks:List Key):(m8 ks).length<=ks.length:=by
 have:=uV (f:=id) (λ_ _ h=>h) ks;rw[abX,abX]at this;rw[this];exact Dr ks
def JW(K:YC)(R:List Key->Hp->VK->Prop)(t:TA):TE:=λσ H Q=>t σ H λO H1=>∃a ks,O=[.ref a]/\SqL K H1 a (YK kV ks)/\aaF ks<4000/\R ks H1 Q
variable{X:Cx}
theorem Inv.drw{σ:L2.St}{H:Hp}{s:Ym}{d:Drawn}(I:Inv X pins σ H s):Inv X pins σ H {s with drawn:=d}:=⟨I.ok,I.os,I.bare,I.base,I.loc,I.cell,I.free,I.freeC,I.pin,I.hok,I.len⟩
variable{t:TA}
theorem Ge{R:List Key->Hp->VK->Prop}(hR:∀{pins:List (Addr×Obj)}{σ:L2.St}{H:Hp}{s:Ym}{ks zs:List Key}{its:List Value}{E:Value->Ym->Prop}{Q:VK},R ks H Q->Inv X pins σ H s->Zu zs (m8 ks)->zs.length<4000->Vals (zs.map kV) its->wpAny 1.13 X.A.in1 (adA its >>=λl=>aeD [l] (call (.builtin "list.sort") [l] []) >>=λ_=>ret l) (λfin s'=>∃v,fin= .done (.ret v)/\EP X pins σ Q v s') E s)
  (hg:Gl X "sorted") (V:X.mg "sorted"=af) (b6:X.mg "set"=af) (Y:PA X [e] t) (a9:Gl X "set":=by rfl) (hs:YD [e] X.env=[(ae,eval e X.env)]:=by rfl) (B:X.calm=ag:=by rfl) :
  PE X (.Call (.Name "sorted" p1) [.Call (.Name "set" p2) [e] [] q2] [] q1) (JW X.K R t):=by
 intro pins s σ H Q I h;refine aaJ (lC I hg V afe ?_);refine abB rfl (abL ?_);show wpAny _ _ (spliced ((ae,eval (.Call (.Name "set" p2) [e] [] q2) X.env)::Z4 q1 (YD [] X.env))) _ _ s;refine ac7 ?_;refine aaJ (lC I a9 b6 boot_set ?_);refine aaB (thn (Y q2 pins s σ H _ I h) λus s1 ⟨O,H1,I1,r1,b2⟩=>?_) hs rfl;obtain⟨a,ks,ev,hq,hz,q⟩:=b2;subst ev;obtain⟨u,rfl,ru⟩:=vals1 r1;cases ru;have hh:X.A.handled=af:=I1.ok.hd B;obtain⟨its,rv,pl,b8⟩:=I1.list hq;have z:=rv.length;rw[Yt]at z;refine xH (its:=its) (ks:=ks) hh z (λj k v e1 e2=>?_) (by show its.length+1<4096;omega) pl.isList λs2 a8=>?_
 .obtain⟨w',h1,h2⟩:=rv.get (i:=j) (x:=kV k) (by rw[List.getElem?_map,e1];rfl)
  rw[e2]at h1;cases h1;exact h2
 refine adn ?_;obtain⟨h',tk,rfl,hS,old⟩:=a8;have I2:Inv X pins σ H1 {s1 with heap:=h',toks:=tk}:=I1.kept (t':=tk) old;obtain⟨o,es,ep,tb,ho,a5,hd,b4,a2,U,hf,hn,Z⟩:=hS;have b7:=Qa ks;have b9:4000<=Yx:=by decide
 refine xm λE' Q' a6=>PySem.collect_set (A:=X.A.in1) hh ho a5 hd hf Z 1.10 λh2 a3 d2 L acc kp hL Y=>?_;have I3:Inv X pins σ H1 {s1 with heap:=h2,drawn:=d2,toks:=a3}:=Inv.drw (d:=d2) (I2.kept (t':=a3) kp);have a0:acc.toList.length=(m8 ks).length:=by rw[Z0,Y.1,hn]
 have hv:Vals ((acc.toList.map keyOf).map kV) acc.toList:=vV λu hu=>by
  obtain⟨i,hi,rfl⟩:=aaC hu;obtain⟨c,b0⟩:=Y.2 i _ (by rw[←aaK];exact Yo hi);obtain⟨⟨k,a4,_⟩,_⟩:=b4 _ (hL.mem_iff.mp (Y0 b0));exact⟨k,a4⟩
 have b5:Zu (m8 ks) (acc.toList.map keyOf):=by
  refine sI (Rr ks) (λx F=>?_) (by rw[Yt,a0];exact YB _);obtain⟨⟨c,v⟩,h1,h2⟩:=(a2 x).mp (jU.mpr F);obtain⟨i,hi,b1⟩:=aaC (hL.mem_iff.mpr h1);have a7:i<acc.toList.length:=by
   rw[a0,←hn,←Z0,←hL.length_eq];exact hi
  obtain⟨c2,a1⟩:=Y.2 i acc.toList[i] (by rw[←aaK];exact Yo a7);rw[Yo hi,b1]at a1;have b3:v=acc.toList[i]:=congrArg Prod.snd (Zr a1);exact Yr.mpr ⟨acc.toList[i],aaj _,by rw[←b3];exact Kv h2⟩
 exact a6 _ _ (hR q I3 b5.symm (by rw[Yt,a0];omega) hv)
theorem perm_back{f:α->β}{g:β->α}(F:∀a,g (f a)=a){zs:List β}{l:List α}(h:Zu zs (l.map f)):zs=(zs.map g).map f/\Zu (zs.map g) l:=by
 refine⟨?_,?_⟩
 .rw[Yw]
  conv=>lhs;rw[←abX zs]
  refine YT λz hz=>?_;obtain⟨a,_,rfl⟩:=Yr.mp (h.mem_iff.mp hz);simp[F]
 .have:=h.map g
  rw[Yw]at this;rwa[show g∘f=id from funext F,abX]at this
end Jb
namespace PySem
open PySem.W
variable{r d:Addr}{P:Nat->Value->Prop}{OK:Heap->Prop}
theorem collect_src{Q:List Value->Ym->Prop}(K:KdlSrc prog w T r d n P OK)(B:A.handled=af)(hok:OK s.heap)(hn:n<=Yx)
  (I:∀h' tk acc,(∀b o,s.heap.get? b=ac o->h'.get? b=ac o)->aen P acc n->Q acc.toList {s with heap:=h',toks:=tk}):wpAny 1.16 A (ae2 (.ref r)) Q E s:=by
 unfold ae2;refine W2 (aeh (aaU aeo ?_));rw[aaw aep _];show wpAny _ A.in1 (adA [] >>=λl=>again (.builtin "list.__iadd__" ⟨[l,.ref r],[]⟩)) _ _ s;refine W2 (aac ?_);refine Yq ⟨abU acs _,aaU ae9 ?_⟩;rw[aaw acs _];show wpAny _ A.in1 (aa6 (.ref s.heap.objs.size) (.ref r) (.ref s.heap.objs.size)) _ _ _;have U:(s.heap.push {cls:=.type "list",data:=.seq ([]:List Value).toArray}).get? s.heap.objs.size=ac {cls:=.type "list",data:=.seq #[] 0}:=YG _ rfl;have z:=K.there _ hok;have a0:∀s',(∃h' tk acc c,s'={s with heap:=h',toks:=tk}/\(∀b o,s.heap.get? b=ac o->h'.get? b=ac o)/\h'.get? s.heap.objs.size=ac {cls:=.type "list",dict:=af,data:=.seq acc c,slots:=#[]}/\aen P acc n)->wpAny 1.16 A (match Zk s.heap.objs.size with
   |Zk a=>do
    match(←load a).data with
     |Data.seq xs _=>pure xs.toList
     |_=>abW "internal:collect"
   |_=>abW "internal:collect") Q E s':=by
  rintro s' ⟨h',tk,acc,c,rfl,O,V,Y⟩;show wpAny _ A (load s.heap.objs.size >>=_) _ _ _;refine W2 (adv V ?_);exact Yq (I h' tk acc O Y)
 refine Z9 (kdl_extend (A:=A) (R:=λr s'=>r= .ok (.ret (.ref s.heap.objs.size))/\∃h' tk acc c,s'={s with heap:=h',toks:=tk}/\(∀b o,s.heap.get? b=ac o->h'.get? b=ac o)/\h'.get? s.heap.objs.size=ac {cls:=.type "list",dict:=af,data:=.seq acc c,slots:=#[]}/\aen P acc n)
  (s:={s with heap:=s.heap.push {cls:=.type "list",data:=.seq ([]:List Value).toArray}}) K B (K.keep _ _ hok λb _ o e=>Yp _ e) s.heap.objs.size (aaE z.1) (aaE z.2) _ 0 U (λh' tk acc c O V Y=>⟨rfl,h',tk,acc,c,rfl,λb o e=>O b o (YZ (YF e)) (Yp _ e),V,Y⟩) hn) (λfin s' h=>?_) (λe s' h=>?_)
 .cases fin with
  |done f=>
   obtain⟨e,h⟩:=h;cases e;exact a0 _ h
  |again c'=>exact⟨h.1,abG h.2 λr q Z=>by obtain⟨rfl,h⟩:=Z;exact a0 _ h⟩
 .exact absurd h.1 (by simp)
end PySem
namespace Jb
open PySem PySem.Spec PyProof.Rows L2
theorem Hf:∀{xs:List V}{us:List Value},us.length=xs.length->(∀(i:Nat)(x:V)(u:Value),xs[i]? =ac x->us[i]? =ac u->RelV x u)->Vals xs us
 |[],[],_,_=>.nil
 |[],_::_,h,_=>by simp at h
 |_::_,[],h,_=>by simp at h
 |x::xs,u::us,h,hr=>.cons (hr 0 x u rfl rfl) (Hf (by simpa using h) λi y v h1 h2=>hr (i+1) y v (by simpa using h1) (by simpa using h2))
theorem Rq(l b:Addr)(xs ys:Array Value)(n m:Nat)(Y:Option Addr)(sl:Array (Option Value))(F:¬(!xs.isEmpty&&ab9 (xs.size+ys.size))=ag)(O:xs.size+ys.size<=Yx) :
  Meets (Builtin.«list.extend» ⟨[.ref l,.ref b],[]⟩) (λ_ R s=>s.heap.get? l=ac {cls:=.type "list",data:=.seq xs n}/\s.heap.get? b=ac {cls:=.type "tuple",dict:=Y,data:=.seq ys m,slots:=sl}/\R (.ok (.ret Z8)) {s with heap:=s.heap.update l (aa2 λx=>x++ys),toks:=s.toks}):=by
 intro prog w A R s h;obtain⟨V,g,d,tk,os⟩:=s;obtain⟨Z,U,h⟩:=h;have I:=adK;have f3:=AutoSeq1.sub_list_list;have B:=AutoSeq1.sub_tuple_list;have q:=AutoSeq1.sub_list_tuple;have hz:xs.size<=Yx:=by omega
 have z:(xs++ys).size<=Yx+1:=by rw[Array.size_append];omega
 wp_walk using(wpAny_updateSeq Z rfl (hz:=hz) (_hz':=z)),wpAny_loadPart' Z,wpAny_loadPart' U
 exact h
def RJ:V->List V->Hp->VK->Prop:=λx O H Q=>∃l b xs zs,x= .ref l/\O=[.ref b]/\H l=ac (.lst xs)/\H b=ac (.tup zs)/\xs.length+zs.length<=Yx/\Q .non (upd H l (.lst (xs++zs)))
theorem P_{X:Cx}:MtM X "list.extend" RJ:=by
 intro pins s σ H x O v us Q I rx U h;obtain⟨l,b,xs,zs,rfl,rfl,Y,hB,hz,q⟩:=h;cases rx;obtain⟨u,rfl,ru⟩:=U.one;cases ru;obtain⟨z,its,n,r,Z,e⟩:=I.lstM Y;obtain⟨z2,a0,r2,⟨oc,od,oa,os⟩,e2,B,m,hd,_⟩:=(show cG X.prog X.w H s.heap b (.tup zs)from I.hok b _ hB);simp only at B hd;subst B hd;have V:=r2.length;have hsz:its.toArray.size+a0.toArray.size<=Yx:=by rw[List.size_toArray,List.size_toArray];omega
 refine adw F.slot_list_extend ⟨_,e,rfl⟩ F.entry_list_extend (F.args_list_extend_2 _ _) (Rq l b its.toArray a0.toArray n m od os (by rw[K8 hsz,afy];exact Zi) hsz) ⟨e,e2,?_⟩;refine⟨.non,_,I.lset (its':=its++a0) Y e (by simp) (r.append r2) ?_,rfl,q⟩;rw[Zd];omega
def jA:D->List D->Option (D×D)
 |.lst .own ds,[.tup es]=>(strsOf es).bind λ_=>if ds.length+es.length<1000000 then ac (.lst .own (ds++es),.non)else af
 |_,_=>af
variable{G:Gc}
theorem Fd:MuV G RJ jA:=λd es d' res h v xs H W M N r re nd hM B c1 c2 Q q=>by
 unfold jA at h;split at h
 .rename_i ds es
  cases hs:strsOf es with
  |none=>rw[hs]at h;cases h
  |some ss=>
   rw[hs,gD]at h;split at h
   .rename_i hl
    cases h;rw[Rep]at r;obtain⟨a,ys,M0,rfl,Z,Y,rfl⟩:=r;obtain⟨x,rfl,F⟩:=re.inv1;rw[Rep]at F;obtain⟨b,zs,rfl,U,hz⟩:=F;have hd:=nM hs;subst hd;have hv:=pQ hz;subst hv;obtain⟨O,k2⟩:=kO B;have a0:=List.nodup_append.mp nd;have hn:=Y5.mp a0.1;simp![aB,aC,az,au,YS]at c1 c2;refine⟨a,b,ys,ss.map V.str,rfl,rfl,Y,U,aa3 (vD (by rw[←Z.length,Yt];simpa using hl)),q .non _ (a::M0) [] (λb u U n=>by rw[aK (show b≠a from λz=>n (by rw[z];simp))];exact U) (λW' I=>⟨?_,nu⟩) ?_ (λb U=>?_) (m_ (by rw[iH];simp[O,c1]) (by rw[iG];simp[k2,c2])) rfl⟩
    .rw[Rep]
     refine⟨a,ys++ss.map V.str,M0,rfl,?_,aQ,rfl⟩;have:=(Ao Z O k2 hn.1 I).append (mj ss);rwa[Za]at this
    .rw[Za]
     exact a0.1
    .rw[Za]at U
     exact .inl U
   .cases h
 .cases h
variable{X:ι->Cx}
theorem Gx:MuB X G "list" "list.extend" jA:=⟨_,λc=>P_,Fd,EY rfl λd es q e=>by
 unfold jA at e;split at e
 .exact⟨_,_,rfl⟩
 .cases e⟩
def mkS:Mk->Mk
 |.frz=>.scr
 |m=>m
mutual
noncomputable def toS:D->D
 |.tup ds=>.tup (oR ds)
 |.lst m ds=>.lst m (oR ds)
 |.dct m ks ds=>.dct (mkS m) ks (oR ds)
 |.ins m c fs ds=>.ins m c fs (oR ds)
 |d=>d
noncomputable def oR:List D->List D
 |[]=>[]
 |d::r=>toS d::oR r
end
mutual
theorem xn:∀{d:D},az d=ag->az (toS d)=ag
 |.non,_=>rfl|.bl _,_=>rfl|.int _,_=>rfl|.str _,_=>rfl|.ty _,_=>rfl
 |.tup ds,h=>by simp[az]at h;simp[toS,az,jz h]
 |.lst m ds,h=>by simp[az]at h;simp[toS,az,jz h.2,h.1]
 |.dct m _ ds,h=>by simp[az]at h;cases m<;>simp[toS,az,jz h.2,mkS]<;>simp at h
 |.ins m _ _ ds,h=>by simp[az]at h;simp[toS,az,jz h.2,h.1]
theorem jz:∀{ds:List D},aB ds=ag->aB (oR ds)=ag
 |[],_=>rfl
 |d::r,h=>by simp[aB]at h;simp[oR,aB,xn h.1,jz h.2]
end
mutual
theorem wX:∀{d:D},au d=ag->au (toS d)=ag
 |.non,_=>rfl|.bl _,_=>rfl|.int _,_=>rfl|.str _,_=>rfl|.ty _,_=>rfl
 |.tup ds,h=>by simp[au]at h;simp[toS,au,jx h]
 |.lst m ds,h=>by simp[au]at h;simp[toS,au,jx h.2,h.1]
 |.dct m _ ds,h=>by simp[au]at h;cases m<;>simp[toS,au,jx h.2,mkS]<;>simp at h
 |.ins m _ _ ds,h=>by simp[au]at h;simp[toS,au,jx h.2,h.1]
theorem jx:∀{ds:List D},aC ds=ag->aC (oR ds)=ag
 |[],_=>rfl
 |d::r,h=>by simp[aC]at h;simp[oR,aC,wX h.1,jx h.2]
end
variable{d:D}
theorem JP(h:clean d=ag):clean (toS d)=ag:=by
 rw[clean,YS]at h⊢;exact⟨xn h.1,wX h.2⟩
variable{H:Hp}{W:Wn}{kv:List (Key×V)}
mutual
theorem Rep.toS(Y:H a=ac (.dK kv)):∀{d:D}{v:V}{L:List Addr},Rep G H W d v L->az d=ag->au d=ag->a∉L->Rep G (upd H a (.frz o (.dK kv))) W (toS d) v L
 |.non,v,L,h,_,_,_=>by rw[Rep]at h;simp[Jb.toS,Rep,h]
 |.bl _,v,L,h,_,_,_=>by rw[Rep]at h;simp[Jb.toS,Rep,h]
 |.int _,v,L,h,_,_,_=>by rw[Rep]at h;simp[Jb.toS,Rep,h]
 |.str _,v,L,h,_,_,_=>by rw[Rep]at h;simp[Jb.toS,Rep,h]
 |.ty _,v,L,h,_,_,_=>by rw[Rep]at h;simp[Jb.toS,Rep,h]
 |.tup ds,v,L,h,n,m,q=>by
  rw[Rep]at h;rw[Jb.toS,Rep];obtain⟨b,xs,rfl,U,Z⟩:=h;exact⟨b,xs,rfl,(iz Y).t b xs U,aG.toS Y Z (by simpa[az]using n) (by simpa[au]using m) q⟩
 |.lst k ds,v,L,h,n,m,q=>by
  rw[Rep]at h;rw[Jb.toS,Rep];obtain⟨b,xs,M,rfl,Z,hs⟩:=h;simp[az]at n;simp[au]at m;exact⟨b,xs,M,rfl,aG.toS Y Z n.2 m.2 λz=>q (hs.sub.subset z),hs.chg ((iz Y).r b _ (λ_ _ z=>by cases z)) λ_=>(iz Y).l b xs⟩
 |.dct k ks ds,v,L,h,n,m,q=>by
  rw[Rep]at h;rw[Jb.toS,Rep];obtain⟨b,xs,M,rfl,O,Z,hs⟩:=h;simp[az]at n;simp[au]at m;refine⟨b,xs,M,rfl,O,aG.toS Y Z n.2 m.2 λz=>q (hs.sub.subset z),?_⟩;have Z:=(iz (ob:=o) Y).r b (.dK xs) (λ_ _ z=>by cases z);cases k with
  |own=>exact⟨by rw[aK (λz=>q (by rw[hs.2,z];simp))];exact hs.1,hs.2⟩
  |frz=>exact⟨.inl ⟨Z (.inl hs.1),hs.2.1⟩,hs.2.2⟩
  |brw=>exact absurd rfl n.1
  |bro=>exact absurd rfl m.1
  |scr=>exact⟨hs.1.imp (λz=>⟨Z z.1,z.2⟩) id,hs.2⟩
 |.ins k c fs ds,v,L,h,n,m,q=>by
  rw[Rep]at h;rw[Jb.toS,Rep];obtain⟨b,C,dx,xs,M,rfl,F,O,Z,hs⟩:=h;simp[az]at n;simp[au]at m;exact⟨b,C,dx,xs,M,rfl,F,O,aG.toS Y Z n.2 m.2 λz=>q (hs.sub.subset z),hs.chg ((iz Y).r b _ (λ_ _ z=>by cases z)) λ_=>(iz Y).i b C dx xs⟩
theorem aG.toS(Y:H a=ac (.dK kv)):∀{ds:List D}{O:List V}{L:List Addr},aG G H W ds O L->aB ds=ag->aC ds=ag->a∉L->aG G (upd H a (.frz o (.dK kv))) W (oR ds) O L
 |[],O,L,h,_,_,_=>by rw[oR];rw[aG]at h⊢;exact h
 |d::r,O,L,h,n,m,q=>by
  obtain⟨x,ys,M,M',rfl,rfl,h1,h2⟩:=h.inv;simp[aB]at n;simp[aC]at m;rw[oR];exact .cons (Rep.toS Y h1 n.1 m.1 λz=>q (Yv _ z)) (aG.toS Y h2 n.2 m.2 λz=>q (Yn _ z))
end
def xY(j:Nat)(tg:D->En->Option En)(body:En->Option Fl):En->Option Fl:=λρ=>match ρ[j]? with
 |some (ac (.dct .frz ks _))=>match forL tg body (ks.map kD) (ρ.map (aew toS))with
  |some (.nx ρ')=>ac (.nx ρ')
  |_=>af
 |_=>af
def W_(j:Nat)(z:TS):TS:=λE σ H=>∃a kvs,σ[j]? =ac (ac (.ref a))/\H a=ac (.dK kvs)/\∀ob,z {nx:=λF H'=>H' a=ac (.frz ob (.dK kvs))/\E.nx F (upd H' a (.dK kvs)),bk:=λ_ _=>False,ct:=λ_ _=>False,rt:=λ_ _=>False} σ (upd H a (.frz ob (.dK kvs)))
theorem Ua{X:Cx}{st:Stmt}{z:TS}(h:PS X st z):PS X st (W_ j z):=by
 intro pins s σ H D I B;obtain⟨a,kvs,hs,Y,k⟩:=B;obtain⟨ob,V,U⟩:=xF I Y;refine thn (h pins s σ _ _ V (k ob)) λf Z q=>?_;cases f with
 |next=>obtain⟨F,H',O,e,q⟩:=q;exact⟨F,_,xj O e U,q⟩
 |brk=>obtain⟨_,_,_,q⟩:=q;exact q.elim
 |cont=>obtain⟨_,_,_,q⟩:=q;exact q.elim
 |ret u=>obtain⟨_,_,_,_,_,q⟩:=q;exact q.elim
theorem Ez{kvs:List (Key×V)}:RfI G ob (wiF a o kvs) (λ_=>ac (ag,(kvs.map (·.1)).map kD)):=λρ b items e σ H W I w R q F=>by
 cases e;have Y:W.free a:=by
  have O:¬(W.n a∨W.s a∨W.o a):=λz=>by
   obtain⟨u,h1,h2⟩:=w a z;rw[F]at h1;cases h1;cases h2
  exact⟨λz=>O (.inl z),λz=>O (.inr (.inl z)),λz=>O (.inr (.inr z))⟩
 refine q _ H (Same.refl _) ⟨λi d e H2 Z l=>?_,λi d e H2 Z l x B y=>?_,λH2 Z l=>?_⟩
 .have u:Evo H H2 W Z:=by simpa[LtB]using l
  exact⟨(u.k a _ F Y).1,by have:=(List.getElem?_eq_some_iff.mp e).1;simpa using this⟩
 .obtain⟨rfl,p,hp,rfl⟩:=y
  have:kD p.1=d:=by simpa[hp]using e
  subst this;refine⟨Same.refl _,?_⟩;obtain⟨k,_⟩:=p;cases k<;>· show Rep _ _ _ (kD _) (kV _) _;simp![kD,kV];rw[Rep];exact⟨rfl,rfl⟩
 .have u:Evo H H2 W Z:=by simpa[LtB]using l
  exact⟨(u.k a _ F Y).1,by simp⟩
variable{P:Nat->Bool}{g:TG}{body:En->Option Fl}
theorem Ld{tb:TS}{tg:D->En->Option En}(hg:RfG G ob P g tg)(U:RfS G ob P tb body):RfS G ob P (W_ j (KD (Gd (Ab j)) g tb)) (xY j tg body):=λρ r e σ H S Fr s E q=>by
 unfold xY at e;split at e
 .rename_i ks ds hj
  split at e
  .rename_i ρ' he
   cases e;obtain⟨v,B,a1,a6⟩:=s.sl j _ hj;rw[Rep]at a1;obtain⟨a,kvs,M,rfl,⟨rfl,a5⟩,Z,Y,V,rfl,a4⟩:=a1;refine⟨a,kvs,B,Y,λo=>?_⟩;have nS:∀i,a∉S i:=λi z=>by
    cases I:ob i with
    |false=>exact V.2.1 ⟨i,I,z⟩
    |true=>exact V.2.2 ⟨i,I,z⟩
   have s':Sta G (upd H a (.frz o (.dK kvs))) ob (ρ.map (aew toS)) σ S Fr:={
    len:=by rw[Yt];exact s.len
    sl:=λi d e=>by
     rw[List.getElem?_map]at e;cases h5:ρ[i]? with
     |none=>rw[h5]at e;cases e
     |some x=>
      rw[h5]at e;cases x with
      |none=>cases e
      |some d1=>
       cases e;obtain⟨w,h6,h7,h8⟩:=s.sl i d1 h5;have a2:=h8;rw[clean,YS]at a2;exact⟨w,h6,h7.toS Y a2.1 a2.2 (nS i),JP h8⟩
    em:=λi h=>s.em i λd z=>h (toS d) (by rw[List.getElem?_map,z];rfl)
    nd:=s.nd
    dj:=s.dj
    fdj:=s.fdj
    fdm:=λb U=>by
     obtain⟨u,h1,h2⟩:=s.fdm b U;exact⟨u,by rw[aK (λz:b=a=>V.1 (by subst z;exact U))];exact h1,h2⟩}
   have a3:=Hg (P:=P) (Ez (G:=G) (ob:=ob) (a:=a) (o:=o) (kvs:=kvs)) hg U (ρ.map (aew toS)) (.nx ρ') (by unfold gO;simpa using he) σ (upd H a (.frz o (.dK kvs))) S Fr s' {nx:=λF H'=>H' a=ac (.frz o (.dK kvs))/\E.nx F (upd H' a (.dK kvs)),bk:=λ_ _=>False,ct:=λ_ _=>False,rt:=λ_ _=>False} (λσ2 H2 S2 O m2=>by
    have h9:H2 a=ac (.frz o (.dK kvs)):=m2.kp a _ aQ (λ⟨i,z⟩=>nS i z) (by simp);refine⟨h9,q σ2 _ S2 ?_ ?_⟩
    .exact{
      len:=O.len
      sl:=λi d e=>let⟨w,h6,h7,h8⟩:=O.sl i d e;⟨w,h6,h7.chg (De h9) (λz=>by cases z),h8⟩
      em:=O.em
      nd:=O.nd
      dj:=O.dj
      fdj:=O.fdj
      fdm:=λb U=>by
       obtain⟨u,h1,h2⟩:=O.fdm b U;exact⟨u,by rw[aK (λz:b=a=>V.1 (by subst z;exact U))];exact h1,h2⟩}
    .exact{
      kp:=λb u h1 h2 h3=>by
       by_cases a0:b=a
       .subst a0;rw[Y]at h1;cases h1;exact aQ
       .rw[aK a0];exact m2.kp b u (by rw[aK a0];exact h1) h2 h3
      gr:=λi b z=>(m2.gr i b z).imp id (Or.imp id λz=>by
       by_cases a0:b=a
       .subst a0;rw[aQ]at z;cases z
       .rwa[aK a0]at z)
      pr:=m2.pr})
   exact⟨.ref a,B,a,o,kvs,rfl,aQ,a3 aQ⟩
  .cases e
 .cases e
theorem Oc(j:Nat){body:List Stmt}{g:D->En->Option En}{f:En->Option Fl}(V:∀c,acH (model (X c).prog (X c).w) (X c).A (X c).env (X c).xe)(B:∀c,(X c).calm=ag)(F:PVG X G ob P tg g)(U:j6 X G ob P body f)
  (z:∀c,(X c).N[j]? =ac y:=by intro _;rfl) (q:∀c,Vis (X c).env.scope y:=by intro _;first|exact aab rfl|exact ZC (aab rfl)|exact ZC (ZC rfl)) (hd:(y==("__debug__":Str))=ae:=by decide) (I:(y==("__classdict__":Str))=ae:=by decide)
  (hs:∀c,∀x,ZL (.Name y ypos) (X c).env x=pure x:=by intro _;intro _;rfl):PVS X G ob P (.For tg (.Name y ypos) body [] pos) (xY j g f):=
 let⟨_,a1,a2⟩:=F.ex;let⟨_,b1,b2⟩:=U.ex
 ⟨_,λc=>Ua (Bg (V c) (B c) (Eb (rH (z c) (q c) hd I)) (a1 c) (b1 c) (hs c)),Ld a2 b2⟩
section
variable{prog:Program}{w:World}{K:Type}[DecidableEq K]{knd:KeyKind prog w K}{A:Around}{E:Value->Shared->Prop}{s:Shared}
theorem Js{d:Addr}{kvs:List (K×Value)}{k:K}{q v:Value}{Q:Value->Ym->Prop}(F:knd.is k q=ag)(hm:s.heap.DictOf knd d kvs)
  (h1:∀x,aa_ kvs k=ac x->Q x {s with toks:=s.toks+1})
  (h2:aa_ kvs k=af->∀h',h'.DictOf knd d (aee kvs k v)->aaO d s.heap h'->Q v {s with heap:=h',toks:=s.toks+1})
  (hsz:kvs.length<=Yx) :
  wpAny 1.16 A (aeq d q v) Q E s:=by
 have a5:=hm.mapOf;obtain⟨o,es,ep,I,B,hd,O,V,hn⟩:=hm;have e1:=V.length;have e2:es.toList.length=es.size:=by simp
 have a4:es.size<=Yx:=by omega
 have hf:∀x,findBy knd.is es x=aa_ kvs x:=λx=>by
  rw[←V.find x];obtain⟨l⟩:=es;simp[findBy]
 unfold aeq
 try with_reducible refine aas ?_
 refine W2 (knd.pyHash F ?_);refine W2 (wpAny_dictFind_of (s:={s with toks:=s.toks+1}) F I hd O ?_);have a2:(es.findIdx? λe=>knd.is k e.key)=kvs.findIdx? λkv=>decide (kv.1=k):=by
  rw[←V.findIdx k];obtain⟨l⟩:=es;simp
 cases hi:es.findIdx? λe=>knd.is k e.key with
 |some i=>
  have a0:aa_ kvs k=(es[i]?).map (·.val):=by rw[←hf k,findBy_of_findIdx?,hi]
  refine W2 (wpAny_dictEntries (s:={s with toks:=s.toks+1}) I hd ?_);cases he:es[i]? with
  |none=>
   exfalso;have:=Array.findIdx?_eq_some_iff_findIdx_eq.mp hi;have z:i<es.size:=this.1;rw[Array.getElem?_eq_getElem z]at he;exact nomatch he
  |some e=>
   rw[he]at a0;exact W2 (abx (Yq (h1 e.val a0)))
 |none=>
  have a0:aa_ kvs k=af:=by rw[←hf k,findBy_of_findIdx?,hi]
  have a1:k∉kvs.map (·.1):=not_mem_of_findIdx_none (a2▸hi);have Z:¬(kvs.any λkv=>decide (kv.1=k))=ag:=by
   rw[abq];rintro⟨kv,a3,he⟩;exact a1 (Yr.mpr ⟨kv,a3,of_decide_eq_true he⟩)
  refine W2 (abx (W2 (wpAny_updateDictKeys (hz:=a4) (s:={s with toks:=s.toks+1}) I hd (Yq (h2 a0 _ ⟨_,_,ep+1,aa9 _ I (Obj.isFreed_of_dict (aex hd _)),
   B.mapDictKeys _,aex hd _,O.push F _,?_,?_⟩ (acQ ..))))))
  .rw[aee,Y4 Z]
   have:=V.append F (knd.hash k) v;obtain⟨l⟩:=es;simpa using this
  .rw[aee,Y4 Z,Zt,Zz]
   refine⟨hn,by simp,?_⟩;intro a Y b U;simp![Ys,Y_,Yz]at U;subst U;exact λe=>a1 (e▸Y)
end
def Um:V->List V->Hp->VK->Prop:=λx O H Q=>∃a kvs k y,x= .ref a/\O=[kV k,y]/\H a=ac (.dK kvs)/\kvs.length<Yx/\(∀v,iu kvs k=ac v->Q v H)/\(iu kvs k=af->Q y (upd H a (.dK (putK kvs k y))))
theorem Oq{X:Cx}:MtM X "dict.setdefault" Um:=by
 intro pins s σ H x O v us Q I rx U h;obtain⟨a,kvs,k,y,rfl,rfl,hH,Z,q1,q2⟩:=h;cases rx;obtain⟨u,r,rfl,ru,rr⟩:=U.two;obtain⟨z,hd,ps,rel,Y⟩:=w6 I.hok hH;refine ab_ F.slot_dict_setdefault Y.typeIs F.entry_dict_setdefault (F.args_dict_setdefault_3 _ _ _) (S:=λA R s'=>A=X.A/\s'=s/\∀v s2,EP X pins σ Q v s2->R (.ok (.ret v)) s2) ?_ ⟨rfl,rfl,λv s2 q=>q⟩;rintro A R s' ⟨rfl,rfl,kk⟩;unfold Builtin.«dict.setdefault»;refine W2 ?_;unfold Builtin.Dict.keyAndDefault;refine W2 (wpAny_notOrdered_dict Y.typeIs ?_);show wpAny _ _ (pure (a,u,ac r)) _ _ s';refine Yq ?_;show wpAny _ _ (if(a==aao)=ag then _ else(aeq a u r >>=_)) _ _ s';rw[Y4 (by rw[hd];exact Zi)];have hz:ps.length<=Yx:=by rw[←rel.length];exact z
 refine W2 (Js (hsz:=hz) (lL ru) Y (λx hx=>Yq ?_) λhn h' a0 hs=>Yq ?_)
 .refine kk _ _ ?_
  cases B:iu kvs k with
  |none=>
   have:=lW.none_of (o:=aa_ ps k) (by rw[←B];exact rel.val k);rw[hx]at this;cases this
  |some v0=>
   obtain⟨w',hw,V⟩:=lW.some_of (v:=v0) (o:=aa_ ps k) (by rw[←B];exact rel.val k);rw[hx]at hw;cases hw;exact⟨v0,H,I.tok _,V,q1 v0 B⟩
 .refine kk _ _ ?_
  have B:iu kvs k=af:=by
   cases B:iu kvs k with
   |none=>rfl
   |some v0=>
    obtain⟨w',hw,V⟩:=lW.some_of (v:=v0) (o:=aa_ ps k) (by rw[←B];exact rel.val k);rw[hn]at hw;cases hw
  have he:∃q,h'.get? a=ac q:=let⟨q,_,_,hq,_⟩:=a0;⟨q,hq⟩;have a1:(putK kvs k y).length<=Yx:=by have:=iV kvs k y;omega
  exact⟨y,_,nG I (by rw[hH];exact Z2) hs he (yI a1 hd (rel.put k rr) a0),rr,q2 B⟩
def Er(i:Nat)(fa:En->Option (List D))(ρ:En):Option (Nat×En):=match ρ[i]? with
 |some (ac (.dct .own ks ds))=>match fa ρ with
  |some [kd,.lst .own []]=>match cQ kd with
   |some k=>if ks.length<1000000 then(match cP ks k with
    |some j=>ac (j,ρ)
    |none=>ac (ks.length,ρ.set i (ac (.dct .own (ks++[k]) (ds++[.lst .own []])))))else af
   |none=>af
  |_=>af
 |_=>af
def Bs(i:Nat)(fa fx:En->Option (List D)):En->Option Fl:=λρ=>(Er i fa ρ).bind λp=>(fx p.2).bind λes=>(upS aX i [p.1] es p.2).map λq=>.nx q.2
theorem Ci{ks:List Key}{k:Key}(h:cP ks k=af):cP (ks++[k]) k=ac ks.length:=by
 unfold cP at *
 rw[aey,h];simp
variable{fa:En->Option (List D)}
theorem Qy{t1 t2:TA}{fx:En->Option (List D)}(h1:RfA G ob t1 fa)(h2:RfA G ob t2 fx):RfS G ob P (Ni (tBM G.K "list" qD (tBM G.K "dict" Um (Ab i) t1) t2)) (Bs i fa fx):=λρ r e σ H S Fr s E q=>by
 unfold Bs at e;cases e1:Er i fa ρ with
 |none=>simp[e1]at e
 |some p=>
  obtain⟨j,ρ1⟩:=p;cases e2:fx ρ1 with
  |none=>simp[e1,e2]at e
  |some es=>
   cases e3:upS aX i [j] es ρ1 with
   |none=>simp[e1,e2,e3]at e
   |some p=>
    obtain⟨res,B⟩:=p;have:Fl.nx B=r:=by simpa[e1,e2,e3]using e
    subst this;obtain⟨d0,d,d',g1,g2,c1,c2,g3,rfl⟩:=Gb e3;have fin:∀(v:V)(v0:V)(H1:Hp)(S1:Ad)(M:List Addr),Sta G H1 ob ρ1 σ S1 Fr->Mv P H H1 σ σ S S1 []->σ[i]? =ac (ac v0)->Foc G H1 (wn ob S1 Fr) d0 v0 (S1 i) [j] d v M->
      tyV G.K "list" v H1/\t2 σ H1 (λxs H2=>qD v xs H2 λx H'=>E.nx σ H'):=λv v0 H1 S1 M a3 m1 a0 a8=>by
     refine⟨?_,?_⟩
     .unfold aX at g3
      split at g3
      .have:=a8.r
       rw[Rep]at this;obtain⟨a,xs,M2,rfl,_,hs⟩:=this;exact .inl ⟨rfl,_,SqL.of hs.1⟩
      .cases g3
     .refine h2 ρ1 es e2 σ H1 _ a3.rel a3.wok _ λxs H2 N s2 re F nd=>?_
      have d5:Sta G H2 ob ρ1 σ S1 (plus N Fr):=a3.grow s2 λa z=>z.elim (λz=>.inr ⟨F a z,re.dom a z⟩) .inl;have up:Up H1 H2 (wn ob S1 Fr) (wn ob S1 (plus N Fr)):=Up.add s2 F;have c5:=a8.mono (.inr up) up.evo λc _ u hu=>s2 c u hu;have hF:∀a∈N,¬Fr a:=λa Y z=>by
       obtain⟨o,I,_⟩:=a3.fdm a z;rw[F a Y]at I;cases I
      refine qW uJ d5 g1 a0 g2 c5 re nd hF c1 c2 g3 λx H' R S' q1 q2 q3 q4 q5 q6 q7 q8=>q σ H' S' (q1.lessF λa z=>.inr z) (m1.trans ⟨λb u U n _=>q8 b u (s2 b u U) λz=>n ⟨i,z⟩,λk a z=>?_,.refl⟩);by_cases O:k=i
      .subst O
       rcases q6 a z with y|y|y
       .exact .inl ⟨k,y⟩
       .exact .inr (.inr (F a y))
       .exact .inr (.inr (s2.none' y))
      .rw[q5 k O]at z;exact .inl ⟨k,z⟩
    unfold Er at e1;split at e1
    .rename_i ks ds hi
     split at e1
     .rename_i kd hfa
      split at e1
      .rename_i k O
       split at e1
       .rename_i hl
        obtain⟨v0,a0,d1,d9⟩:=s.sl i _ hi;refine⟨v0,a0,?_,?_⟩
        .have:=d1
         rw[Rep]at this;obtain⟨a,kvs,M0,rfl,_,Z,Y,_⟩:=this;exact .inr (.inr (.inl ⟨rfl,.inl ⟨_,Y⟩⟩))
        .refine h1 ρ _ hfa σ H _ s.rel s.wok _ λxs H1 N s1 re F nd=>?_
         have a3:Sta G H1 ob ρ σ S (plus N Fr):=s.grow s1 λa z=>z.elim (λz=>.inr ⟨F a z,re.dom a z⟩) .inl;have a1:=a3.sl i _ hi;obtain⟨v1,c7,a1,_⟩:=a1;rw[a0]at c7;cases c7;have a7:=a1;rw[Rep]at a7;obtain⟨a,kvs,M0,rfl,⟨a6,e6⟩,Z,Y,e4⟩:=a7;obtain⟨x1,zs,N1,N2,rfl,rfl,d2,hz⟩:=re.inv;obtain⟨x2,zs,N3,N4,rfl,rfl,d8,hz⟩:=hz.inv;obtain⟨rfl,rfl⟩:=hz.inv0;have b9:=ir d2 O;subst b9;have c3:kvs.length<Yx:=vD (by rw[←a6]at hl;simpa using hl);have hF:∀a∈N1++(N3++[]),¬Fr a:=λa Y z=>by
          obtain⟨o,I,_⟩:=s.fdm a z;rw[F a Y]at I;cases I
         split at e1
         .rename_i j' hj
          cases e1;rw[hi]at g1;cases g1;have b8:Sta G H1 ob ρ σ S Fr:=a3.lessF λa z=>.inr z;obtain⟨v3,b0,b4,b6⟩:=b8.sl i _ hi;rw[a0]at b0;cases b0;have b2:ds[j]? =ac d:=by simpa[d_,kids]using g2
          obtain⟨a2,c9,x,M,b3,b1,c8,b7,a8⟩:=Foc.dct b4 b6 b2;cases b3;rw[Y]at b1;cases b1;have a4:=gj (kvs:=kvs) (k:=k) (j:=j) (by rw[a6];exact hj);rw[b7]at a4;refine⟨a,kvs,k,x2,rfl,rfl,Y,c3,λv hv=>?_,λhv=>by rw[a4]at hv;cases hv⟩;rw[a4]at hv;cases hv;exact fin x _ H1 S M b8 ⟨λb u U _ _=>s1 b u U,λk a z=>.inl ⟨k,z⟩,.refl⟩ a0 a8
         .rename_i hj
          cases e1;have a4:iu kvs k=af:=iI (by rw[a6];exact hj);refine⟨a,kvs,k,x2,rfl,rfl,Y,c3,(λv hv=>by rw[a4]at hv;cases hv),λ_=>?_⟩;have d7:dH (.dct .own ks ds) [kd,.lst .own []]=ac (.dct .own (ks++[k]) (ds++[.lst .own []]),.non):=by
           simp![dH,O,gD,hl,Y6,gV,hj]
          have d6:=qW (ob:=ob) (p:=[]) (d0:=.dct .own ks ds) (Q:=λ_ H'=>∀x,(∃kv,H' a=ac (.dK kv)/\iu kv k=ac x)->tyV G.K "list" x H'/\t2 σ H' (λxs H2=>qD x xs H2 λx H'=>E.nx σ H')) Hn a3 hi a0 rfl (Foc.nil a1) re nd hF (by cases kd<;>simp[cQ]at O<;>rfl) (by cases kd<;>simp[cQ]at O<;>rfl) d7 (λx H' R S' q1 q2 q3 q4 q5 q6 q7 q8=>?_)
          .obtain⟨i1,v1,he,h5⟩:=d6
           cases he;have c0:iu (putK kvs k x2) k=ac x2:=by
            rw[jw (by rw[a6];exact hj)];have hn:cP ((kvs++[(k,x2)]).map (·.1)) k=ac ks.length:=by
             rw[Zt,a6];exact Ci hj
            rw[gj hn,Zt,ZM (by rw[←a6];simp)];rw[←a6];simp
           rcases h5 with⟨b5,ys,n5,y5,d4,e0,c4,_⟩|⟨a5,H5,e5,g5,h5⟩
           .cases d4
            rw[Y]at c4;cases c4
           .cases e5
            rcases g5 with⟨d3,k5,f1,f2,f3,f4⟩|⟨d3,k5,b5,f1,_⟩
            .rw[Y]at f1
             cases f1;have:k5=k:=by cases k5<;>cases k<;>cases f2<;>rfl
             subst this;subst f4;exact h5 x2 ⟨_,aQ,c0⟩
            .rw[Y]at f1;cases f1
          .rintro y ⟨kv,hkv,hy⟩
           rw[Z_ (List.getElem?_eq_some_iff.mp hi).1]at g1;cases g1;have c6:Sta G H' ob (ρ.set i (ac (.dct .own (ks++[k]) (ds++[.lst .own []])))) σ S' Fr:=q1.lessF λa z=>.inr z;obtain⟨v3,b0,b4,b6⟩:=c6.sl i _ (Z_ (List.getElem?_eq_some_iff.mp hi).1);rw[a0]at b0;cases b0;have b2:(ds++[.lst .own []])[ks.length]? =ac d:=by simpa[d_,kids]using g2
           obtain⟨a2,c9,x',M,b3,b1,c8,b7,a8⟩:=Foc.dct b4 b6 b2;cases b3;rw[hkv]at b1;cases b1;have a9:=gj (kvs:=kv) (k:=k) (j:=ks.length) (by rw[c8.1];exact Ci hj);rw[b7,hy]at a9;cases a9;refine fin y _ H' S' M c6 ⟨λb u U n _=>q8 b u (s1 b u U) λz=>n ⟨i,z⟩,λk a z=>?_,.refl⟩ a0 a8;by_cases O:k=i
           .subst O
            rcases q6 a z with y|y|y
            .exact .inl ⟨k,y⟩
            .exact .inr (.inr (F a y))
            .exact .inr (.inr (s1.none' y))
           .rw[q5 k O]at z;exact .inl ⟨k,z⟩
       .cases e1
      .cases e1
     .cases e1
    .cases e1
theorem GK(i:Nat){O z a0 V:Pos}{k l x:Expr}{fx:En->Option (List D)}(Y:PVA X G ob [k,l] fa)(hx:PVA X G ob [x] fx)
  (b4:∀c,(X c).N[i]? =ac y:=by intro _;rfl) (B:∀c,Vis (X c).env.scope y:=by intro _;first|exact aab rfl|exact ZC (aab rfl)|exact ZC (ZC rfl)) (hd:(y==("__debug__":Str))=ae:=by decide) (I:(y==("__classdict__":Str))=ae:=by decide)
  (a7:∀c,abk (.Call (.Attribute (.Call (.Attribute (.Name y ypos) "setdefault" O) [k,l] [] z) "append" a0) [x] [] V) af pos.line (X c).env=pure ae:=by intro _;rfl)
  (a3:∀c,abd (.Name y ypos) "setdefault" (X c).env (eval (.Name y ypos) (X c).env)=eval (.Name y ypos) (X c).env:=by intro _;rfl)
  (U:∀c,abd (.Call (.Attribute (.Name y ypos) "setdefault" O) [k,l] [] z) "append" (X c).env (eval (.Call (.Attribute (.Name y ypos) "setdefault" O) [k,l] [] z) (X c).env)=eval (.Call (.Attribute (.Name y ypos) "setdefault" O) [k,l] [] z) (X c).env:=by intro _;rfl)
  (b3:∀c,((Z4 z (YD [k,l] (X c).env)).all (λx=>!x.1)&&(acD z (abA [] (X c).env)).all (λx=>x.1.isSome)&&decide ([k,l].length+([]:List aa0).length+(if([]:List aa0).isEmpty then 0 else 1)<30))=ag:=by intro _;rfl)
  (a5:∀c,((Z4 V (YD [x] (X c).env)).all (λx=>!x.1)&&(acD V (abA [] (X c).env)).all (λx=>x.1.isSome)&&decide ([x].length+([]:List aa0).length+(if([]:List aa0).isEmpty then 0 else 1)<30))=ag:=by intro _;rfl)
  (a9:(O.endLine==z.line)=ag:=by rfl) (a4:(a0.endLine==V.line)=ag:=by rfl)
  (Z:∀c,YD [k,l] (X c).env=(ae,eval k (X c).env)::YD [l] (X c).env:=by intro _;rfl) (a6:∀c,YD [x] (X c).env=(ae,eval x (X c).env)::YD [] (X c).env:=by intro _;rfl)
  (a8:∀c,(Z4 z (YD [l] (X c).env)).any (·.1)=ae:=by intro _;rfl) (b0:∀c,(Z4 V (YD [] (X c).env)).any (·.1)=ae:=by intro _;rfl) (q:∀c,(X c).K=G.K:=by intro _;rfl) :
  PVS X G ob P (.Expr (.Call (.Attribute (.Call (.Attribute (.Name y ypos) "setdefault" O) [k,l] [] z) "append" a0) [x] [] V) pos) (Bs i fa fx):=
 let⟨_,a1,a2⟩:=Y.ex;let⟨_,b1,b2⟩:=hx.ex
 ⟨_,λc=>(by rw[←q c];exact HS (DK ZG ZX ZZ yd (DK Z5 acY acZ Oq (rH (b4 c) (B c) hd I) (a1 c) (a3 c) (b3 c) a9 (Z c) (a8 c)) (b1 c) (U c) (a5 c) a4 (a6 c) (b0 c)) (a7 c)),Qy a2 b2⟩
theorem Ol(l b:Addr)(es a0:Array DictEntry)(ep a4:Nat)(Y z:Option Addr)(sl q:Array (Option Value))(a2:(l==aao)=ae)(a3:(b==aao)=ae)(B:a0.size=0) :
  Meets (Builtin.«dict.__ne__» ⟨[.ref l,.ref b],[]⟩) (λ_ R s=>s.heap.get? l=ac {cls:=.type "dict",dict:=Y,data:=.dict es ep,slots:=sl}/\s.heap.get? b=ac {cls:=.type "dict",dict:=z,data:=.dict a0 a4,slots:=q}/\R (.ok (.ret (.bool (es.size !=0)))) s):=by
 intro prog w A R s h;obtain⟨V,g,d,tk,os⟩:=s;obtain⟨Z,U,h⟩:=h;have f1:¬(l==aao)=ag:=by rw[a2];exact Zi
 have I:¬(b==aao)=ag:=by rw[a3];exact Zi
 have f3:isSubtype (.type "dict") (.type "dict")=pure ag:=PySem.F.sub_dict_dict
 wp_walk using PySem.AutoSeq1.wpAny_loadPart' Z,PySem.AutoSeq1.wpAny_loadPart' U
 by_cases O:es.size=0
 .rw[O]at h⊢
  rw[B];simp![aeG,afP,aaR,aaS,Nat.add_sub_cancel,Nat.div_one,List.range'_zero,List.forIn_nil]
  wp_walk using PySem.AutoSeq1.wpAny_loadPart' Z,PySem.AutoSeq1.wpAny_loadPart' U
  exact h
 .have hne:(es.size !=a0.size)=ag:=by rw[B];simpa using O
  have a1:(es.size !=0)=ag:=by simpa using O
  rw[a1]at h;rw[YH hne]
  wp_walk using PySem.AutoSeq1.wpAny_loadPart' Z,PySem.AutoSeq1.wpAny_loadPart' U
  exact h
def Yd(A:Zx):R2:=λx y H Q=>∃a b kvs,x= .ref a/\y= .ref b/\Rd H a (.dK kvs)/\Rd H b (.dK [])/\A.units<cLine/\Q (.bl (kvs.length !=0)) H
theorem TX{X:Cx}:OpR X (Zf .NotEq) (Yd X.A):=by
 intro pins s σ H x y v u Q I rx ry ⟨a,b,kvs,ex,ey,h1,h2,hu,q⟩;subst ex ey;cases rx;cases ry;obtain⟨z,hd,O,rel,o,es,ep,ho,B,a2,hk,V,hn⟩:=lK I.hok h1;obtain⟨z2,b3,b6,a3,o2,a1,a8,a5,a9,a0,b7,b1,b5⟩:=lK I.hok h2;obtain⟨cls,Y,data,sl⟩:=o;obtain⟨b4,b2,a6,a7⟩:=o2;have b0:es.size=kvs.length:=by
  have e1:=V.length;have e2:es.toList.length=es.size:=by simp
  have Z:=rel.length;omega
 have a4:a1.size=0:=by
  have e1:=b1.length;have e2:a1.toList.length=a1.size:=by simp
  have Z:=a3.length;simp at Z;omega
 obtain⟨U,c2,c3⟩:=B;obtain⟨k1,k2,k3⟩:=a9;simp only at U c2 c3 k1 k2 k3 a2 a0;subst U k1 a2 a0;refine ad9 (op:=.NotEq) ⟨_,ho,rfl⟩ ⟨_,a5,rfl⟩ F.slot_dict_ne F.entry_dict_ne (F.args_dict_ne_2 _ _) (Ol a b es a1 ep a8 Y b2 sl a7 hd b3 a4) ⟨ho,a5,?_⟩ hu;rw[b0];exact⟨(λx=>nomatch x),.bl (kvs.length !=0),H,I,rfl,q⟩
def Do(A:Zx)(s:Ym)(y x:Value)(b:Bool):Prop:=
 ∀(prog:Y7)(w:World)(E:Value->Ym->Prop)(Q:Value->Ym->Prop),Q (.bool b) s->wpAny 1.16 A (richCompare .Lt y x) Q E s
def oA(e l:Nat->Bool)(z:Bool):List Nat->Bool
 |[]=>z
 |j::r=>if e j then oA e l z r else l j
theorem Eg(l b:Addr)(items q:Array Value)(n n2:Nat)(Y a3:Option Addr)(sl a1:Array (Option Value))(e f:Nat->Bool) :
  Meets (Builtin.«tuple.__lt__» ⟨[.ref l,.ref b],[]⟩)
   (λA R s=>s.heap.get? l=ac {cls:=.type "tuple",dict:=Y,data:=.seq items n,slots:=sl}/\s.heap.get? b=ac {cls:=.type "tuple",dict:=a3,data:=.seq q n2,slots:=a1}/\
    (∀j (h1:j<items.size)(h2:j<q.size),afo A.in1 s items[j] q[j] (e j)/\(e j=ae->Do A.in1 s items[j] q[j] (f j)))/\
    R (.ok (.ret (.bool (oA e f (decide (items.size<q.size)) (Zw (min items.size q.size)))))) s):=
 .of_wp λprog w A R s h=>by
  obtain⟨V,g,d,tk,os⟩:=s;obtain⟨Z,U,O,h⟩:=h;have I:=adK;have hZ:(items.toList.zip q.toList).length=min items.size q.size:=by simp
  wp_walk using PySem.AutoSeq1.wpAny_loadPart' Z,PySem.AutoSeq1.wpAny_loadPart' U,wpAny_forIn_list _ (λrest b s'=>b.1=af/\s'=⟨V,g,d,tk,os⟩/\∃i,rest=(items.toList.zip q.toList).drop i/\
   R (.ok (.ret (.bool (oA e f (decide (items.size<q.size)) ((Zw (min items.size q.size)).drop i))))) ⟨V,g,d,tk,os⟩) _
  case turn=>
   rintro⟨y,x⟩ rest b s' ⟨a0,rfl,i,hz,B⟩;have z:i<(items.toList.zip q.toList).length:=by
    rcases aeV i (items.toList.zip q.toList).length with h'|h'
    .exact h'
    .rw[acy h']at hz;cases hz
   have hm:i<min items.size q.size:=hZ▸z;have h1:i<items.size:=YQ hm (Nat.min_le_left _ _);have h2:i<q.size:=YQ hm (Nat.min_le_right _ _);rw[abi z]at hz;injection hz with hyx hrest;have hy:y=items[i]:=by have:=congrArg Prod.fst hyx;simpa using this
   have F:x=q[i]:=by have:=congrArg Prod.snd hyx;simpa using this
   subst hy F;have hd:(Zw (min items.size q.size)).drop i=i::(Zw (min items.size q.size)).drop (i+1):=by simp[abi,hm]
   rw[hd,oA]at B;refine W2 ((O i h1 h2).1 prog w _ _ ?_);cases hy:e i with
   |true=>
    rw[hy]at B
    wp_walk
    exact⟨rfl,rfl,i+1,hrest,by simpa using B⟩
   |false=>
    rw[hy]at B;have hq:∀{E:Value->Ym->Prop}{Q:Value->Ym->Prop},Q (.bool (f i)) ⟨V,g,d,tk,os⟩->wpAny 1.16 A.in1 (richCompare .Lt items[i] q[i]) Q E ⟨V,g,d,tk,os⟩:=λ{E Q} h=>(O i h1 h2).2 hy prog w E Q h
    wp_walk using hq
    exact⟨_,rfl,by simpa using B⟩
  case fin=>
   rintro⟨b1,b2⟩ s' ⟨a0,rfl,i,hz,B⟩;simp only at a0;subst a0;have a2:min items.size q.size<=i:=by
    rcases aeV i (items.toList.zip q.toList).length with h'|h'
    .rw[abi h']at hz;cases hz
    .exact hZ▸h'
   rw[acy (by simpa using a2),oA]at B
   wp_walk
   exact⟨_,rfl,by simpa[Builtin.Tuple.tupleCompareSizes]using B⟩
  case h=>
   exact⟨rfl,rfl,0,rfl,by simpa using h⟩
theorem Do.tuples{A:Zx}{s:Ym}{l b:Addr}{q:Array Value}{e f:Nat->Bool}(Z:s.heap.IsTuple l items)(U:s.heap.IsTuple b q)(hu:A.units<cLine)
  (O:∀j (h1:j<items.size)(h2:j<q.size),afo A.in1 s items[j] q[j] (e j)/\(e j=ae->Do A.in1 s items[j] q[j] (f j))):Do A s (.ref l) (.ref b) (oA e f (decide (items.size<q.size)) (Zw (min items.size q.size))):=λprog w E Q h=>by
 obtain⟨⟨cls,Y,data,sl⟩,I,B,n,hd⟩:=id Z;obtain⟨⟨a4,z,a2,a3⟩,a1,V,n2,a0⟩:=id U;simp only at B hd V a0;subst B hd V a0;exact ad9 (op:=.Lt) ⟨_,I,rfl⟩ ⟨_,a1,rfl⟩ F.slot_tuple_lt F.entry_tuple_lt (F.args_tuple_lt_2 _ _) (Eg l b items q n n2 Y z sl a3 e f) ⟨I,a1,O,(λx=>nomatch x),h⟩ hu
def M4(p q:Int×Int):Bool:=decide (p.1<q.1)||(decide (p.1=q.1)&&decide (p.2<q.2))
def ltP:List (Int×Int)->List (Int×Int)->Bool
 |[],[]=>ae
 |[],_::_=>ag
 |_::_,[]=>ae
 |p::r,q::t=>if p=q then ltP r t else M4 p q
def TP(H:Hp)(a:Addr)(ps:List (Int×Int)):Prop:=∃xs,H a=ac (.tup xs)/\xs.length=ps.length/\∀(j:Nat)(p:Int×Int),ps[j]? =ac p->∃c,xs[j]? =ac (.ref c)/\H c=ac (.tup [.int p.1,.int p.2])
def eqX(ps Y:List (Int×Int))(j:Nat):Bool:=match ps[j]?,Y[j]? with
 |some p,ac q=>decide (p=q)
 |_,_=>ae
def ltX(ps Y:List (Int×Int))(j:Nat):Bool:=match ps[j]?,Y[j]? with
 |some p,ac q=>M4 p q
 |_,_=>ae
theorem Dz{e l e' l':Nat->Bool}{z:Bool}(g:Nat->Nat)(h1:∀j,e (g j)=e' j)(h2:∀j,l (g j)=l' j):∀r:List Nat,oA e l z (r.map g)=oA e' l' z r
 |[]=>rfl
 |j::r=>by simp![Ys,oA,h1,h2,Dz g h1 h2 r]
theorem CW:∀ps Y:List (Int×Int),oA (eqX ps Y) (ltX ps Y) (decide (ps.length<Y.length)) (Zw (min ps.length Y.length))=ltP ps Y
 |[],[]=>rfl
 |[],q::t=>by simp[oA,ltP]
 |p::r,[]=>by simp[oA,ltP]
 |p::r,q::t=>by
  have I:=CW r t;rw[Yy,Yy,Nat.succ_min_succ,acv,oA,Dz (e':=eqX r t) (l':=ltX r t) Nat.succ (λj=>rfl) (λj=>rfl),ltP];rw[show decide (r.length+1<t.length+1)=decide (r.length<t.length)by simp,I];by_cases h:p=q
  .simp[eqX,h]
  .simp[eqX,ltX,h]
variable{X:Cx}{σ:L2.St}
theorem PL(I:Inv X pins σ H s){c F:Addr}{p q:Int×Int}(h1:H c=ac (.tup [.int p.1,.int p.2]))(h2:H F=ac (.tup [.int q.1,.int q.2]))(hz:A.units<cLine):Do A s (.ref c) (.ref F) (M4 p q):=by
 obtain⟨z,B,p1,_⟩:=I.tuple (SqT.of h1);obtain⟨O,U,p2,_⟩:=I.tuple (SqT.of h2);obtain⟨u1,u2,rfl,⟨t1,rfl⟩,⟨Z,rfl⟩⟩:=B.two;obtain⟨v1,v2,rfl,⟨w1,rfl⟩,⟨w2,rfl⟩⟩:=U.two;have:=Do.tuples (A:=A) (e:=λj=>if j=0 then p.1==q.1 else p.2==q.2) (f:=λj=>if j=0 then decide (p.1<q.1)else decide (p.2<q.2)) p1 p2 hz (λj h1 h2=>by
  have V:j=0∨j=1:=by
   have:j<2:=h1;omega
  rcases V with rfl|rfl
  .exact⟨adL _ _ _ _,λ_ prog w E Q h=>lt_int h⟩
  .exact⟨adL _ _ _ _,λ_ prog w E Q h=>lt_int h⟩)
 have e:oA (λj=>if j=0 then p.1==q.1 else p.2==q.2) (λj=>if j=0 then decide (p.1<q.1)else decide (p.2<q.2)) (decide (2<2)) (Zw (min 2 2))=M4 p q:=by
  show oA _ _ _ [0,1]=_;simp![oA,M4];by_cases Y:p.1=q.1
  .by_cases hb:p.2=q.2
   .simp[Y,hb]
   .simp[Y,hb]
  .simp[Y]
 rw[←e];exact this
theorem Xv(I:Inv X pins σ H s){b:Addr}{ps qs:List (Int×Int)}(h1:TP H a ps)(h2:TP H b qs)(hz:A.units+1<cLine):Do A s (.ref a) (.ref b) (ltP ps qs):=by
 obtain⟨xs,Y,Z,F⟩:=h1;obtain⟨ys,U,a3,hy⟩:=h2;obtain⟨z,a2,p1,_⟩:=I.tuple (SqT.of Y);obtain⟨O,a1,p2,_⟩:=I.tuple (SqT.of U);have l1:=a2.length;have l2:=a1.length;rw[←CW];have:=Do.tuples (A:=A) (e:=eqX ps qs) (f:=ltX ps qs) p1 p2 1.10 (λj h1 h2=>by
  rw[List.size_toArray]at h1 h2;obtain⟨c,B,q⟩:=F j ps[j] (by rw[Yo]);obtain⟨c',a4,a0⟩:=hy j qs[j] (by rw[Yo]);obtain⟨u,hu,ru⟩:=a2.get B;obtain⟨u',a6,a7⟩:=a1.get a4;cases ru;cases a7;have e1:z.toArray[j]'(by simpa using h1)= .ref c:=by simpa using(List.getElem?_eq_some_iff.mp hu).2
  have e2:O.toArray[j]'(by simpa using h2)= .ref c':=by simpa using(List.getElem?_eq_some_iff.mp a6).2
  have a8:ps[j]? =ac ps[j]:=Yo _;have a5:qs[j]? =ac qs[j]:=Yo _;rw[e1,e2];simp![eqX,ltX,a8,a5];refine⟨?_,λ_=>PL I q a0 (show A.units+1<cLine from hz)⟩;have hB:∀{c:Addr}{p:Int×Int},H c=ac (.tup [.int p.1,.int p.2])->Brs X.K H (.tup [.int p.1,.int p.2]) (.ref c):=λ{c p} h=>by
   simp![Brs,jg];exact⟨c,_,rfl,SqT.of h,_,_,rfl,rfl,_,_,rfl,rfl,rfl⟩
  have k:=Ei (A:=A.in1) I (show A.units+1<cLine from hz) (d:=.tup [.int ps[j].1,.int ps[j].2]) (e:=.tup [.int qs[j].1,.int qs[j].2]) ⟨_,_,rfl,rfl,λp V=>by
   simp at V;rcases V with rfl|rfl
   .exact Sc.int _ _
   .exact Sc.int _ _⟩ (hB q) (hB a0) (v':=.ref c) (u':=.ref c') rfl rfl
  have e3:eqD (.tup [.int ps[j].1,.int ps[j].2]) (.tup [.int qs[j].1,.int qs[j].2])=decide (ps[j]=qs[j]):=by
   simp![eqD,eqL,adk];rw[aap];simp[Prod.ext_iff]
  rw[←e3];exact k)
 rw[List.size_toArray,List.size_toArray,←l1,←l2,Z,a3]at this;exact this
def XJ(A:Zx):R2:=λx y H Q=>∃a b ps Y,x= .ref a/\y= .ref b/\TP H a ps/\TP H b Y/\A.units+1<cLine/\Q (.bl (ltP ps Y)) H
theorem Vq:OpR X (Zf .Lt) (XJ X.A):=by
 intro pins s σ H x y v u Q I rx B ⟨a,b,ps,Y,ex,V,h1,h2,hu,q⟩;subst ex V;cases rx;cases B;exact Xv I h1 h2 hu _ _ _ _ ⟨.bl (ltP ps Y),H,I,rfl,q⟩
def uP(O F:Str)(i:Nat)(n:Int):En->Option Fl:=λρ=>match ρ[i]? with
 |some (ac d)=>ac (.ret (.dct .own [.inr O,.inr F] [d,.int n]) (ρ.set i af))
 |_=>af
variable{n:Int}
theorem H_{k1 F:Str}(O:k1≠F):RfS G ob P (Qp (Kw [(tC (.str k1),Ab i),(tC (.str F),tC (.int n))])) (uP k1 F i n):=λρ r e σ H S Fr s E q=>by
 unfold uP at e;split at e
 .rename_i d h1
  cases e;obtain⟨v,a1,B,a3,a4⟩:=s.move h1;have hj:∀k a,a∈eY S i [] k->a∈S k:=λk a z=>(cu z).elim (λz=>by cases z.2) λz=>z.2;have a0:=(by simpa[clean]using B:az d=ag/\au d=ag);intro p V;have a5:([YM k1,YM F]:List Key).Nodup:=by simp[O]
  refine⟨v,a1,aQ,[(.inr k1,v),(.inr F,.int n)],rfl,(show 2<=15 by decide),?_⟩;rw[oZ (by simpa using a5),List.nil_append];have a6:p∉S i:=λz=>by obtain⟨o,I,_⟩:=s.mu z;rw[V]at I;cases I
  have sm:Same H (upd (upd H p (.dK [])) p (.dK [(.inr k1,v),(.inr F,.int n)])):=λb u U=>by
   have Z:b≠p:=λz=>by rw[z,V]at U;cases U
   rw[aK Z,aK Z];exact U
  refine q (.ref p) σ _ (p::S i) (eY S i []) (a3.grow sm λa Y=>?_) ?_ ?_ (Y5.mpr ⟨a6,s.nd i⟩) (λa Y=>?_) ⟨λb u h _ _=>sm b u h,λk a z=>.inl ⟨k,hj k a z⟩,.refl⟩
  .rcases Y with z|z
   .rcases Yu.mp z with z|z
    .exact .inr ⟨by rw[z];exact V,⟨_,by rw[z];exact aQ,rfl⟩⟩
    .exact .inl (.inl z)
   .exact .inl (.inr z)
  .rw[Rep]
   refine⟨p,_,S i,rfl,⟨rfl,a5⟩,?_,aQ,rfl⟩;have ev:Evo H (upd (upd H p (.dK [])) p (.dK [(.inr k1,v),(.inr F,.int n)])) (wn ob (eY S i []) (plus (S i) Fr)) (wn ob (eY S i []) (plus (p::S i) Fr)):=⟨λb u h f=>⟨sm b u h,⟨λz=>by
    rcases z with z|z
    .rcases Yu.mp z with z|z
     .rw[z,V]at h;cases h
     .exact f.1 (.inl z)
    .exact f.1 (.inr z),f.2⟩⟩,λb xs h=>sm b _ h⟩
   have:=aG.cons (a4.mono ev (.inl a0.1) (.inl a0.2) λc _ u e=>sm c u e) (aG.one (show Rep G _ _ (.int n) (.int n) []by rw[Rep];exact⟨rfl,rfl⟩));rw[Za]at this;exact this
  .simp[clean,az,au,aB,aC,a0.1,a0.2]
  .rcases Yu.mp Y with z|z
   .rw[z];exact .inr V
   .exact .inl ⟨i,z⟩
 .cases e
variable{X:ι->Cx}
theorem Iu(i:Nat){Y F:Str}{q V U:Pos}{j1 j2 j3}(O:Y≠F:=by decide)(z:∀c,(X c).N[i]? =ac x:=by intro _;rfl)(B:∀c,Vis (X c).env.scope x:=by intro _;first|exact aab rfl|exact ZC (aab rfl)|exact ZC (ZC rfl))(hd:1.21=ae:=by decide)(I:(x==("__classdict__":Str))=ae:=by decide) :
  PVS X G ob P (.Return (ac (.Dict [ac (.Constant (.str Y) j1 p1),ac (.Constant (.str F) j2 p2)] [.Name x q,.Constant (.int n) j3 V] U)) pos) (uP Y F i n):=
 ⟨_,λc=>zT (Hh (uD FZ (rH (z c) (B c) hd I) (uD FZ J7 G9)) rfl rfl (by simp) (show 2<=15 by decide)),H_ O⟩
def Lw(x y:D):Option D:=match x,y with
 |.dct _ ks _,.dct _ [] _=>ac (.bl (ks.length !=0))
 |x,y=>gNe x y
def prD:D->Option (Int×Int)
 |.tup [.int i,.int j]=>ac (i,j)
 |_=>af
def wU(x y:D):Option D:=match x,y with
 |.tup a,.tup b=>(match a.mapM prD,b.mapM prD with
  |some ps,ac qs=>ac (.bl (ltP ps qs))
  |_,_=>af)
 |x,y=>gLt x y
theorem Bf:∀{ds:List D}{xs:List V}{L:List Addr}{ps:List (Int×Int)},aG G H W ds xs L->ds.mapM prD=ac ps->xs.length=ps.length/\∀(j:Nat)(p:Int×Int),ps[j]? =ac p->∃c,xs[j]? =ac (.ref c)/\H c=ac (.tup [.int p.1,.int p.2])
 |[],xs,L,ps,h,e=>by
  obtain⟨rfl,rfl⟩:=h.inv0;simp at e;subst e;exact⟨rfl,λj p z=>by simp at z⟩
 |d::r,xs,L,ps,h,e=>by
  obtain⟨x,ys,M,M',rfl,rfl,h1,h2⟩:=h.inv;rw[aef]at e;cases hp:prD d with
  |none=>rw[hp]at e;cases e
  |some p0=>
   cases Z:r.mapM prD with
   |none=>rw[hp,Z]at e;cases e
   |some a0=>
    rw[hp,Z]at e;cases e;obtain⟨l,q⟩:=Bf h2 Z;refine⟨by simp[l],λj p z=>?_⟩;cases j with
    |zero=>
     cases z;unfold prD at hp;split at hp
     .cases hp
      rw[Rep]at h1;obtain⟨a,zs,rfl,Y,hz⟩:=h1;obtain⟨B,zs,U,N2,rfl,_,O,hz⟩:=hz.inv;obtain⟨F,zs,N3,N4,rfl,_,I,hz⟩:=hz.inv;obtain⟨rfl,_⟩:=hz.inv0;rw[Rep]at O I;obtain⟨rfl,_⟩:=O;obtain⟨rfl,_⟩:=I;exact⟨a,rfl,Y⟩
     .cases hp
    |succ j=>exact q j p (by simpa using z)
theorem Vi(A:Zx)(V:∀c,(X c).A=A)(hu:A.units+64<cLine)(hK:∀c,(X c).K=G.K:=by intro _;rfl):OpB X G (Zf .NotEq) Lw:=by
 obtain⟨r,h1,h2⟩:=(yq (X:=X) (G:=G) A V hu hK).ex;refine⟨_,λc=>OpR.or (h1 c) (by have:=@TX (X c);rw[V c]at this;exact this),λdx F d e x y H W I Y rx B nd hn w Q q=>?_⟩;unfold Lw at e;split at e
 .cases e
  rw[Rep]at rx B;obtain⟨a,kvs,M,rfl,O,Z,hs⟩:=rx;obtain⟨b,a0,M2,rfl,U,a2,a1⟩:=B;have e0:a0=[]:=by simpa using U.1
  subst e0;refine .inr ⟨a,b,kvs,rfl,rfl,hs.rdD,a1.rdD,by omega,?_⟩;have z:=congrArg aaF O.1;rw[Yt]at z;rw[z];exact q.scal λ_=>eZ
 .exact .inl (h2 dx F d e x y H W I Y rx B nd hn w Q q)
theorem UJ(A:Zx)(V:∀c,(X c).A=A)(hu:A.units+64<cLine):OpB X G (Zf .Lt) wU:=by
 obtain⟨r,h1,h2⟩:=(HQ (X:=X) (G:=G)).ex;refine⟨_,λc=>OpR.or (h1 c) (by have:=@Vq (X c);rw[V c]at this;exact this),λdx F d e x y H W I Ly rx B nd hn w Q q=>?_⟩;unfold wU at e;split at e
 .split at e
  .rename_i ps qs h5 h6
   cases e;rw[Rep]at rx B;obtain⟨a,xs,rfl,Y,Z⟩:=rx;obtain⟨b,ys,rfl,U,a0⟩:=B;obtain⟨l1,l2⟩:=Bf Z h5;obtain⟨z,O⟩:=Bf a0 h6;exact .inr ⟨a,b,ps,qs,rfl,rfl,⟨xs,Y,l1,l2⟩,⟨ys,U,z,O⟩,by omega,q.scal λ_=>eZ⟩
  .cases e
 .exact .inl (h2 dx F d e x y H W I Ly rx B nd hn w Q q)
def tyF(x:V)(H:Hp):Prop:=∃p kvs,x= .ref p/\Rd H p (.dK kvs)
def Wv(r:V->List V->Hp->VK->Prop)(to:TE)(t:TA):TE:=λσ H Q=>to σ H λx H1=>tyF x H1/\t σ H1 λxs H2=>r x xs H2 Q
variable{to:TE}{t:TA}{r:V->List V->Hp->VK->Prop}
theorem Uy{X:Cx}{o:Expr}{id:String}(slot:Slot "dict" name id)(a4:typeOf (.builtin id)=pure (.type "method_descriptor"))(hm:MtR X id r)(ho:PE X o to)(Y:PA X (e::es) t)
  (a0:abd o name X.env (eval o X.env)=eval o X.env)
  (a2:((Z4 cpos (YD (e::es) X.env)).all (λx=>!x.1)&&(acD cpos (abA [] X.env)).all (λx=>x.1.isSome)
   &&decide 1.24)=ag)
  (a1:(apos.endLine==cpos.line)=ag) (hs:YD (e::es) X.env=(ae,eval e X.env)::YD es X.env) (U:(Z4 cpos (YD es X.env)).any (·.1)=ae) :
  PE X (.Call (.Attribute o name apos) (e::es) [] cpos) (Wv r to t):=by
 intro pins s σ H Q I h;refine ad4 a0 a2 a1 rfl (thn (ho pins s σ H _ I h) λv s1 ⟨x,H1,B,r1,ty,q1⟩=>?_);obtain⟨p,kvs,rfl,Z⟩:=ty;cases r1;obtain⟨z,hd,O,rel,dd⟩:=lK B.hok Z;have a3:=dd;obtain⟨ob,_,_,e1,ex,_⟩:=a3;refine⟨"dict",id,Z5,slot,a4,dd.typeIs,λa e2=>?_,?_⟩
 .cases e2
  exact⟨ob,e1,ex.2.1⟩
 have hA:=Y cpos pins s1 σ H1 _ B q1;rw[hs]at hA⊢;refine abB (by show(ae||(Z4 cpos (YD es X.env)).any (·.1))=ae;rw[U]<;>rfl) (abL ?_);exact thn hA λus s2 ⟨ws,H2,I2,q,q2⟩=>hm pins s2 σ H2 (.ref p) ws (.ref p) us Q I2 rfl q q2
def l_:D->List D->Option D
 |.dct _ ks ds,[k,x]=>(cQ k).bind λk=>match cP ks k with
  |some j=>ds[j]?
  |none=>ac x
 |_,_=>af
theorem Kd:MtV G VL l_:=λdx ds d e x xs H W I F rx r nd hn w Q q=>by
 unfold l_ at e;split at e
 .rename_i m ks es k x0
  cases O:cQ k with
  |none=>simp[O]at e
  |some U=>
   obtain⟨y,z,A,B,rfl,rfl,ry,rz⟩:=r.inv2;rw[Rep]at rx;obtain⟨a,kvs,M,rfl,⟨rfl,a0⟩,Z,hs⟩:=rx;have:=ir ry O;subst this;refine⟨a,_,_,rfl,.inl ⟨kvs,U,hs.rdD,rfl,rfl⟩,.inr ⟨z,rfl,?_⟩⟩;simp![O,gD]at e;cases V:cP (YK (·.1) kvs) U with
   |none=>
    simp![V]at e;cases e;rw[iI V];exact iC rz ((ZK _ _).trans (ZK _ _)) nd hn q
   |some j=>
    simp![V]at e;obtain⟨v,M',h1,h2,Y⟩:=Z.get e;rw[gj V,h1];exact iC h2 (Y.trans (hs.sub.trans (aar _ _))) nd hn q
 .cases e
variable{f:En->Option (List D)}
theorem U8{g:D->List D->Option D}{fo:En->Option D}(I:MtV G r g)(a1:∀dx ds d,g dx ds=ac d->∀(x:V)(H:Hp)(W:Wn)(Lx:List Addr),Rep G H W dx x Lx->tyF x H)
  (h0:RfE G ob to fo) (h:RfA G ob t f):RfE G ob (Wv r to t) (λρ=>(fo ρ).bind λx=>(f ρ).bind λds=>g x ds):=λρ d e σ H W rl w Q q=>by
 cases h1:fo ρ with
 |none=>simp[h1]at e
 |some dx=>
  cases h2:f ρ with
  |none=>simp[h1,h2]at e
  |some ds=>
   have e:g dx ds=ac d:=by simpa[h1,h2]using e
   refine h0 ρ dx h1 σ H W rl w _ λx H1 L Z rx fx nx=>⟨a1 dx ds d e x H1 _ L rx,?_⟩;have u1:Up H H1 W (W.add L):=.add Z fx;have w1:WOk H1 (W.add L):=w.add Z rx.dom;refine h ρ ds h2 σ H1 (W.add L) (rl.up u1) w1 _ λys H2 M O B F ny=>?_;have a0:∀a∈L,a∉M:=λa h1 h2=>by
    obtain⟨o,I,_⟩:=rx.dom a h1;rw[F a h2]at I;cases I
   have u2:Up H1 H2 (W.add L) (W.add (L++M)):=⟨O,λb u U f=>⟨λz=>z.elim (λz=>(Yl.mp z).elim (λz=>f.1 (.inl z)) λz=>by rw[F b z]at U;cases U) λz=>f.1 (.inr z),f.2⟩,λ_ _ _ f=>f⟩;have u3:Up H2 H2 ((W.add L).add M) (W.add (L++M)):=⟨Same.refl _,λb u U f=>⟨λz=>by
    rcases z with z|z
    .exact(Yl.mp z).elim (λz=>f.1 (.inr (.inl z))) λz=>f.1 (.inl z)
    .exact f.1 (.inr (.inr z)),f.2⟩,λ_ _ _ f=>f⟩
   show 5
   .exact r3.up ⟨Same.refl _,λb u U f=>⟨λz=>z.elim (λz=>f.1 (.inl z)) λz=>f.1 (.inr ⟨.inr z,WOk.new w (λa Y=>(Yl.mp Y).elim (fx a) λz=>Z.none' (F a z)) z⟩),f.2⟩,λ_ _ _ f=>f⟩
   .rcases Yl.mp z with z|z
    .exact fx a z
    .exact Z.none' (F a z)
theorem O2{o:Expr}{V:En->Option D}(hu:∀c,(X c).A.units+1<cLine)(I:PV X G ob o V)(Y:PVA X G ob (e::es) f)(z:∀c,abd o "get" (X c).env (eval o (X c).env)=eval o (X c).env:=by intro _;rfl)(q:∀c,((Z4 cpos (YD (e::es) (X c).env)).all (λx=>!x.1)&&(acD cpos (abA [] (X c).env)).all (λx=>x.1.isSome)
  &&decide 1.24)=ag:=by intro _;rfl) (B:(apos.endLine==cpos.line)=ag:=by rfl) (hs:∀c,YD (e::es) (X c).env=(ae,eval e (X c).env)::YD es (X c).env:=by intro _;rfl) (U:∀c,(Z4 cpos (YD es (X c).env)).any (·.1)=ae:=by intro _;rfl) :
 PV X G ob (.Call (.Attribute o "get" apos) (e::es) [] cpos) (eMt l_ V f):=let⟨t,a1,a2⟩:=I.ex;let⟨u,b1,b2⟩:=Y.ex;⟨_,λc=>Uy Z3 abb (Lg (hu c)) (a1 c) (b1 c) (z c) (q c) B (hs c) (U c),U8 Kd (λdx ds d e x H W Lx rx=>by
  unfold l_ at e;split at e
  .rw[Rep]at rx
   obtain⟨a,kvs,M,rfl,O,Z,hs⟩:=rx;exact⟨a,kvs,rfl,hs.rdD⟩
  .cases e) a2 b2⟩
def Its(x:Str):It:=⟨λi _=>i<x.cps.size,λi H y H'=>H'=H/\∃c,x.cps[i]? =ac c/\y= .str ⟨#[c]⟩,λi _=>i=x.cps.size⟩
theorem Nh{P:Y7}{K:YC}{t:Tok}(hn:["enumerate","zip","dict_itemiterator","dict_reverseitemiterator","odict_iterator","itertools.zip_longest","itertools.pairwise"].contains T=ae)
  (W:∀A:Zx,A.handled=af->Walks P w A it [it] [it] x.cps.size (SignAt x) (λi h=>h.IsStrIter it T x t i)) (W':∀A i s Q E,s.heap.IsStrIter it T x t i->Q (.ref it) s->wpAny (model P w) A (ac5 (.ref it)) Q E s):Turn P w K tg (Its x) [it] it (λi h=>h.IsStrIter it T x t i)where
 mem:=by simp
 obj:=λi h st b U=>by
  have e:b=it:=by simpa using U
  subst e;obtain⟨o,e,c,d⟩:=st;exact⟨o,e,λv z=>by rw[d]at z;cases z⟩
 keep:=λi h h' st k=>let⟨o,ho,r⟩:=st;⟨o,k it (by simp) o ho,r⟩
 item:=by
  intro X hP O q B i pins s σ H E I Y st F;subst hP O q;obtain⟨f0,V,f2,Z,f4,f5⟩:=Y it (by simp);refine(W X.A (I.ok.hd B)).item i s _ E F st λu h' tk hu a0 kp=>?_;obtain⟨c,tu,a1,rfl⟩:=hu;have I1:Inv X pins σ H {s with heap:=h',toks:=tk}:=I.turned (λb o U e=>kp b o (by simpa using U) e) f0 V Z f4 f5;obtain⟨o,e,c1,d⟩:=id a0;exact⟨_,rfl,Bx (s:={s with heap:=h',toks:=tk}) e c1 d hn ⟨.str ⟨#[c]⟩,H,I1,⟨tu,rfl⟩,⟨rfl,c,a1,rfl⟩,a0,λb U=>(Y b U).1⟩⟩
 done:=by
  intro X hP O q B i pins s σ H E I Y st F;subst hP O q;obtain⟨f0,V,f2,Z,f4,f5⟩:=Y it (by simp);subst F;exact(W X.A (I.ok.hd B)).done s _ E st λh' tk kp=>⟨rfl,I.turned (λb o U e=>kp b o (by simpa using U) e) f0 V Z f4 f5⟩
 self:=λA i s Q E st h=>W' A i s Q E st h
def Xo(te:TE):TI:=λσ H R=>te σ H λx H1=>∃y,x= .str y/\R (Its y) H1
variable{X:Cx}{te:TE}
theorem UT(O:PE X e te):PI X tg e (Xo te):=by
 intro pins s σ H R I h;refine thn (O pins s σ H _ I h) λv Z ⟨x,H1,B,z,y,ex,q⟩=>?_;subst ex;obtain⟨t,rfl⟩:=(show ∃t,v=ac3 y t from z);have fin:∀(T:String)(o:Obj),["enumerate","zip","dict_itemiterator","dict_reverseitemiterator","odict_iterator","itertools.zip_longest","itertools.pairwise"].contains T=ae->(∀A:Zx,A.handled=af->Walks X.prog X.w A Z.heap.objs.size [Z.heap.objs.size] [Z.heap.objs.size] y.cps.size (SignAt y) (λi h=>h.IsStrIter Z.heap.objs.size T y t i))->
   (∀A i s Q E,s.heap.IsStrIter Z.heap.objs.size T y t i->Q (.ref Z.heap.objs.size) s->wpAny 1.13 A (ac5 (.ref Z.heap.objs.size)) Q E s)->(Z.heap.push o).IsStrIter Z.heap.objs.size T y t 0->PIE X pins σ tg R (.ref Z.heap.objs.size) {Z with heap:=Z.heap.push o}:=λT o hn W W' st=>by
  refine⟨Z.heap.objs.size,[Z.heap.objs.size],_,_,H1,rfl,B.kept (t':=Z.toks) λb o e=>Yp _ e,Nh hn W W',st,λb U=>?_,q⟩;have e:b=Z.heap.objs.size:=by simpa using U
  subst e;exact B.fpOk (YB _) (B.hok.fresh (YB _))
 cases Y:y.cps.all (· <128)
 .exact wpAny_pyIter_wide Y (fin _ _ (by decide) (λF V=>Walks.strWide V _ y t) (λA i s Q E st h=>wpAny_pyIter_striter_wide st h) ⟨_,YG _ rfl,rfl,rfl⟩)
 .exact wpAny_pyIter_ascii Y (fin _ _ (by decide) (λF V=>Walks.strAscii V _ y t) (λA i s Q E st h=>wpAny_pyIter_striter_ascii st h) ⟨_,YG _ rfl,rfl,rfl⟩)
structure Glb(mg:Str->Option Value)(x:Str)(v:V):Prop where
 ex:∃u,mg x=ac u/\RelV v u
def sY(fe:En->Option D):En->Option (Bool×List D):=λρ=>match fe ρ with
 |some (.str y)=>ac (ag,y.cps.toList.map λc=>.str ⟨#[c]⟩)
 |_=>af
variable{X:ι->Cx}
theorem Oz{i:Int}(g:Glb G.mg x (.int i))(F:∀c,Gl (X c) x:=by intro _;rfl)(V:∀c,(X c).mg=G.mg:=by intro _;rfl)(hd:1.21=ae:=by decide):PV X G ob (.Name x pos) (eC (.int i)):=let⟨u,h1,h2⟩:=g.ex;⟨_,λc=>Hr (F c) (by rw[V c];exact h1) h2 hd,Eu λ_ _=>by simp[Rep]⟩
theorem Mq(g:Glb G.mg x (.str y))(F:∀c,Gl (X c) x:=by intro _;rfl)(V:∀c,(X c).mg=G.mg:=by intro _;rfl)(hd:1.21=ae:=by decide):PV X G ob (.Name x pos) (eC (.str y)):=let⟨u,h1,h2⟩:=g.ex;⟨_,λc=>Hr (F c) (by rw[V c];exact h1) h2 hd,Eu λ_ _=>by simp[Rep]⟩
variable{fe:En->Option D}
theorem Q0(h:RfE G ob te fe):RfI G ob (Xo te) (sY fe):=λρ b items e σ H W I w R q=>by
 unfold sY at e;split at e
 .rename_i y h1
  cases e;refine h ρ _ h1 σ H W I w _ λv H' L s r F nd=>?_;obtain⟨rfl,rfl⟩:=cC r;refine⟨y,rfl,q (Its y) H' s ⟨λi d e H2 Z _=>?_,λi d e H2 Z _ x Y V=>?_,λH2 Z _=>?_⟩⟩
  .have:=(List.getElem?_eq_some_iff.mp e).1
   show i<y.cps.size;simpa using this
  .obtain⟨rfl,c,hc,rfl⟩:=V
   have:d= .str ⟨#[c]⟩:=by
    have z:y.cps.toList[i]? =ac c:=by rw[aaK];exact hc
    rw[List.getElem?_map,z]at e;exact(Zr e).symm
   subst this;exact⟨Same.refl _,uz⟩
  .show(y.cps.toList.map _).length=_
   simp
 .cases e
theorem Rh(O:PV X G ob e fe):PVI X G ob tg e (sY fe):=let⟨_,a1,a2⟩:=O.ex;⟨_,λc=>UT (a1 c),Q0 a2⟩
theorem Py{X:Cx}:OpR X (Zf .IsNot) (λx y H Q=>∃a b,x= .bl a/\y= .bl b/\Q (.bl (!(a==b))) H):=by
 intro pins s σ H x y v u Q I rx B h;obtain⟨a,b,rfl,rfl,q⟩:=h;cases rx;cases B;exact Yq (a:=acg (!(acg a==acg b))) (yX I q (by cases a<;>cases b<;>rfl))
def iU:D->D->Option D
 |.bl a,.bl b=>ac (.bl (!(a==b)))
 |_,_=>af
theorem wV{ι:Type}{X:ι->Cx}:OpB X G (Zf .IsNot) iU:=⟨_,λc=>Py,λdx F d e x y H W I Y rx B nd hn w Q q=>by
 unfold iU at e;split at e
 .cases e
  rw[Rep]at rx B;obtain⟨rfl,_⟩:=rx;obtain⟨rfl,_⟩:=B;exact⟨_,_,rfl,rfl,q.scal λ_=>eZ⟩
 .cases e⟩
def KC(K:YC)(t:TA):TE:=λσ H Q=>t σ H λO H1=>∃a ks,O=[.ref a]/\SqL K H1 a (YK kV ks)/\aaF ks<4000/\Q (.int (m8 ks).length) H1
def j_:List D->Option D
 |[.lst _ ds]=>if ds.length<4000 then(jr ds).map λks=>.int (m8 ks).length else af
 |_=>af
theorem CK:CaV G (λO H Q=>∃a ks,O=[.ref a]/\SqL G.K H a (YK kV ks)/\aaF ks<4000/\Q (.int (m8 ks).length) H) j_:=λds d e xs H W F r nd hn w Q q=>by
 unfold j_ at e;split at e
 .split at e
  .rename_i m ds hl
   cases h1:jr ds with
   |none=>simp[h1]at e
   |some ks=>
    obtain rfl:D.int (m8 ks).length=d:=by simpa[h1]using e
    show 6;have:=xK h1 Z;subst this;exact⟨a,ks,rfl,hs.sq,by rw[yp h1];exact hl,q.scal λ_=>dZ⟩
  .cases e
 .cases e
def RQ:V->List V->Hp->VK->Prop:=λx O H Q=>∃D kvs o more,x= .ref D/\H D=ac (.dK kvs)/\O=[.ref o]/\o≠D/\H o=ac (.dK more)/\kvs.length+more.length<=50000/\Q .non (upd H D (.dK (putAll kvs more)))
theorem Qn{X:Cx}:MtM X "dict.update" RQ:=by
 intro pins s σ H x O v us Q I rx U h;obtain⟨D,kvs,o,more,rfl,Z,rfl,ho,hO,hsz,q⟩:=h;cases rx;have a5:200000<=Yx:=by decide
 obtain⟨z,a2,ds,rel,Y⟩:=w6 I.hok Z;obtain⟨u,rfl,ru⟩:=U.one;cases ru;obtain⟨z2,a1,B,a0,a3⟩:=w6 I.hok hO;have l1:=rel.length;have l2:=a0.length;refine ab_ F.slot_dict_update Y.typeIs F.entry_dict_update (F.args_dict_update_2 _ _) (meets_dict_update (bz X.prog X.w) D o (Zy ho) a1) ⟨ds,B,Y,a3,by omega,λh' d1 d2 V=>?_⟩;have he:∃q,h'.get? D=ac q:=let⟨q,_,_,hq,_⟩:=d1;⟨q,hq⟩;have a4:=uK more kvs;exact⟨.non,_,nG (t':=s.toks) I (by rw[Z];exact Z2) V he (yI 1.10 a2 (xO more rel a0) d1),rfl,q⟩
def oX:D->List D->Option (D×D)
 |.dct .own ks ds,[.dct .frz ks2 es]=>if ks.length+ks2.length<=50000 then ac (.dct .own (iR ks ds (ks2.zip es)).1 (iR ks ds (ks2.zip es)).2,.non)else af
 |_,_=>af
theorem Le:MuV G RQ oX:=λd es d' res h v xs H W M N r re nd hM B c1 c2 Q q=>by
 unfold oX at h;split at h
 .rename_i ks ds ks2 es
  split at h
  .rename_i hm
   cases h;rw[Rep]at r;obtain⟨a,kvs,M0,rfl,⟨rfl,a2⟩,Z,Y,rfl⟩:=r;obtain⟨x,rfl,rx⟩:=re.inv1;rw[Rep]at rx;obtain⟨b,more,N1,rfl,⟨rfl,a3⟩,hy,hs⟩:=rx;have kc:aB ds=ag/\aC ds=ag:=by simp[clean,az,au]at B;exact B
   have ke:aB es=ag/\aC es=ag:=by simp[aB,aC,az,au]at c1 c2;exact⟨c1,c2⟩
   have a4:(YK (·.1) more).length=es.length:=by rw[hy.length];simp
   have a1:=Y5.mp (List.nodup_append.mp nd).1;obtain⟨⟨p1,p2⟩,M',p3,p4,p5⟩:=v9 (es:=(YK (·.1) more).zip es) (afm 1.10) (by rw[afn 1.10];exact hy) Z a2 (dR a1.2 (hs.sub.nodup (List.nodup_append.mp nd).2.1) λb z1 F=>(List.nodup_append.mp nd).2.2 b (Y8 _ z1) b (hs.sub.subset F) rfl);have a0:a∉M':=λz=>(p5 a z).elim a1.1 λz=>(List.nodup_append.mp nd).2.2 a (by simp) a (hs.sub.subset z) rfl;have O:=cg (mY (ks:=YK (·.1) kvs) (λd=>az d=ag) (pA kc.1) λp V=>pA ke.1 _ (ab1 (l₁:=YK (·.1) more) (l₂:=es) V).2);have k2:=bL (mY (ks:=YK (·.1) kvs) (λd=>au d=ag) (ph kc.2) λp V=>ph ke.2 _ (ab1 (l₁:=YK (·.1) more) (l₂:=es) V).2);refine⟨a,kvs,b,more,rfl,Y,rfl,λz=>hM a (by simp) (z▸hs.2.1),hs.at2 rfl,by simpa using hm,q .non _ (a::M') [] (λb u U n=>by rw[aK (show b≠a from λz=>n (by rw[z];simp))];exact U) (λW' I=>⟨?_,nu⟩) (by rw[Za];exact Y5.mpr ⟨a0,p4⟩) (λb U=>?_) (Ik O k2) rfl⟩
   .rw[Rep]
    refine⟨a,putAll kvs more,M',rfl,⟨p1,p1▸p2⟩,p3.mono I (.inl O) (.inl k2) λc B u hu=>?_,aQ,rfl⟩;rw[aK (show c≠a from λz=>a0 (z▸B))];exact hu
   .rw[Za]at U
    rcases Yu.mp U with z|z
    .exact .inl (by simp[z])
    .exact(p5 b z).imp (λz=>Y8 _ z) λz=>.inl (hs.sub.subset z)
  .cases h
 .cases h
theorem LC{ι:Type}{X:ι->Cx}:MuB X G "dict" "dict.update" oX:=⟨_,λc=>Qn,Le,K1 rfl λd es q e=>by
 unfold oX at e;split at e
 .exact⟨_,_,rfl⟩
 .cases e⟩
mutual
noncomputable def plD:D->Bool
 |.tup ds=>tU ds
 |.lst _ _=>ae
 |.dct _ _ _=>ae
 |.ins _ _ _ _=>ae
 |_=>ag
noncomputable def tU:List D->Bool
 |[]=>ag
 |d::r=>plD d&&tU r
end
variable{H':Hp}{W':Wn}
mutual
theorem Rep.pl(U:∀b xs,H b=ac (.tup xs)->H' b=ac (.tup xs)):∀{d:D}{v:V}{L:List Addr},Rep G H W d v L->plD d=ag->Rep G H' W' d v []/\L=[]
 |.non,v,L,h,_=>by rw[Rep]at h⊢;exact⟨⟨h.1,rfl⟩,h.2⟩
 |.bl _,v,L,h,_=>by rw[Rep]at h⊢;exact⟨⟨h.1,rfl⟩,h.2⟩
 |.int _,v,L,h,_=>by rw[Rep]at h⊢;exact⟨⟨h.1,rfl⟩,h.2⟩
 |.str _,v,L,h,_=>by rw[Rep]at h⊢;exact⟨⟨h.1,rfl⟩,h.2⟩
 |.ty _,v,L,h,_=>by rw[Rep]at h⊢;exact⟨⟨h.1,rfl⟩,h.2⟩
 |.tup ds,v,L,h,n=>by
  rw[Rep]at h⊢;obtain⟨b,xs,rfl,h1,Z⟩:=h;have:=aG.pl U Z (by simpa[plD]using n);exact⟨⟨b,xs,rfl,U b xs h1,this.1⟩,this.2⟩
 |.lst _ _,v,L,h,n=>by cases n
 |.dct _ _ _,v,L,h,n=>by cases n
 |.ins _ _ _ _,v,L,h,n=>by cases n
theorem aG.pl(U:∀b xs,H b=ac (.tup xs)->H' b=ac (.tup xs)):∀{ds:List D}{O:List V}{L:List Addr},aG G H W ds O L->tU ds=ag->aG G H' W' ds O []/\L=[]
 |[],O,L,h,_=>by obtain⟨rfl,rfl⟩:=h.inv0;exact⟨.nil,rfl⟩
 |d::r,O,L,h,n=>by
  obtain⟨x,ys,M,M',rfl,rfl,h1,h2⟩:=h.inv;rw[tU,YS]at n;obtain⟨F,rfl⟩:=Rep.pl U h1 n.1;obtain⟨B,rfl⟩:=aG.pl U h2 n.2;exact⟨.cons F B,rfl⟩
end
def oV:Option D->Option D
 |some d=>if plD d=ag then ac d else af
 |none=>af
variable{X:Cx}
theorem W8(h:PE X e te):PE X e (tGh j te):=by
 intro pins s σ H Q I F;obtain⟨a,kvs,hs,Y,k⟩:=F;obtain⟨ob,V,q⟩:=xF I Y;exact thn (h pins s σ _ _ V (k ob)) λu Z ⟨v,H1,B,z,e1,q1⟩=>⟨v,_,xj B e1 q,z,q1⟩
theorem lg:∀{l:List Str},acW l=ag->l.Pairwise λa b=>a.cps.toList<=b.cps.toList
 |[],_=>.nil
 |[x],_=>by simp
 |x::y::r,h=>by
  have h:risingS x (y::r)=ag:=h;rw[risingS,YS,ltCps_eq]at h;have h1:x.cps.toList<=y.cps.toList:=by simpa using h.1
  have h2:=lg (l:=y::r) h.2;exact ace.mpr ⟨λz hz=>(Yu.mp hz).elim (λe=>e▸h1) λw=>List.le_trans h1 ((ace.mp h2).1 z w),h2⟩
open Classical in
def fU(ys:List Str):List Str:=if h:∃B:List Str,Zu B ys/\acW B=ag then h.choose else ys
theorem pL{B:List Str}(h1:Zu B ys)(h2:acW B=ag):B=fU ys:=by
 have h:∃B:List Str,Zu B ys/\acW B=ag:=⟨B,h1,h2⟩;rw[fU,dif_pos h];refine List.Perm.eq_of_pairwise (λa b _ _ x y=>?_) (lg h2) (lg h.choose_spec.2) (h1.trans h.choose_spec.1.symm);have:=Array.toList_inj.mp (List.le_antisymm x y);cases a;cases b;cases this;rfl
variable{s:Ym}{E:Value->Ym->Prop}{Q:VK}
theorem xR(I:Inv X pins σ H s)(U:Vals (ys.map V.str) its)(Z:ys.length<64)
  (q:∀B,Zu B ys->acW B=ag->∀l,H l=af->Q (.ref l) (upd H l (.lst (B.map V.str)))) :
  wpAny 1.13 X.A.in1 (adA its >>=λl=>aeD [l] (call (.builtin "list.sort") [l] []) >>=λ_=>ret l) (λfin s'=>∃v,fin= .done (.ret v)/\EP X pins σ Q v s') E s:=by
 have hS:=oO U;have z:=U.length;rw[Yt]at z;refine W2 (wpAny_newList ?_);have a0:(s.heap.push (seqObj "list" its.toArray 0)).get? s.heap.objs.size=ac (seqObj "list" its.toArray 0):=YG _ rfl;refine W2 (aas (adH slot_list_sort ⟨_,a0,rfl⟩ entry_list_sort (list_sort_treeK strKind_oneLt a0 hS.keysOf (λa4 a5 rest e=>keyKind_strs (by rw[←e];exact hS)) 1.10 λa3 F a2=>⟨_,rfl,?_⟩) (args_list_sort _)));obtain⟨B,h1,h2,Y⟩:=sorted_out_str hS F a2;have O:=h2.length_eq;obtain⟨c,ec⟩:=sortedHeap_at (out:=(arrOf a3).map (·.2)) a0;have a6:64<=Yx:=by decide
 refine Yq ⟨_,rfl,.ref s.heap.objs.size,upd H s.heap.objs.size (.lst (B.map V.str)),I.laid (t':=s.toks) (λb o eb=>?_) (YB _) ?_,rfl,q B h2 Y _ (I.hok.fresh (YB _))⟩
 .have hlt:=YF eb
  rw[sortedHeap_old (YZ hlt) (by rw[size_push'];exact aay hlt)];exact Yp _ eb
 .exact⟨by rw[Yt];omega,_,c,pH h1,ec⟩
def Oa:List V->Hp->VK->Prop:=λxs H Q=>∃(a:Addr)(kvs:List (Key×V))(ys:List Str),xs=[.ref a]/\Rd H a (.dK kvs)/\kvs.map (·.1)=ys.map YM/\ys.length<64/\∀l,H l=af->Q (.ref l) (upd H l (.lst ((fU ys).map V.str)))
theorem yO(B:X.calm=ag):gh X (.builtin "sorted") Oa:=by
 intro pins s σ H xs us Q I r h;obtain⟨a,kvs,ys,rfl,U,V,Z,q⟩:=h;obtain⟨u,rfl,F⟩:=vals1 r;cases F;obtain⟨hz,hd,O,rel,dd⟩:=lK I.hok U;obtain⟨ep,ob,es,g,x,d,r1,r2,r3⟩:=dd.dictAt;have a3:s.heap.DictAt (bz X.prog X.w) a O ep:=⟨ob,es,g,x,d,r1,r2,r3⟩;have a5:kvs.length=O.length:=rel.length;have a4:kvs.length=ys.length:=by have:=congrArg aaF V;simpa using this
 refine xm λE' Q' a2=>PySem.collect_src (PySem.W.kdl_dict (ep:=ep) (kvs:=O) hd) (I.ok.hd B) a3 1.10 λh' tk acc hk Y=>?_;refine a2 _ _ (xR (I.kept (t':=tk) hk) (Hf ?_ λi x u h1 h2=>?_) Z λms e1 e2=>by rw[pL e1 e2];exact q)
 .rw[Z0,Yt,Y.1];omega
 .rw[List.getElem?_map]at h1
  cases hi:ys[i]? with
  |none=>rw[hi]at h1;cases h1
  |some y=>
   rw[hi]at h1;cases h1;obtain⟨k,v,e1,e2⟩:=Y.2 i u (by rw[←aaK];exact h2);have a0:(kvs.map (·.1))[i]? =ac (YM y):=by rw[V,List.getElem?_map,hi];rfl
   rw[List.getElem?_map]at a0;cases a1:kvs[i]? with
   |none=>rw[a1]at a0;cases a0
   |some kv=>
    rw[a1]at a0;have ek:kv.1=YM y:=Zr a0;have:=(sr rel a1 e1).1;obtain rfl:k=YM y:=by rw[←ek];exact this.symm
    have h3:oG (YM y) u=ag:=e2;rcases cB h3 with⟨j,t,z,_⟩|⟨x',t,z,rfl⟩
    .cases z
    .cases z;exact⟨t,rfl⟩
def kj:List D->Option D
 |[.dct m ks _]=>if(m== .scr)=ae/\ks.length<64 then(sG ks).map λys=>.lst .own ((fU ys).map D.str)else af
 |_=>af
variable{X:ι->Cx}
theorem BV{ι:Type}{X:ι->Cx}(B:∀c,(X c).calm=ag):CaB X G (.builtin "sorted") kj:=by
 refine⟨Oa,λc=>yO (B c),λds d e xs H W F r nd hn w Q q=>?_⟩;unfold kj at e;split at e
 .split at e
  .rename_i m ks es hm
   cases hs:sG ks with
   |none=>rw[hs]at e;cases e
   |some ys=>
    rw[hs]at e;cases e;obtain⟨x,rfl,rx⟩:=r.inv1;rw[Rep]at rx;obtain⟨a,kvs,M,rfl,⟨h1,h2⟩,Z,z⟩:=rx;have O:=Dq hs;refine⟨a,kvs,ys,rfl,.inl (z.at2 hm.1),h1.trans O,by have:=hm.2;rw[O]at this;simpa using this,λl U=>o5 (mj _) (λa Y=>by cases Y) List.nodup_nil hn U q⟩
  .cases e
 .cases e
def sO:D->List D->Option (D×D)
 |.dct .own ks ds,[kd,.int y]=>(cQ kd).bind λk=>if ks.length<1000000 then(match cP ks k with
  |some j=>(match ds[j]? with
   |some (.int z)=>ac (.dct .own ks ds,.int z)
   |_=>af)
  |none=>ac (.dct .own (ks++[k]) (ds++[.int y]),.int y))else af
 |_,_=>af
theorem OJ:MuV G Um sO:=λd es d' res h v xs H W M N r re nd hM B c1 c2 Q q=>by
 have kp:∀{a:Addr}{L:List Addr}{o:HO}(b:Addr)(u:HO),H b=ac u->b∉a::L->upd H a o b=ac u:=λb u U n=>by rw[aK (show b≠_ from λz=>n (by rw[z];simp))];exact U
 unfold sO at h;split at h
 .rename_i ks ds k0 y
  cases O:cQ k0 with
  |none=>simp[O]at h
  |some k=>
   rw[O]at h;simp![gD]at h;split at h
   .rename_i hl
    have r0:=r;rw[Rep]at r;obtain⟨a,kvs,M0,rfl,⟨rfl,a4⟩,Z,Y,rfl⟩:=r;obtain⟨x1,zs,N1,N2,rfl,rfl,a3,hz⟩:=re.inv;obtain⟨x,zs,N3,N4,rfl,rfl,F,hz⟩:=hz.inv;obtain⟨rfl,rfl⟩:=hz.inv0;have a1:=ir a3 O;subst a1;rw[Rep]at F;obtain⟨rfl,rfl⟩:=F;have a2:kvs.length<Yx:=vD (by simpa using hl);have k1:aB ds=ag/\aC ds=ag:=by simp[clean,az,au]at B;exact B
    split at h
    .rename_i j hj
     split at h
     .rename_i z hz
      cases h;have a0:=gj (kvs:=kvs) (k:=k) (j:=j) hj;obtain⟨w,L,h1,h2,_⟩:=Z.get hz;rw[h1]at a0;rw[Rep]at h2;obtain⟨rfl,_⟩:=h2;refine⟨a,kvs,k,_,rfl,rfl,Y,a2,λv hv=>?_,λhv=>by rw[a0]at hv;cases hv⟩;rw[a0]at hv;cases hv;have hn:az (.dct .own (kvs.map (·.1)) ds)=ag/\au (.dct .own (kvs.map (·.1)) ds)=ag:=by simpa[clean]using B
      exact q _ H (a::M0) [] (λb u U _=>U) (λW' I=>⟨r0.mono I (.inl hn.1) (.inl hn.2) λ_ _ _ h=>h,by rw[Rep];exact⟨rfl,rfl⟩⟩) (by simpa using(List.nodup_append.mp nd).1) (λb U=>.inl (by simpa using U)) B rfl
     .cases h
    .rename_i hj
     cases h;have a0:iu kvs k=af:=iI hj;refine⟨a,kvs,k,_,rfl,rfl,Y,a2,(λv hv=>by rw[a0]at hv;cases hv),λ_=>?_⟩;have F:Rep G H W (.int y) (.int y) []:=by rw[Rep];exact⟨rfl,rfl⟩
     obtain⟨M',n1,n2,n3,n4,n5⟩:=zr (o:=.dK (putK kvs k (.int y))) (j:=af) Z F (by simpa using(List.nodup_append.mp nd).1) k1.1 k1.2 rfl rfl λi hi=>by cases hi
     refine q _ _ (a::M') [] kp (λW' I=>⟨?_,by rw[Rep];exact⟨rfl,rfl⟩⟩) (by simpa using n1) (λb U=>.inl ((n2 b (by simpa using U)).elim id λz=>by cases z)) (by simpa[clean,az,au,v5]using⟨n4,n5⟩) rfl;rw[Rep];have pe:=jw (v:=.int y) hj;refine⟨a,putK kvs k (.int y),M',rfl,⟨by rw[pe];simp,?_⟩,by have n6:=n3 W' I;rw[pe]at n6⊢;simpa[v5]using n6,aQ,rfl⟩;rw[Zz];refine⟨a4,by simp,λy V z hz=>?_⟩;obtain rfl:z=k:=by simpa using hz
     exact λe=>v_ hj (e▸V)
   .cases h
 .cases h
theorem Qz{ι:Type}{X:ι->Cx}:MuB X G "dict" "dict.setdefault" sO:=⟨_,λc=>Oq,OJ,K1 rfl λd es q e=>by
 unfold sO at e;split at e
 .exact⟨_,_,rfl⟩
 .cases e⟩
def sJ:D->Bool
 |.lst .frz ds=>aB ds&&aC ds
 |.lst .scr ds=>aB ds&&aC ds
 |_=>ae
def Aa(ρ:En)(j:Nat):Bool:=match ρ[j]? with
 |some (ac d)=>sJ d
 |_=>ae
def rF(i:Nat)(ks:List Nat)(f:En->Option Fl):En->Option Fl:=λρ=>match ρ[i]? with
 |some (ac (.lst .own es))=>if aP es=ag/\ks.all (Aa ρ)=ag/\ks.contains i=ae then(f (ρ.set i (ac (.lst .frz (fzL es))))).bind λr=>match r with
  |.nx B=>if B.length=ρ.length then ac (.nx (pJ i es ks ρ B))else af
  |r=>ac r
  else af
 |_=>af
theorem Ng{v:V}(r:Rep G H W d v L)(h:sJ d=ag):L=[]/\az d=ag/\au d=ag:=by
 unfold sJ at h;split at h
 .rename_i ds
  rw[Rep]at r;obtain⟨a,xs,M,rfl,Z,hs⟩:=r;rw[YS]at h;exact⟨hs.2.2.2,by simp[az,h],by simp[au,h]⟩
 .rename_i ds
  rw[Rep]at r;obtain⟨a,xs,M,rfl,Z,hs⟩:=r;rw[YS]at h;exact⟨hs.2.2,by simp[az,h],by simp[au,h]⟩
 .cases h
theorem Ie{t:TS}{f:En->Option Fl}(i:Nat)(ks:List Nat)(h:RfS G ob (λj=>j==i||ks.contains j||P j) t f):RfS G ob P t (rF i ks f):=λρ r e σ H S Fr s E q=>by
 unfold rF at e;split at e
 .rename_i es h1
  split at e
  .rename_i hc
   obtain⟨a4,b4,b5⟩:=hc;have b1:iY i ρ=ac (ρ.set i (ac (.lst .frz (fzL es)))):=by
    unfold iY;rw[h1];simp![fz,mkF]
   have Z:=s.freeze b1;obtain⟨v,hv,O,b2⟩:=s.sl i _ h1;have b0:bj (.lst .own es)=ag:=by simpa[bj]using a4
   have a5:=oW b0;have iS:∀a∈S i,inS S a:=λa Y=>⟨i,Y⟩;have a6:∀a∈S i,¬inS (eY S i []) a:=λa Y ⟨j,z⟩=>(cu z).elim (λz=>by cases z.2) λz=>z.1 (s.dj j i a z.2 Y);have a0:∀b,inS (eY S i []) b->inS S b:=λb ⟨j,z⟩=>(cu z).elim (λz=>by cases z.2) λz=>⟨j,z.2⟩;have a1:∀{H2 σ2 S2},Mv (λj=>j==i||ks.contains j||P j) H H2 σ σ2 (eY S i []) S2 []->Mv P H H2 σ σ2 S S2 []:=λ{H2 σ2 S2} m=>
    ⟨λb u U hn hm=>m.kp b u U (λz=>hn (a0 b z)) hm,λj b U=>(m.gr j b U).imp (a0 b) id,λj V=>m.pr j (by simp[V])⟩
   cases h2:f (ρ.set i (ac (.lst .frz (fzL es))))with
   |none=>simp[h2]at e
   |some fl=>
    rw[h2]at e;simp![gD]at e;refine h _ fl h2 σ H _ Fr Z E ?_;cases fl with
    |brk B=>cases e;exact λF H' S' s' m=>q F H' S' s' (a1 m)
    |cnt B=>cases e;exact λF H' S' s' m=>q F H' S' s' (a1 m)
    |ret d B=>cases e;exact λv F H' M S' s' r c n fm m=>q v F H' M S' s' r c n (λb U=>(fm b U).imp (a0 b) id) (a1 m)
    |nx B=>
     simp only at e;split at e
     .rename_i hlen
      cases e;intro F H' S' s' m;have b3:∀a∈S i,∀u,H a=ac u->H' a=ac u:=λa Y u hH=>m.kp a _ hH (a6 a Y) (by simp);have a3:∀a∈S i,∀j,a∉S' j:=λa Y j z=>(m.gr j a z).elim (a6 a Y) λz=>z.elim (λz=>by cases z) λz=>by obtain⟨o,I,_⟩:=O.dom a Y;rw[I]at z;cases z
      let ow:Nat->Bool:=λj=>match B[j]? with
       |some (ac d)=>bj d&& !(ks.contains j)
       |_=>ae
      let S2:Ad:=λj=>if j=i then S i else if ow j=ag then S' j else[]
      have a2:∀{j b},b∈S2 j->(j=i/\b∈S i)∨(j≠i/\ow j=ag/\b∈S' j):=λ{j b} z=>by
       simp![S2]at z;split at z
       .exact .inl ⟨‹_›,z⟩
       .split at z
        .exact .inr ⟨‹_›,‹_›,z⟩
        .cases z
      have a7:∀b,inS S2 b->inS S b∨H b=af:=λb ⟨j,z⟩=>by
       rcases a2 z with⟨_,z⟩|⟨_,_,z⟩
       .exact .inl (iS b z)
       .exact(m.gr j b z).elim (λz=>.inl (a0 b z)) λz=>z.elim (λz=>by cases z) .inr
      have a8:Mv P H H' σ F S S2 []:=⟨(a1 m).kp,λj b U=>(a7 b ⟨j,U⟩).imp id .inr,(a1 m).pr⟩;have ev:Evo H H' (wn ob S Fr) (wn ob S2 Fr):=vy s a8;have hi:i<ρ.length:=(List.getElem?_eq_some_iff.mp h1).1;have a9:∀j d,(pJ i es ks ρ B)[j]? =ac (ac d)->(j=i/\d= .lst .own es)∨(j≠i/\ks.contains j=ag/\ρ[j]? =ac (ac d))∨(j≠i/\ks.contains j=ae/\B[j]? =ac (ac d)/\bj d=ag):=λj d hd=>by
       unfold pJ at hd;rw[acN]at hd;cases h3:B[j]? with
       |none=>simp[h3]at hd
       |some o=>
        rw[h3]at hd;have hd:(if j=i then ac (D.lst .own es)else if ks.contains j then(ρ[j]?).bind id else Ke o)=ac d:=by simpa using hd
        split at hd
        .exact .inl ⟨‹_›,by simpa using hd.symm⟩
        .split at hd
         .refine .inr (.inl ⟨‹_›,‹_›,?_⟩)
          cases h4:ρ[j]? with
          |none=>rw[h4]at hd;cases hd
          |some o'=>rw[h4]at hd;simpa using hd
         .rename_i hk
          cases o with
          |none=>cases hd
          |some d'=>
           simp![Ke]at hd;split at hd
           .cases hd
            exact .inr (.inr ⟨‹_›,by simpa using hk,rfl,‹_›⟩)
           .cases hd
      refine q F H' S2 ⟨?_,λj d hd=>?_,λj V=>?_,λj=>?_,λj k b h1 h2=>?_,λj b h1 h2=>?_,s'.fdm⟩ a8
      .unfold pJ;rw[List.length_mapIdx];exact s'.len
      .rcases a9 j d hd with⟨rfl,rfl⟩|⟨V,hk,hd⟩|⟨V,hk,hd,I⟩
       .refine⟨v,(m.pr j (by simp)).trans hv,?_,b2⟩
        have:S2 j=S j:=by simp[S2]
        rw[this];exact O.mono ev (.inl a5.1) (.inl a5.2) b3
       .obtain⟨v',q1,q2,q3⟩:=s.sl j d hd
        have hh:sJ d=ag:=by
         have:=aa1.mp b4 j (by simpa using hk);unfold Aa at this;rw[hd]at this;exact this
        obtain⟨e1,c1,c2⟩:=Ng q2 hh;rw[e1]at q2;refine⟨v',(m.pr j (by simp[acK.mp hk])).trans q1,?_,q3⟩;have:S2 j=[]:=by
         have:ow j=ae:=by
          simp![ow];split
          .rw[hk];simp
          .rfl
         simp![S2];rw[Y4 V,Y4 (by rw[this];decide)]
        rw[this];exact q2.mono ev (.inl c1) (.inl c2) (by simp)
       .obtain⟨v',q1,q2,q3⟩:=s'.sl j d hd
        refine⟨v',q1,?_,q3⟩;have:S2 j=S' j:=by
         have:ow j=ag:=by
          simp![ow,hd,I,hk];rfl
         simp![S2];rw[Y4 V,YH this]
        rw[this];exact q2.own I
      .simp![S2]
       split
       .rename_i e1
        subst e1;exfalso;refine V (.lst .own es) ?_;unfold pJ;rw[acN];have:j<B.length:=by omega
        simp[this]
       .split
        .rename_i e1 e2
         exfalso;simp![ow]at e2;split at e2
         .rename_i d hd
          rw[YS]at e2;refine V d ?_;unfold pJ;rw[acN,hd];have e3:ks.contains j=ae:=by simpa using e2.2
          simp[e1,e2.1,Ke];intro z;exact absurd (acK.mpr z) (by rw[e3];decide)
         .cases e2
        .rfl
      .simp![S2]
       split
       .exact s.nd i
       .split
        .exact s'.nd j
        .exact List.nodup_nil
      .rcases a2 h1 with⟨e1,z1⟩|⟨e1,_,z1⟩<;>rcases a2 h2 with⟨e2,z2⟩|⟨e2,_,z2⟩
       .rw[e1,e2]
       .exact absurd z2 (a3 b z1 k)
       .exact absurd z1 (a3 b z2 j)
       .exact s'.dj j k b z1 z2
      .rcases a2 h2 with⟨e1,z1⟩|⟨e1,_,z1⟩
       .exact s.fdj i b h1 z1
       .exact s'.fdj j b h1 z1
     .cases e
  .cases e
 .cases e
theorem Je(i:Nat)(ks:List Nat)(n:Nat){q:List Stmt}{f g:En->Option Fl}(h1:j6 X G ob (λj=>j==i||ks.contains j||P j) (q.take n) f)(h2:j6 X G ob P (q.drop n) g):j6 X G ob P q (bw (rF i ks f) g):=by
 obtain⟨t,F,B⟩:=h1.ex;obtain⟨u,Y,I⟩:=h2.ex;refine⟨Qe t u,λc=>?_,G5 (Ie i ks B) I⟩;have:=O5 (F c) (Y c);rwa[aaM]at this
def k_(j:Nat)(cap:List (Option Nat))(tg:D->En->Option En)(c:En->Option Bool)(e:En->Option D):En->Option D:=λρ=>match ρ[j]? with
 |some (ac (.dct .frz ks ds))=>if tU ds=ag then(match bU cap (λ_=>ac (ae,ks.map kD)) tg c e ((ρ.map oV).set j (ac (.dct .scr ks ds)))with
  |some (.lst .own es)=>if tU es=ag then ac (.lst .own es)else af
  |_=>af)else af
 |_=>af
variable{tg:D->En->Option En}{own:Nat->Bool}
theorem M8{cap:List (Option Nat)}{tt:TT}{c:En->Option Bool}{e:En->Option D}(a3:∀i:Nat,own i=ag->cap[i]?≠af->cap[i]? =ac af)(F:Fb G (obC cap ob) own g tg)(ht:RfT G (obC cap ob) tt c)(O:RfE G (obC cap ob) te e) :
  RfE G ob (tGh j (Cz cap (Gd (Ab j)) g tt te)) (k_ j cap tg c e):=λρ d ee σ H W I w Q q=>by
 unfold k_ at ee;split at ee
 .rename_i ks ds hj
  split at ee
  .rename_i hfd
   split at ee
   .rename_i es hx
    split at ee
    .rename_i hes
     cases ee;obtain⟨v,L0,hv,a1,_⟩:=I j _ hj;rw[Rep]at a1;obtain⟨a,kvs,M,rfl,⟨rfl,a6⟩,Z,Y,_⟩:=a1;refine⟨a,kvs,hv,Y,λo=>?_⟩;have kt:=(iz (ob:=o) Y).t;have a4:Rel G (upd H a (.frz o (.dK kvs))) ⟨λb=>W.n b/\b≠a,λb=>W.s b/\b≠a,λb=>W.o b/\b≠a⟩ ob ((ρ.map oV).set j (ac (.dct .scr (kvs.map (·.1)) ds))) σ:=λi d' e'=>by
      by_cases a2:i=j
      .subst a2
       rw[Z_ (by rw[Yt];exact(List.getElem?_eq_some_iff.mp hj).1)]at e';cases e';refine⟨.ref a,[],hv,?_,λ_ c B=>by cases B⟩;rw[Rep];exact⟨a,kvs,[],rfl,⟨rfl,a6⟩,(aG.pl kt Z hfd).1,.inl ⟨.inr ⟨o,aQ⟩,λz=>z.2 rfl,λz=>z.2 rfl,λz=>z.2 rfl⟩,rfl,rfl⟩
      .rw[List.getElem?_set_ne (λz=>a2 z.symm),List.getElem?_map]at e'
       cases h5:ρ[i]? with
       |none=>rw[h5]at e';cases e'
       |some x=>
        rw[h5]at e';cases x with
        |none=>cases e'
        |some d1=>
         have e2:oV (ac d1)=ac d':=by simpa using e'
         unfold oV at e2;simp only at e2;split at e2
         .rename_i hn
          cases e2;obtain⟨v',L',h6,h7,h8⟩:=I i _ h5;exact⟨v',[],h6,(Rep.pl kt h7 hn).1,λ_ c B=>by cases B⟩
         .cases e2
     have w':WOk (upd H a (.frz o (.dK kvs))) ⟨λb=>W.n b/\b≠a,λb=>W.s b/\b≠a,λb=>W.o b/\b≠a⟩:=λb U=>by
      have a0:b≠a:=by rcases U with h|h|h<;>exact h.2
      obtain⟨u,h6,h7⟩:=w b (U.imp (·.1) (Or.imp (·.1) (·.1)));exact⟨u,by rw[aK a0];exact h6,h7⟩
     have a5:=zY (own:=own) a3 (H9 (G:=G) (ob:=ob) (a:=a) (o:=o) (kvs:=kvs)) F ht O _ _ hx σ (upd H a (.frz o (.dK kvs))) _ a4 w' (λv H'=>H' a=ac (.frz o (.dK kvs))/\Q v (upd H' a (.dK kvs))) (λv H' L s rx fr nd=>by
      have h9:=s a _ aQ;rw[Rep]at rx;obtain⟨p,xs,M2,rfl,a8,V,rfl⟩:=rx;obtain⟨a7,rfl⟩:=aG.pl (W':=W.add [p]) (De h9).t a8 hes;refine⟨h9,q _ _ [p] (λb u U=>?_) ?_ (λb U=>?_) nd⟩
      .by_cases a0:b=a
       .subst a0;rw[Y]at U;cases U;exact aQ
       .rw[aK a0];exact s b u (by rw[aK a0];exact U)
      .rw[Rep]
       exact⟨p,xs,[],rfl,a7,by rw[aK (kE V h9 (by intro z;cases z))];exact V,rfl⟩
      .have:=fr b U
       by_cases a0:b=a
       .subst a0;rw[aQ]at this;cases this
       .rwa[aK a0]at this)
     exact⟨.ref a,hv,a,o,kvs,rfl,aQ,a5 aQ⟩
    .cases ee
   .cases ee
  .cases ee
 .cases ee
variable{fc:En->Option Bool}
theorem Ox(j:Nat)(cap:List (Option Nat))(own:Nat->Bool)(F:∀c,(X c).xe=NoX)(B:∀c,(X c).calm=ag)(O:∀c,cj (X c).env.scope (X c).N N' scope cap)(q:∀i:Nat,own i=ag->cap[i]?≠af->cap[i]? =ac af)(Y:Gp (InX X N' scope) G (obC cap ob) own target tg)(U:Gj (InX X N' scope) G (obC cap ob) ifs fc)(Z:PV (InX X N' scope) G (obC cap ob) elt fe)
  (z:∀c,(X c).N[j]? =ac y:=by intro _;rfl) (V:∀c,Vis (X c).env.scope y:=by intro _;first|exact aab rfl|exact ZC (aab rfl)|exact ZC (ZC rfl)) (hd:(y==("__debug__":Str))=ae:=by decide) (I:(y==("__classdict__":Str))=ae:=by decide)
  (hs:∀c,∀x,ZL (.Name y ypos) (X c).env x=pure x:=by intro _ _;rfl):PV X G ob (.ListComp elt [⟨target,.Name y ypos,ifs,0⟩] scope pos) (k_ j cap tg fc fe):=
 let⟨_,g1,g2⟩:=Y.ex;let⟨_,t1,t2⟩:=U.ex;let⟨_,e1,e2⟩:=Z.ex
 ⟨_,λc=>W8 (j:=j) (Hu (F c) (B c) (O c) (Eb (rH (z c) (V c) hd I)) (λC s H fp=>g1 (c,C,s,H,fp)) (λC s H fp=>t1 (c,C,s,H,fp)) (λC s H fp=>e1 (c,C,s,H,fp)) (hs c)),M8 q g2 t2 e2⟩
def V7(ks:List Key)(H:Hp)(Q:VK):Prop:=∃xs:List Str,ks=xs.map YM/\(mK xs).length<64/\∀l,H l=af->Q (.ref l) (upd H l (.lst ((fU (mK xs)).map V.str)))
theorem Tr{X:Cx}{ks zs:List Key}(h:V7 ks H Q)(I:Inv X pins σ H s)(V:Zu zs (m8 ks))(Z:zs.length<4000)(B:Vals (zs.map kV) its):wpAny 1.13 X.A.in1 (adA its >>=λl=>aeD [l] (call (.builtin "list.sort") [l] []) >>=λ_=>ret l) (λfin s'=>∃v,fin= .done (.ret v)/\EP X pins σ Q v s') E s:=by
 obtain⟨xs,rfl,z,q⟩:=h;rw[uV λa b h=>afO h]at V;obtain⟨e1,O⟩:=perm_back (g:=λk:Key=>(Sum.elim (λ_=>("":Str)) id k:Str)) (λa=>rfl) V;rw[e1]at B Z;generalize zs.map (λk:Key=>(Sum.elim (λ_=>("":Str)) id k:Str))=ws at B Z O;have U:ws.length<64:=by rw[O.length_eq];exact z
 exact xR I (ys:=ws) (by rw[Yw]at B;exact B) U λF e1 e2=>by rw[pL (e1.trans O) e2];exact q
def jo:List D->Option D
 |[.lst _ ds]=>if ds.length<4000 then(strsOf ds).bind λxs=>if(mK xs).length<64 then ac (.lst .own ((fU (mK xs)).map D.str))else af else af
 |_=>af
theorem zj:CaV G (λO H Q=>∃a ks,O=[.ref a]/\SqL G.K H a (YK kV ks)/\aaF ks<4000/\V7 ks H Q) jo:=λds d e xs H W F r nd hn w Q q=>by
 unfold jo at e;split at e
 .split at e
  .rename_i m ds hl
   show 6;cases h2:strsOf ds with
   |none=>simp[h2]at e
   |some zs=>
    simp![h2,gD]at e;by_cases I:(mK zs).length<64
    case neg=>rw[Y4 I]at e;cases e
    rw[YH I]at e;obtain rfl:D.lst .own ((fU (mK zs)).map D.str)=d:=Zr e;have hd:=nM h2;subst hd;have B:=pQ Z;subst B;exact⟨a,zs.map YM,rfl,by rw[Yw];exact hs.sq,by simpa using hl,⟨zs,rfl,I,λl U=>o5 (mj _) (λa Y=>by cases Y) List.nodup_nil hn U q⟩⟩
  .cases e
 .cases e
theorem Cj(F:∀c,Gl (X c) "sorted")(V:∀c,(X c).mg "sorted"=af)(z:∀c,(X c).mg "set"=af)(Y:PVA X G ob [e] f)(I:∀c,Gl (X c) "set":=by intro _;rfl)(hs:∀c,YD [e] (X c).env=[(ae,eval e (X c).env)]:=by intro _;rfl)(B:∀c,(X c).calm=ag:=by intro _;rfl)(q:∀c,(X c).K=G.K:=by intro _;rfl) :
 PV X G ob (.Call (.Name "sorted" p1) [.Call (.Name "set" p2) [e] [] q2] [] q1) (eAp jo f):=let⟨t,a1,a2⟩:=Y.ex;⟨_,λc=>(by rw[←q c];exact Ge Tr (F c) (V c) (z c) (a1 c) (I c) (hs c) (B c)),sU zj a2⟩
def jG:List D->Option D
 |[.lst _ ds]=>if ds.length<64 then(strsOf ds).map λys=>.lst .own ((fU ys).map D.str)else af
 |_=>af
theorem BX(z:∀c,(X c).K=G.K:=by intro _;rfl):CaB X G (.builtin "sorted") jG:=⟨Bo G.K,λc=>by rw[←z c];exact zK,λds d e xs H W F r nd hn w Q q=>by
 unfold jG at e;split at e
 .split at e
  .rename_i m ds hl
   show 6;cases h2:strsOf ds with
   |none=>simp[h2]at e
   |some zs=>
    rw[h2]at e;cases e;have hd:=nM h2;subst hd;have B:=pQ Z;subst B;exact⟨a,zs,rfl,hs.sq,by simpa using hl,λI e1 e2 l U=>by rw[pL e1 e2];exact o5 (mj _) (λa Y=>by cases Y) List.nodup_nil hn U q⟩
  .cases e
 .cases e⟩
theorem Fy{X:Cx}(F:Gl X "len")(V:X.mg "len"=af)(a4:X.mg "set"=af)(Y:PA X [e] t)(a2:Gl X "set":=by rfl)(hs:YD [e] X.env=[(ae,eval e X.env)]:=by rfl)(B:X.calm=ag:=by rfl) :
  PE X (.Call (.Name "len" p1) [.Call (.Name "set" p2) [e] [] q2] [] q1) (KC X.K t):=by
 intro pins s σ H Q I h;refine aaJ (lC I F V Z6 ?_);refine abB rfl (abL ?_);show wpAny _ _ (spliced ((ae,eval (.Call (.Name "set" p2) [e] [] q2) X.env)::Z4 q1 (YD [] X.env))) _ _ s;refine ac7 ?_;refine aaJ (lC I a2 a4 boot_set ?_);refine aaB (thn (Y q2 pins s σ H _ I h) λus Z ⟨O,H1,I1,r1,a3⟩=>?_) hs rfl;obtain⟨a,ks,ev,hq,hz,q⟩:=a3;subst ev;obtain⟨u,rfl,ru⟩:=vals1 r1;cases ru;have hh:X.A.handled=af:=I1.ok.hd B;obtain⟨its,rv,pl,a7⟩:=I1.list hq;have z:=rv.length;rw[Yt]at z;refine xH (its:=its) (ks:=ks) hh z (λj k v e1 e2=>?_) (by show its.length+1<4096;omega) pl.isList λs2 a1=>?_
 .have:(YK kV ks)[j]? =ac (kV k):=by rw[List.getElem?_map,e1];rfl
  obtain⟨w',h1,h2⟩:=rv.get this;rw[e2]at h1;cases h1;exact h2
 .refine adn ?_
  obtain⟨h',tk,rfl,hS,old⟩:=a1;have I2:Inv X pins σ H1 {Z with heap:=h',toks:=tk}:=I1.kept (t':=tk) old;obtain⟨o,es,ep,tb,ho,a0,hd,a8,a5,U,hf,hn⟩:=hS.of;have a6:=MK ks;refine call_len_set ho a0 hd hf (by rw[hn];omega) ?_;rw[hn];exact⟨.int (m8 ks).length,H1,I2.tok _,⟨_,rfl⟩,q⟩
theorem Fv(F:∀c,Gl (X c) "len")(V:∀c,(X c).mg "len"=af)(z:∀c,(X c).mg "set"=af)(Y:PVA X G ob [e] f)(I:∀c,Gl (X c) "set":=by intro _;rfl)(hs:∀c,YD [e] (X c).env=[(ae,eval e (X c).env)]:=by intro _;rfl)(B:∀c,(X c).calm=ag:=by intro _;rfl)(q:∀c,(X c).K=G.K:=by intro _;rfl) :
 PV X G ob (.Call (.Name "len" p1) [.Call (.Name "set" p2) [e] [] q2] [] q1) (eAp j_ f):=let⟨t,a1,a2⟩:=Y.ex;⟨_,λc=>(by rw[←q c];exact Fy (F c) (V c) (z c) (a1 c) (I c) (hs c) (B c)),sU CK a2⟩
def wu:D->Option Int->Option Int->Option D
 |.lst _ ds,lo,hi=>ac (.lst .own (cutD ds lo hi))
 |_,_,_=>af
theorem QL(z:∀c,(X c).K=G.K:=by intro _;rfl):SlB X G wu:=⟨Wu G.K,λc=>by rw[←z c];exact Qo,λdx lo hi d e x H W I rx nd hn w Q q=>by
 unfold wu at e;split at e
 .cases e
  rw[Rep]at rx;obtain⟨a,xs,M,rfl,Z,hs⟩:=rx;obtain⟨M',h1,h2⟩:=Z.cut lo hi;exact⟨a,xs,rfl,hs.sq,λp V=>rC h1 (h2.trans hs.sub) nd hn V q⟩
 .cases e⟩
theorem nQ{lo hi:Option Expr}{f:En->Option D}{fl q:En->Option (Option Int)}(o:SlB X G wu)(h:PV X G ob e f)(Z:PVO X G ob lo fl)(B:PVO X G ob hi q):PV X G ob (.Subscript e (.Slice lo hi af p2) pos) (zm wu f fl q):=let⟨r,o1,o2⟩:=o.ex;let⟨t,a1,a2⟩:=h.ex;let⟨u,b1,b2⟩:=Z.ex;let⟨v,c1,c2⟩:=B.ex;⟨_,λc=>K_ (o1 c) (a1 c) (b1 c) (c1 c),Wq o2 a2 b2 c2⟩
def cV:List D->Option D:=fnP 1 2 ((bw (bN (eAp Hd (aj (zm wu (ao ae 0) xf (vX (eC (.int 63)))) aA)) (tgN 1))
 (bw (sIf (eB (e2 gEq (ao ae 1) (eAp bY aA))) (bN (eAp bY (aj (eC (.int 7)) aA)) (tgN 1)) dg)
 (uP "cells" "turn" 1 0))))
def aN:List D->Option (D×List D):=fnI (λi=>i==0) 2 7 ((bw (bN (e2 fQ (e2 gIx (ao ag 0) (eC (.str "turn"))) (eC (.int 1))) (tgN 2))
 (bw (bN (ao ae 2) (jb dH 0 (eV 0) (eC (.str "turn"))))
 (bw (bN (e2 mL (ao ae 2) (eAp bT (aj (e2 gIx (ao ag 0) (eC (.str "cells"))) aA))) (tgN 3))
 (bw (bN (e2 gIx (e2 gIx (ao ag 0) (eC (.str "cells"))) (ao ae 3)) (tgN 4))
 (bw (sIf (eB (e2 gGe (ao ae 4) (e2 tV (eC (.int 10)) (eC (.int 18))))) (bw (bN (eAp uw (aj (ao ae 4) (aj (ao ae 1) aA))) (tgT 2 (aO (jb dH 0 (qy 0 (eV 0) (eC (.str "cells"))) (ao ae 3)) (aO (tgN 5) cz))))
 (gP 5)) dg)
 (bw (bN (e2 mL (e2 jZ (e2 fQ (e2 fQ (e2 mL (ao ae 4) (eC (.int 2147483629))) (e2 jZ (e2 jZ (ao ae 2) (ao ae 2)) (eC (.int 7919)))) (eC (.int 11))) (eC (.int 48271))) (eC (.int 2147483647))) (tgN 6))
 (bw (bN (e2 mL (e2 jZ (ao ae 6) (ao ae 6)) (eC (.int 2147483587))) (tgN 6))
 (cI (e2 mL (e2 lN (e2 mL (e2 jZ (e2 fQ (ao ae 6) (e2 jZ (ao ae 2) (eC (.int 104729)))) (eC (.int 39373))) (eC (.int 2147483629))) (eC (.int 64))) (ao ae 1)))))))))))
def fD:List D->Option (D×List D):=fnI (λi=>i==0) 1 4 ((bw (gf (ee2 gIx (zJ bY (fu (eUp (eC (.int 4))) (fu (eUp (eC (.int 5))) (fu (eUp (eC (.int 6))) (fu (eUp (eC (.int 7))) (fu (eUp (eC (.int 8))) (fu (eUp (eC (.int 6))) (fu (ee2 fQ (eUp (eC (.int 10))) (eIo aN [0] (gF (aj (eC (.int 5)) aA)))) (fu (eIo aN [0] (gF (aj (eC (.int 3)) aA))) (gF aA)))))))))) (eIo aN [0] (gF (aj (eC (.int 8)) aA)))) (tgN 1))
 (bw (bN (eMt vd (eC (.str "b aa zebra c quartzes ab m knows d mm likes z a ba abcdefgh y")) (aj (eC (.str " ")) aA)) (tgN 2))
 (bw (gf (eIo aN [0] (gF (aj (eAp bT (aj (ao ae 2) aA)) aA))) (tgN 3))
 (cI (zm wu (e2 fQ (zm wu (ao ae 2) (vX (ao ae 3)) xf) (zm wu (ao ae 2) xf (vX (ao ae 3)))) xf (vX (ao ae 1))))))))
def dz:List D->Option (D×List D):=fnI (λi=>i==0) 2 11 ((bw (gf (vK [af,ac 0] (itS (ao ae 1)) (tgN 0) eTT (ee2 jf (eIo aN [1] (gF (aj (eC (.int 19)) aA))) (eUp (eC (.int 9))))) (tgN 2))
 (bw (Ca (eeB (ee2 gEq (eIo aN [0] (gF (aj (eC (.int 6)) aA))) (eUp (eC (.int 0))))) (bN (bU [af] (itS (ao ae 2)) (tpN 0) eTT (e2 jZ (ao ae 0) (eC (.int 50000000021)))) (tgN 2)) dg)
 (bw (bN (eAp bY aA) (tgN 3))
 (bw (uO (vp (fu (eIo aN [0] (gF (aj (e2 fQ (e2 jZ (eC (.int 2)) (eAp bT (aj (ao ae 1) aA))) (eC (.int 1))) aA))) (gF aA))) (tgN 4) (bw (vH (fu (eIo aN [0] (gF (aj (eAp bT (aj (ao ae 1) aA)) aA))) (fu (eIo aN [0] (gF (aj (eAp bT (aj (ao ae 1) aA)) aA))) (gF aA))) (aO (tgN 5) (aO (tgN 6) cz)))
 (bw (bN (e2 jf (e2 gIx (ao ae 2) (ao ae 6)) (e2 gIx (ao ae 2) (ao ae 5))) (tgN 7))
 (bw (Ca (eeB (ee2 gEq (eIo aN [0] (gF (aj (eC (.int 3)) aA))) (eUp (eC (.int 0))))) (gf (ee2 jf (eIo aN [0] (gF (aj (eC (.int 9)) aA))) (eUp (eC (.int 4)))) (tgN 7)) dg)
 (bw (iK aX 3 (eV 3) (aj (eAp bH (aj (e2 gIx (ao ae 1) (ao ae 5)) (aj (e2 gIx (ao ae 1) (ao ae 6)) (aj (ao ae 7) aA)))) aA))
 (bw (gf (eIo aN [0] (gF (aj (eC (.int 12)) aA))) (tgN 8))
 (bw (sIf (eB (e2 gEq (ao ae 8) (eC (.int 0)))) (gf (ee2 gIx (eUp (ao ae 3)) (eIo aN [0] (gF (aj (eAp bT (aj (ao ae 3) aA)) aA)))) (jb dH 3 (eV 3) (e1 jJ (eC (.int 1))))) dg)
 (sIf (eB (e2 gEq (ao ae 8) (eC (.int 1)))) (bw (gf (ee2 gIx (eUp (ao ae 3)) (eIo aN [0] (gF (aj (eAp bT (aj (ao ae 3) aA)) aA)))) (tgT 3 (aO (tgN 9) (aO (tgN 10) (aO (tgN 7) cz)))))
 (bN (eAp bH (aj (ao ae 10) (aj (ao ae 9) (aj (e1 jJ (ao ae 7)) aA)))) (jb dH 3 (eV 3) (e1 jJ (eC (.int 1)))))) dg))))))))
 (gP 3))))))
def e_:List D->Option (D×List D):=fnI (λi=>i==0) 2 5 ((bw (bN (e2 fQ (ao ae 1) (eAp bY (aj (eC (.str "lone")) aA))) (tgN 2))
 (bw (gf (ee2 gIx (eUp (ao ae 2)) (eIo aN [0] (gF (aj (eAp bT (aj (ao ae 2) aA)) aA)))) (tgN 3))
 (bw (gf (ee2 gIx (eUp (ao ae 2)) (eIo aN [0] (gF (aj (eAp bT (aj (ao ae 2) aA)) aA)))) (tgN 4))
 (uX (zJ bH (fu (eUp (ao ae 3)) (fu (ee2 gIx (eUp (eAp bY (aj (ao ae 4) (aj (ao ae 3) aA)))) (zJ rE (fu (ee2 gEq (eIo aN [0] (gF (aj (eC (.int 8)) aA))) (eUp (eC (.int 0)))) (gF aA)))) (gF aA)))))))))
def cM:List D->Option D:=fnP 1 6 ((bw (bN (eAp ue aA) (tgN 1))
 (bw (gO (itE 1.25) (tgT 2 (aO (tgN 2) (aO (tgT 3 (aO (tgN 3) (aO (tgN 4) (aO (tgN 5) cz)))) cz))) (bw (Bs 1 (aj (ao ae 3) (aj (eAp bY aA) aA)) (aj (eAp bH (aj (eAp bH (aj (ao ae 2) (aj (eC (.int 1)) aA))) (aj (ao ae 4) aA))) aA))
 (Bs 1 (aj (ao ae 4) (aj (eAp bY aA) aA)) (aj (eAp bH (aj (eAp bH (aj (ao ae 2) (aj (e1 jJ (eC (.int 1))) aA))) (aj (ao ae 3) aA))) aA))))
 (gP 1))))
def bI:List D->Option D:=fnP 2 10 ((bw (bN (eAp (aM cM) 1.25) (tgN 2))
 (bw (bN (qw (lD (ao ae 1) (eAp bH aA) sV)) (tgN 3))
 (bw (bN (qw (lD (ao ae 1) (eAp bH aA) sV)) (tgN 4))
 (bw (jF (tR (eB (e2 Lw (ao ae 4) (eAp ue aA)))) (bw (bN (eAp ue aA) (tgN 5))
 (bw (sFz 2 (sFz 4 (xY 4 (tgN 6) (gO (itS (eMt l_ (ao ae 2) (aj (ao ae 6) (aj (eAp bY aA) aA)))) (tgT 2 (aO (tgN 7) (aO (tgN 8) cz))) (bw (bN (e2 fQ (e2 gIx (ao ae 4) (ao ae 6)) (eAp bH (aj (ao ae 7) aA))) (tgN 9))
 (sIf (oh (eB (e2 dF (ao ae 8) (ao ae 3))) (eOr (eB (e2 dF (ao ae 8) (ao ae 5))) (eB (e2 wU (ao ae 9) (e2 gIx (ao ae 5) (ao ae 8)))))) (bN (ao ae 9) (jb dH 5 (eV 5) (ao ae 8))) dg))))))
 (bw (sFz 5 (iK oX 3 (eV 3) (aj (ao ae 5) aA)))
 (bN (ao ae 5) (tgN 4))))) 1000000)
 (gP 3))))))
def bW:List D->Option D:=fnP 3 5 ((bw (bN (eAp (aM bI) (aj (ao ae 0) (aj (ao ae 1) aA))) (tgN 3))
 (bw (sIf (eB (e2 dF (ao ae 2) (ao ae 3))) (cI (eC .non)) dg)
 (bw (bN (eAp bT (aj (e2 gIx (ao ae 3) (ao ae 2)) aA)) (tgN 4))
 (sFz 3 (cI (bU [af,ac 3] (ug (aj (ao ae 4) aA)) (tpN 0) eTT (eAp jG (aj (k_ 1 [af,ac 0,ac 1] (tpN 0) 1.23 (ao ae 0)) aA)))))))))
def dM:List D->Option D:=fnP 2 8 ((bw (bN (qw (lD (ao ae 1) (eAp bH aA) sV)) (tgN 2))
 (bw (bN (eAp bY (aj (ao ae 1) aA)) (tgN 3))
 (bw (jF (tR (mz (ao ag 3))) (bw (gf (m6 jN 3 (eV 3) (aj (eC (.int 0)) aA)) (tgN 4))
 (gO (itS (e2 gIx (ao ae 0) (ao ae 4))) (tgT 3 (aO (tgN 5) (aO (tgN 6) (aO (tgN 7) cz)))) (sIf (eB (e2 dF (ao ae 7) (ao ae 2))) (bw (bN (e2 fQ (e2 gIx (ao ae 2) (ao ae 4)) (eAp bH (aj (eAp bH (aj (ao ae 5) (aj (ao ae 6) aA))) aA))) (jb dH 2 (eV 2) (ao ae 7)))
 (iK aX 3 (eV 3) (aj (ao ae 7) aA))) dg))) 1000000)
 (gP 2)))))
def cO:List D->Option D:=fnP 2 7 ((bw (bN (wj [af] (itS (ao ae 0)) (tpN 0) eTT (ao ae 0) (eAp bY aA)) (tgN 2))
 (bw (gO (itE (aj (ao ae 1) aA)) (tgT 2 (aO (tgN 3) (aO (tgT 3 (aO (tgN 4) (aO (tgN 5) (aO (tgN 6) cz)))) cz))) (bw (iK aX 2 (qy 2 (eV 2) (ao ae 4)) (aj (eAp bH (aj (ao ae 3) (aj (eC (.int 1)) (aj (ao ae 5) aA)))) aA))
 (iK aX 2 (qy 2 (eV 2) (ao ae 5)) (aj (eAp bH (aj (ao ae 3) (aj (e1 jJ (eC (.int 1))) (aj (ao ae 4) aA)))) aA))))
 (gP 2))))
def b8:List D->Option D:=fnP 2 5 ((bw (bN (ao ae 0) (tgT 3 (aO (tgN 2) (aO (tgN 3) (aO (tgN 4) cz)))))
 (bw (sIf (eB (e2 gEq (ao ae 1) (eC (.int 1)))) (cI (eAp bH (aj (ao ae 2) (aj (ao ae 3) aA)))) dg)
 (cI (eAp bH (aj (ao ae 3) (aj (ao ae 2) aA)))))))
def dh:List D->Option D:=fnP 3 5 ((bw (bN (eAp bY (aj (ao ae 1) (aj (ao ae 2) aA))) (tgN 3))
 (bw (gO (itS (ao ae 0)) (tgN 4) (iK jA 3 (eV 3) (aj (eAp (aM b8) (aj (ao ae 4) (aj (eC (.int 1)) aA))) aA)))
 (cI (eAp jo (aj (ao ae 3) aA))))))
def bu:List D->Option D:=fnP 3 3 ((cI (eAp (aM dM) (aj (eAp (aM cO) (aj (eAp (aM dh) (aj (ao ae 0) (aj (ao ae 1) (aj (ao ae 2) aA)))) 1.25)) (aj (ao ae 1) aA)))))
def aY:List D->Option D:=fnP 3 7 ((bw (bN (eAp (aM bu) (aj (ao ae 0) (aj (ao ae 1) (aj (ao ae 2) aA)))) (tgN 3))
 (bw (sIf (eB (e2 dF (ao ae 2) (ao ae 3))) (cI (eC .non)) dg)
 (bw (bN (bU [af] (itS (e2 gIx (ao ae 3) (ao ae 2))) (tpN 0) eTT (eAp bY aA)) (tgN 4))
 (bw (gO (itS (eAp kj (aj (ao ae 3) aA))) (tgN 5) (bw (bN (eAp bT (aj (e2 gIx (ao ae 3) (ao ae 5)) aA)) (tgN 6))
 (sIf (eB (e2 gLt (ao ae 6) (eAp bT (aj (ao ae 4) aA)))) (iK aX 4 (qy 4 (eV 4) (ao ae 6)) (aj (ao ae 5) aA)) dg)))
 (gP 4))))))
def cH:List D->Option D:=fnP 3 3 ((cI (eMt iW (eAp (aM bu) (aj (ao ae 0) (aj (ao ae 1) (aj (ao ae 2) aA)))) (aj (ao ae 2) aA))))
def bO:List D->Option D:=fnP 1 5 ((bw (bN (eAp ue aA) (tgN 1))
 (bw (gO (itE 1.25) (tgT 2 (aO (tgN 2) (aO (tgN 3) cz))) (sFz 3 (gO (itS (ao ae 3)) (tgN 4) (iK sO 1 (eV 1) (aj (ao ae 4) (aj (ao ae 2) aA))))))
 (gP 1))))
def du:List D->Option D:=fnP 1 1 ((cI (e2 gEq (eAp j_ 1.25) (eAp bT 1.25))))
def dO:List D->Option D:=fnP 1 1 ((cI (uR (eAp cR (aj (ao ae 0) (aj (eC (.ty "tuple")) aA))) (e2 gEq (eAp bT 1.25) (eC (.int 2))))))
def cU:List D->Option D:=fnP 1 1 ((cI (uR (eAp cR (aj (ao ae 0) (aj (eC (.ty "int")) aA))) (e1 Jr (eAp cR (aj (ao ae 0) (aj (eC (.ty "bool")) aA)))))))
def cL:List D->Option D:=fnP 1 1 ((cI (uR (eAp (aM dO) 1.25) (uR (eAp (aM cU) (aj (e2 gIx (ao ae 0) (eC (.int 0))) aA)) (uR (eAp (aM cU) (aj (e2 gIx (ao ae 0) (eC (.int 1))) aA)) (e2 gIn (e2 gIx (ao ae 0) (eC (.int 1))) (eAp bH (aj (eC (.int 1)) (aj (e1 jJ (eC (.int 1))) aA)))))))))
def fP:List D->Option D:=fnP 1 1 ((cI (uR (eAp cR (aj (ao ae 0) (aj (eC (.ty "tuple")) aA))) (eAp kY (aj (bU [af] (itS (ao ae 0)) (tpN 0) eTT (eAp (aM cL) 1.25)) aA)))))
def gH:List D->Option D:=fnP 3 8 ((bw (bN (ao ae 1) (tgN 3))
 (bw (gO (itS (ao ae 2)) (tgT 2 (aO (tgN 4) (aO (tgN 5) cz))) (bw (sIf (eOr (eB (e2 gLt (ao ae 4) (eC (.int 0)))) (eB (e2 gGe (ao ae 4) (eAp bT 1.25)))) (cI (eC .non)) dg)
 (bw (bN (eAp (aM b8) (aj (e2 gIx (ao ae 0) (ao ae 4)) (aj (ao ae 5) aA))) (tgT 2 (aO (tgN 6) (aO (tgN 7) cz))))
 (bw (sIf (eB (e2 gNe (ao ae 6) (ao ae 3))) (cI (eC .non)) dg)
 (bN (ao ae 7) (tgN 3))))))
 (gP 3))))
def dN:List D->Option D:=fnP 2 2 ((cI (bU [af,af,ac 0] (itS (ao ae 1)) (tpT 2 (aO (tpN 0) (aO (tpN 1) cz))) eTT (e2 gIx (eAp (aM b8) (aj (e2 gIx (ao ae 2) (ao ae 0)) (aj (ao ae 1) aA))) (eC (.int 1))))))
def cA:List D->Option D:=fnP 4 4 ((bw (sIf (eOr (qN (mz (eAp (aM fP) (aj (ao ae 3) aA)))) (eB (e2 gNe (eAp (aM gH) (aj (ao ae 0) (aj (ao ae 1) (aj (ao ae 3) aA)))) (ao ae 2)))) (cI (eC (.bl ae))) dg)
 (cI (eAp (aM du) (aj (e2 fQ (eAp bY (aj (ao ae 1) aA)) (eAp (aM dN) (aj (ao ae 0) (aj (ao ae 3) aA)))) aA)))))
def bK:List D->Option D:=fnP 1 1 ((cI (eAp cR (aj (ao ae 0) (aj (eAp bH (aj (eC (.ty "list")) (aj (eC (.ty "tuple")) aA))) aA)))))
def cJ:List D->Option D:=fnP 1 1 ((bw (sIf (qN (mz (eAp cR (aj (ao ae 0) (aj (eC (.ty "str")) aA))))) (cI (eC (.bl ae))) dg)
 (bw (sIf (eOr (eB (e2 gLt (eAp bT 1.25) (eC (.int 1)))) (eB (e2 gGt (eAp bT 1.25) (eC (.int 8))))) (cI (eC (.bl ae))) dg)
 (cI (eAp kY (aj (bU [af] (sY (ao ae 0)) (tpN 0) eTT (e2 gIn (ao ae 0) (eC (.str "abcdefghijklmnopqrstuvwxyz")))) aA))))))
def bJ:List D->Option D:=fnP 1 1 ((cI (uR (eAp (aM bK) 1.25) (eAp kY (aj (bU [af] (itS (ao ae 0)) (tpN 0) eTT (eAp (aM cJ) 1.25)) aA)))))
def bh:List D->Option D:=fnP 5 7 ((bw (sIf (qN (mz (eAp (aM cA) (aj (ao ae 0) (aj (ao ae 1) (aj (ao ae 2) (aj (ao ae 3) aA))))))) (cI (eC (.bl ae))) dg)
 (bw (sIf (eOr (qN (mz (eAp (aM bK) (aj (ao ae 4) aA)))) (eOr (eB (e2 gNe (eAp bT (aj (ao ae 4) aA)) (eAp bT (aj (ao ae 3) aA)))) (qN (mz (eAp kY (aj (bU [af] (itS (ao ae 4)) (tpN 0) eTT (eAp (aM bJ) 1.25)) aA)))))) (cI (eC (.bl ae))) dg)
 (bw (bN (eAp bT (aj (ao ae 4) aA)) (tgN 5))
 (bw (bN (eAp (aM bO) (aj (ao ae 4) aA)) (tgN 6))
 (bw (sIf (eOr (eB (e2 gIn (ao ae 2) (ao ae 6))) (oh (eB (e2 gGt (ao ae 5) (eC (.int 0)))) (eB (e2 gNe (eMt iW (ao ae 6) (aj (ao ae 1) aA)) (eC (.int 0)))))) (cI (eC (.bl ae))) dg)
 (cI (eAp kY (aj (bU [af,af,af,ac 5,ac 6] (itS (ao ae 0)) (tpT 3 (aO (tpN 0) (aO (tpN 1) (aO (tpN 2) cz)))) eTT 1.18) aA)))))))))
def cD:List D->Option D:=fnP 3 10 ((bw (bN (eAp (aM bW) (aj (ao ae 0) (aj (ao ae 1) (aj (ao ae 2) aA)))) (tgN 3))
 (bw (sFz 3 (bN (eAp (aM aY) (aj (ao ae 0) (aj (ao ae 1) (aj (ao ae 2) aA)))) (tgN 4)))
 (bw (sIf (eB (e2 gNe (ao ae 4) (ao ae 3))) (cI (eC (.bl ae))) dg)
 (bw (sIf (eB (e2 gIs (ao ae 3) (eC .non))) (cI (e2 gIs (eAp (aM aY) (aj (eAp eQ 1.25) (aj (ao ae 2) (aj (ao ae 1) aA)))) (eC .non))) dg)
 (bw (sIf (eOr (qN (mz (eAp cR (aj (ao ae 4) (aj (eC (.ty "list")) aA))))) (qN (mz (eAp kY (aj (bU [af] (itS (ao ae 4)) (tpN 0) eTT (eAp cR (aj (ao ae 0) (aj (eC (.ty "list")) aA)))) aA))))) (cI (eC (.bl ae))) dg)
 (bw (bN (eAp (aM cH) (aj (ao ae 0) (aj (ao ae 1) (aj (ao ae 2) aA)))) (tgN 5))
 (bw (bN (eAp eQ (aj (bU [af] (itS (ao ae 3)) (tpN 0) eTT (eAp eQ 1.25)) aA)) (tgN 6))
 (bw (rF 4 [0,3] (gO (itS (eAp bH (aj (ao ae 4) (aj (ao ae 6) aA)))) (tgN 7) (sIf (eB (e2 iU (eAp (aM bh) (aj (ao ae 0) (aj (ao ae 1) (aj (ao ae 2) (aj (ao ae 5) (aj (ao ae 7) aA)))))) (eC (.bl ag)))) (cI (eC (.bl ae))) dg)))
 (bw (xG 4 8 (iK aX 8 (eV 8) (aj (eC (.str "never")) aA)))
 (bw (iK aX 4 (eV 4) (aj (eAp bY aA) aA))
 (bw (bN (eAp (aM aY) (aj (ao ae 0) (aj (ao ae 2) (aj (ao ae 1) aA)))) (tgN 9))
 (bw (sIf (oh (eB (e2 gGt (eAp bT (aj (ao ae 3) aA)) (eC (.int 0)))) (eB (e2 iU (eAp (aM bh) (aj (ao ae 0) (aj (ao ae 1) (aj (ao ae 2) (aj (ao ae 5) (aj (ao ae 9) aA)))))) (eC (.bl ae))))) (cI (eC (.bl ae))) dg)
 (cI (e2 gEq (eAp (aM aY) (aj (eAp eQ 1.25) (aj (ao ae 1) (aj (ao ae 2) aA)))) (ao ae 3))))))))))))))))
def jt:List D->Option D:=fnP 1 8 ((bw (bN (eAp (aM cV) 1.25) (tgN 1))
 (bw (uO (vp (fu (ee2 fQ (eUp (eC (.int 1))) (eIo aN [1] (gF (aj (eC (.int 2)) aA)))) (gF aA))) (tgN 2) (bw (gf (eIo fD [1] (gF aA)) (tgN 3))
 (bw (gf (eIo dz [1] (gF (aj (ao ae 3) aA))) (tgN 4))
 (sFz 4 (sFz 3 (gO (ug (aj (eC (.int 5)) aA)) (tgN 5) (bw (gf (eIo e_ [1] (gF (aj (ao ae 3) aA))) (tgT 2 (aO (tgN 6) (aO (tgN 7) cz))))
 (sIf (qN (mz (eAp (aM cD) (aj (ao ae 4) (aj (ao ae 6) (aj (ao ae 7) aA)))))) (cI (eC (.bl ae))) dg))))))))
 (cI (eC (.bl ag))))))
abbrev Pq:=Int×Int
abbrev Tq:=Int×Int×Str
inductive Wk2(ad:Str->List Tq)(h:Str):List Pq->Str->Prop
 |nil:Wk2 ad h [] h
 |snoc {ps:List Pq} {x:Str} {t:Tq}:Wk2 ad h ps x->t∈ad x->Wk2 ad h (ps++[(t.1,t.2.1)]) t.2.2
def Lst(ad:Str->List Tq)(h:Str)(us:List (Str×List Pq)):Prop:=(∀u∈us,Wk2 ad h u.2 u.1)/\∀Y y,Wk2 ad h Y y->∃u∈us,u.1=y/\u.2.length<=Y.length
abbrev Pt:=Int×Int
def ptD(p:Pt):D:=.tup [.int p.1,.int p.2]
theorem LQ(l:List Pt):aB (l.map ptD)=ag:=cg λd hd=>by obtain⟨x,_,rfl⟩:=Yr.mp hd;rfl
theorem Lp(l:List Pt):aC (l.map ptD)=ag:=bL λd hd=>by obtain⟨x,_,rfl⟩:=Yr.mp hd;rfl
theorem WR(b:Bool)(l:List Pt):eE b (l.map ptD)=l.map ptD:=by rw[eF,Yw];rfl
theorem Wi(l:List Pt):fzL (l.map ptD)=l.map ptD:=by rw[fX,Yw];rfl
theorem Lh(l:List Pt):gM (l.map ptD)=l.map ptD:=by rw[fL,Yw];rfl
structure JJ(J:D)(js:List Jt):Prop where
 f:fz J=J
 v:∀b,view b J=J
 b:az J=ag
 o:au J=ag
 l:bT [J]=ac (.int js.length)
 x:∀i,gIx J (.int i)=atI (js.map jD) i
 s:dw J=ac (ag,js.map jD)
 e:itE (λ_=>ac [J]) []=ac (ag,kh 0 (js.map jD))
theorem JJ.lst(js:List Jt):JJ 1.26 js:=⟨by simp[fz,lR,mkF],λb=>by cases b<;>simp[view,uQ,mkV],by simp[az,sE],by simp[au,oN],by simp[bT],λ_=>rfl,by simp[dw,clean,az,au,sE,oN,HB],by simp[itE,dw,clean,az,au,sE,oN,HB]⟩
theorem JJ.tup(js:List Jt):JJ (.tup (js.map jD)) js:=⟨by simp[fz,lR],λb=>by simp[view,uQ],by simp[az,sE],by simp[au,oN],by simp[bT],λ_=>rfl,by simp[dw,clean,az,au,sE,oN,HB],by simp[itE,dw,clean,az,au,sE,oN,HB]⟩
abbrev Tt:=Int×Int×Str
def tD(t:Tt):D:=.tup [.int t.1,.int t.2.1,.str t.2.2]
theorem Xa(l:List Tt):aB (l.map tD)=ag:=cg λd hd=>by obtain⟨x,_,rfl⟩:=Yr.mp hd;rfl
theorem Xg(l:List Tt):aC (l.map tD)=ag:=bL λd hd=>by obtain⟨x,_,rfl⟩:=Yr.mp hd;rfl
theorem W4(b:Bool)(l:List Tt):eE b (l.map tD)=l.map tD:=by rw[eF,Yw];rfl
theorem q_:∀ns:List Str,wL (ns.map D.str)=ac (ns.map V.str)
 |[]=>rfl
 |x::r=>by simp[wL,scV,q_ r]
theorem BR:inV (.str x) (ns.map V.str)=decide (x∈ns):=by
 unfold inV;rw[List.any_map,aap,abq,aaN];simp![aat,eqV,beq_iff_eq];exact⟨λ⟨y,h1,h2⟩=>h2▸h1,λh=>⟨x,h,rfl⟩⟩
structure NK(N:D)(ns:List Str):Prop where
 f:fz N=N
 v:∀b,view b N=N
 b:az N=ag
 o:au N=ag
 l:bT [N]=ac (.int ns.length)
 x:∀i,gIx N (.int i)=atI (ns.map D.str) i
 i:∀y,gIn (.str y) N=ac (.bl (decide (y∈ns)))
 ni:∀y,dF (.str y) N=ac (.bl (!decide (y∈ns)))
 s:dw N=ac (ag,ns.map D.str)
theorem NK.lst(ns:List Str):NK (.lst .frz (ns.map D.str)) ns:=⟨by simp[fz,jm,mkF],λb=>by cases b<;>simp[view,dX,mkV],by simp[az,dq],by simp[au,bQ],by simp[bT],λ_=>rfl,λy=>by simp[gIn,uY,scV,q_,BR],λy=>by simp[dF,uY,scV,q_,BR],by simp[dw,clean,az,au,dq,bQ,il]⟩
theorem Gy:∀g:List Str,strsOf (g.map D.str)=ac g
 |[]=>rfl
 |y::r=>by simp[strsOf,Gy r]
theorem gq(g:List Str):Zu (fU g) g:=by
 unfold fU;split
 .rename_i h
  exact h.choose_spec.1
 .exact .refl _
theorem j4[DecidableEq α]:∀{ks ns:List α},ks.Nodup->(∀k∈ks,k∈ns)->ks.length<=ns.length
 |[],_,_,_=>ac1 _
 |k::r,ns,h,hs=>by
  have B:=hs k (.head _);have h1:=j4 (ks:=r) (ns:=ns.erase k) (Y5.mp h).2 λx F=>(List.mem_erase_of_ne (show x≠k from λe=>(Y5.mp h).1 (by rw[←e];exact F))).mpr (hs x (.tail _ F));rw[List.length_erase_of_mem B]at h1;have:=List.length_pos_of_mem B;simp![Yy];omega
theorem kI:(cP (ys.map YM) (YM x)).isSome=decide (x∈ys):=by
 cases e:cP (ys.map YM) (YM x)with
 |none=>
  unfold cP at e;rw[Zn]at e;refine(Zc λh=>?_).symm;have:=e (YM x) (Yr.mpr ⟨x,h,rfl⟩);simp at this
 |some j=>
  obtain⟨Z,O,_⟩:=Zg.mp e;have h2:(ys.map (YM:Str->Key))[j]=YM x:=by simpa using O
  have Y:YM x∈ys.map (YM:Str->Key):=h2▸aaj Z;obtain⟨y,V,F⟩:=Yr.mp Y;cases F;exact(aaL V).symm
def lT(l:List Tt):D:=.lst .own (l.map tD)
def lead(ns:List Str)(f:Str->List Tt):D:=.dct .own (ns.map YM) (ns.map λy=>lT (f y))
def upF(f:Str->List Tt)(x:Str)(t:Tt):Str->List Tt:=λy=>if y=x then f y++[t]else f y
def adj(js:List Jt):Nat->Str->List Tt
 |0=>λ_=>[]
 |k+1=>match js[k]? with
  |some j=>upF (upF (adj js k) j.1 (k,1,j.2.1)) j.2.1 (k,-1,j.1)
  |none=>adj js k
theorem jj(F:x∈ns):∃i,cP (ns.map YM) (YM x)=ac i/\ns[i]? =ac x/\i<ns.length:=by
 have h:=kI (ys:=ns) (x:=x);rw[aaL F]at h;obtain⟨i,hi⟩:=aaq.mp h;obtain⟨Z,O,_⟩:=Zg.mp hi;have U:i<ns.length:=by simpa using Z
 refine⟨i,hi,?_,U⟩;rw[Yo U];simpa using O
theorem Ff{g g':Str->α}{a:α}(hn:ns.Nodup)(hi:ns[i]? =ac x)(Y:g' x=a)(F:∀y,y≠x->g' y=g y):(ns.map g).set i a=ns.map g':=by
 apply aaz;intro k;rw[aan];have B:i<ns.length:=(List.getElem?_eq_some_iff.mp hi).1;by_cases e:i=k
 .subst e
  rw[YH rfl,YH (by simpa using B),List.getElem?_map,hi,←Y];rfl
 .rw[Y4 e,List.getElem?_map,List.getElem?_map]
  cases O:ns[k]? with
  |none=>rfl
  |some y=>
   have q:y≠x:=λz=>by
    rw[z]at O;obtain⟨h1,h2⟩:=List.getElem?_eq_some_iff.mp hi;obtain⟨U,I⟩:=List.getElem?_eq_some_iff.mp O;exact e ((adC hn).mp (h2.trans I.symm))
   simp[F y q]
variable{f:Str->List Tt}{t:Tt}{ρ:En}
theorem DQ(hn:ns.Nodup)(h2:ρ[2]? =ac (ac (lead ns f)))(h4:ao ae i ρ=ac (.str x))(F:x∈ns)(Z:(f x).length<1000000)(Y:fa ρ=ac [tD t]) :
  iK aX 2 (qy 2 (eV 2) (ao ae i)) fa ρ=ac (.nx (ρ.set 2 (ac (lead ns (upF f x t))))):=by
 obtain⟨k,O,a0,z⟩:=jj F;have q:(ns.map λy=>lT (f y))[k]? =ac (lT (f x)):=by rw[List.getElem?_map,a0];rfl
 have e1:ixP (lead ns f) (.str x)=ac k:=by simp[ixP,lead,cQ,O,z]
 have e2:kids (lead ns f)=ns.map λy=>lT (f y):=rfl;have e3:cY [k] (lT (f x++[t])) (lead ns f)=lead ns (upF f x t):=by
  have hs:=Ff (g:=λy=>lT (f y)) (g':=λy=>lT (upF f x t y)) (a:=lT (f x++[t])) hn a0 (by simp[upF]) (λy V=>by simp[upF,V]);rw[cY,e2,q];simp![cY];rw[hs];rfl
 have e4:d_ [k] (lead ns f)=ac (lT (f x)):=by simp[d_,e2,q]
 have e5:aX (lT (f x)) [tD t]=ac (lT (f x++[t]),.non):=by simp[lT,aX,Z]
 have I:d_ [] (lead ns f)=ac (lead ns f):=rfl;have B:qy 2 (eV 2) (ao ae i) ρ=ac [k]:=by
  unfold qy eV;rw[h2,h4];simp![gD,I,e1,e2,Yt,z,Y6,List.nil_append]
 have U:aB [tD t]=ag/\aC [tD t]=ag:=⟨rfl,rfl⟩;unfold iK m6;rw[B,Y];simp![gD];unfold upS;rw[h2];simp![e4,gD,U.1,U.2,and_self,Y6,e5,Y9,e3]
theorem ut:(upF f x t y).length<=(f y).length+1:=by unfold upF;split<;>simp
theorem pY(js:List Jt)(y:Str):∀k,(adj js k y).length<=2*k
 |0=>by simp[adj]
 |k+1=>by
  have I:=pY js y k;rw[adj];cases V:js[k]? with
  |some j=>
   simp only;have h1:=ut (f:=upF (adj js k) j.1 (k,1,j.2.1)) (x:=j.2.1) (y:=y) (t:=((k:Int),-1,j.1));have h2:=ut (f:=adj js k) (x:=j.1) (y:=y) (t:=((k:Int),1,j.2.1));omega
  |none=>simp only;omega
theorem nq(js:List Jt)(y:Str){t:Tt}:∀k,t∈adj js k y↔∃(n:Nat)(j:Jt),n<k/\js[n]? =ac j/\((j.1=y/\t=((n:Int),1,j.2.1))∨(j.2.1=y/\t=((n:Int),-1,j.1)))
 |0=>by simp[adj]
 |k+1=>by
  have I:=nq js y (t:=t) k;have up:∀(f:Str->List Tt)(x:Str)(u:Tt),t∈upF f x u y↔t∈f y∨(x=y/\t=u):=λf x u=>by
   unfold upF;by_cases e:y=x
   .simp[e]
   .have e':¬x=y:=λz=>e z.symm
    simp[e,e']
  rw[adj];cases V:js[k]? with
  |none=>
   simp only;rw[I];constructor
   .rintro⟨n,j,h1,h2⟩;exact⟨n,j,by omega,h2⟩
   .rintro⟨n,j,h1,h2,h3⟩
    refine⟨n,j,?_,h2,h3⟩;have:n≠k:=λz=>by rw[z,V]at h2;cases h2
    omega
  |some j=>
   simp only;rw[up,up,I];constructor
   .rintro((⟨n,i,h1,h2⟩|h)|h)
    .exact⟨n,i,by omega,h2⟩
    .exact⟨k,j,by omega,V,.inl h⟩
    .exact⟨k,j,by omega,V,.inr h⟩
   .rintro⟨n,i,h1,h2,h3⟩
    by_cases e:n=k
    .subst e
     rw[V]at h2;cases h2;rcases h3 with z|z
     .exact .inl (.inr z)
     .exact .inr z
    .exact .inl (.inl ⟨n,i,by omega,h2,h3⟩)
def EbI(N J:D)(ns:List Str)(js:List Jt)(k:Nat)(ρ:En):Prop:=∃B F V z:Option D,ρ=[ac N,ac J,ac (lead ns (adj js k)),B,F,V,z]
local macro_rules
 |`(tactic|simp_arith[$xs,*])=>do
  let a:=("aF uM aL bV w_ite xr bN gf vH sIf Ca cI uX gP dg gO uO sFz iY iK m6 upS tgN tgT aO cz jb tpN tpT eV qy ao eC aA aj eAp eUp tR gF ee2 fu zJ e2 e1 eB eeB mz oh eOr qN Xp uR eTT isB ug itS itE vp dw bU vK eSl XR zm Ru xf vX eMt XD eIo objs lO aM d_ cY clean az au aB aC iH iG view eE mkV mkF fz fzL fzo gM mkO fnP fnI en0 outs dI iy obC truth".splitOn " ").toArray.map λx=>Lean.mkNode `Lean.Parser.Tactic.simpLemma #[Lean.mkNullNode,Lean.mkNullNode,Lean.mkIdent (`Jb++x.toName)]
  let b:=Lean.Syntax.TSepArray.mk (sep:=",") (Lean.mkSepArray (a.map (·.raw)++xs.getElems.map (·.raw)) (Lean.mkAtom ","))
  `(tactic|simp[$b,*])
theorem Xh:∀ns:List Str,jB (tpN 0) eTT (ao ae 0) (eAp bY aA) [af] (ns.map D.str)=ac (ns.map λy=>((YM y:Key),D.lst .own []))
 |[]=>rfl
 |x::r=>by
  rw[Ys,jB,Xh r];simp_arith[sEx,aR,bx,aU,fQ,jf,jZ,lN,mL,tV,jJ,gLt,gGt,gGe,gIx,bY,bH,bT,n_,rE,qu,gIs,j9,atI,ixN,aX,dH,gSl,pZ,eQ,cQ]
variable{J:D}{js:List Jt}
set_option hygiene false
local macro_rules
 |`(tactic|simp_arith![$x,*])=>`(tactic|simp only[$x,*,en0,Yy,YX,Ys,Y_,Zb,Y6,aL,Nat.reduceAdd,Nat.reduceSub,YW,List.nil_append])
set_option hygiene true
theorem SM{N:D}(hN:NK N ns)(q:JJ J js)(hn:ns.Nodup)(V:∀j∈js,j.1∈ns/\j.2.1∈ns)(Z:ns.length<=1000)(B:js.length<=1000):cO [N,J]=ac (lead ns 1.12):=by
 apply Wp.eq;simp_arith![cO,fnP];refine a_ (EbI N J ns js 0) 1.19 ?_
 .have hnd:(ns.map λy=>(YM y:Key)).Nodup:=ae_.mpr (hn.imp λh e=>h (by cases e;rfl))
  simp_arith[sEx,aR,bx,aU,-dw,wj,hN.v,hN.s,Xh];refine⟨by omega,?_⟩;rw[qx,Yw,Yw,show((λx:Key×D=>x.1)∘λy=>((YM y:Key),D.lst .own []))=YM from rfl];rw[YH hnd,aF];refine⟨⟨?_,?_⟩,I _ ⟨_,_,_,_,rfl⟩⟩
  .simp![az];rw[cg λd hd=>by obtain⟨y,_,rfl⟩:=Yr.mp hd;rfl];rfl
  .simp![au];rw[bL λd hd=>by obtain⟨y,_,rfl⟩:=Yr.mp hd;rfl];rfl
 rintro _ ⟨y3,y4,y5,y6,rfl⟩;refine a_ (EbI N J ns js js.length) 1.19 ?_
 .simp[gO,itE,ao,aj,aA,q.v,q.s,aL,aF,w_ite]
  refine iQ (EbI N J ns js) ⟨y3,y4,y5,y6,rfl⟩ ?_ (λρ h=>I _ (by rw[jn]at h;simpa using h));rintro k d ρ O ⟨x3,F,x5,z,rfl⟩;rw[jq,List.getElem?_map]at O;cases U:js[k]? with
  |none=>simp[U]at O
  |some j=>
   obtain rfl:D.tup [.int (k:Int),jD j]=d:=by simpa[U]using O
   obtain⟨a0,Y⟩:=V j (Y0 U);have a1:k<js.length:=(List.getElem?_eq_some_iff.mp U).1;simp[jD,tgT,aO,cz,tgN,aB,aC,clean,az,au,aF];refine a_ (λρ=>ρ=[ac N,ac J,ac (lead ns (upF (adj js k) j.1 (k,1,j.2.1))),ac (.int k),ac (.str j.1),ac (.str j.2.1),ac (.int j.2.2)]) 1.19 ?_
   .refine Rt (DQ (t:=((k:Int),1,j.2.1)) hn rfl (x:=j.1) (by simp[ao,view]) a0 (by have:=pY js j.1 k;omega) (by simp_arith[sEx,aR,bx,aU,fQ,jf,jZ,lN,mL,tV,jJ,gLt,gGt,gGe,gIx,bY,bH,bT,n_,rE,qu,gIs,j9,atI,ixN,aX,dH,gSl,pZ,eQ,tD])) (I _ rfl)
   rintro _ rfl;refine Rt (DQ (t:=((k:Int),-1,j.1)) hn rfl (x:=j.2.1) (by simp[ao,view]) Y (by have:=pY js j.2.1 k;have:=ut (f:=adj js k) (x:=j.1) (y:=j.2.1) (t:=((k:Int),1,j.2.1));omega) (by simp_arith[sEx,aR,bx,aU,fQ,jf,jZ,lN,mL,tV,jJ,gLt,gGt,gGe,gIx,bY,bH,bT,n_,rE,qu,gIs,j9,atI,ixN,aX,dH,gSl,pZ,eQ,tD])) ⟨ac (.int k),ac (.str j.1),ac (.str j.2.1),ac (.int j.2.2),?_⟩;rw[adj,U];rfl
 rintro _ ⟨x3,F,x5,z,rfl⟩;simp[gP,aF]
variable{Q:Fl->Prop}
theorem uA{c:En->Option (Bool×En)}(I:Nat->En->Prop)(z:Nat)(hs:∀p ρ,I p ρ->Wp (c ρ) λb=>if b.1=ag then(p<z/\Wp (body b.2) λr=>match r with
   |.nx ρ2=>I (p+1) ρ2
   |.cnt ρ2=>I (p+1) ρ2
   |.brk ρ2=>Q (.nx ρ2)
   |.ret d ρ2=>Q (.ret d ρ2))else Q (.nx b.2)):∀(q p:Nat)(ρ:En),I p ρ->z-p<q->Wp (jF c body q ρ) Q
 |0,p,ρ,_,h=>by omega
 |q+1,p,ρ,hI,h=>by
  obtain⟨⟨b,ρ1⟩,e1,w⟩:=hs p ρ hI;rw[jF,e1,gD];cases b with
  |false=>
   simp![ZV,abo]at w⊢;exact aF.mpr w
  |true=>
   simp![Y6]at w⊢;obtain⟨V,r,e2,w⟩:=w;rw[e2];cases r with
   |nx ρ2=>exact uA I z hs q (p+1) ρ2 w 1.10
   |cnt ρ2=>exact uA I z hs q (p+1) ρ2 w 1.10
   |brk ρ2=>exact aF.mpr w
   |ret d ρ2=>exact aF.mpr w
abbrev Uw:=Str×List Pt
def pT(ps:List Pt):D:=.tup (ps.map ptD)
def wM(m:Mk)(us:List Uw):D:=.dct m ((us.map (·.1)).map YM) (us.map λu=>pT u.2)
theorem jH(ps:List Pt):az (pT ps)=ag/\au (pT ps)=ag/\(∀b,view b (pT ps)=pT ps)/\fz (pT ps)=pT ps/\fzo (pT ps)=pT ps:=by
 refine⟨?_,?_,λb=>?_,?_,?_⟩<;>simp[pT,az,au,LQ,Lp,view,WR,fz,Wi,fzo,Lh]
theorem Gz(b:Bool)(us:List Uw):eE b (us.map λu=>pT u.2)=us.map λu=>pT u.2:=by
 rw[eF,Yw];exact YT λu _=>(jH u.2).2.2.1 b
theorem Wt(us:List Uw):fzL (us.map λu=>pT u.2)=us.map λu=>pT u.2:=by
 rw[fX,Yw];exact YT λu _=>(jH u.2).2.2.2.1
theorem WD(us:List Uw):aB (us.map λu=>pT u.2)=ag:=cg λd hd=>by obtain⟨u,_,rfl⟩:=Yr.mp hd;exact(jH u.2).1
theorem R6(us:List Uw):aC (us.map λu=>pT u.2)=ag:=bL λd hd=>by obtain⟨u,_,rfl⟩:=Yr.mp hd;exact(jH u.2).2.1
variable{us:List Uw}
theorem pU:view ae (wM .own us)=wM .brw us:=by simp![wM,view,Gz];rfl
theorem WF:view ae (wM .frz us)=wM .frz us:=by simp![wM,view,Gz];rfl
variable{m:Mk}
theorem T5(h:m≠.scr):fz (wM m us)=wM .frz us:=by
 simp![wM,fz,Wt];cases m<;>first|rfl|exact absurd rfl h
theorem Fj(h:m= .own∨m= .frz):az (wM m us)=ag/\au (wM m us)=ag:=by
 rcases h with rfl|rfl<;>simp[wM,az,au,WD,R6]
theorem p_:dF (.str x) (wM m us)=ac (.bl (!decide (x∈us.map (·.1)))):=by
 simp![dF,wM,uY,cQ,Y9,kI]
theorem vL(F:x∈us.map (·.1)):∃ps,(x,ps)∈us/\gIx (wM m us) (.str x)=ac (pT ps):=by
 obtain⟨i,h1,h2,Y⟩:=jj F;rw[List.getElem?_map]at h2;cases e:us[i]? with
 |none=>simp[e]at h2
 |some u=>
  have e2:u.1=x:=by simpa[e]using h2
  refine⟨u.2,e2▸Y0 e,?_⟩;simp![gIx,wM,cQ,gD,h1,List.getElem?_map,e,Y9]
variable{ps:List Pt}
theorem KJ(F:x∉us.map (·.1))(Z:us.length<1000000):dH (wM .own us) [.str x,pT ps]=ac (wM .own (us++[(x,ps)]),.non):=by
 have h1:cP ((us.map (·.1)).map YM) (YM x)=af:=by
  cases e:cP ((us.map (·.1)).map YM) (YM x)with
  |none=>rfl
  |some j=>have:=kI (ys:=us.map (·.1)) (x:=x);rw[e]at this;exact absurd (of_decide_eq_true this.symm) F
 simp![dH,wM,cQ,gD,Yt,Z,Y6,gV,h1,Zt,Ys,Y_]
def iw(ns:List Str)(f:Str->List Tt):D:=.dct .frz (ns.map YM) (ns.map λy=>.lst .frz ((f y).map tD))
theorem U4:fz (lead ns f)=iw ns f:=by
 simp![lead,iw,fz,fX,Yw];congr 1;refine YT λy _=>?_;simp![aat,lT,fz,fX,Yw];rfl
theorem Rp(b:Bool):view b (iw ns f)=iw ns f:=by
 simp![iw,view,eF,Yw];congr 1;refine YT λy _=>?_;simp![aat,view,W4];rfl
theorem JT(F:x∈ns):gIx (iw ns f) (.str x)=ac (.lst .frz ((f x).map tD)):=by
 obtain⟨i,h1,h2,Y⟩:=jj F;simp![gIx,iw,cQ,gD,h1,List.getElem?_map,h2,Y9]
def ky(us:List Uw):List Str:=us.map (·.1)
theorem eU(us:List Uw):(ky us).length=us.length:=by simp[ky]
theorem qZ(us:List Uw)(u:Uw):ky (us++[u])=ky us++[u.1]:=by simp[ky]
variable{k:Nat}
theorem VD{l:List Tt}(h:(l.map tD)[k]? =ac d):∃t,l[k]? =ac t/\d=tD t:=by
 rw[List.getElem?_map]at h;cases e:l[k]? with
 |none=>simp[e]at h
 |some t=>exact⟨t,rfl,by simpa[e]using h.symm⟩
theorem Ed(us:List Uw):bj (wM .own us)=ag:=by
 have h2:∀l:List Pt,aP (l.map ptD)=ag:=by
  intro l
  induction l with
  |nil=>rfl
  |cons p r I=>rw[Ys,aP,I];rfl
 have h1:aP (us.map λu=>pT u.2)=ag:=by
  induction us with
  |nil=>rfl
  |cons u r I=>rw[Ys,aP,I,pT,bj,h2];rfl
 simp![wM,bj,h1];rfl
variable{ds:List D}
theorem call_of{F:List D->Option D}(h:F (fzL ds)=ac d)(I:bj d=ag):aM F ds=ac d:=by
 unfold aM;rw[h,gD,I,Bool.or_true,YH rfl]
variable{j:Jt}
theorem O7:aM b8 [jD j,.int 1]=ac (.tup [.str j.1,.str j.2.1]):=call_of (by
 apply Wp.eq;simp_arith[b8,sEx,aR,bx,aU,jD,eq_int,bH]) rfl
def ndl(js:List Jt):List Str:=js.flatMap λj=>[j.1,j.2.1]
theorem z_(js:List Jt):(ndl js).length=2*js.length:=by
 induction js with
 |nil=>rfl
 |cons j r I=>rw[ndl,List.flatMap_cons,Zd,←ndl,I,Yy];simp;omega
def nw(js:List Jt)(a b:Str):List Str:=fU (mK (a::b::ndl js))
variable{a b:Str}
theorem Wz:(nw js a b).Nodup:=(gq _).nodup_iff.mpr (yL _)
theorem El:x∈nw js a b↔x=a∨x=b∨∃j∈js,x=j.1∨x=j.2.1:=by
 rw[nw,(gq _).mem_iff,Bt];simp[ndl]
theorem U9:(nw js a b).length<=2*js.length+2:=by
 have:=Dr (a::b::ndl js);rw[nw,(gq _).length_eq];simp![Yy,z_]at this;omega
def NwI(J:D)(a b:Str)(js:List Jt)(k:Nat)(ρ:En):Prop:=∃F:Option D,ρ=[ac J,ac (.str a),ac (.str b),ac (.lst .own ((a::b::ndl (js.take k)).map D.str)),F]
theorem Yj(q:JJ J js)(Z:js.length<=200)(Y:(mK (a::b::ndl js)).length<64):dh [J,.str a,.str b]=ac (.lst .own ((nw js a b).map D.str)):=by
 apply Wp.eq;simp_arith![dh,fnP];refine a_ (NwI J a b js 0) 1.19 ?_
 .simp_arith[sEx,aR,bx,aU,bY]
  exact I _ ⟨_,rfl⟩
 rintro _ ⟨y4,rfl⟩;refine a_ (NwI J a b js js.length) 1.19 ?_
 .simp![gO,itS,ao,YL,q.v,q.s,gD,aL,aF,w_ite,Y6]
  refine iQ (NwI J a b js) ⟨y4,rfl⟩ ?_ (λρ h=>I _ (by rw[Yt]at h;exact h));rintro k d ρ O ⟨F,rfl⟩;rw[List.getElem?_map]at O;cases U:js[k]? with
  |none=>simp[U]at O
  |some j=>
   obtain rfl:jD j=d:=by simpa[U]using O
   have z:k<js.length:=(List.getElem?_eq_some_iff.mp U).1;have a1:a::b::ndl (js.take (k+1))=a::b::ndl (js.take k)++[j.1,j.2.1]:=by
    rw[aaA,U];simp[ndl]
   have V:(ndl (js.take k)).length<=400:=by rw[z_,aaa];omega
   have B:jA (.lst .own ((a::b::ndl (js.take k)).map D.str)) [.tup [.str j.1,.str j.2.1]]=ac (.lst .own ((a::b::ndl (js.take (k+1))).map D.str),.non):=by
    rw[a1,Zt];simp![jA,strsOf,Y9,gD];rw[YH (by simp;omega)];rfl
   generalize a::b::ndl (js.take k)=l at B⊢;simp![tgN,clean,Ww,V_,aam,Y6,aF,Ze,Zq];simp![iK,m6,eV,upS,d_,cY,eAp,aj,aA,eC,ao,YJ,YL,XC,O7,B,aB,aC,az,au,aam,and_self,Y6,gD,Y9,aL,bV,aF,Ze,Zq];exact⟨_,rfl⟩
 rintro _ ⟨F,rfl⟩;rw[aaI];have V:=z_ js;have a0:∀m:Mk,jo [.lst m ((a::b::ndl js).map D.str)]=ac (.lst .own ((nw js a b).map D.str)):=λm=>by
  have:=Gy (a::b::ndl js);simp![jo];rw[YH (by simp;omega),this,gD];show(if(mK (a::b::ndl js)).length<64 then _ else af)=_;rw[YH Y];rfl
 generalize a::b::ndl js=l at a0⊢;simp![cI,eAp,aj,aA,ao,YJ,YL,view,dX,a0,gD,aL,bV,aF,clean,az,au,dq,bQ];simp[aF]
theorem Sg(V:m≠.scr):(x∈ky us/\∃ps,iW (wM m us) [.str x]=ac (pT ps))∨(x∉ky us/\iW (wM m us) [.str x]=ac .non):=by
 by_cases F:x∈ky us
 .obtain⟨i,h1,_,h3⟩:=jj F
  rw[eU]at h3;refine .inl ⟨F,us[i].2,?_⟩;have q:cP ((us.map (·.1)).map YM) (YM x)=ac i:=h1;simp![iW,wM,Y4 V,cQ,gD,q];rw[List.getElem?_map,Yo h3];rfl
 .refine .inr ⟨F,?_⟩
  have h1:cP ((us.map (·.1)).map YM) (YM x:Key)=af:=by
   unfold cP;rw[Zn];intro y B;obtain⟨z,hz,rfl⟩:=Yr.mp B;exact Zc λe=>F (by cases e;exact hz)
  simp![iW,wM,Y4 V,cQ,gD,h1]
def pr2(t:Tt):Pq:=(t.1,t.2.1)
structure Ay(ad:Str->List Tt)(ns:List Str)(h:Str)(us:List Uw)(p:Nat):Prop where
 n:(ky us).Nodup
 i:∀x∈ky us,x∈ns
 w:∀u∈us,Wk2 ad h u.2 u.1
 l:∀u∈us,u.2.length<us.length
 s:us.Pairwise λa b=>a.2.length<=b.2.length
 c:∀i,i<p->∀u,us[i]? =ac u->∀t∈ad u.1,∃e∈us,e.1=t.2.2/\e.2.length<=u.2.length+1
 h:(h,[])∈us
structure Ay2(ad:Str->List Tt)(ns:List Str)(h:Str)(us:List Uw)(p:Nat)(x:Str)(ps:List Pq)(k:Nat):Prop extends Ay ad ns h us p where
 px:us[p]? =ac (x,ps)
 b:∀e∈us,e.2.length<=ps.length+1
 d:∀t∈(ad x).take k,t.2.2∈ky us
def AyB(us:List Uw)(p:Nat):Prop:=∀u,us[p]? =ac u->∀e∈us,e.2.length<=u.2.length+1
section
variable{ad:Str->List Tt}{ns:List Str}{h x:Str}{us:List Uw}{p k:Nat}{ps:List Pq}{t:Tt}
theorem iB{y:Str}{p q:List Pq}(hn:(ky us).Nodup)(h1:(y,p)∈us)(h2:(y,q)∈us):p=q:=by
 induction us with
 |nil=>cases h1
 |cons c r I=>
  rw[ky,Ys,Y5]at hn;rcases Yu.mp h1 with e1|e1<;>rcases Yu.mp h2 with e2|e2
  .have:=e1.trans e2.symm;cases this;rfl
  .exact absurd (Yr.mpr ⟨_,e2,by rw[←e1]⟩) hn.1
  .exact absurd (Yr.mpr ⟨_,e1,by rw[←e2]⟩) hn.1
  .exact I hn.2 e1 e2
theorem Ay.len(a:Ay ad ns h us p):us.length<=ns.length:=by
 have:=j4 a.n a.i;rwa[eU]at this
theorem Ay.open(a:Ay ad ns h us p)(b:AyB us p)(F:us[p]? =ac (x,ps)):Ay2 ad ns h us p x ps 0:=
 {a with px:=F,b:=b _ F,d:=λt U=>by simp at U}
theorem Ay2.old(a:Ay2 ad ns h us p x ps k)(U:(ad x)[k]? =ac t)(q:t.2.2∈ky us):Ay2 ad ns h us p x ps (k+1):=by
 refine{a with d:=λu hu=>?_};rw[aaA,U]at hu;rcases Yl.mp hu with z|z
 .exact a.d u z
 .rw[Yz.mp z];exact q
theorem Ay2.new(a:Ay2 ad ns h us p x ps k)(U:(ad x)[k]? =ac t)(q:t.2.2∉ky us)(I:t.2.2∈ns):Ay2 ad ns h (us++[(t.2.2,ps++[pr2 t])]) p x ps (k+1):=by
 have F:=Y0 a.px;have a0:=(List.getElem?_eq_some_iff.mp a.px).1;have B:∀e∈us,e∈us++[(t.2.2,ps++[pr2 t])]:=λe O=>Yv _ O;refine{n:=?_,i:=λy V=>?_,w:=λu hu=>?_,l:=λu hu=>?_,s:=?_,c:=λi hi u hu t' Z=>?_,h:=B _ a.h,px:=?_,b:=λe O=>?_,d:=λu hu=>?_}
 .rw[qZ,Zz]
  exact⟨a.n,by simp,λy V z hz e=>q (by have e2:=e.trans (Yz.mp hz);simp only at e2;rw[←e2];exact V)⟩
 .rw[qZ]at V
  rcases Yl.mp V with z|z
  .exact a.i y z
  .rw[Yz.mp z];exact I
 .rcases Yl.mp hu with z|z
  .exact a.w u z
  .rw[Yz.mp z]
   exact Wk2.snoc (a.w _ F) (Y0 U)
 .rw[Zd,acI]
  rcases Yl.mp hu with z|z
  .have:=a.l u z;omega
  .have:=a.l _ F
   rw[Yz.mp z];simp at this⊢;omega
 .exact abO.mpr ⟨a.s,adS _ _,λe O f Y=>by rw[Yz.mp Y,Zd];exact a.b e O⟩
 .rw[Zm 1.10]at hu
  obtain⟨e,h1,h2⟩:=a.c i hi u hu t' Z;exact⟨e,B e h1,h2⟩
 .rw[Zm a0];exact a.px
 .rcases Yl.mp O with z|z
  .exact a.b e z
  .rw[Yz.mp z];simp
 .rw[qZ]
  rw[aaA,U]at hu;rcases Yl.mp hu with z|z
  .exact Yv _ (a.d u z)
  .rw[Yz.mp z];simp
theorem Ay2.close(a:Ay2 ad ns h us p x ps (ad x).length):Ay ad ns h us (p+1)/\AyB us (p+1):=by
 refine⟨{a with c:=λi hi u hu t U=>?_},λu hu e O=>?_⟩
 .by_cases hip:i=p
  .subst hip
   rw[a.px]at hu;cases hu;obtain⟨e,h1,h2⟩:=Yr.mp (a.d t (by rw[aaI];exact U));exact⟨e,h1,h2,a.b e h1⟩
  .exact a.c i 1.10 u hu t U
 .have h1:=(List.getElem?_eq_some_iff.mp a.px).1
  have h2:=(List.getElem?_eq_some_iff.mp hu).1;have:=ab4.mp a.s p (p+1) h1 h2 1.10;rw[(List.getElem?_eq_some_iff.mp a.px).2,(List.getElem?_eq_some_iff.mp hu).2]at this;exact ZJ (a.b e O) (adE this)
theorem Ay.fin(a:Ay ad ns h us p)(V:us.length<=p):Lst ad h us:=by
 refine⟨a.w,λq y O=>?_⟩
 induction O with
 |nil=>exact⟨_,a.h,rfl,YB _⟩
 |snoc O U I=>
  rename_i q x t;obtain⟨u,hu,e,hs⟩:=I;subst e;obtain⟨i,hi,e⟩:=aaC hu;obtain⟨f,h1,h2,Y⟩:=a.c i 1.10 u (by rw[Yo hi,e]) t U;exact⟨f,h1,h2,by rw[Zd];exact ZJ Y (adE hs)⟩
theorem Ay.one(B:h∈ns):Ay ad ns h [(h,[])] 0 where
 n:=by simp[ky]
 i:=by simp[ky,B]
 w:=λu hu=>by rw[Yz.mp hu];exact .nil
 l:=λu hu=>by rw[Yz.mp hu];simp
 s:=adS _ _
 c:=λi hi=>absurd hi (adZ i)
 h:=by simp
theorem AyB.one:AyB [(h,[])] 0:=λu hu e O=>by
 cases hu;rw[Yz.mp O];exact abC _
end
theorem Wx(l:List Tt):gM (l.map tD)=l.map tD:=by rw[fL,Yw];rfl
def WyD(js:List Jt)(h:Str)(d:D):Prop:=∃us,d=wM .own us/\(ky us).Nodup/\Lst 1.12 h us
def WfI(L:D)(js:List Jt)(ns:List Str)(h:Str)(p:Nat)(ρ:En):Prop:=∃(us:List Uw)(F V z Y:Option D),ρ=[ac L,ac (.str h),ac (wM .own us),ac (.lst .own (((ky us).drop p).map D.str)),F,V,z,Y]/\Ay 1.12 ns h us p/\p<=us.length/\AyB us p
def WfJ(L:D)(js:List Jt)(ns:List Str)(h:Str)(p:Nat)(x:Str)(k:Nat)(ρ:En):Prop:=∃(us:List Uw)(ps:List Pq)(V z Y:Option D),ρ=[ac L,ac (.str h),ac (wM .own us),ac (.lst .own (((ky us).drop (p+1)).map D.str)),ac (.str x),V,z,Y]/\Ay2 1.12 ns h us p x ps k
variable{h:Str}
theorem Vl(hh:h∈ns)(hj:∀j∈js,j.1∈ns/\j.2.1∈ns)(hl:ns.length<=1000):Wp (dM [iw ns 1.12,.str h]) (WyD js h):=by
 simp_arith![dM,fnP];refine a_ (λρ=>ρ=[ac (iw ns 1.12),ac (.str h),ac (wM .own [(h,[])]),af,af,af,af,af]) 1.19 ?_
 .have:qx [((YM h:Key),D.tup [])]=ac (wM .own [(h,[])]):=by
   unfold qx;rw[YH (by simp)];rfl
  simp_arith[sEx,aR,bx,aU,fQ,jf,jZ,lN,mL,tV,jJ,gLt,gGt,gGe,gIx,bY,bH,bT,n_,rE,qu,gIs,j9,atI,ixN,aX,dH,gSl,pZ,eQ,qw,lD,sV,cQ,this];exact⟨Fj (.inl rfl),I _ rfl⟩
 rintro _ rfl;refine a_ (λρ=>ρ=[ac (iw ns 1.12),ac (.str h),ac (wM .own [(h,[])]),ac (.lst .own [.str h]),af,af,af,af]) 1.19 ?_
 .simp_arith[sEx,aR,bx,aU,fQ,jf,jZ,lN,mL,tV,jJ,gLt,gGt,gGe,gIx,bY,bH,bT,n_,rE,qu,gIs,j9,atI,ixN,aX,dH,gSl,pZ,eQ]
  exact I _ rfl
 rintro _ rfl;refine a_ (λρ=>∃p,WfI (iw ns 1.12) js ns h p ρ/\∀us x4 x5 x6 x7 m,ρ=[ac (iw ns 1.12),ac (.str h),ac (wM .own us),ac m,x4,x5,x6,x7]->us.length<=p) 1.19 ?_
 .refine uA (WfI (iw ns 1.12) js ns h) ns.length ?_ 1000000 0 _ ⟨[(h,[])],af,af,af,af,rfl,Ay.one hh,by simp,AyB.one⟩ 1.10
  rintro p ρ ⟨us,x4,x5,x6,x7,rfl,O,V,B⟩;have c5:=O.len;cases e:(ky us).drop p with
  |nil=>
   have a3:us.length<=p:=by
    have:=congrArg aaF e;rw[abn,eU]at this;simp at this;omega
   simp[tR,mz,ao,view,eE,truth,bV,aF,e];refine I _ ⟨p,⟨us,x4,x5,x6,x7,by rw[e];rfl,O,V,B⟩,?_⟩;intro b8 y4 y5 y6 y7 m e2;simp![afs,abe]at e2;have:=e2.2.2.1;have h2:us.map (λu=>pT u.2)=b8.map λu=>pT u.2:=by unfold wM at this;injection this
   have:=congrArg aaF h2;simp at this;omega
  |cons x r=>
   have F:(ky us)[p]? =ac x:=by
    have:=congrArg (λl=>l[0]?) e;simpa using this
   have a3:p<us.length:=by have:=(List.getElem?_eq_some_iff.mp F).1;rw[eU]at this;exact this
   have Z:r=(ky us).drop (p+1):=by
    have:=congrArg List.tail e;simpa using this.symm
   have c2:x∈ns:=O.i x (Y0 F);obtain⟨ps,a1⟩:∃ps,us[p]? =ac (x,ps):=by
    rw[ky,List.getElem?_map,Yo a3]at F;exact⟨us[p].2,by rw[Yo a3];simp at F;rw[←F]⟩
   have a2:((ky us).drop p).length<1000000:=by rw[abn,eU];omega
   rw[e]at a2;simp[tR,mz,ao,view,eE,truth,bV,aF];refine⟨by omega,?_⟩;refine a_ (WfJ (iw ns 1.12) js ns h p x 0) 1.19 ?_
   .have hpop:jN (.lst .own ((x::r).map D.str)) [.int 0]=ac (.lst .own (r.map D.str),.str x):=by
     simp![jN,Yt,a2,Y6];simp[ixN]
    have U:upS jN 3 [] [.int 0] [ac (iw ns 1.12),ac (.str h),ac (wM .own us),ac (.lst .own ((x::r).map D.str)),x4,x5,x6,x7]=ac (.str x,[ac (iw ns 1.12),ac (.str h),ac (wM .own us),ac (.lst .own (r.map D.str)),x4,x5,x6,x7]):=by
     unfold upS;simp![YJ,YL,d_,gD];rw[YH ⟨rfl,rfl⟩,hpop];rfl
    simp![Ys]at U;simp[gf,m6,eV,aj,aA,eC,bV,aL,aF,U,tgN,az,au,clean];exact I _ ⟨us,ps,x5,x6,x7,by rw[Z],O.open B a1⟩
   rintro _ ⟨b4,b6,y5,y6,y7,rfl,b5⟩;have b1:dw (.lst .frz ((adj js js.length x).map tD))=ac (ag,(adj js js.length x).map tD):=by simp[dw,clean,az,au,Xa,Xg,Wx]
   simp[gO,itS,e2,ao,Rp,view,aL,aF,JT c2,b1,-List.map_drop];refine iQ (WfJ (iw ns 1.12) js ns h p x) ⟨b4,b6,y5,y6,y7,rfl,b5⟩ ?_ ?_
   .rintro k d ρ hk ⟨us1,ps,z5,z6,z7,rfl,hw1⟩
    obtain⟨t,ht,rfl⟩:=VD hk;have c1:t∈adj js js.length x:=Y0 ht;have c3:=hw1.len;have a1:=Y0 hw1.px;have b7:x∈us1.map (·.1):=Yr.mpr ⟨_,a1,rfl⟩;have a5:p+1<=us1.length:=(List.getElem?_eq_some_iff.mp hw1.px).1;obtain⟨a0,a7,b2⟩:=vL (m:=.brw) b7;obtain rfl:=iB hw1.n a7 a1;have c4:a0.length<us1.length:=hw1.l _ a1;have b3:t.2.2∈ns:=by
     obtain⟨n,j,_,h2,Y⟩:=(nq js x js.length).mp c1;rcases Y with⟨_,rfl⟩|⟨_,rfl⟩
     .exact(hj j (Y0 h2)).2
     .exact(hj j (Y0 h2)).1
    simp[tD,tgT,aO,cz,tgN,aB,aC,clean,az,au,aF,-List.map_drop];simp[sIf,eB,e2,ao,pU,view,p_,isB,aL,aF,w_ite,-List.map_drop];by_cases q:t.2.2∈us1.map (·.1)
    .have hin':∃a,(t.2.2,a)∈us1:=by obtain⟨u,hu,e⟩:=Yr.mp q;exact⟨u.2,by rw[←e];exact hu⟩
     simp[hin',dg,aF,-List.map_drop];exact⟨us1,_,_,_,_,rfl,hw1.old ht q⟩
    .have hin':¬∃a,(t.2.2,a)∈us1:=λ⟨a,z⟩=>q (Yr.mpr ⟨_,z,rfl⟩)
     simp[hin',-List.map_drop];have b0:fQ (pT a0) (.tup [.tup [.int t.1,.int t.2.1]])=ac (pT (a0++[(t.1,t.2.1)])):=by
      simp[pT,fQ,ptD];omega
     refine a_ (λρ=>ρ=[ac (iw ns 1.12),ac (.str h),ac (wM .own (us1++[(t.2.2,a0++[(t.1,t.2.1)])])),ac (.lst .own (((ky us1).drop (p+1)).map D.str)),ac (.str x),ac (.int t.1),ac (.int t.2.1),ac (.str t.2.2)]) 1.19 ?_
     .have hset:=KJ (us:=us1) (x:=t.2.2) (ps:=a0++[(t.1,t.2.1)]) q 1.10
      have a9:=jH (a0++[(t.1,t.2.1)]);simp[bN,e2,ao,pU,view,b2,eAp,aj,aA,bH,b0,aL,bV,aF,jb,eV,upS,d_,cY,hset,aB,aC,az,au,a9.1,a9.2.1,clean,-List.map_drop];exact I _ rfl
     rintro _ rfl;have c0:(((ky us1).drop (p+1)).map D.str).length<1000000:=by rw[Yt,abn,eU];omega
     have a8:aX (.lst .own (((ky us1).drop (p+1)).map D.str)) [.str t.2.2]=ac (.lst .own (((ky us1).drop (p+1)).map D.str++[.str t.2.2]),.non):=by
      simp![aX,c0,Y6]
     simp![iK,m6,eV,aj,aA,ao,view,YJ,YL,gD,Y9,upS,d_,aB,aC,az,au,aam,and_self,Y6,a8,cY,aF,Ze,Zq];have a4:(ky (us1++[(t.2.2,a0++[(t.1,t.2.1)])])).drop (p+1)=(ky us1).drop (p+1)++[t.2.2]:=by
      rw[qZ,List.drop_append_of_le_length (by rw[eU];exact a5)]
     exact⟨us1++[(t.2.2,a0++[(t.1,t.2.1)])],_,_,_,_,by rw[a4,Zt];rfl,hw1.new ht q b3⟩
   .rintro ρ ⟨us1,ps,z5,z6,z7,rfl,hw1⟩
    rw[Yt]at hw1;have a5:p+1<=us1.length:=(List.getElem?_eq_some_iff.mp hw1.px).1;exact⟨us1,_,z5,z6,z7,rfl,hw1.close.1,a5,hw1.close.2⟩
 rintro _ ⟨p,⟨us,x4,x5,x6,x7,rfl,O,V,B⟩,a6⟩;have b9:=a6 us _ _ _ _ _ rfl;simp[gP,aF];exact⟨us,rfl,O.n,O.fin b9⟩
theorem QM(V:m≠.scr):(∃ps,(x,ps)∈us/\iW (wM m us) [.str x]=ac (pT ps))∨(x∉ky us/\iW (wM m us) [.str x]=ac .non):=by
 rcases Sg (us:=us) (x:=x) V with⟨h1,_⟩|h
 .obtain⟨i,h1,h2,h3⟩:=jj h1
  rw[eU]at h3;have q:cP ((us.map (·.1)).map YM) (YM x)=ac i:=h1;refine .inl ⟨us[i].2,?_,?_⟩
  .have:us[i].1=x:=by rw[ky,List.getElem?_map,Yo h3]at h2;simpa using h2
   rw[←this];exact aaj h3
  .simp![iW,wM,Y4 V,cQ,gD,q]
   rw[List.getElem?_map,Yo h3];rfl
 .exact .inr h
theorem V8(q:JJ J js)(Z:js.length<=200)(a2:(mK (a::b::ndl js)).length<64):∃us,(ky us).Nodup/\Lst 1.12 a us/\aM bu [J,.str a,.str b]=ac (wM .own us):=by
 have O:∀x:Str,view ae (.str x)= .str x:=λ_=>rfl;have h1:aM dh [J,.str a,.str b]=ac (.lst .own ((nw js a b).map D.str)):=by
  simp[aM,fzL,fz,q.f,Yj q Z a2,aB,aC,az,au,q.b,q.o]
 have V:∀j∈js,j.1∈nw js a b/\j.2.1∈nw js a b:=λj V=>⟨El.mpr (.inr (.inr ⟨j,V,.inl rfl⟩)),El.mpr (.inr (.inr ⟨j,V,.inr rfl⟩))⟩;have B:=U9 (js:=js) (a:=a) (b:=b);have h2:aM cO [.lst .own ((nw js a b).map D.str),J]=ac (lead (nw js a b) 1.12):=by
  simp[aM,fzL,fz,jm,mkF,q.f,SM (NK.lst (nw js a b)) q Wz V 1.10 1.10,aB,aC,az,au,dq,bQ,q.b,q.o]
 obtain⟨_,Y,us,rfl,z,a0⟩:=Vl (js:=js) (ns:=nw js a b) (h:=a) (El.mpr (.inl rfl)) V 1.10;have F:aM dM [lead (nw js a b) 1.12,.str a]=ac (wM .own us):=call_of (by simpa[fzL,fz,U4]using Y) (Ed us);have a1:=Fj (us:=us) (m:=.own) (.inl rfl);have U:bu [J,.str a,.str b]=ac (wM .own us):=by
  apply Wp.eq;simp_arith![bu,fnP];simp![cI,eAp,aj,aA,ao,YJ,YL,q.v,O,h1,h2,F,gD,aL,bV,aF,clean,a1];simp[aF]
 have I:aM bu [J,.str a,.str b]=ac (wM .own us):=call_of (by simpa[fzL,fz,q.f]using U) (Ed us);exact⟨us,z,a0,I⟩
theorem Ye(q:JJ J js)(I:aM bu [J,.str a,.str b]=ac (wM .own us)):Wp (cH [J,.str a,.str b]) λd=>(∃ps,(b,ps)∈us/\d=pT ps)∨(b∉ky us/\d= .non):=by
 have O:∀x:Str,view ae (.str x)= .str x:=λ_=>rfl;simp_arith![cH,fnP];rcases QM (us:=us) (m:=.own) (x:=b) (by decide)with⟨ps,B,z⟩|⟨B,z⟩
 .obtain⟨p1,p2',_⟩:=jH ps
  simp![cI,eMt,eAp,aj,aA,ao,YJ,YL,q.v,O,I,z,gD,aL,bV,aF,clean,p1,p2',aam,Y6];exact .inl ⟨ps,B,rfl⟩
 .simp![cI,eMt,eAp,aj,aA,ao,YJ,YL,q.v,O,I,z,gD,aL,bV,aF,clean,az,au,aam,Y6]
  exact .inr ⟨B,trivial⟩
structure By(ad:Str->List Tt)(ns:List Str)(h:Str)(fs hs:List Uw)(d:Nat):Prop where
 n:(ky fs).Nodup
 hn:(ky hs).Nodup
 i:∀y∈ky fs,y∈ns
 w:∀u∈fs,Wk2 ad h u.2 u.1/\u.2.length<=d
 e:∀u,u∈hs↔(u∈fs/\u.2.length=d)
 c:∀qs y,Wk2 ad h qs y->qs.length<=d->∃u∈fs,u.1=y/\u.2.length<=qs.length
 z:hs≠[]->d<fs.length
structure Bz(ad:Str->List Tt)(fs hs:List Uw)(gs:List Uw)(dn:Uw->Tt->Prop):Prop where
 n:(ky gs).Nodup
 f:∀u∈gs,u.1∉ky fs/\∃v∈hs,∃t∈ad v.1,u.1=t.2.2/\u.2=v.2++[pr2 t]
 c:∀v∈hs,∀t∈ad v.1,dn v t->t.2.2∉ky fs->t.2.2∈ky gs
def Dc(gs:List Uw)(x:Str)(w:List Pq):List Uw:=gs.map λu=>if u.1=x then(u.1,w)else u
section
variable{ad:Str->List Tt}{ns:List Str}{h:Str}{fs hs gs:List Uw}{d:Nat}{dn dn':Uw->Tt->Prop}{v:Uw}{t:Tt}
theorem Bz.nil(B:∀v t,¬dn v t):Bz ad fs hs [] dn:=⟨by simp[ky],by simp,λv _ t _ h=>(B v t h).elim⟩
theorem Bz.len(a:Bz ad fs hs gs dn)(hd:∀v∈hs,v.2.length=d):∀u∈gs,u.2.length=d+1:=λu hu=>by
 obtain⟨_,v,B,t,_,_,e⟩:=a.f u hu;rw[e,Zd,hd v B];rfl
theorem Bz.mono(a:Bz ad fs hs gs dn)(V:∀v∈hs,∀t∈ad v.1,dn' v t->t.2.2∉ky fs->dn v t):Bz ad fs hs gs dn':=⟨a.n,a.f,λv B t U h1 h2=>a.c v B t U (V v B t U h1 h2) h2⟩
theorem Bz.add(a:Bz ad fs hs gs dn)(B:v∈hs)(U:t∈ad v.1)(h1:t.2.2∉ky fs)(h2:t.2.2∉ky gs)(hd:∀w∈hs,∀s∈ad w.1,dn' w s->dn w s∨(w.2=v.2/\s=t)):Bz ad fs hs (gs++[(t.2.2,v.2++[pr2 t])]) dn' where
 n:=by
  rw[qZ,Zz];exact⟨a.n,by simp,λy V z hz e=>h2 (by have e2:=e.trans (Yz.mp hz);simp only at e2;rw[←e2];exact V)⟩
 f:=λu hu=>by
  rcases Yl.mp hu with z|z
  .exact a.f u z
  .rw[Yz.mp z]
   exact⟨h1,v,B,t,U,rfl,rfl⟩
 c:=λw O s Z Y F=>by
  rw[qZ];rcases hd w O s Z Y with z|⟨e1,e2⟩
  .exact Yv _ (a.c w O s Z z F)
  .subst e2;simp
theorem Am{x:Str}{w:List Pq}:ky (Dc gs x w)=ky gs:=by
 unfold ky Dc;rw[Yw];refine YT λu _=>?_;simp![aat];split<;>rfl
theorem Bz.keep(a:Bz ad fs hs gs dn)(h2:t.2.2∈ky gs)(hd:∀w∈hs,∀s∈ad w.1,dn' w s->dn w s∨(w.2=v.2/\s=t)):Bz ad fs hs gs dn':=⟨a.n,a.f,λw O s Z Y F=>by
 rcases hd w O s Z Y with z|⟨e1,e2⟩
 .exact a.c w O s Z z F
 .subst e2;exact h2⟩
theorem Bz.set(a:Bz ad fs hs gs dn)(B:v∈hs)(U:t∈ad v.1)(h1:t.2.2∉ky fs)(h2:t.2.2∈ky gs)(hd:∀w∈hs,∀s∈ad w.1,dn' w s->dn w s∨(w.2=v.2/\s=t)):Bz ad fs hs (Dc gs t.2.2 (v.2++[pr2 t])) dn' where
 n:=by rw[Am];exact a.n
 f:=λu hu=>by
  obtain⟨z,q,rfl⟩:=Yr.mp hu;split
  .rename_i e
   exact⟨by rw[e];exact h1,v,B,t,U,e,rfl⟩
  .exact a.f z q
 c:=by rw[Am];exact(a.keep h2 hd).c
theorem Bz.skip(a:Bz ad fs hs gs dn)(h1:t.2.2∈ky fs)(hd:∀w∈hs,∀s∈ad w.1,dn' w s->dn w s∨s=t):Bz ad fs hs gs dn':=a.mono λv B s Z h2 Y=>(hd v B s Z h2).resolve_right λe=>Y (by rw[e];exact h1)
theorem Wk2.zero{Y:List Pq}{y:Str}(O:Wk2 ad h Y y)(e:Y=[]):y=h:=by
 cases O with
 |nil=>rfl
 |snoc=>simp at e
theorem By.one(B:h∈ns):By ad ns h [(h,[])] [(h,[])] 0 where
 n:=by simp[ky]
 hn:=by simp[ky]
 i:=by simp[ky,B]
 w:=λu hu=>by rw[Yz.mp hu];exact⟨.nil,by simp⟩
 e:=λu=>by
  rw[Yz];exact⟨λe=>⟨e,by rw[e];rfl⟩,λe=>e.1⟩
 c:=λY y O Z=>by
  have:Y=[]:=aaY.mp 1.10;obtain rfl:=O.zero this;exact⟨_,Yz.mpr rfl,rfl,ac1 _⟩
 z:=λ_=>by simp
theorem By.next(a:By ad ns h fs hs d)(b:Bz ad fs hs gs λ_ _=>True)(I:∀v∈ky fs,∀t∈ad v,t.2.2∈ns)(a1:hs≠[]):By ad ns h (fs++gs) gs (d+1)where
 n:=by
  unfold ky;rw[Zt,Zz];refine⟨a.n,b.n,λy V z hz e=>?_⟩;subst e;obtain⟨u,hu,rfl⟩:=Yr.mp hz;exact(b.f u hu).1 V
 hn:=b.n
 i:=λy V=>by
  unfold ky at V;rw[Zt]at V;rcases Yl.mp V with z|z
  .exact a.i y z
  .obtain⟨u,hu,rfl⟩:=Yr.mp z
   obtain⟨_,v,B,t,ht,e,_⟩:=b.f u hu;rw[e];exact I v.1 (Yr.mpr ⟨v,((a.e v).mp B).1,rfl⟩) t ht
 w:=λu hu=>by
  rcases Yl.mp hu with z|z
  .exact⟨(a.w u z).1,by have:=(a.w u z).2;omega⟩
  .obtain⟨_,v,B,t,ht,e,e2⟩:=b.f u z
   rw[e,e2];exact⟨Wk2.snoc (a.w v ((a.e v).mp B).1).1 ht,by rw[Zd,((a.e v).mp B).2];simp⟩
 e:=λu=>by
  have Z:=b.len (d:=d) λv B=>((a.e v).mp B).2;constructor
  .exact λhu=>⟨Yn _ hu,Z u hu⟩
  .rintro⟨hu,e⟩
   rcases Yl.mp hu with z|z
   .have:=(a.w u z).2;omega
   .exact z
 c:=λY y O Z=>by
  by_cases U:Y.length<=d
  .obtain⟨u,hu,q⟩:=a.c Y y O U
   exact⟨u,Yv _ hu,q⟩
  .cases O with
   |nil=>simp at U
   |snoc O ht=>
    rename_i Y x t;simp at Z U;obtain⟨v,B,e,a2⟩:=a.c Y x O 1.10;subst e;by_cases a0:v.2.length=d
    .by_cases hin:t.2.2∈ky fs
     .obtain⟨u,hu,e⟩:=Yr.mp hin
      refine⟨u,Yv _ hu,e,?_⟩;have:=(a.w u hu).2;simp;omega
     .obtain⟨u,hu,e⟩:=Yr.mp (b.c v ((a.e v).mpr ⟨B,a0⟩) t ht trivial hin)
      refine⟨u,Yn _ hu,e,?_⟩;have:=b.len (d:=d) (λv B=>((a.e v).mp B).2) u hu;simp;omega
    .have hvl:=(a.w v B).2
     obtain⟨u,hu,e,q⟩:=a.c (v.2++[pr2 t]) t.2.2 (Wk2.snoc (a.w v B).1 ht) (by simp;omega);exact⟨u,Yv _ hu,e,by simp at q⊢;omega⟩
 z:=λF=>by
  have h1:=a.z a1;have h2:0<gs.length:=aeH.mpr F;rw[Zd];omega
theorem By.fin(a:By ad ns h fs [] d):Lst ad h fs:=by
 refine⟨λu hu=>(a.w u hu).1,λY y O=>?_⟩
 induction O with
 |nil=>exact a.c [] h .nil (by simp)
 |snoc O U I=>
  rename_i Y x t;obtain⟨v,B,e,Z⟩:=I;subst e;have F:=(a.w v B).2;have V:v.2.length≠d:=λz=>by have:=(a.e v).mpr ⟨B,z⟩;cases this
  obtain⟨u,hu,e,q⟩:=a.c (v.2++[pr2 t]) t.2.2 (Wk2.snoc (a.w v B).1 U) (by simp;omega);exact⟨u,hu,e,by simp at q⊢;omega⟩
end
def bD(t:Tt):D:=.tup [.tup [.int t.1,.int t.2.1],.str t.2.2]
theorem RN(l:List Tt):aB (l.map bD)=ag:=cg λd hd=>by obtain⟨x,_,rfl⟩:=Yr.mp hd;rfl
theorem Rv(l:List Tt):aC (l.map bD)=ag:=bL λd hd=>by obtain⟨x,_,rfl⟩:=Yr.mp hd;rfl
theorem VG(b:Bool)(l:List Tt):eE b (l.map bD)=l.map bD:=by rw[eF,Yw];rfl
theorem Wy(l:List Tt):fzL (l.map bD)=l.map bD:=by rw[fX,Yw];rfl
theorem V4(l:List Tt):gM (l.map bD)=l.map bD:=by rw[fL,Yw];rfl
def cF(m m':Mk)(ks:List Str)(f:Str->List Tt):D:=.dct m (ks.map YM) (ks.map λy=>.lst m' ((f y).map bD))
structure Bes(ks:List Str)(f:Str->List Tt):Prop where
 n:ks.Nodup
 e:∀y,y∉ks->f y=[]
theorem R3{fx:En->Option (List D)}(U:Bes ks f)(Z:ks.length<1000000)(B:(f x).length<1000000)(h1:ρ[1]? =ac (ac (cF .own .own ks f)))(Y:fa ρ=ac [.str x,.lst .own []])(F:∀d,fx (ρ.set 1 d)=ac [bD t]) :
  ∃a2,a2.length<=ks.length+1/\Bes a2 (upF f x t)/\Bs 1 fa fx ρ=ac (.nx (ρ.set 1 (ac (cF .own .own a2 (upF f x t))))):=by
 have a4:1<ρ.length:=(List.getElem?_eq_some_iff.mp h1).1;have a0:aB [bD t]=ag/\aC [bD t]=ag:=⟨rfl,rfl⟩;have a1:ρ.set 1 (ac (cF .own .own ks f))=ρ:=by
  refine aaz λi=>?_;rw[aan];split
  .rename_i e;subst e;first|rw[h1]|rw[YH a4,h1]
  .rfl
 by_cases O:x∈ks
 .obtain⟨i,h2,h3,h4⟩:=jj O
  refine⟨ks,by omega,⟨U.n,λy V=>by rw[upF,Y4 (λz=>V (by rw[z];exact O))];exact U.e y V⟩,?_⟩;have e1:Er 1 fa ρ=ac (i,ρ):=by
   unfold Er;rw[h1];simp![cF,Y,cQ,Yt,YH Z,h2]
  have a5:fx ρ=ac [bD t]:=by rw[←a1];exact F _
  have q:d_ [i] (cF .own .own ks f)=ac (.lst .own ((f x).map bD)):=by
   simp![d_,kids,cF,List.getElem?_map,h3,Y9,gD]
  have g2:aX (.lst .own ((f x).map bD)) [bD t]=ac (.lst .own ((f x++[t]).map bD),.non):=by
   simp[aX,B]
  have g3:cY [i] (.lst .own ((f x++[t]).map bD)) (cF .own .own ks f)=cF .own .own ks (upF f x t):=by
   have hs:=Ff (g:=λy=>D.lst .own ((f y).map bD)) (g':=λy=>D.lst .own ((upF f x t y).map bD)) (a:=.lst .own ((f x++[t]).map bD)) U.n h3 (by simp[upF]) (λy V=>by simp[upF,V]);have a3:(ks.map λy=>D.lst .own ((f y).map bD))[i]? =ac (.lst .own ((f x).map bD)):=by rw[List.getElem?_map,h3];rfl
   rw[cY];simp![kids,cF,a3,cY,zN];rw[hs]
  unfold Bs;rw[e1,gD,a5,gD];unfold upS;simp![h1,q,gD,a0.1,a0.2,and_self,Y6,g2,Y9,g3]
 .have h2:cP (ks.map YM) (YM x:Key)=af:=by
   unfold cP;rw[Zn];intro y V;obtain⟨z,hz,rfl⟩:=Yr.mp V;exact Zc λe=>O (by cases e;exact hz)
  have a7:=U.e x O;refine⟨ks++[x],by simp,⟨?_,λy V=>?_⟩,?_⟩
  .rw[Zz]
   exact⟨U.n,by simp,λy V z hz e=>O (by rw[Yz.mp hz]at e;rw[←e];exact V)⟩
  .rw[upF,Y4 (λz=>V (by rw[z];simp))]
   exact U.e y λz=>V (Yv _ z)
  have I:D.dct .own (ks.map YM++[YM x]) ((ks.map λy=>D.lst .own ((f y).map bD))++[.lst .own []])=cF .own .own (ks++[x]) f:=by
   simp[cF,a7]
  have e1:Er 1 fa ρ=ac (ks.length,ρ.set 1 (ac (cF .own .own (ks++[x]) f))):=by
   unfold Er;rw[h1];simp![cF,Y,cQ,Yt,YH Z,h2];rw[I];rfl
  have h3:(ks++[x])[ks.length]? =ac x:=by simp
  have a6:(ks++[x]).Nodup:=by
   rw[Zz];exact⟨U.n,by simp,λy V z hz e=>O (by rw[Yz.mp hz]at e;rw[←e];exact V)⟩
  have q:d_ [ks.length] (cF .own .own (ks++[x]) f)=ac (.lst .own ((f x).map bD)):=by
   simp![d_,kids,cF,List.getElem?_map,h3,Y9,gD]
  have g2:aX (.lst .own ((f x).map bD)) [bD t]=ac (.lst .own ((f x++[t]).map bD),.non):=by
   simp[aX,B]
  have g3:cY [ks.length] (.lst .own ((f x++[t]).map bD)) (cF .own .own (ks++[x]) f)=cF .own .own (ks++[x]) (upF f x t):=by
   have hs:=Ff (g:=λy=>D.lst .own ((f y).map bD)) (g':=λy=>D.lst .own ((upF f x t y).map bD)) (a:=.lst .own ((f x++[t]).map bD)) a6 h3 (by simp[upF]) (λy V=>by simp[upF,V]);have a3:((ks++[x]).map λy=>D.lst .own ((f y).map bD))[ks.length]? =ac (.lst .own ((f x).map bD)):=by rw[List.getElem?_map,h3];rfl
   rw[cY];simp![kids,cF,a3,cY,zN];rw[hs]
  unfold Bs;rw[e1,gD,F,gD];unfold upS;simp![Z_ a4,q,gD,a0.1,a0.2,and_self,Y6,g2,Y9,g3,aeW]
def BeI(J:D)(js:List Jt)(k:Nat)(ρ:En):Prop:=∃(ks:List Str)(q B F V:Option D),ρ=[ac J,ac (cF .own .own ks (adj js k)),q,B,F,V]/\Bes ks (adj js k)/\ks.length<=2*k
theorem Mh(q:JJ J js)(Z:js.length<=1000):Wp (cM [J]) λd=>∃ks,d=cF .own .own ks 1.12/\Bes ks (adj js js.length):=by
 simp_arith![cM,fnP];refine a_ (BeI J js 0) 1.19 ?_
 .simp_arith[sEx,aR,bx,aU,ue]
  exact I _ ⟨[],_,_,_,_,rfl,⟨by simp,λy _=>rfl⟩,by simp⟩
 rintro _ ⟨ks,y2,y3,y4,y5,rfl,U,O⟩;refine a_ (BeI J js js.length) 1.19 ?_
 .simp[gO,itE,ao,aj,aA,q.v,q.s,aL,aF,w_ite]
  refine iQ (BeI J js) ⟨ks,y2,y3,y4,y5,rfl,U,O⟩ ?_ (λρ h=>I _ (by rw[jn]at h;simpa using h));rintro k d ρ O ⟨ks,x2,x3,F,V,rfl,U,a8⟩;rw[jq,List.getElem?_map]at O;cases a0:js[k]? with
  |none=>simp[a0]at O
  |some j=>
   obtain rfl:D.tup [.int (k:Int),jD j]=d:=by simpa[a0]using O
   have a7:k<js.length:=(List.getElem?_eq_some_iff.mp a0).1;simp[jD,tgT,aO,cz,tgN,aB,aC,clean,az,au,aF];have a1:=pY js j.1 k;have B:=pY js j.2.1 k;obtain⟨a5,c1,z,c3⟩:=R3 (t:=((k:Int),1,j.2.1)) (x:=j.1) (ρ:=[ac J,ac (cF .own .own ks (adj js k)),ac (.int k),ac (.str j.1),ac (.str j.2.1),ac (.int j.2.2)]) (fa:=aj (ao ae 3) (aj (eAp bY aA) aA)) (fx:=aj (eAp bH (aj (eAp bH (aj (ao ae 2) (aj (eC (.int 1)) aA))) (aj (ao ae 4) aA))) aA) U 1.10 1.10 rfl rfl (λd=>rfl);have a3:=ut (f:=adj js k) (x:=j.1) (y:=j.2.1) (t:=((k:Int),1,j.2.1));obtain⟨a6,d1,Y,d3⟩:=R3 (t:=((k:Int),-1,j.1)) (x:=j.2.1) (ρ:=[ac J,ac (cF .own .own a5 (upF (adj js k) j.1 ((k:Int),1,j.2.1))),ac (.int k),ac (.str j.1),ac (.str j.2.1),ac (.int j.2.2)]) (fa:=aj (ao ae 4) (aj (eAp bY aA) aA)) (fx:=aj (eAp bH (aj (eAp bH (aj (ao ae 2) (aj (e1 jJ (eC (.int 1))) aA))) (aj (ao ae 3) aA))) aA) z 1.10 1.10 rfl rfl (λd=>rfl);have a4:adj js (k+1)=upF (upF (adj js k) j.1 ((k:Int),1,j.2.1)) j.2.1 ((k:Int),-1,j.1):=by rw[adj,a0]
   rw[xr,c3,aF];simp![Ze,Zq];rw[d3,aF];simp![Ze,Zq];exact⟨a6,_,_,_,_,by rw[a4],by rw[a4];exact Y,by omega⟩
 rintro _ ⟨ks,x2,x3,F,V,rfl,U,_⟩;simp[gP,aF];exact⟨ks,rfl,U⟩
theorem km:∀ds:List D,oR ds=ds.map toS
 |[]=>rfl
 |d::r=>by rw[oR,km r];rfl
theorem TJ(ps:List Pt):toS (pT ps)=pT ps:=by
 simp![pT,toS,km,Yw];congr 1
theorem Tu(us:List Uw):oR (us.map λu=>pT u.2)=us.map λu=>pT u.2:=by
 rw[km,Yw];exact YT λu _=>TJ u.2
theorem Vp:toS (wM m us)=wM (mkS m) us:=by simp![wM,toS,Tu]
theorem QW{m':Mk}:toS (cF m m' ks f)=cF (mkS m) m' ks f:=by
 simp![cF,toS,km,Yw];congr 1;refine YT λy _=>?_;simp![aat,toS,km,Yw];congr 1
theorem W5(js:List Jt):toS 1.26= .lst .frz (js.map jD):=by
 simp![toS,km,Yw];congr 1
theorem Oj{m':Mk}:fz (cF m m' ks f)=cF (mkF m) (mkF m') ks f:=by
 simp![cF,fz,fX,Yw];congr 1;refine YT λy _=>?_;simp![aat,fz,Wy]
theorem Wg(V:mkV ae m=m):view ae (cF m .frz ks f)=cF m .frz ks f:=by
 simp![cF,view,eF,Yw,V];congr 1;refine YT λy _=>?_;simp![aat,view,VG];rfl
theorem Rz:view ae (wM .scr us)=wM .scr us:=by simp![wM,view,Gz];rfl
theorem Qg(U:Bes ks f)(x:Str):∃m',(m'= .frz∨m'= .own)/\l_ (cF m .frz ks f) [.str x,.lst .own []]=ac (.lst m' ((f x).map bD)):=by
 by_cases F:x∈ks
 .obtain⟨i,h1,h2,h3⟩:=jj F
  exact⟨.frz,.inl rfl,by simp![l_,cF,cQ,gD,h1,List.getElem?_map,h2,Y9]⟩
 .have h2:cP (ks.map YM) (YM x:Key)=af:=by
   unfold cP;rw[Zn];intro y V;obtain⟨z,hz,rfl⟩:=Yr.mp V;exact Zc λe=>F (by cases e;exact hz)
  exact⟨.own,.inr rfl,by simp![l_,cF,cQ,gD,h2,U.e x F,Y_]⟩
theorem M6:∀ps:List Pt,(ps.map ptD).mapM prD=ac ps
 |[]=>rfl
 |p::r=>by rw[Ys,aef,M6 r];rfl
theorem RZ(a b:List Pt):wU (pT a) (pT b)=ac (.bl (ltP a b)):=by
 simp![wU,pT,M6]
theorem R0:Lw (wM m us) (.dct .own [] [])=ac (.bl (us.length !=0)):=by
 simp![Lw,wM,Yt]
theorem Rc{gs:List Uw}{w:List Pt}(hn:(ky gs).Nodup)(F:x∈ky gs)(Z:gs.length<1000000):dH (wM .own gs) [.str x,pT w]=ac (wM .own (Dc gs x w),.non):=by
 obtain⟨i,h1,h2,Y⟩:=jj F;have a0:cP ((gs.map (·.1)).map YM) (YM x)=ac i:=h1;have h4:(gs.map λu=>pT u.2).set i (pT w)=(Dc gs x w).map λu=>pT u.2:=by
  apply aaz;intro k;rw[aan,Dc,List.getElem?_map,List.getElem?_map,List.getElem?_map];rw[eU]at Y;rw[ky,List.getElem?_map]at h2;by_cases e:i=k
  .subst e
   rw[YH rfl,YH (by simpa using Y)];rw[Yo Y]at h2⊢;have:gs[i].1=x:=by simpa using h2
   simp[this]
  .rw[Y4 e]
   cases O:gs[k]? with
   |none=>rfl
   |some u=>
    have q:u.1≠x:=λz=>by
     obtain⟨U,I⟩:=List.getElem?_eq_some_iff.mp O;rw[Yo Y]at h2;have B:gs[i].1=x:=by simpa using h2
     have V:(ky gs)[i]'(by rw[eU];exact Y)=(ky gs)[k]'(by rw[eU];exact U):=by
      simp![ky,List.getElem_map,B,I,z]
     exact e ((adC hn).mp V)
    simp[q]
 have U:((Dc gs x w).map (·.1)).map (YM:Str->Key)=(gs.map (·.1)).map YM:=by
  have:=Am (gs:=gs) (x:=x) (w:=w);unfold ky at this;rw[this]
 simp![dH,wM,cQ,gD,Yt,Z,Y6,gV,a0,h4,U]
theorem xU:∀(gs fs:List Uw),(ky (fs++gs)).Nodup->iR ((fs.map (·.1)).map YM) (fs.map λu=>pT u.2) (((gs.map (·.1)).map YM).zip (gs.map λu=>pT u.2))=(((fs++gs).map (·.1)).map YM,(fs++gs).map λu=>pT u.2)
 |[],fs,_=>by simp[iR]
 |g::r,fs,hn=>by
  have q:cP ((fs.map (·.1)).map YM) (YM g.1:Key)=af:=by
   unfold cP;rw[Zn];intro y V;obtain⟨z,hz,rfl⟩:=Yr.mp V;refine Zc λe=>?_;cases e;unfold ky at hn;rw[Zt,Zz]at hn;exact hn.2.2 _ hz _ (by simp) rfl
  have I:=xU r (fs++[g]) (by rw[aaW];exact hn);rw[aaW]at I;simp![Ys,ada,iR,gV,q];have e1:((fs++[g]).map (·.1)).map (YM:Str->Key)=(fs.map (·.1)).map YM++[YM g.1]:=by simp
  have e2:((fs++[g]).map λu=>pT u.2)=(fs.map λu=>pT u.2)++[pT g.2]:=by simp
  rw[e1,e2]at I;rw[I];rfl
theorem SQ{fs gs:List Uw}(hn:(ky (fs++gs)).Nodup)(Z:fs.length+gs.length<=50000):oX (wM .own fs) [wM .frz gs]=ac (wM .own (fs++gs),.non):=by
 simp![oX,wM,Yt];rw[YH Z,xU gs fs hn]
def LwE(js:List Jt)(h:Str)(B:D)(fs:List Uw)(m:Mk)(hs:List Uw)(V z Y I q:Option D):En:=[ac 1.26,ac (.str h),ac B,ac (wM .own fs),ac (wM m hs),V,z,Y,I,q]
def LwI(js:List Jt)(ns ks:List Str)(h:Str)(d:Nat)(ρ:En):Prop:=∃(B:D)(m:Mk)(fs hs:List Uw)(V z Y I q:Option D),ρ=LwE js h B fs m hs V z Y I q/\(B=cF .own .own ks 1.12∨B=cF .scr .frz ks 1.12)/\(m= .own∨m= .frz)/\By 1.12 ns h fs hs d
def LwJ(js:List Jt)(ks:List Str)(h:Str)(fs hs:List Uw)(i:Nat)(ρ:En):Prop:=∃(gs:List Uw)(z Y I q:Option D),ρ=LwE js h (cF .scr .frz ks 1.12) fs .scr hs (ac (wM .own gs)) z Y I q/\Bz 1.12 fs hs gs (λv _=>∃B<i,hs[B]? =ac v)
def LwK(js:List Jt)(ks:List Str)(h:Str)(fs hs:List Uw)(i:Nat)(v:Uw)(k:Nat)(ρ:En):Prop:=∃(gs:List Uw)(Y I q:Option D),ρ=LwE js h (cF .scr .frz ks 1.12) fs .scr hs (ac (wM .own gs)) (ac (.str v.1)) Y I q/\Bz 1.12 fs hs gs (λw s=>(∃B<i,hs[B]? =ac w)∨(w=v/\s∈(1.12 v.1).take k))
theorem Pb{fs hs:List Uw}{d:Nat}{v:Uw}(hd:By 1.12 ns h fs hs d)(Z:ns.length<=1000)(hv:hs[i]? =ac v)(ht:(adj js js.length v.1)[k]? =ac t)(b2:LwK js ks h fs hs i v k ρ)(I:∀B,LwK js ks h fs hs i v (k+1) B->Q (.nx B))(b4:∀y∈ky fs,∀t∈adj js js.length y,t.2.2∈ns) :
  Wp (tgT 2 (aO (tgN 7) (aO (tgN 8) cz)) (bD t) ρ) λρ1=>Wp ((bw (bN (e2 fQ (e2 gIx (ao ae 4) (ao ae 6)) (eAp bH (aj (ao ae 7) aA))) (tgN 9))
  (sIf (oh (eB (e2 dF (ao ae 8) (ao ae 3))) (eOr (eB (e2 dF (ao ae 8) (ao ae 5))) (eB (e2 wU (ao ae 9) (e2 gIx (ao ae 5) (ao ae 8)))))) (bN (ao ae 9) (jb dH 5 (eV 5) (ao ae 8))) dg)) ρ1) Q:=by
 obtain⟨gs,Y,x8,x9,rfl,U⟩:=b2;have a1:v∈hs:=Y0 hv;have b0:=Y0 ht;have b5:v.1∈hs.map (·.1):=Yr.mpr ⟨v,a1,rfl⟩;have a6:∀v∈hs,v.2.length=d:=λv hv=>((hd.e v).mp hv).2;have b8:gs.length<=ns.length:=by
  have:=j4 U.n (ns:=ns) λy V=>by
   obtain⟨u,hu,rfl⟩:=Yr.mp V;obtain⟨_,w,O,s,a4,e,_⟩:=U.f u hu;rw[e];exact b4 w.1 (Yr.mpr ⟨w,((hd.e w).mp O).1,rfl⟩) s a4
  rwa[eU]at this
 have b9:fs.length<=ns.length:=by
  have:=j4 hd.n hd.i;rwa[eU]at this
 have b7:d<=1000:=by
  have:=hd.z (λz=>by rw[z]at a1;cases a1);omega
 obtain⟨ps,b6,b3⟩:=vL (m:=.scr) b5;obtain rfl:ps=v.2:=iB hd.hn b6 a1;have a9:fQ (pT v.2) (.tup [.tup [.int t.1,.int t.2.1]])=ac (pT (v.2++[pr2 t])):=by
  have:=a6 v a1;simp[pT,fQ,ptD,pr2];omega
 have b1:(adj js js.length v.1).take (k+1)=(adj js js.length v.1).take k++[t]:=by rw[aaA,ht];rfl
 have step:∀w∈hs,∀s∈adj js js.length w.1,((∃i'<i,hs[i']? =ac w)∨(w=v/\s∈(adj js js.length v.1).take (k+1)))->((∃i'<i,hs[i']? =ac w)∨(w=v/\s∈(adj js js.length v.1).take k))∨(w.2=v.2/\s=t):=λw _ s _ z=>by
  rcases z with z|⟨e,z⟩
  .exact .inl (.inl z)
  .rw[b1]at z
   rcases Yl.mp z with z|z
   .exact .inl (.inr ⟨e,z⟩)
   .exact .inr ⟨by rw[e],Yz.mp z⟩
 have F:=jH (v.2++[pr2 t]);simp![LwE,bD,tgT,aO,cz,tgN,aB,aC,clean,az,au,aF,Yy,YX,aam,and_self,Y6,aL,Ze,Zq,Nat.reduceAdd];refine a_ (λρ=>ρ=LwE js h (cF .scr .frz ks 1.12) fs .scr hs (ac (wM .own gs)) (ac (.str v.1)) (ac (.tup [.int t.1,.int t.2.1])) (ac (.str t.2.2)) (ac (pT (v.2++[pr2 t])))) 1.19 ?_
 .simp[bN,e2,ao,Rz,view,eE,b3,eAp,aj,aA,bH,a9,aL,bV,aF,tgN,aB,aC,az,au,F.1,F.2.1,clean]
  exact I _ rfl
 rintro _ rfl;by_cases q:t.2.2∈fs.map (·.1)
 .simp[LwE,sIf,oh,eB,e2,ao,pU,view,p_,isB,aL,aF,w_ite,q,dg]
  exact I _ ⟨gs,_,_,_,rfl,U.skip q λw O s a4 z=>(step w O s a4 z).imp id And.right⟩
 .have ni1:dF (.str t.2.2) (wM .brw fs)=ac (.bl ag):=by rw[p_,Zc q];rfl
  by_cases a0:t.2.2∈gs.map (·.1)
  .have ni2:dF (.str t.2.2) (wM .brw gs)=ac (.bl ae):=by rw[p_,aaL a0];rfl
   obtain⟨w0,a7,a5⟩:=vL (m:=.brw) a0;have a3:=Rc (gs:=gs) (x:=t.2.2) (w:=v.2++[pr2 t]) U.n a0 1.10;cases a8:ltP (v.2++[pr2 t]) w0 with
   |true=>
    have a2:wU (pT (v.2++[pr2 t])) (pT w0)=ac (.bl ag):=by rw[RZ,a8]
    simp[LwE,sIf,oh,eOr,eB,e2,ao,pU,view,eE,ni1,ni2,a5,F.2.2.1,a2,isB,aL,aF,w_ite,bN,jb,eV,upS,d_,cY,a3,aB,aC,az,au,F.1,F.2.1,clean,bV];exact I _ ⟨Dc gs t.2.2 (v.2++[pr2 t]),_,_,_,rfl,U.set a1 b0 q (Yr.mpr ⟨_,a7,rfl⟩) step⟩
   |false=>
    have a2:wU (pT (v.2++[pr2 t])) (pT w0)=ac (.bl ae):=by rw[RZ,a8]
    simp[LwE,sIf,oh,eOr,eB,e2,ao,pU,view,eE,ni1,ni2,a5,F.2.2.1,a2,isB,aL,aF,w_ite,dg];exact I _ ⟨gs,_,_,_,rfl,U.keep (Yr.mpr ⟨_,a7,rfl⟩) step⟩
  .have ni2:dF (.str t.2.2) (wM .brw gs)=ac (.bl ag):=by rw[p_,Zc a0];rfl
   have a3:=KJ (us:=gs) (x:=t.2.2) (ps:=v.2++[pr2 t]) a0 1.10;simp[LwE,sIf,oh,eOr,eB,e2,ao,pU,view,eE,ni1,ni2,F.2.2.1,isB,aL,aF,w_ite,bN,jb,eV,upS,d_,cY,a3,aB,aC,az,au,F.1,F.2.1,clean,bV];exact I _ ⟨gs++[(t.2.2,v.2++[pr2 t])],_,_,_,rfl,U.add a1 b0 q a0 step⟩
theorem Qd(U:Bes ks 1.12)(hB:cM [.lst .frz (js.map jD)]=ac (cF .own .own ks 1.12))(hh:h∈ns)(V:∀j∈js,j.1∈ns/\j.2.1∈ns)(Z:ns.length<=1000):Wp (bI [.lst .frz (js.map jD),.str h]) λd=>∃us,d=wM .own us/\(ky us).Nodup/\Lst 1.12 h us:=by
 have b0:∀y:Str,∀t∈adj js js.length y,t.2.2∈ns:=λy t ht=>by
  obtain⟨n,j,_,h2,Y⟩:=(nq js y js.length).mp ht;rcases Y with⟨_,rfl⟩|⟨_,rfl⟩
  .exact(V j (Y0 h2)).2
  .exact(V j (Y0 h2)).1
 have a7:qx [((YM h:Key),D.tup [])]=ac (wM .own [(h,[])]):=by
  unfold qx;rw[YH (by simp)];rfl
 have c3:fz 1.26= .lst .frz (js.map jD):=by simp[fz,lR,mkF]
 have b4:bj (cF .own .own ks 1.12)=ag:=by
  have Y:∀l:List Tt,aP (l.map bD)=ag:=by
   intro l
   induction l with
   |nil=>rfl
   |cons p r ih=>rw[Ys,aP,ih];rfl
  have F:∀l:List Str,aP (l.map λy=>D.lst .own ((adj js js.length y).map bD))=ag:=by
   intro l
   induction l with
   |nil=>rfl
   |cons p r ih=>rw[Ys,aP,ih];simp[bj,Y]
  simp[cF,bj,F]
 have b3:az (cF .own .own ks 1.12)=ag/\au (cF .own .own ks 1.12)=ag:=by
  constructor
  .simp![cF,az];rw[cg λd hd=>by obtain⟨y,_,rfl⟩:=Yr.mp hd;simp[az,RN]];rfl
  .simp![cF,au];rw[bL λd hd=>by obtain⟨y,_,rfl⟩:=Yr.mp hd;simp[au,Rv]];rfl
 have a8:aM cM [.lst .frz (js.map jD)]=ac (cF .own .own ks 1.12):=call_of (by simpa[fzL,c3]using hB) b4;have c4:view ae 1.26= .lst .frz (js.map jD):=by simp[view,uQ,mkV]
 simp_arith![bI,fnP];refine a_ (λρ=>ρ=[ac 1.26,ac (.str h),ac (cF .own .own ks 1.12),af,af,af,af,af,af,af]) 1.19 ?_
 .simp[bN,eAp,aj,aA,ao,c4,a8,aL,bV,aF,tgN,clean,b3.1,b3.2]
  exact I _ rfl
 rintro _ rfl;refine a_ (λρ=>ρ=[ac 1.26,ac (.str h),ac (cF .own .own ks 1.12),ac (wM .own [(h,[])]),af,af,af,af,af,af]) 1.19 ?_
 .simp_arith[sEx,aR,bx,aU,fQ,jf,jZ,lN,mL,tV,jJ,gLt,gGt,gGe,gIx,bY,bH,bT,n_,rE,qu,gIs,j9,atI,ixN,aX,dH,gSl,pZ,eQ,qw,lD,sV,cQ,a7]
  exact⟨Fj (.inl rfl),I _ rfl⟩
 rintro _ rfl;refine a_ (λρ=>ρ=LwE js h (cF .own .own ks 1.12) [(h,[])] .own [(h,[])] af af af af af) 1.19 ?_
 .simp_arith[sEx,aR,bx,aU,fQ,jf,jZ,lN,mL,tV,jJ,gLt,gGt,gGe,gIx,bY,bH,bT,n_,rE,qu,gIs,j9,atI,ixN,aX,dH,gSl,pZ,eQ,qw,lD,sV,cQ,a7]
  exact⟨Fj (.inl rfl),I _ rfl⟩
 rintro _ rfl;refine a_ (λρ=>∃(B:D)(m:Mk)(fs:List Uw)(d:Nat)(x5 x6 x7 x8 x9:Option D),ρ=LwE js h B fs m [] x5 x6 x7 x8 x9/\By 1.12 ns h fs [] d) 1.19 ?_
 .refine uA (LwI js ns ks h) ns.length ?_ 1000000 0 _ ⟨_,_,_,_,_,_,_,_,_,rfl,.inl rfl,.inl rfl,By.one hh⟩ 1.10
  rintro d ρ ⟨B,m,fs,hs,x5,x6,x7,x8,x9,rfl,c0,hm,hd⟩;have b1:view ae (wM m hs)=wM (mkV ae m) hs:=by simp![wM,view,Gz]
  by_cases a6:hs=[]
  .subst a6
   simp[LwE,tR,eB,e2,ao,b1,eAp,aA,ue,R0,isB,bV,aL,aF];exact I _ ⟨B,m,fs,d,x5,x6,x7,x8,x9,rfl,hd⟩
  .have hlh:(hs.length !=0)=ag:=by simpa using a6
   have c8:fs.length<=ns.length:=by
    have:=j4 hd.n hd.i;rwa[eU]at this
   have c7:=hd.z a6;simp![LwE,tR,eB,e2,ao,b1,eAp,aA,ue,R0,hlh,isB,bV,aL,aF,YJ,YL,gD,Y9,Y6];refine⟨by omega,?_⟩;refine a_ (λρ=>ρ=LwE js h B fs m hs (ac (wM .own [])) x6 x7 x8 x9) 1.19 ?_
   .simp[bN,eAp,aA,ue,bV,aL,aF,tgN,clean,az,au,aB,aC]
    exact I _ rfl
   rintro _ rfl;refine a_ (λρ=>∃(gs:List Uw)(x6 x7 x8 x9:Option D),ρ=LwE js h (cF .scr .frz ks 1.12) fs .scr hs (ac (wM .own gs)) x6 x7 x8 x9/\Bz 1.12 fs hs gs λ_ _=>True) 1.19 ?_
   .obtain⟨m2,hm2,hfB⟩:∃m2,(m2= .frz∨m2= .scr)/\fz B=cF m2 .frz ks (adj js js.length):=by
     rcases c0 with rfl|rfl
     .exact⟨.frz,.inl rfl,by rw[Oj];rfl⟩
     .exact⟨.scr,.inr rfl,by rw[Oj];rfl⟩
    have c6:mkS m2= .scr:=by rcases hm2 with rfl|rfl<;>rfl
    have b7:fz (wM m hs)=wM .frz hs:=T5 (by rcases hm with rfl|rfl<;>decide);simp![sFz,iY,LwE,YJ,YL,gD,hfB,b7,Ze,Zq];have b8:∀x:Str,∀y7 y8 y9 gs,itS (eMt l_ (ao ae 2) (aj (ao ae 6) (aj (eAp bY aA) aA))) (LwE js h (cF .scr .frz ks 1.12) fs .scr hs (ac (wM .own gs)) (ac (.str x)) y7 y8 y9)=ac (ag,(adj js js.length x).map bD):=λx y7 y8 y9 gs=>by
     obtain⟨m',c2,e⟩:=Qg (m:=.scr) U x;simp![itS,eMt,ao,LwE,YJ,YL,Wg (m:=.scr) rfl,aj,eAp,aA,bY,view,gD];refine(congrArg (λo=>Option.bind o dw) e).trans ?_;rcases c2 with rfl|rfl<;>simp[dw,clean,az,au,RN,Rv,V4]
    have q:Wp (forL (tgN 6) (gO (itS (eMt l_ (ao ae 2) (aj (ao ae 6) (aj (eAp bY aA) aA))))
      (tgT 2 (aO (tgN 7) (aO (tgN 8) cz)))
      (bw
       (bN (e2 fQ (e2 gIx (ao ae 4) (ao ae 6)) (eAp bH (aj (ao ae 7) aA))) (tgN 9))
       (sIf
        (oh (eB (e2 dF (ao ae 8) (ao ae 3)))
         (eOr (eB (e2 dF (ao ae 8) (ao ae 5)))
          (eB (e2 wU (ao ae 9) (e2 gIx (ao ae 5) (ao ae 8))))))
        (bN (ao ae 9) (jb dH 5 (eV 5) (ao ae 8))) dg))) ((ky hs).map D.str) (LwE js h (cF .scr .frz ks 1.12) fs .scr hs (ac (wM .own [])) (x6.map toS) (x7.map toS) (x8.map toS) (x9.map toS))) λr=>∃a3,r= .nx a3/\LwJ js ks h fs hs hs.length a3:=by
     refine iQ (LwJ js ks h fs hs) ⟨[],_,_,_,_,rfl,Bz.nil λv t ⟨i',h1,_⟩=>by omega⟩ ?_ (λρ a2=>⟨ρ,rfl,by rw[Yt,eU]at a2;exact a2⟩);rintro i dd ρ hi ⟨gs,y6,y7,y8,y9,rfl,a1⟩;rw[List.getElem?_map,ky,List.getElem?_map]at hi;cases a4:hs[i]? with
     |none=>rw[a4]at hi;cases hi
     |some v=>
      obtain rfl:D.str v.1=dd:=by rw[a4]at hi;simpa using hi
      have c1:tgN 6 (.str v.1) (LwE js h (cF .scr .frz ks 1.12) fs .scr hs (ac (wM .own gs)) y6 y7 y8 y9)=ac (LwE js h (cF .scr .frz ks 1.12) fs .scr hs (ac (wM .own gs)) (ac (.str v.1)) y7 y8 y9):=rfl;rw[c1,aF];simp![gO,b8,aL,aF,Y6];refine iQ (LwK js ks h fs hs i v) ⟨gs,_,_,_,rfl,a1.mono λw _ s _ z _=>z.resolve_right λz=>by simp at z⟩ ?_ ?_
      .rintro k e ρ hk a2
       rw[List.getElem?_map]at hk;cases a9:(adj js js.length v.1)[k]? with
       |none=>rw[a9]at hk;cases hk
       |some t=>
        obtain rfl:bD t=e:=by rw[a9]at hk;simpa using hk
        exact Pb hd Z a4 a9 a2 (λa3 h=>h) (λy _ t ht=>b0 y t ht)
      .rintro ρ ⟨gs2,z7,z8,z9,rfl,hbz2⟩
       rw[Yt,aaI]at hbz2;refine⟨gs2,_,_,_,_,rfl,hbz2.mono λw _ s b6 ⟨i',h1,h2⟩ _=>?_⟩;by_cases e:i'=i
       .subst e
        rw[a4]at h2;cases h2;exact .inr ⟨rfl,b6⟩
       .exact .inl ⟨i',by omega,h2⟩
    obtain⟨r,er,a3,rfl,gs,y6,y7,y8,y9,rfl,a1⟩:=q;have hD:xY 4 (tgN 6) (gO (itS (eMt l_ (ao ae 2) (aj (ao ae 6) (aj (eAp bY aA) aA))))
      (tgT 2 (aO (tgN 7) (aO (tgN 8) cz)))
      (bw
       (bN (e2 fQ (e2 gIx (ao ae 4) (ao ae 6)) (eAp bH (aj (ao ae 7) aA))) (tgN 9))
       (sIf
        (oh (eB (e2 dF (ao ae 8) (ao ae 3)))
         (eOr (eB (e2 dF (ao ae 8) (ao ae 5)))
          (eB (e2 wU (ao ae 9) (e2 gIx (ao ae 5) (ao ae 8))))))
        (bN (ao ae 9) (jb dH 5 (eV 5) (ao ae 8))) dg))) [ac 1.26,ac (.str h),ac (cF m2 .frz ks 1.12),ac (wM .own fs),ac (wM .frz hs),ac (wM .own []),x6,x7,x8,x9]=ac (.nx (LwE js h (cF .scr .frz ks 1.12) fs .scr hs (ac (wM .own gs)) y6 y7 y8 y9)):=by
     have e1:([ac 1.26,ac (.str h),ac (cF m2 .frz ks 1.12),ac (wM .own fs),ac (wM .frz hs),ac (wM .own []),x6,x7,x8,x9]:En).map (aew toS)=LwE js h (cF .scr .frz ks 1.12) fs .scr hs (ac (wM .own [])) (x6.map toS) (x7.map toS) (x8.map toS) (x9.map toS):=by
      simp![Ys,Y_,Y9,W5,QW,c6,Vp,LwE];rfl
     have e2:((hs.map (·.1)).map (YM:Str->Key)).map kD=(ky hs).map D.str:=by rw[Yw];rfl
     have e3:=er;rw[←e1,←e2]at e3;unfold xY;simp![YJ,YL,wM];simp![wM]at e3;rw[e3]
    rw[hD,aF];exact I _ ⟨gs,y6,y7,y8,y9,rfl,a1.mono λw O s b6 _ _=>let⟨i,hi,e⟩:=aaC O;⟨i,hi,by rw[Yo hi,e]⟩⟩
   rintro _ ⟨gs,y6,y7,y8,y9,rfl,a1⟩;have a0:=hd.next a1 (λv _ t ht=>b0 v t ht) a6;have c5:(fs++gs).length<=ns.length:=by
    have:=j4 a0.n a0.i;rwa[eU]at this
   have b5:=SQ a0.n (by rw[Zd]at c5;omega);have b9:fz (wM .own gs)=wM .frz gs:=T5 (by decide);have a5:=Fj (us:=gs) (m:=.frz) (.inr rfl);have b2:view ae (wM .frz gs)=wM .frz gs:=WF;refine a_ (λρ=>ρ=LwE js h (cF .scr .frz ks 1.12) (fs++gs) .scr hs (ac (wM .frz gs)) y6 y7 y8 y9) 1.19 ?_
   .simp[LwE,sFz,iY,b9,iK,m6,eV,aj,aA,ao,b2,upS,d_,cY,b5,aB,aC,a5.1,a5.2,bV,aL,aF]
    exact I _ rfl
   rintro _ rfl;simp[LwE,bN,ao,b2,tgN,clean,a5.1,a5.2,bV,aL,aF];exact⟨_,.frz,fs++gs,gs,_,_,_,_,_,rfl,.inr rfl,.inr rfl,a0⟩
 rintro _ ⟨B,m,fs,d,x5,x6,x7,x8,x9,rfl,hd⟩;simp[LwE,gP,aF];exact⟨fs,rfl,hd.n,hd.fin⟩
abbrev sd(I:List Int)(t:Int):D:=.dct .own [.inr "cells",.inr "turn"] [.lst .own (I.map D.int),.int t]
def Sd(n:Int)(d:D):Prop:=∃I t,d=sd I t/\I≠[]/\I.length<=63/\0<=t/\t<=n
theorem kc:cP [.inr "cells",.inr "turn"] (.inr "cells")=ac 0:=by decide +kernel
theorem kt:cP [.inr "cells",.inr "turn"] (.inr "turn")=ac 1:=by decide +kernel
theorem lA:∀I:List Int,aB (I.map D.int)=ag
 |[]=>rfl
 |c::r=>by simp[aB,az,lA r]
theorem lq:∀I:List Int,aC (I.map D.int)=ag
 |[]=>rfl
 |c::r=>by simp[aC,au,lq r]
theorem nP(b:Bool):∀I:List Int,eE b (I.map D.int)=I.map D.int
 |[]=>rfl
 |c::r=>by simp[eE,view,nP b r]
theorem uo{n:Nat}(h:k<n):ixN n (k:Int)=ac k:=by
 unfold ixN;simp;omega
theorem JX{m:Int}(hd:Sd n d)(hn:n<1000000)(V:0<m)(a1:m<1000000):Wp (aN [d,.int m]) λq=>∃(r:Int)(d':D),q=(.int r,[d',.int m])/\0<=r/\r<m/\Sd (n+1) d':=by
 obtain⟨I,t,rfl,B,Z,t0,t1⟩:=hd;have a0:0<I.length:=aeH.mpr B;obtain⟨k,O,z⟩:∃k:Nat,(t+1) % (I.length:Int)=(k:Int)/\k<I.length:=by
  have h1:=acO (t+1) (show(I.length:Int)≠0 by omega);have h2:=acf (t+1) (show(0:Int)<I.length by omega);exact⟨((t+1) % (I.length:Int)).toNat,by omega,by omega⟩
 have F:=uo z;simp_arith[aN,sEx,aR,bx,aU,fQ,jf,jZ,lN,mL,tV,jJ,gLt,gGt,gGe,gIx,bY,bH,bT,n_,rE,qu,gIs,j9,atI,ixN,aX,dH,gSl,pZ,eQ,kc,kt,cQ,gV,lA,lq,nP,O,F,a0,uw,V];refine⟨z,?_⟩;rw[Yo z,aF];by_cases U:(1000000000000000000:Int)<=I[k]
 .rw[YH U]
  refine⟨by omega,?_⟩;simp[ixP,kc,cQ,kids,d_,cY,zN,aF,w_ite,bV,z];refine⟨_,_,⟨rfl,rfl⟩,acO _ 1.10,acf _ V,I.set k (I[k] / m),t+1,?_,by simpa using B,by simpa using Z,by omega,by omega⟩;simp![sd,aeX]
 .rw[Y4 U]
  have Y:∀x:Int,0<=x % 2147483647/\x % 2147483647<2147483647:=λx=>⟨acO _ (by decide),acf _ (by decide)⟩;refine⟨⟨by omega,by omega⟩,⟨by have:=(Y ((I[k] % 2147483629+(t+1)*(t+1)*7919+11)*48271)).1;omega,by have:=(Y ((I[k] % 2147483629+(t+1)*(t+1)*7919+11)*48271)).2;omega⟩,_,_,⟨rfl,rfl⟩,acO _ 1.10,acf _ V,I,t+1,rfl,B,Z,by omega,by omega⟩
theorem h_{m:Int}{Q:D×List D->Prop}(hd:Sd n d)(hn:n<1000000)(V:0<m)(z:m<1000000)(h:∀r d',0<=r->r<m->Sd (n+1) d'->Q (.int r,[d',.int m])):Wp (aN [d,.int m]) Q:=by
 refine(JX hd hn V z).mono ?_;rintro _ ⟨r,d',rfl,h1,h2,Y⟩;exact h r d' h1 h2 Y
theorem Ac{m:Int}(hd:Sd n d)(hn:n<1000000)(V:0<m)(z:m<1000000):∃r d',aN [d,.int m]=ac (.int r,[d',.int m])/\0<=r/\r<m/\Sd (n+1) d':=by
 obtain⟨q,e,r,d',rfl,h⟩:=JX hd hn V z;exact⟨r,d',e,h⟩
theorem yl:∀I:List Int,mR (I.map D.int)=ag
 |[]=>rfl
 |c::r=>by simp[mR,tG,yl r]
theorem PK{I:List Int}:gEq (.lst m (I.map D.int)) (.lst .own [])=ac (.bl I.isEmpty):=by
 unfold gEq;have h1:=yl I;rw[YH ⟨by simpa[tG]using h1,rfl,.lst (by simp[dtL])⟩];cases I with
 |nil=>rfl
 |cons j r=>rfl
theorem Nk:cutD ds af (ac (k:Int))=ds.take k:=by
 unfold cutD;rw[HT.sIx_none,HT.sIx_nat,afB,Nat.sub_zero];rcases Nat.le_total k ds.length with h|h
 .rw[acP h]
 .rw[adM h,aaI,aaG h]
theorem Mw:cutD ds (ac (k:Int)) af=ds.drop k:=by
 unfold cutD;rw[HT.sIx_none,HT.sIx_nat];rcases Nat.le_total k ds.length with h|h
 .rw[acP h,aaG (by simp)]
 .rw[adM h,aai,acy h];simp
theorem PB{ns:List Int}(Z:ns.length<=63):Wp (cV [.lst .scr (ns.map D.int)]) (Sd 0):=by
 have hs:cutD (ns.map D.int) af (ac 63)=ns.map D.int:=by
  have:=Nk (ds:=ns.map D.int) (k:=63);rw[aaG (by simpa using Z)]at this;exact this
 simp_arith[wu,cV,sEx,aR,bx,aU,fQ,jf,jZ,lN,mL,tV,jJ,gLt,gGt,gGe,gIx,bY,bH,bT,n_,rE,qu,gIs,j9,atI,ixN,aX,dH,gSl,pZ,eQ,Hd,lA,lq,nP,uP,hs,PK];cases ns with
 |nil=>exact⟨[7],0,rfl,by simp,by simp,by omega,by omega⟩
 |cons n r=>
  exact⟨n::r,0,rfl,by simp,Z,by omega,by omega⟩
def rT:List Str:=["b","aa","zebra","c","quartzes","ab","m","knows","d","mm","likes","z","a","ba","abcdefgh","y"]
theorem Pj:Aq "b aa zebra c quartzes ab m knows d mm likes z a ba abcdefgh y" " "=ac rT:=by decide +kernel
theorem X7:rT.Nodup:=by decide +kernel
def Nm(n:Int)(q:D×List D):Prop:=∃(ns:List Str)(d':D),q=(.lst .own (ns.map D.str),[d'])/\(∀x∈ns,x∈rT)/\ns.Nodup/\ns.length<=14/\Sd (n+4) d'
theorem QK(hd:Sd n d)(hn:n<900000):Wp (fD [d]) (Nm n):=by
 obtain⟨z,d1,V,b0,b1,a0⟩:=Ac hd 1.10 (show(0:Int)<5 by decide) (by decide);obtain⟨q,Y,I,a7,a6,a3⟩:=Ac a0 1.10 (show(0:Int)<3 by decide) (by decide);obtain⟨U,d3,f3,b2,a9,a4⟩:=Ac a3 1.10 (show(0:Int)<8 by decide) (by decide);obtain⟨r4,d4,B,a5,a8,a1⟩:=Ac a4 1.10 (show(0:Int)<16 by decide) (by decide);have Z:((rT.map D.str).length:Int)=16:=rfl;simp_arith[fD,sEx,aR,bx,aU,vd,Pj,bY,fQ,bT,V,I,f3];obtain⟨mn,a2,m1⟩:∃mn:Nat,gIx (D.lst Mk.own [D.int 4,D.int 5,D.int 6,D.int 7,D.int 8,D.int 6,D.int (10+z),D.int q]) (D.int U)=ac (.int (mn:Int))/\mn<=14:=by
  have:U=0∨U=1∨U=2∨U=3∨U=4∨U=5∨U=6∨U=7:=by omega
  rcases this with rfl|rfl|rfl|rfl|rfl|rfl|rfl|rfl
  .exact⟨4,rfl,by omega⟩
  .exact⟨5,rfl,by omega⟩
  .exact⟨6,rfl,by omega⟩
  .exact⟨7,rfl,by omega⟩
  .exact⟨8,rfl,by omega⟩
  .exact⟨6,rfl,by omega⟩
  .exact⟨(10+z).toNat,by rw[show(((10+z).toNat:Nat):Int)=10+z by omega];rfl,by omega⟩
  .exact⟨q.toNat,by rw[show((q.toNat:Nat):Int)=q by omega];rfl,by omega⟩
 obtain⟨k,rfl⟩:∃k:Nat,r4=(k:Int):=⟨r4.toNat,by omega⟩;rw[a2,aF,dX,Z,B,aF];simp_arith[sEx,aR,bx,aU,dq,bQ,dX,wu,fQ,Nk,Mw];have O:((List.drop k (YK D.str rT)++List.take k (YK D.str rT)).take mn)=((rT.drop k++rT.take k).take mn).map D.str:=by
  rw[List.map_take,Zt,List.map_drop,List.map_take]
 have pm:(rT.drop k++rT.take k).Perm rT:=aeg.trans (by rw[aaM]);rw[O];refine⟨by show 16-k+min k 16<=1000000;omega,⟨dq _,bQ _⟩,_,d4,rfl,λx F=>pm.subset (abj F),?_,by rw[aaa];omega,by rw[show n+4=n+1+1+1+1 by omega];exact a1⟩;exact(ae5 _ _).nodup (pm.nodup_iff.mpr X7)
theorem Hj:∀I:List Int,gM (I.map D.int)=I.map D.int
 |[]=>rfl
 |c::r=>by simp[gM,fzo,Hj r]
theorem Sd.le{m:Int}(h:Sd n d)(V:n<=m):Sd m d:=by
 obtain⟨I,t,h1,h2,Y,F,U⟩:=h;exact⟨I,t,h1,h2,Y,F,by omega⟩
theorem Sd.cl(h:Sd n d):az d=ag/\au d=ag:=by
 obtain⟨I,t,rfl,_⟩:=h;simp[az,au,aB,aC,lA,lq]
def Jo(n:Int)(ns:List Str)(q:D×List D):Prop:=∃(js:List Jt)(d':D),q=(.lst .own (js.map jD),[d',.lst .frz (ns.map D.str)])/\(∀j∈js,j.1∈ns/\j.2.1∈ns)/\js.length<=2*ns.length/\Sd (n+1000) d'
def JoI(n:Int)(ns:List Str)(k:Nat)(acc:List D)(ρ:En):Prop:=∃(sp:List Int)(d':D),acc=sp.map D.int/\sp.length=k/\Sd (n+k) d'/\ρ=[ac d',ac (D.lst Mk.frz (YK D.str ns)),af,af,af,af,af,af,af,af,af]
def JoE(ns:List Str)(sp:List Int)(js:List Jt)(d':D)(F V z Y I q B:Option D):En:=[ac d',ac (D.lst Mk.frz (YK D.str ns)),ac (.lst .own (sp.map D.int)),ac (D.lst Mk.own (js.map jD)),F,V,z,Y,I,q,B]
def JoF(n:Int)(ns:List Str)(sp:List Int)(k:Nat)(ρ:En):Prop:=∃(js:List Jt)(d':D)(F V z Y I q B:Option D),ρ=JoE ns sp js d' F V z Y I q B/\(∀j∈js,j.1∈ns/\j.2.1∈ns)/\js.length=k/\Sd (n+30+8*k) d'
theorem Dh{q:Jt}:List.set ((js++[j]).map jD) js.length (jD q)=(js++[q]).map jD:=by
 rw[←aeX,abI _ _ (YB _),aaR];rfl
theorem Fp(hd:Sd n d)(hn:n<900000)(Z:ns.length<=14):Wp (dz [d,.lst .frz (ns.map D.str)]) (Jo n ns):=by
 simp_arith![dz,fnI];refine a_ (λρ=>∃(sp:List Int)(d':D),sp.length=ns.length/\Sd (n+14) d'/\ρ=[ac d',ac (D.lst Mk.frz (YK D.str ns)),ac (.lst .own (sp.map D.int)),af,af,af,af,af,af,af,af]) 1.19 ?_
 .simp_arith[sEx,aR,bx,aU,dX,il,dq,bQ]
  refine⟨by omega,Ma (JoI n ns) ⟨[],d,rfl,rfl,by simpa using hd,rfl⟩ ?_ ?_⟩
  .rintro i x acc ρ hi ⟨sp,d2,rfl,a4,s2,rfl⟩
   rw[List.getElem?_map]at hi;have c3:i<ns.length:=by
    rcases aeV i ns.length with h|h
    .exact h
    .rw[ZD h]at hi;cases hi
   cases F:ns[i]? with
   |none=>simp[F]at hi
   |some y=>
    obtain rfl:D.str y=x:=by simpa[F]using hi
    simp_arith[sEx,aR,bx,aU];refine h_ s2 1.10 1.10 1.10 λr3 d3 p3 q3 s3=>?_;simp_arith[sEx,aR,bx,aU,jf];exact⟨sp++[r3-9],d3,by simp,by simp[a4],s3.le (by push_cast;omega),rfl⟩
  .rintro ys ρ ⟨sp,d2,rfl,a4,s2,rfl⟩
   rw[Yt]at a4 s2;refine⟨⟨lA _,lq _⟩,I _ ⟨sp,d2,a4,s2.le 1.10,rfl⟩⟩
 rintro _ ⟨sp,d2,a4,s2,rfl⟩;refine a_ (λρ=>∃(sp:List Int)(d':D),sp.length=ns.length/\Sd (n+15) d'/\ρ=[ac d',ac (D.lst Mk.frz (YK D.str ns)),ac (.lst .own (sp.map D.int)),af,af,af,af,af,af,af,af]) 1.19 ?_
 .simp_arith[sEx,aR,bx,aU]
  refine h_ s2 1.10 1.10 1.10 λr3 d3 p3 q3 s3=>?_;simp_arith[sEx,aR,bx,aU,eq_int,nP,lA,lq];split
  .rw[Hj]
   refine⟨by rw[Yt,a4];omega,?_⟩;rw[fO (p:=λ_=>ag) (f:=λd=>match d with|.int k=>.int (k*50000000021)|_=>.non)]
   .rw[aF,filter_tt]
    have e5:YK (λd=>match d with|D.int k=>D.int (k*50000000021)|_=>D.non) (sp.map D.int)=(sp.map λk=>k*50000000021).map D.int:=by
     rw[Yw,Yw];rfl
    rw[e5];exact⟨⟨lA _,lq _⟩,I _ ⟨_,d3,by simpa using a4,s3.le 1.10,rfl⟩⟩
   .intro d hd
    obtain⟨k,O,rfl⟩:=Yr.mp hd;simp[tpN,aF,eTT,e2,ao,view,eC,jZ]
  .exact I _ ⟨sp,d3,a4,s3.le 1.10,rfl⟩
 clear s2 a4;rintro _ ⟨sp,d2,a4,s2,rfl⟩;refine a_ (λρ=>ρ=[ac d2,ac (D.lst Mk.frz (YK D.str ns)),ac (.lst .own (sp.map D.int)),ac (.lst .own []),af,af,af,af,af,af,af]) 1.19 ?_
 .simp_arith[sEx,aR,bx,aU,bY]
  exact I _ rfl
 rintro _ rfl;refine a_ (λρ=>∃k,k<=2*ns.length/\JoF n ns sp k ρ) 1.19 ?_
 .simp_arith[sEx,aR,bx,aU,bT,dX,fQ,jZ]
  refine h_ s2 1.10 1.10 1.10 λr5 d5 p5 q5 s5=>?_;simp_arith[sEx,aR,bx,aU];refine⟨by omega,iQ (JoF n ns sp) ⟨[],d5,_,_,_,_,_,_,_,rfl,by simp,rfl,s5.le 1.10⟩ ?_ ?_⟩
  .rintro k x ρ O ⟨js,d6,x4,x5,x6,x7,x8,x9,a3,rfl,a6,a8,s6⟩
   obtain⟨c0,rfl⟩:=uC O;have c1:0<ns.length:=by omega
   simp![tgN,clean,az,au,aam,Y6,aF,JoE,Ze,Zq];have c4:(ns.map D.str).length=ns.length:=Yt _;have c2:(sp.map D.int).length=ns.length:=by rw[Yt,a4]
   refine a_ (λρ=>∃(a b:Nat)(d':D),a<ns.length/\b<ns.length/\Sd (n+30+8*k+2) d'/\ρ=JoE ns sp js d' (ac (.int k)) (ac (.int a)) (ac (.int b)) x7 x8 x9 a3) 1.19 ?_
   .simp_arith[sEx,aR,bx,aU,bT,dX]
    refine h_ s6 1.10 1.10 1.10 λr7 d7 p7 q7 s7=>?_;simp_arith[sEx,aR,bx,aU,bT,dX];refine h_ s7 1.10 1.10 1.10 λr8 d8 p8 q8 s8=>?_;simp_arith[sEx,aR,bx,aU];refine I _ ⟨r7.toNat,r8.toNat,d8,by omega,by omega,s8.le 1.10,?_⟩;rw[show((r7.toNat:Nat):Int)=r7 by omega,show((r8.toNat:Nat):Int)=r8 by omega];rfl
   rintro _ ⟨a,b,d7,Y,U,s7,rfl⟩;have b5:∀c:Nat,c<ns.length->gIx (.lst .brw (sp.map D.int)) (.int (c:Int))=ac (.int (sp[c]?.getD 0)):=λc B=>by
    have:c<sp.length:=by omega
    simp![gIx,atI,Yt,uo this,gD,List.getElem?_map,Yo this];rfl
   have b6:∀{m:Mk}(c:Nat)(B:c<ns.length),gIx (.lst m (ns.map D.str)) (.int (c:Int))=ac (.str ns[c]):=λ{m} c B=>by
    simp![gIx,atI,Yt,uo B,gD,List.getElem?_map,Yo B];rfl
   refine a_ (λρ=>∃st:Int,ρ=JoE ns sp js d7 (ac (.int k)) (ac (.int a)) (ac (.int b)) (ac (.int st)) x8 x9 a3) 1.19 ?_
   .simp_arith[sEx,aR,bx,aU,JoE,nP,b5 a Y,b5 b U,jf]
    exact I _ ⟨_,rfl⟩
   rintro _ ⟨st,rfl⟩;refine a_ (λρ=>∃(st:Int)(d':D),Sd (n+30+8*k+4) d'/\ρ=JoE ns sp js d' (ac (.int k)) (ac (.int a)) (ac (.int b)) (ac (.int st)) x8 x9 a3) 1.19 ?_
   .simp_arith[sEx,aR,bx,aU,JoE]
    refine h_ s7 1.10 1.10 1.10 λr8 d8 p8 q8 s8=>?_;simp_arith[sEx,aR,bx,aU,eq_int];split
    .refine h_ s8 1.10 1.10 1.10 λr9 d9 p9 q9 s9=>?_
     simp_arith[sEx,aR,bx,aU,jf];exact I _ ⟨_,d9,s9.le 1.10,rfl⟩
    .exact I _ ⟨_,d8,s8.le 1.10,rfl⟩
   clear s7 d7 st;rintro _ ⟨st,d7,s7,rfl⟩;refine a_ (λρ=>ρ=JoE ns sp (js++[(ns[a],ns[b],st)]) d7 (ac (.int k)) (ac (.int a)) (ac (.int b)) (ac (.int st)) x8 x9 a3) 1.19 ?_
   .simp_arith[sEx,aR,bx,aU,JoE,b6 a Y,b6 b U,bH,dX,aX]
    refine⟨by omega,I _ ?_⟩;simp[JoE,jD]
   rintro _ rfl;generalize b9:(ns[a],ns[b],st)=j1;have a9:j1.1∈ns/\j1.2.1∈ns:=by subst b9;exact⟨aaj Y,aaj U⟩
   refine a_ (λρ=>∃(w:Int)(d':D),Sd (n+30+8*k+5) d'/\ρ=JoE ns sp (js++[j1]) d' (ac (.int k)) (ac (.int a)) (ac (.int b)) (ac (.int st)) (ac (.int w)) x9 a3) 1.19 ?_
   .simp_arith[sEx,aR,bx,aU,JoE]
    refine h_ s7 1.10 1.10 1.10 λr8 d8 p8 q8 s8=>?_;simp_arith[sEx,aR,bx,aU];refine I _ ⟨r8,d8,s8.le 1.10,?_⟩;simp[JoE]
   clear s7 d7;rintro _ ⟨w,d7,s7,rfl⟩;have a2:∀j∈js++[j1],j.1∈ns/\j.2.1∈ns:=λj V=>(Yl.mp V).elim (a6 j) λz=>by rw[Yz.mp z];exact a9
   have a1:(js++[j1]).length=k+1:=by simp[a8]
   obtain⟨a0,a5⟩:∃a0,a0=js++[j1]:=⟨_,rfl⟩;have a7:∀q:Jt,dH (.lst .own (a0.map jD)) [.int (-1),jD q]=ac (.lst .own ((js++[q]).map jD),.non):=λq=>by
    have b1:ixN (a0.map jD).length (-1)=ac js.length:=by
     unfold ixN;rw[Yt,a5,a1];simp;omega
    simp![dH,b1,Y9];rw[a5,Dh]
   rw[←a5]at a2 a1⊢;have b4:∀{Q:Fl->Prop}{d7:D}{x9 a3:Option D}{st w:Int},Sd (n+30+8*k+5) d7->(∀(j2:Jt)(d':D),(j2.1∈ns/\j2.2.1∈ns)->Sd (n+30+8*k+6) d'->Q (.nx (JoE ns sp (js++[j2]) d' (ac (.int k)) (ac (.int a)) (ac (.int b)) (ac (.int st)) (ac (.int w)) x9 a3)))->
     Wp (sIf (eB (e2 gEq (ao ae 8) (eC (.int 0)))) (gf (ee2 gIx (eUp (ao ae 3)) (eIo aN [0] (gF (aj (eAp bT (aj (ao ae 3) aA)) aA)))) (jb dH 3 (eV 3) (e1 jJ (eC (.int 1))))) dg (JoE ns sp a0 d7 (ac (.int k)) (ac (.int a)) (ac (.int b)) (ac (.int st)) (ac (.int w)) x9 a3)) Q:=by
    intro Q d7 x9 a3 st w s7 I;simp_arith[sEx,aR,bx,aU,JoE,eq_int,bT,uQ];split
    .rw[a1]
     refine h_ s7 1.10 1.10 1.10 λr8 d8 p8 q8 s8=>?_;obtain⟨j,V,_,b2⟩:=pW (f:=jD) (l:=a0) p8 (by rw[a1];exact q8);have hg:gIx (D.lst Mk.brw (YK jD a0)) (D.int r8)=ac (jD j):=b2;simp_arith[sEx,aR,bx,aU,jJ,uQ,oN,hg,Ww,V_,a7];have hz:=I j d8 (a2 j V) (s8.le 1.10);simpa[JoE]using hz
    .rw[a5]
     exact I j1 d7 a9 (s7.le 1.10)
   refine a_ (λρ=>∃(j2:Jt)(d':D),(j2.1∈ns/\j2.2.1∈ns)/\Sd (n+30+8*k+6) d'/\ρ=JoE ns sp (js++[j2]) d' (ac (.int k)) (ac (.int a)) (ac (.int b)) (ac (.int st)) (ac (.int w)) x9 a3) (λQ I=>b4 s7 λj2 d' h1 h2=>I _ ⟨j2,d',h1,h2,rfl⟩) ?_;clear b4 a7 a2 a1 a5 a0;rintro _ ⟨j2,d8,b7,s8,rfl⟩;obtain⟨a0,a5⟩:∃a0,a0=js++[j2]:=⟨_,rfl⟩;have a1:a0.length=k+1:=by rw[a5];simp[a8]
   have a2:∀j∈a0,j.1∈ns/\j.2.1∈ns:=λj V=>by
    rw[a5]at V;exact(Yl.mp V).elim (a6 j) λz=>by rw[Yz.mp z];exact b7
   have a7:∀q:Jt,dH (.lst .own (a0.map jD)) [.int (-1),jD q]=ac (.lst .own ((js++[q]).map jD),.non):=λq=>by
    have b1:ixN (a0.map jD).length (-1)=ac js.length:=by
     unfold ixN;rw[Yt,a1];simp;omega
    simp![dH,b1,Y9];rw[a5,Dh]
   rw[←a5];simp_arith[sEx,aR,bx,aU,JoE,eq_int,bT,uQ];split
   .rw[a1]
    refine h_ s8 1.10 1.10 1.10 λr8 d9 p8 q8 s9=>?_;obtain⟨j,V,_,b2⟩:=pW (f:=jD) (l:=a0) p8 (by rw[a1];exact q8);have hg:gIx (D.lst Mk.brw (YK jD a0)) (D.int r8)=ac (jD j):=b2;have b0:=a7 (j.2.1,j.1,-j.2.2);have b8:jD j= .tup [.str j.1,.str j.2.1,.int j.2.2]:=rfl;have b3:jD (j.2.1,j.1,-j.2.2)= .tup [.str j.2.1,.str j.1,.int (-j.2.2)]:=rfl;rw[b3]at b0;simp_arith[sEx,aR,bx,aU,jJ,uQ,oN,hg,b8,bH,b0];exact⟨js++[(j.2.1,j.1,-j.2.2)],d9,_,_,_,_,_,_,_,by rw[JoE,Zt];rfl,λq hq=>(Yl.mp hq).elim (a6 q) λz=>by rw[Yz.mp z];exact⟨(a2 j V).2,(a2 j V).1⟩,by simp[a8],s9.le (by push_cast;omega)⟩
   .exact⟨a0,d8,_,_,_,_,_,_,_,rfl,a2,a1,s8.le (by push_cast;omega)⟩
  .rintro ρ h
   rw[Ax]at h;exact I _ ⟨_,by omega,h⟩
 rintro _ ⟨k,O,js,d6,x4,x5,x6,x7,x8,x9,a3,rfl,a6,a8,s6⟩;simp_arith[sEx,aR,bx,aU,JoE];exact⟨js,d6,rfl,a6,by omega,s6.le 1.10⟩
def Tw(n:Int)(m:Mk)(ns:List Str)(q:D×List D):Prop:=∃(a b:Str)(d':D),q=(.tup [.str a,.str b],[d',.lst m (ns.map D.str)])/\a∈ns++[("lone":Str)]/\b∈ns++[("lone":Str)]/\Sd (n+3) d'
theorem Xw(hd:Sd n d)(hn:n<900000)(Z:ns.length<=1000):Wp (e_ [d,.lst .frz (ns.map D.str)]) (Tw n .frz ns):=by
 have e5:YK D.str ns++[D.str "lone"]=(ns++[("lone":Str)]).map D.str:=by simp
 have B:∀m:Mk,view ae (.lst m (ns.map D.str))= .lst (mkV ae m) (ns.map D.str):=λm=>by simp[view,dX]
 simp_arith![e_,fnI];generalize a0:ns++[("lone":Str)]=ns2 at e5;have a2:ns2.length=ns.length+1:=by rw[←a0];simp
 refine a_ (λρ=>ρ=[ac d,ac (.lst .frz (ns.map D.str)),ac (.lst .own (ns2.map D.str)),af,af]) 1.19 ?_
 .simp_arith[sEx,aR,bx,aU,bY,fQ,dX]
  rw[e5];refine⟨?_,⟨dq _,bQ _⟩,I _ rfl⟩;omega
 rintro _ rfl;refine a_ (λρ=>∃(a:Str)(d':D),a∈ns2/\Sd (n+1) d'/\ρ=[ac d',ac (.lst .frz (ns.map D.str)),ac (.lst .own (ns2.map D.str)),ac (.str a),af]) 1.19 ?_
 .simp_arith[sEx,aR,bx,aU,bT,dX]
  refine h_ hd 1.10 1.10 1.10 λz d8 p8 O q=>?_;obtain⟨a,Y,_,a1⟩:=pW (f:=D.str) (l:=ns2) p8 O;have F:gIx (D.lst Mk.brw (YK D.str ns2)) (D.int z)=ac (D.str a):=a1;simp_arith[sEx,aR,bx,aU,F,bQ];exact I _ ⟨a,d8,Y,q,rfl⟩
 rintro _ ⟨a,d8,Y,q,rfl⟩;refine a_ (λρ=>∃(b:Str)(d':D),b∈ns2/\Sd (n+2) d'/\ρ=[ac d',ac (.lst .frz (ns.map D.str)),ac (.lst .own (ns2.map D.str)),ac (.str a),ac (.str b)]) 1.19 ?_
 .simp_arith[sEx,aR,bx,aU,bT,dX]
  refine h_ q 1.10 1.10 1.10 λz d8 p8 O q=>?_;obtain⟨a,Y,_,a1⟩:=pW (f:=D.str) (l:=ns2) p8 O;have F:gIx (D.lst Mk.brw (YK D.str ns2)) (D.int z)=ac (D.str a):=a1;simp_arith[sEx,aR,bx,aU,F,bQ];exact I _ ⟨a,d8,Y,q.le 1.10,rfl⟩
 rintro _ ⟨b,d9,U,s9,rfl⟩;simp_arith[sEx,aR,bx,aU,bY];refine h_ s9 1.10 1.10 1.10 λz d8 p8 O q=>?_;simp_arith[sEx,aR,bx,aU,eq_int,rE];rw[←a0]at Y U;by_cases V:z=0
 .simp_arith[V,gIx,atI,ixN,sEx,aR,bx,aU,bH]
  exact⟨a,a,d8,rfl,Y,Y,q.le 1.10⟩
 .simp_arith[V,gIx,atI,ixN,sEx,aR,bx,aU,bH]
  exact⟨a,b,d8,rfl,Y,U,q.le 1.10⟩
variable{f:En->Option (List D)}
theorem X3{j:Int}(h:f ρ=ac [.int j])(h1: -(2 ^ 62)<=j)(h2:j<2 ^ 62):ug f ρ=ac (ag,jk 0 j.toNat):=by
 unfold ug;rw[h,gD];exact YH ⟨h1,h2⟩
theorem MF{n:Nat}(h:f ρ=ac [.int n])(hn:n<=1000):ug f ρ=ac (ag,jk 0 n):=by
 have h1:(n:Int)<=1000:=by omega
 have:=X3 h (Int.le_trans (by decide) (Int.natCast_nonneg n)) (Int.lt_of_le_of_lt h1 (by decide));rwa[aad]at this
theorem ne_str:gNe (.str a) (.str b)=ac (.bl (!decide (a=b))):=by
 unfold gNe;rw[YH ⟨rfl,rfl,.sc (.str a b)⟩];simp![dt,eqD,abe,D.bl.injEq];rw[aap];simp
theorem ne_int{i j:Int}:gNe (.int i) (.int j)=ac (.bl (!decide (i=j))):=by
 unfold gNe;rw[YH ⟨rfl,rfl,.sc (.int i j)⟩];simp[dt,eqD]
 try rfl
theorem xQ:∀l:List Str,jr (l.map D.str)=ac (l.map YM)
 |[]=>rfl
 |x::r=>by simp[jr,cQ,xQ r]
def dS(l:List Str):Nat:=(m8 (l.map YM)).length
structure SS(S:D)(ss:List Str):Prop where
 f:fz S=S
 v:∀b,view b S=S
 b:az S=ag
 o:au S=ag
 l:bT [S]=ac (.int ss.length)
 s:dw S=ac (ag,ss.map D.str)
 t:cR [S,.tup [.ty "list",.ty "tuple"]]=ac (.bl ag)
theorem SS.lst(ns:List Str):SS (.lst .frz (ns.map D.str)) ns:=⟨by simp[fz,jm,mkF],λb=>by cases b<;>simp[view,dX,mkV],by simp[az,dq],by simp[au,bQ],by simp[bT],by simp[dw,clean,az,au,dq,bQ,il],rfl⟩
theorem SS.tup(ns:List Str):SS (.tup (ns.map D.str)) ns:=⟨by simp[fz,jm],λb=>by simp[view,dX],by simp[az,dq],by simp[au,bQ],by simp[bT],by simp[dw,clean,az,au,dq,bQ,il],rfl⟩
def sgB(x:Str):Bool:=x.cps.toList.all λc=>xM ⟨#[c]⟩ "abcdefghijklmnopqrstuvwxyz"
def nmB(x:Str):Bool:=decide (1<=x.length)&&decide (x.length<=8)&&sgB x
theorem lw(f:α->Bool):∀ds:List α,FN (ds.map λd=>.bl (f d))=ac (ds.map f)
 |[]=>rfl
 |d::r=>by simp[FN,lw f r]
theorem Xz(h:ρ[i]? =ac (ac (.str x)))(Z:x.length<=1000):∃l,bU [af] (sY (ao ae i)) (tpN 0) eTT (e2 gIn (ao ae 0) (eC (.str "abcdefghijklmnopqrstuvwxyz"))) ρ=ac (.lst .own l)/\kY [.lst .own l]=ac (.bl (sgB x)):=by
 have O:sY (ao ae i) ρ=ac (ag,x.cps.toList.map λc=>.str ⟨#[c]⟩):=by simp[sY,ao,h,view]
 have q:f9 (tpN 0) eTT (e2 gIn (ao ae 0) (eC (.str "abcdefghijklmnopqrstuvwxyz"))) (dI [af] ρ) (x.cps.toList.map λc=>.str ⟨#[c]⟩)=ac (((x.cps.toList.map λc=>D.str ⟨#[c]⟩).filter λ_=>ag).map λd=>match d with|.str y=>.bl (xM y "abcdefghijklmnopqrstuvwxyz")|_=>.non):=by
  refine fO λd hd=>?_;obtain⟨c,_,rfl⟩:=Yr.mp hd;simp[dI,tpN,aF,eTT,e2,ao,eC,view,gIn,uY,clean,az,au]
 have B:(x.cps.toList.map λc=>D.str ⟨#[c]⟩).length<=1000000:=by
  rw[Yt];have:x.cps.toList.length=x.length:=by simp[Str.length]
  omega
 have V:=lw (λc=>xM ⟨#[c]⟩ "abcdefghijklmnopqrstuvwxyz") x.cps.toList;refine⟨x.cps.toList.map λc=>.bl (xM ⟨#[c]⟩ "abcdefghijklmnopqrstuvwxyz"),?_,?_⟩
 .simp![bU,O,gD]
  rw[YH B,q,filter_tt,Yw];rfl
 .simp![kY,V,Y9,sgB,abH,aat,id]
  rfl
theorem KN(Z:x.length<=1000):bT [.str x]=ac (.int x.length):=by
 have:x.length<=Yx:=ZJ Z (by decide);simp[bT,this]
theorem XS:cR [.str x,.ty "str"]=ac (.bl ag):=rfl
theorem Ko(Z:x.length<=1000):cJ [.str x]=ac (.bl (nmB x)):=by
 have W:Wp (cJ [.str x]) λd=>d= .bl (nmB x):=by
  simp_arith![cJ,fnP];refine a_ (λρ=>ρ=[ac (.str x)]) 1.19 ?_
  .simp_arith[sEx,aR,bx,aU,XS,truth]
   exact I _ rfl
  rintro _ rfl;by_cases h1:x.length<1
  .have h2:(x.length:Int)<1:=by omega
   simp_arith[sEx,aR,bx,aU,KN Z,gLt,gGt,h2,nmB];omega
  .by_cases h3:8<x.length
   .have h2:¬(x.length:Int)<1:=by omega
    have F:(8:Int)<x.length:=by omega
    simp_arith[sEx,aR,bx,aU,KN Z,gLt,gGt,h2,F,nmB];omega
   .have h2:¬(x.length:Int)<1:=by omega
    have F:¬(8:Int)<x.length:=by omega
    obtain⟨l,U,q⟩:=Xz (ρ:=[ac (.str x)]) (i:=0) rfl Z;generalize bU [af] (sY (ao ae 0)) (tpN 0) eTT (e2 gIn (ao ae 0) (eC (.str "abcdefghijklmnopqrstuvwxyz")))=E at U⊢;simp_arith[sEx,aR,bx,aU,KN Z,gLt,gGt,h2,F,U,q,nmB];simp[show 1<=x.length by omega,show x.length<=8 by omega]
 obtain⟨_,e,rfl⟩:=W;exact e
theorem O3{S:D}{q:List Str}(U:SS S q)(Z:q.length<=1000)(F:∀x∈q,x.length<=1000):bJ [S]=ac (.bl (q.all nmB)):=by
 have I:∀x∈q,aM cJ [.str x]=ac (.bl (nmB x)):=λx h=>call_of (by simpa[fzL,fz]using Ko (F x h)) rfl;have B:f9 (tpN 0) eTT (eAp (aM cJ) 1.25) (dI [af] [ac S]) (q.map D.str)=ac (((q.map D.str).filter λ_=>ag).map λd=>match d with|.str y=>.bl (nmB y)|_=>.non):=by
  refine fO λd hd=>?_;obtain⟨x,h,rfl⟩:=Yr.mp hd;simp[dI,tpN,aF,eTT,eAp,aj,aA,ao,view,I x h,clean,az,au]
 have V:=lw nmB q;have Y:bU [af] (itS (ao ae 0)) (tpN 0) eTT (eAp (aM cJ) 1.25) [ac S]=ac (.lst .own (q.map λx=>.bl (nmB x))):=by
  simp![bU,itS,ao,YL,U.v,U.s,gD,Yt];rw[YH 1.10,B,filter_tt,Yw];rfl
 have O:kY [.lst .own (q.map λx=>.bl (nmB x))]=ac (.bl (q.all nmB)):=by simp[kY,V,abH]
 have z:aM bK [S]=ac (.bl ag):=call_of (by
  simp![fzL,U.f];simp[bK,fnP,en0,cI,eAp,aj,aA,ao,eC,U.v,bH,U.t,aB,aC,az,au,clean]) rfl
 have W:Wp (bJ [S]) λd=>d= .bl (q.all nmB):=by
  simp_arith[bJ,sEx,aR,bx,aU,-bU,-aM,U.v,z,truth,Y,O]
 obtain⟨_,e,rfl⟩:=W;exact e
theorem Eo:∀(l acc:List Key),(l.foldl jK acc).length<=acc.length+l.length/\((l.foldl jK acc).length=acc.length+l.length↔(∀x∈l,x∉acc)/\l.Nodup)
 |[],acc=>by simp
 |k::r,acc=>by
  rw[aby];by_cases h:k∈acc
  .have e:jK acc k=acc:=by unfold jK;rw[YH (jU.mpr h)]
   have:=Eo r acc;rw[e,Yy];refine⟨by omega,⟨λz=>by omega,λz=>absurd h (z.1 k (by simp))⟩⟩
  .have e:jK acc k=acc++[k]:=by unfold jK;rw[Y4 λz=>h (jU.mp z)]
   have:=Eo r (acc++[k]);rw[Zd,acI]at this;rw[e,Yy];refine⟨by omega,?_⟩;rw[show acc.length+(r.length+1)=acc.length+1+r.length by omega,this.2,Y5];constructor
   .rintro⟨h1,h2⟩
    exact⟨λx F=>(Yu.mp F).elim (λz=>z▸h) λz y=>h1 x z (Yv _ y),λz=>h1 k z (by simp),h2⟩
   .rintro⟨h1,h2,h3⟩
    refine⟨λx F y=>(Yl.mp y).elim (h1 x (Y8 _ F)) λz=>?_,h3⟩;rw[Yz.mp z]at F;exact h2 F
theorem Xe:dS l=l.length↔l.Nodup:=by
 have:=(Eo (l.map YM) []).2;simp![YX,aaS,Yt,abQ,not_false_eq_true,implies_true,true_and]at this;unfold dS m8;rw[this];simp[List.Nodup,ae_]
def ed(js:List Jt)(p:Pt):Option (Str×Str):=if 0<=p.1 then(js[p.1.toNat]?).map λj=>if p.2=1 then(j.1,j.2.1)else(j.2.1,j.1)else af
def go(js:List Jt):Str->List Pt->Option Str
 |x,[]=>ac x
 |x,p::r=>match ed js p with
  |some (b,e)=>if b=x then go js e r else af
  |none=>af
def st(js:List Jt)(b:Str):List Str->Str->List Pt->Bool
 |_,x,[]=>decide (x=b)
 |met,x,p::r=>match ed js p with
  |some (u,v)=>if u=x/\v∉met then st js b (met++[v]) v r else ae
  |none=>ae
def mt(js:List Jt)(ps:List Pt):List Str:=ps.map λp=>((ed js p).map (·.2)).getD ""
theorem Hx:∀{ps:List Pt}{met:List Str}{x:Str},met.Nodup->(st js b met x ps=ag↔go js x ps=ac b/\(met++mt js ps).Nodup)
 |[],met,x,h=>by simp[st,go,mt,h]
 |p::r,met,x,h=>by
  rw[st,go];cases O:ed js p with
  |none=>simp
  |some q=>
   obtain⟨u,v⟩:=q;have V:mt js (p::r)=v::mt js r:=by simp[mt,O]
   simp![];by_cases hu:u=x
   .by_cases hv:v∈met
    .have:¬(met++v::mt js r).Nodup:=λz=>(List.nodup_append.mp z).2.2 v hv v (by simp) rfl
     rw[Y4 (λz=>z.2 hv),V];simp[this]
    .rw[YH ⟨hu,hv⟩,YH hu,Hx (Zz.mpr ⟨h,by simp,λa Y b U=>by rw[Yz.mp U];exact λe=>hv (e▸Y)⟩),V,aaW]
     rfl
   .rw[Y4 (λz=>hu z.1),Y4 hu]
    simp
def Sd1(p:Pt):Prop:=p.2=1∨p.2= -1
variable{p:Pt}
theorem yr(B:0<=p.1)(h1:p.1<js.length):∃j,js[p.1.toNat]? =ac j/\ed js p=ac (if p.2=1 then(j.1,j.2.1)else(j.2.1,j.1)):=by
 have h2:p.1.toNat<js.length:=by omega
 exact⟨js[p.1.toNat],Yo h2,by rw[ed,YH B,Yo h2];rfl⟩
theorem HR(h:¬(0<=p.1/\p.1<js.length)):ed js p=af:=by
 unfold ed;split
 .rw[ZD 1.10];rfl
 .rfl
theorem jix(q:JJ J js)(B:0<=p.1)(h1:p.1<js.length)(V:js[p.1.toNat]? =ac j):gIx J (.int p.1)=ac (jD j):=by
 obtain⟨x,_,h2,Y⟩:=pW (f:=jD) (l:=js) B h1;rw[V]at h2;cases h2;rw[q.x,Y]
theorem M3{s:Int}:aM b8 [jD j,.int s]=ac (.tup [.str (if s=1 then(j.1,j.2.1)else(j.2.1,j.1)).1,.str (if s=1 then(j.1,j.2.1)else(j.2.1,j.1)).2]):=by
 refine call_of ?_ rfl;have W:Wp (b8 (fzL [jD j,.int s])) λd=>d= .tup [.str (if s=1 then(j.1,j.2.1)else(j.2.1,j.1)).1,.str (if s=1 then(j.1,j.2.1)else(j.2.1,j.1)).2]:=by
  by_cases h:s=1
  .simp_arith[b8,sEx,aR,bx,aU,jD,eq_int,h,bH]
  .simp_arith[b8,sEx,aR,bx,aU,jD,eq_int,h,bH]
 obtain⟨_,e,rfl⟩:=W;exact e
def goD:Option Str->D
 |some y=>.str y
 |none=>.non
def LeI(J:D)(js:List Jt)(x:Str)(ps:List Pt)(k:Nat)(ρ:En):Prop:=∃(h:Str)(F V z Y:Option D),ρ=[ac J,ac (.str x),ac (pT ps),ac (.str h),F,V,z,Y]/\go js h (ps.drop k)=go js x ps
theorem Xn(q:JJ J js):gH [J,.str x,pT ps]=ac (goD (go js x ps)):=by
 have W:Wp (gH [J,.str x,pT ps]) λd=>d=goD (go js x ps):=by
  have V:=jH ps;simp_arith![gH,fnP];refine a_ (LeI J js x ps 0) 1.19 ?_
  .simp[bN,ao,view,tgN,clean,az,au,bV,aL,aF]
   exact I _ ⟨x,_,_,_,_,rfl,rfl⟩
  intro ρ0 h0;refine Sy (LeI J js x ps ps.length) (λd=>d=goD (go js x ps)) (λQ I hR=>?_) ?_ (λd B h=>⟨d,rfl,h⟩)
  .have e1':itS (ao ae 2) ρ0=ac (ag,ps.map ptD):=by
    obtain⟨h,x4,x5,z,Y,rfl,_⟩:=h0;simp![itS,ao,YJ,YL,V.2.2.1,gD];simp[pT,dw,clean,az,au,LQ,Lp,Lh]
   unfold gO;rw[e1'];simp![aL,aF];refine iQ (LeI J js x ps) h0 ?_ (λρ h=>I _ (by rwa[Yt]at h));rintro k d ρ O ⟨h,x4,x5,z,Y,rfl,F⟩;rw[List.getElem?_map]at O;cases Z:ps[k]? with
   |none=>rw[Z]at O;cases O
   |some p=>
    rw[Z]at O;cases O;have a2:k<ps.length:=(List.getElem?_eq_some_iff.mp Z).1;have a4:ps.drop k=p::ps.drop (k+1):=by
     rw[←ZS a2,(List.getElem?_eq_some_iff.mp Z).2]
    rw[a4,go]at F;simp![ptD,tgT,aO,tgN,cz,clean,az,au,aB,aC,aam,and_self,Y6,aL,aF,Ze,Zq,Yy,YX];by_cases U:0<=p.1/\p.1<js.length
    .obtain⟨j,hj1,hj2⟩:=yr U.1 U.2
     rw[hj2]at F;refine a_ (λρ=>ρ=[ac J,ac (.str x),ac (pT ps),ac (.str h),ac (.int p.1),ac (.int p.2),z,Y]) 1.19 ?_
     .simp[sIf,eOr,eB,e2,ao,eC,view,gLt,gGe,eAp,aj,aA,q.v,q.l,isB,aL,aF,bV,w_ite,dg,show ¬p.1<0 by omega,show ¬(js.length:Int)<=p.1 by omega]
      exact I _ rfl
     rintro _ rfl;have a3:=jix q U.1 U.2 hj1;have a1:=M3 (j:=j) (s:=p.2);generalize (if p.2=1 then(j.1,j.2.1)else(j.2.1,j.1))=uv at F a1;obtain⟨u,v⟩:=uv;refine a_ (λρ=>ρ=[ac J,ac (.str x),ac (pT ps),ac (.str h),ac (.int p.1),ac (.int p.2),ac (.str u),ac (.str v)]) 1.19 ?_
     .simp_arith[sEx,aR,bx,aU,-aM,q.v,a3,a1]
      exact I _ rfl
     rintro _ rfl;by_cases hu:u=h
     .simp![YH hu]at F
      simp_arith[sEx,aR,bx,aU,ne_str,hu];exact⟨v,_,_,_,_,rfl,F⟩
     .simp![Y4 hu]at F
      simp_arith[sEx,aR,bx,aU,ne_str,hu];exact hR _ _ (by rw[←F];rfl)
    .rw[HR U]at F
     by_cases a0:p.1<0
     .simp[xr,sIf,cI,eOr,eB,e2,ao,eC,view,gLt,gGe,eAp,aj,aA,q.v,q.l,isB,aL,aF,bV,w_ite,dg,a0,clean,az,au]
      exact hR _ _ (by rw[←F];rfl)
     .have h1':(js.length:Int)<=p.1:=by omega
      simp[xr,sIf,cI,eOr,eB,e2,ao,eC,view,gLt,gGe,eAp,aj,aA,q.v,q.l,isB,aL,aF,bV,w_ite,dg,a0,h1',clean,az,au];exact hR _ _ (by rw[←F];rfl)
  rintro _ ⟨h,x4,x5,z,Y,rfl,F⟩;rw[aai,go]at F;simp[gP,aF,←F,goD]
 obtain⟨_,e,rfl⟩:=W;exact e
theorem ne_ns:gNe .non (.str b)=ac (.bl ag):=by
 unfold gNe;rw[YH ⟨rfl,rfl,.sc (.ns b)⟩];rfl
theorem R5:∀{ps:List Pt}{x y:Str},go js x ps=ac y->∀p∈ps,0<=p.1/\p.1<js.length
 |[],_,_,_,p,hp=>by simp at hp
 |q::r,x,y,h,p,hp=>by
  rw[go]at h;by_cases U:0<=q.1/\q.1<js.length
  .obtain⟨j,_,h2⟩:=yr U.1 U.2
   generalize (if q.2=1 then(j.1,j.2.1)else(j.2.1,j.1))=uv at h2;obtain⟨u,v⟩:=uv;rw[h2]at h;simp![]at h;split at h
   .rcases Yu.mp hp with rfl|hp
    .exact U
    .exact R5 h p hp
   .cases h
  .rw[HR U]at h
   cases h
theorem Uc(ps:List Pt):dw (pT ps)=ac (ag,ps.map ptD):=by simp[pT,dw,clean,az,au,LQ,Lp,Lh]
theorem WM(q:JJ J js):aM gH [J,.str x,pT ps]=ac (goD (go js x ps)):=by
 have V:=jH ps;refine call_of ?_ (by cases go js x ps<;>rfl);simp![fzL,fz,q.f,V.2.2.2.1];exact Xn q
theorem Wd(q:JJ J js)(Z:ps.length<=1000)(h:∀p∈ps,0<=p.1/\p.1<js.length):aM dN [J,pT ps]=ac (.lst .own ((mt js ps).map D.str)):=by
 have V:=jH ps;refine call_of ?_ (by
  have:∀l:List Str,aP (l.map D.str)=ag:=by
   intro l
   induction l with
   |nil=>rfl
   |cons p r I=>rw[Ys,aP,I];rfl
  simp[bj,this])
 simp![fzL,q.f,V.2.2.2.1];have B:f9 (tpT 2 (aO (tpN 0) (aO (tpN 1) cz))) eTT (e2 gIx (eAp (aM b8) (aj (e2 gIx (ao ae 2) (ao ae 0)) (aj (ao ae 1) aA))) (eC (.int 1))) (dI [af,af,ac 0] [ac J,ac (pT ps)]) (ps.map ptD)=ac (((ps.map ptD).filter λ_=>ag).map λd=>match d with|.tup [.int i,.int s]=>.str (((ed js (i,s)).map (·.2)).getD "")|_=>.non):=by
  refine fO λd hd=>?_;obtain⟨p,a1,rfl⟩:=Yr.mp hd;have U:=h p a1;obtain⟨j,z,Y⟩:=yr U.1 U.2;have a2:=jix q U.1 U.2 z;have O:=M3 (j:=j) (s:=p.2);have a0:ed js (p.1,p.2)=ac (if p.2=1 then(j.1,j.2.1)else(j.2.1,j.1)):=Y;generalize (if p.2=1 then(j.1,j.2.1)else(j.2.1,j.1))=uv at a0 O;have F:∀u v:Str,gIx (.tup [.str u,.str v]) (.int 1)=ac (.str v):=λu v=>rfl;simp[dI,ptD,tpT,aO,tpN,cz,aF,aL,w_ite,eTT,e2,ao,eC,eAp,aj,aA,view,q.v,a2,O,a0,F,clean,az,au,aB,aC]
 have W:Wp (dN [J,pT ps]) λd=>d= .lst .own ((mt js ps).map D.str):=by
  have e8:bU [af,af,ac 0] (itS (ao ae 1)) (tpT 2 (aO (tpN 0) (aO (tpN 1) cz))) eTT (e2 gIx (eAp (aM b8) (aj (e2 gIx (ao ae 2) (ao ae 0)) (aj (ao ae 1) aA))) (eC (.int 1))) [ac J,ac (pT ps)]=ac (.lst .own ((mt js ps).map D.str)):=by
   simp![bU,itS,ao,YJ,YL,V.2.2.1,Uc,gD,Yt];rw[YH 1.10,B,filter_tt,Yw,mt,Yw];rfl
  simp_arith![dN,fnP];generalize bU [af,af,ac 0] (itS (ao ae 1)) (tpT 2 (aO (tpN 0) (aO (tpN 1) cz))) eTT (e2 gIx (eAp (aM b8) (aj (e2 gIx (ao ae 2) (ao ae 0)) (aj (ao ae 1) aA))) (eC (.int 1)))=E at e8⊢;simp[cI,e8,aF,aL,bV,w_ite,clean,az,au,dq,bQ]
 obtain⟨_,e,rfl⟩:=W;exact e
variable{i:Int}
theorem XX:cR [.int i,.ty "int"]=ac (.bl ag)/\cR [.int i,.ty "bool"]=ac (.bl ae):=⟨rfl,rfl⟩
theorem XM{l:List D}:cR [.tup l,.ty "tuple"]=ac (.bl ag):=rfl
theorem Xc:aM cU [.int i]=ac (.bl ag):=by
 refine call_of ?_ rfl;have W:Wp (cU (fzL [.int i])) λd=>d= .bl ag:=by
  simp_arith[cU,sEx,aR,bx,aU,XX,Jr]
 obtain⟨_,e,rfl⟩:=W;exact e
theorem Ug(h:Sd1 p):aM cL [ptD p]=ac (.bl ag):=by
 refine call_of ?_ rfl;have B:aM dO [ptD p]=ac (.bl ag):=by
  refine call_of ?_ rfl;have W:Wp (dO (fzL [ptD p])) λd=>d= .bl ag:=by
   simp_arith[dO,sEx,aR,bx,aU,ptD,XM,bT,eq_int]
  obtain⟨_,e,rfl⟩:=W;exact e
 have q:gIn (.int p.2) (.tup [.int 1,.int (-1)])=ac (.bl ag):=by
  rcases h with h|h<;>rw[h]<;>rfl
 have F:fz (ptD p)=ptD p:=rfl;have O:view ae (ptD p)=ptD p:=rfl;have z:gIx (ptD p) (.int 0)=ac (.int p.1):=rfl;have V:gIx (ptD p) (.int 1)=ac (.int p.2):=rfl;have W:Wp (cL (fzL [ptD p])) λd=>d= .bl ag:=by
  simp_arith[cL,sEx,aR,bx,aU,-aM,F,O,B,z,V,Xc,bH,jJ,q]
 obtain⟨_,e,rfl⟩:=W;exact e
theorem Wo(Z:ps.length<=1000)(h:∀p∈ps,Sd1 p):aM fP [pT ps]=ac (.bl ag):=by
 have V:=jH ps;refine call_of ?_ rfl;simp![fzL,V.2.2.2.1];have B:f9 (tpN 0) eTT (eAp (aM cL) 1.25) (dI [af] [ac (pT ps)]) (ps.map ptD)=ac (((ps.map ptD).filter λ_=>ag).map λd=>.bl ag):=by
  refine fO λd hd=>?_;obtain⟨p,z,rfl⟩:=Yr.mp hd;have O:view ae (ptD p)=ptD p:=rfl;have I:az (ptD p)=ag/\au (ptD p)=ag:=⟨rfl,rfl⟩;simp[dI,tpN,aF,eTT,eAp,aj,aA,ao,O,I,Ug (h p z),clean]
 have W:Wp (fP [pT ps]) λd=>d= .bl ag:=by
  have Y:bU [af] (itS (ao ae 0)) (tpN 0) eTT (eAp (aM cL) 1.25) [ac (pT ps)]=ac (.lst .own (ps.map λ_=>.bl ag)):=by
   simp![bU,itS,ao,YJ,YL,V.2.2.1,Uc,gD,Yt];rw[YH 1.10,B,filter_tt,Yw];rfl
  have F:kY [.lst .own (ps.map λ_=>.bl ag)]=ac (.bl ag):=by
   have:=lw (λ_:Pt=>ag) ps;simp[kY,this,abH]
  have q:cR [pT ps,.ty "tuple"]=ac (.bl ag):=rfl;simp_arith![fP,fnP];generalize bU [af] (itS (ao ae 0)) (tpN 0) eTT (eAp (aM cL) 1.25)=E at Y⊢;simp_arith[sEx,aR,bx,aU,Y,F,V.2.2.1,q]
 obtain⟨_,e,rfl⟩:=W;exact e
theorem Vy(Z:l.length<=1000):aM du [.lst .own (l.map D.str)]=ac (.bl (decide l.Nodup)):=by
 refine call_of ?_ rfl;have Y:fz (.lst .own (l.map D.str))= .lst .frz (l.map D.str):=by simp[fz,jm,mkF]
 have O:j_ [.lst .frz (l.map D.str)]=ac (.int (dS l)):=by simp[j_,xQ,dS];omega
 have U:=SS.lst l;simp![fzL,Y];have W:Wp (du [.lst .frz (l.map D.str)]) λd=>d= .bl (decide l.Nodup):=by
  have:(decide ((dS l:Int)=(l.length:Int)))=decide l.Nodup:=by
   rw[aap,aaN,aaN,←Xe];omega
  generalize D.lst .frz (l.map D.str)=S at O U⊢;simp_arith[du,sEx,aR,bx,aU,U.v,O,U.l,eq_int,this]
 obtain⟨_,e,rfl⟩:=W;exact e
theorem Df(q:JJ J js)(Z:ps.length<=900)(h:∀p∈ps,Sd1 p):aM cA [J,.str a,.str b,pT ps]=ac (.bl (st js b [a] a ps)):=by
 have V:=jH ps;refine call_of ?_ rfl;simp![fzL,fz,q.f,V.2.2.2.1];have W:Wp (cA [J,.str a,.str b,pT ps]) λd=>d= .bl (st js b [a] a ps):=by
  have O:=Wo (ps:=ps) 1.10 h;have U:=WM (x:=a) (ps:=ps) q;have Y:=Hx (js:=js) (b:=b) (ps:=ps) (met:=[a]) (x:=a) (by simp);simp_arith![cA,fnP];by_cases F:go js a ps=ac b
  .have hm:=Wd q 1.10 (R5 F)
   refine a_ (λρ=>ρ=[ac J,ac (.str a),ac (.str b),ac (pT ps)]) 1.19 ?_
   .simp_arith[sEx,aR,bx,aU,-aM,q.v,V.2.2.1,O,truth,U,F,goD,ne_str]
    exact I _ rfl
   rintro _ rfl;have hu:=Vy (l:=a::mt js ps) (by simp[mt];omega);have B:st js b [a] a ps=decide (a::mt js ps).Nodup:=by
    rw[aap,Y,aaN];exact⟨λz=>z.2,λz=>⟨F,z⟩⟩
   rw[B];rw[Ys]at hu;simp![cI,eAp,aj,aA,e2,ao,YJ,YL,view,q.v,V.2.2.1,hm,gD,bY,fQ];simp[aF,aL,bV,w_ite,aB,aC,az,au,dq,bQ,hu,clean];intro z;simp[mt]at z;omega
  .have B:st js b [a] a ps=ae:=by
    rw[Bool.eq_false_iff];exact λz=>F (Y.mp z).1
   rw[B];cases a0:go js a ps with
   |none=>
    simp_arith[sEx,aR,bx,aU,-aM,q.v,V.2.2.1,O,truth,U,a0,goD,ne_ns]
   |some y=>
    have a1:¬y=b:=λz=>F (by rw[a0,z]);simp_arith[sEx,aR,bx,aU,-aM,q.v,V.2.2.1,O,truth,U,a0,goD,ne_str,a1]
 obtain⟨_,e,rfl⟩:=W;exact e
theorem HH(l:List Str):(fU l).Pairwise λa b=>a.cps.toList<=b.cps.toList:=by
 have h:∃B:List Str,Zu B l/\acW B=ag:=by
  refine⟨l.mergeSort λa b=>!ltCps b.cps.toList a.cps.toList,List.mergeSort_perm _ _,aeI _ ?_⟩;refine(List.pairwise_mergeSort (λa b c h1 h2=>?_) (λa b=>?_) l).imp λh=>by simpa using h
  .simp![ltCps_eq,afa,decide_eq_false_iff_not]at *
   exact List.le_trans (l₁:=a.cps.toList) h1 h2
  .simp![ltCps_eq,ab2,afa,decide_eq_false_iff_not]
   exact List.le_total a.cps.toList b.cps.toList
 rw[fU,dif_pos h];exact lg h.choose_spec.2
theorem qm(h:l.Pairwise λa b=>a.cps.toList<=b.cps.toList):acW l=ag:=aeI _ (h.imp λz=>by rw[ltCps_eq];simpa using z)
theorem CJ{m:List Str}{p:Str->Bool}(h:Zu (l.filter p) m):(fU l).filter p=fU m:=
 pL (((gq l).filter p).trans h) (qm ((HH l).sublist List.filter_sublist))
structure LL(P:D)(L:List (List Str)):Prop where
 f:fz P=P
 v:∀b,view b P=P
 l:bT [P]=ac (.int L.length)
 s:∃ds,dw P=ac (ag,ds)/\ds.length=L.length/\∀(i:Nat)(d:D),ds[i]? =ac d->∃l,L[i]? =ac l/\SS d l
 t:cR [P,.tup [.ty "list",.ty "tuple"]]=ac (.bl ag)
def lvL(m:Mk)(l:List Str):D:=.lst m (l.map D.str)
def lvT(l:List Str):D:=.tup (l.map D.str)
variable{L:List (List Str)}
theorem gB{g:List Str->D}(P:D->Prop)(h:∀l,P (g l)):∀d∈L.map g,P d:=λd hd=>by
 obtain⟨l,_,rfl⟩:=Yr.mp hd;exact h l
theorem LL.lst(L:List (List Str)):LL 1.17 L:=by
 have h1:fzL (L.map (lvL .frz))=L.map (lvL .frz):=by rw[fX,Yw];exact YT λl _=>(SS.lst l).f
 have h2:∀b,eE b (L.map (lvL .frz))=L.map (lvL .frz):=λb=>by rw[eF,Yw];exact YT λl _=>(SS.lst l).v b
 have Y:aB (L.map (lvL .frz))=ag:=cg (gB _ λl=>(SS.lst l).b);have F:aC (L.map (lvL .frz))=ag:=bL (gB _ λl=>(SS.lst l).o);have U:gM (L.map (lvL .frz))=L.map (lvL .frz):=by rw[fL,Yw];exact YT λl _=>by simp[lvL,fzo,il,mkO]
 exact⟨by simp[fz,h1,mkF],λb=>by cases b<;>simp[view,h2,mkV],by simp[bT],⟨L.map (lvL .frz),by simp[dw,clean,az,au,Y,F,U],by simp,λi d e=>by
  rw[List.getElem?_map]at e;cases h:L[i]? with
  |none=>rw[h]at e;cases e
  |some l=>rw[h]at e;cases e;exact⟨l,rfl,SS.lst l⟩⟩,rfl⟩
theorem LL.tup(L:List (List Str)):LL (.tup (L.map lvT)) L:=by
 have h1:fzL (L.map lvT)=L.map lvT:=by rw[fX,Yw];exact YT λl _=>(SS.tup l).f
 have h2:∀b,eE b (L.map lvT)=L.map lvT:=λb=>by rw[eF,Yw];exact YT λl _=>(SS.tup l).v b
 have Y:aB (L.map lvT)=ag:=cg (gB _ λl=>(SS.tup l).b);have F:aC (L.map lvT)=ag:=bL (gB _ λl=>(SS.tup l).o);have U:gM (L.map lvT)=L.map lvT:=by rw[fL,Yw];exact YT λl _=>by simp[lvT,fzo,il]
 exact⟨by simp[fz,h1],λb=>by simp[view,h2],by simp[bT],⟨L.map lvT,by simp[dw,clean,az,au,Y,F,U],by simp,λi d e=>by
  rw[List.getElem?_map]at e;cases h:L[i]? with
  |none=>rw[h]at e;cases e
  |some l=>rw[h]at e;cases e;exact⟨l,rfl,SS.tup l⟩⟩,rfl⟩
def fpD(m:Mk)(us:List (Str×Nat)):D:=.dct m ((us.map (·.1)).map YM) (us.map λu=>.int (u.2:Int))
theorem P0(us:List (Str×Nat)):az (fpD .own us)=ag/\au (fpD .own us)=ag/\view ae (fpD .own us)=fpD .brw us/\bj (fpD .own us)=ag:=by
 have h1:∀l:List (Str×Nat),aB (l.map λu=>D.int (u.2:Int))=ag/\aC (l.map λu=>D.int (u.2:Int))=ag/\eE ae (l.map λu=>D.int (u.2:Int))=(l.map λu=>D.int (u.2:Int))/\aP (l.map λu=>D.int (u.2:Int))=ag:=by
  intro l
  induction l with
  |nil=>exact⟨rfl,rfl,rfl,rfl⟩
  |cons a r I=>simp[aB,aC,eE,aP,az,au,view,bj,I]
 simp[fpD,az,au,view,bj,h1,mkV]
variable{us:List (Str×Nat)}
theorem RM(h:x∈us.map (·.1)):∃i n,cP ((us.map (·.1)).map YM) (YM x)=ac i/\us[i]? =ac (x,n):=by
 obtain⟨i,h1,h2,Y⟩:=jj h;rw[List.getElem?_map]at h2;cases hu:us[i]? with
 |none=>rw[hu]at h2;cases h2
 |some u=>
  have:u.1=x:=by simpa[hu]using h2
  subst this;exact⟨i,u.2,h1,hu⟩
theorem RK(h:x∉us.map (·.1)):cP ((us.map (·.1)).map YM) (YM x:Key)=af:=by
 unfold cP;rw[Zn];intro y V;obtain⟨z,hz,rfl⟩:=Yr.mp V;exact Zc λe=>h (by cases e;exact hz)
theorem Vo(Z:us.length<1000000):∃r,sO (fpD .own us) [.str x,.int k]=ac (fpD .own (if x∈us.map (·.1)then us else us++[(x,k)]),r):=by
 by_cases h:x∈us.map (·.1)
 .obtain⟨i,n,h1,h2⟩:=RM h
  refine⟨.int n,?_⟩;simp![sO,fpD,cQ,gD,Yt,Z,Y6,h1,List.getElem?_map,h2,Y9,YH h]
 .refine⟨.int k,?_⟩
  simp![sO,fpD,cQ,gD,Yt,Z,Y6,RK h,Y4 h,Zt,Ys,Y_]
def fi(L:List (List Str))(x:Str):Option Nat:=L.findIdx? λl=>decide (x∈l)
theorem QV:fi (L++[l]) x=(fi L x).or (if x∈l then ac L.length else af):=by
 unfold fi;rw[aey];congr 1;by_cases h:x∈l<;>simp[ac9,h]
def FpI(P:D)(L:List (List Str))(k:Nat)(ρ:En):Prop:=∃(us:List (Str×Nat))(q B F:Option D),ρ=[ac P,ac (fpD .own us),q,B,F]/\(us.map (·.1)).Nodup/\∀x n,(x,n)∈us↔fi (L.take k) x=ac n
def FpJ(P d:D)(L:List (List Str))(l:List Str)(k i:Nat)(ρ:En):Prop:=∃(us:List (Str×Nat))(F:Option D),ρ=[ac P,ac (fpD .own us),ac (.int k),ac d,F]/\(us.map (·.1)).Nodup/\∀x n,(x,n)∈us↔(fi (L.take k) x).or (if x∈l.take i then ac k else af)=ac n
variable{P:D}
theorem Oe(hP:LL P L)(hn:∀l∈L,∀x∈l,x∈ns)(b5:ns.length<=1000):∃us,bO [P]=ac (fpD .own us)/\(us.map (·.1)).Nodup/\∀x n,(x,n)∈us↔fi L x=ac n:=by
 have q:∀{L':List (List Str)},(∀l∈L',l∈L)->∀{x n},fi L' x=ac n->x∈ns:=λ{L'} a8 {x n} h=>by
  obtain⟨hl,O,_⟩:=Zg.mp h;exact hn _ (a8 _ (aaj hl)) x (by simpa using O)
 have W:Wp (bO [P]) λd=>∃us,d=fpD .own us/\(us.map (·.1)).Nodup/\∀x n,(x,n)∈us↔fi L x=ac n:=by
  simp_arith![bO,fnP];refine a_ (FpI P L 0) 1.19 ?_
  .simp[bN,eAp,aA,ue,tgN,clean,bV,aL,aF,w_ite,az,au,aB,aC]
   exact I _ ⟨[],_,_,_,rfl,by simp,by simp[fi]⟩
  rintro _ ⟨us,x2,x3,F,rfl,a0,B⟩;obtain⟨ds,hs,a7,a9⟩:=hP.s;refine a_ (FpI P L L.length) 1.19 ?_
  .have e1':itE 1.25 [ac P,ac (fpD .own us),x2,x3,F]=ac (ag,kh 0 ds):=by simp[itE,ao,aj,aA,hP.v,hs]
   unfold gO;rw[e1'];simp![aL,aF];refine iQ (FpI P L) ⟨us,_,_,_,rfl,a0,B⟩ ?_ (λρ h=>I _ (by rwa[jn,a7]at h));rintro k d ρ O ⟨us,x2,x3,F,rfl,a0,B⟩;rw[jq]at O;cases a5:ds[k]? with
   |none=>rw[a5]at O;cases O
   |some d0=>
    rw[a5]at O;have O:D.tup [.int ((0+k:Nat):Int),d0]=d:=by simpa using O
    subst O;obtain⟨l,a3,hS⟩:=a9 k d0 a5;have b0:=Y0 a3;simp![tgT,aO,cz,tgN,aB,aC,clean,az,au,hS.b,hS.o,aam,and_self,Y6,aL,aF,Ze,Zq,Yy,YX,aaS];have b1:itS (ao ae 3) [ac P,ac (fpD .own us),ac (.int k),ac d0,F]=ac (ag,l.map D.str):=by simp[itS,ao,hS.v,hS.s]
    unfold sFz iY;simp![YJ,YL,hS.f,gD,Ze,Zq];rw[b1];simp![aL,aF];refine iQ (FpJ P d0 L l k) ⟨us,_,rfl,a0,by simpa using B⟩ ?_ ?_
    .rintro i x ρ hi ⟨us,F,rfl,a0,B⟩
     rw[List.getElem?_map]at hi;cases a2:l[i]? with
     |none=>rw[a2]at hi;cases hi
     |some y=>
      rw[a2]at hi;cases hi;have b3:us.length<=ns.length:=by
       have:=j4 a0 (ns:=ns) λz hz=>by
        obtain⟨u,hu,rfl⟩:=Yr.mp hz;have h1:=(B u.1 u.2).mp hu;cases h2:fi (L.take k) u.1 with
        |some n=>exact q (λl h=>abj h) h2
        |none=>
         rw[h2,afC]at h1;split at h1
         .exact hn l b0 _ (abj ‹_›)
         .cases h1
       simpa using this
      obtain⟨r,Z⟩:=Vo (us:=us) (x:=y) (k:=k) 1.10;have b4:=P0 (if y∈us.map (·.1)then us else us++[(y,k)]);simp[iK,m6,eV,aj,aA,ao,view,upS,d_,cY,Z,tgN,clean,aB,aC,az,au,bV,aL,aF,w_ite];refine⟨_,_,rfl,?_,λx n=>?_⟩
      .split
       .exact a0
       .rw[Zt,Zz]
        exact⟨a0,by simp,λa Y b U=>by simp at U;rw[U];exact λe=>‹¬_› (e▸Y)⟩
      .have htk:l.take (i+1)=l.take i++[y]:=by rw[aaA,a2];rfl
       have a4:y∈us.map (·.1)↔(fi (L.take k) y).isSome=ag∨y∈l.take i:=by
        constructor
        .intro h
         obtain⟨u,hu,rfl⟩:=Yr.mp h;have h1:=(B u.1 u.2).mp hu;cases h2:fi (L.take k) u.1 with
         |some n=>exact .inl rfl
         |none=>
          rw[h2,afC]at h1;split at h1
          .exact .inr ‹_›
          .cases h1
        .rintro(h|h)
         .obtain⟨n,h2⟩:=aaq.mp h
          exact Yr.mpr ⟨_,(B y n).mpr (by rw[h2];rfl),rfl⟩
         .cases h2:fi (L.take k) y with
          |some n=>exact Yr.mpr ⟨_,(B y n).mpr (by rw[h2];rfl),rfl⟩
          |none=>exact Yr.mpr ⟨_,(B y k).mpr (by rw[h2,YH h];rfl),rfl⟩
       rw[htk];by_cases V:y∈us.map (·.1)
       .rw[YH V,B]
        by_cases a1:x=y
        .subst a1
         rcases a4.mp V with h|h
         .obtain⟨n',h2⟩:=aaq.mp h
          rw[h2];rfl
         .rw[YH h,YH (Yv _ h)]
        .simp[a1]
       .rw[Y4 V,Yl,B]
        have a6:fi (L.take k) y=af/\y∉l.take i:=by
         refine⟨?_,λz=>V (a4.mpr (.inr z))⟩;cases h2:fi (L.take k) y with
         |none=>rfl
         |some n=>exact absurd (a4.mpr (.inl (by rw[h2];rfl))) V
        by_cases a1:x=y
        .subst a1
         simp[a6.1,a6.2];exact eq_comm
        .simp[a1]
    .rintro ρ ⟨us,F,rfl,a0,B⟩
     rw[Yt,aaI]at B;refine⟨us,_,_,_,rfl,a0,λx n=>?_⟩;have b2:k<L.length:=(List.getElem?_eq_some_iff.mp a3).1;rw[aaA,a3,Option.toList_some,QV,aaa,acP 1.10];exact B x n
  rintro _ ⟨us,x2,x3,F,rfl,a0,B⟩;rw[aaI]at B;simp[gP,aF];exact⟨us,rfl,a0,B⟩
 obtain⟨_,e,us,rfl,h1,h2⟩:=W;exact⟨us,e,h1,h2⟩
def plv(L:List (List Str))(x:Str):Int:=((fi L x).getD L.length:Nat)
def qT(L:List (List Str))(j:Jt):Bool:=decide ((plv L j.1-plv L j.2.1).natAbs<=1)
def tX(js:List Jt)(a b:Str)(ps:List Pt)(L:List (List Str)):Bool:=st js b [a] a ps&&(decide (L.length=ps.length)&&L.all λl=>l.all nmB)&&(!(fi L b).isSome&&(decide (L.length=0)||decide (fi L a=ac 0)))&&js.all (qT L)
section
variable{us:List (Str×Nat)}{L:List (List Str)}(hu:(us.map (·.1)).Nodup)(hs:∀x n,(x,n)∈us↔fi L x=ac n)
theorem NZ{us:List (Str×Nat)}{L:List (List Str)}(hs:∀x n,(x,n)∈us↔fi L x=ac n){x:Str}:x∈us.map (·.1)↔(fi L x).isSome=ag:=by
 constructor
 .intro h
  obtain⟨u,h1,rfl⟩:=Yr.mp h;rw[(hs u.1 u.2).mp h1];rfl
 .intro h
  obtain⟨n,h1⟩:=aaq.mp h;exact Yr.mpr ⟨_,(hs x n).mpr h1,rfl⟩
theorem V3{us:List (Str×Nat)}{L:List (List Str)}(hs:∀x n,(x,n)∈us↔fi L x=ac n){m:Mk}{x:Str}:gIn (.str x) (fpD m us)=ac (.bl (fi L x).isSome):=by
 simp![gIn,uY,fpD,cQ,Y9,kI];congr 2;rw[aap,aaN];exact NZ hs
theorem Gn{us:List (Str×Nat)}{L:List (List Str)}(hs:∀x n,(x,n)∈us↔fi L x=ac n){m:Mk}(V:m≠.scr){x:Str}{d:Nat}:iW (fpD m us) [.str x,.int d]=ac (.int ((fi L x).getD d:Nat))/\∀n,fi L x=ac n->iW (fpD m us) [.str x]=ac (.int n):=by
 by_cases h:x∈us.map (·.1)
 .obtain⟨i,n,h1,h2⟩:=RM h
  have Y:=(hs x n).mp (Y0 h2);refine⟨?_,λB F=>?_⟩
  .simp![iW,fpD,cQ,gD,Y4 V,h1,List.getElem?_map,h2,Y9,Y,abP]
  .rw[Y]at F
   cases F;simp![iW,fpD,cQ,gD,Y4 V,h1,List.getElem?_map,h2,Y9]
 .have Y:fi L x=af:=by
   cases e:fi L x with
   |none=>rfl
   |some n=>exact absurd ((NZ hs).mpr (by rw[e];rfl)) h
  refine⟨?_,λB F=>by rw[Y]at F;cases F⟩;simp![iW,fpD,cQ,gD,Y4 V,RK h,Y,acC]
end
theorem KY(hs:∀x n,(x,n)∈us↔fi L x=ac n)(q:JJ J js)(Z:js.length<=1000)(B:ρ[0]? =ac (ac J))(U:ρ[5]? =ac (ac (.int L.length)))(I:ρ[6]? =ac (ac (fpD .own us))) :
  ∃l,bU [af,af,af,ac 5,ac 6] (itS (ao ae 0)) (tpT 3 (aO (tpN 0) (aO (tpN 1) (aO (tpN 2) cz)))) eTT 1.18 ρ=ac (.lst .own l)/\kY [.lst .own l]=ac (.bl (js.all (qT L))):=by
 have Y:f9 (tpT 3 (aO (tpN 0) (aO (tpN 1) (aO (tpN 2) cz)))) eTT 1.18 (dI [af,af,af,ac 5,ac 6] ρ) (js.map jD)=ac (((js.map jD).filter λ_=>ag).map λd=>match d with|.tup [.str x,.str y,_]=>.bl (qT L (x,y,0))|_=>.non):=by
  refine fO λd hd=>?_;obtain⟨j,V,rfl⟩:=Yr.mp hd;have F:=(Gn hs (m:=.brw) (by decide) (x:=j.1) (d:=L.length)).1;have z:=(Gn hs (m:=.brw) (by decide) (x:=j.2.1) (d:=L.length)).1;have O:=(P0 us).2.2.1;simp[dI,U,I,jD,tpT,aO,tpN,cz,aF,aL,w_ite,eTT,e2,eAp,aj,aA,eMt,eC,ao,view,O,F,z,jf,n_,gLe,clean,az,au,aB,aC];simp![qT,plv];congr 1;exact propext ⟨λh=>by split at h<;>omega,λh=>by split<;>omega⟩
 have e7:=lw (qT L) js;refine⟨js.map λj=>.bl (qT L j),?_,?_⟩
 .simp![bU,itS,ao,B,q.v,q.s,gD,Yt]
  rw[YH 1.10,Y,filter_tt,Yw];rfl
 .simp[kY,e7,abH]
theorem IK(B:LL P L)(Z:L.length<=1000)(hx:∀l∈L,l.length<=1000/\∀x∈l,x.length<=1000)(h4:ρ[4]? =ac (ac P)) :
  ∃l,bU [af] (itS (ao ae 4)) (tpN 0) eTT (eAp (aM bJ) 1.25) ρ=ac (.lst .own l)/\kY [.lst .own l]=ac (.bl (L.all λl=>l.all nmB)):=by
 obtain⟨ds,hs,Y,O⟩:=B.s;have q:∀(ds:List D)(L:List (List Str)),ds.length=L.length->(∀(i:Nat)(d:D),ds[i]? =ac d->∃l,L[i]? =ac l/\SS d l)->(∀l∈L,l.length<=1000/\∀x∈l,x.length<=1000)->f9 (tpN 0) eTT (eAp (aM bJ) 1.25) (dI [af] ρ) ds=ac (L.map λl=>.bl (l.all nmB)):=by
  intro ds
  induction ds with
  |nil=>intro L h _ _;cases L with
   |nil=>rfl
   |cons _ _=>simp at h
  |cons d r I=>
   intro L h h1 h2;cases L with
   |nil=>simp at h
   |cons l t=>
    obtain⟨l',e,U⟩:=h1 0 d rfl;have e:l=l':=by simpa using e
    subst e;obtain⟨g1,z⟩:=h2 l (by simp);have hn:=call_of (F:=bJ) (ds:=[d]) (by simp![fzL,U.f];exact O3 U g1 z) rfl;have a0:=I t (by simpa using h) (λi d e=>by simpa using h1 (i+1) d (by simpa using e)) λl Z=>h2 l (by simp[Z]);generalize aM bJ=GN at hn a0⊢;simp[f9,dI,tpN,eTT,eAp,aj,aA,ao,U.v,hn,clean,U.b,U.o,az,au]at a0⊢;simp[a0]
 have V:=lw (λl:List Str=>l.all nmB) L;refine⟨L.map λl=>.bl (l.all nmB),?_,?_⟩
 .simp![bU,itS,ao,h4,B.v,hs,gD]
  rw[YH 1.10,q ds L Y O hx];rfl
 .simp[kY,V,abH]
theorem BZ(q:JJ J js)(B:LL P L)(Z:L.length<=1000)(F:∀l∈L,l.length<=1000/\∀x∈l,x.length<=1000)(hn:∀l∈L,∀x∈l,x∈ns)(a8:ns.length<=1000)(a7:js.length<=1000)(a6:ps.length<=900)(a5:∀p∈ps,Sd1 p)(a4:(fi L b).isSome=ag∨L=[]∨(fi L a).isSome=ag) :
  bh [J,.str a,.str b,pT ps,P]=ac (.bl (tX js a b ps L)):=by
 have V:=jH ps;have O:=Df (a:=a) (b:=b) q a6 a5;obtain⟨us,q1,q2,q3⟩:=Oe B hn a8;have a3:aM bO [P]=ac (fpD .own us):=call_of (by simpa[fzL,B.f]using q1) (P0 us).2.2.2;have a1:aM bK [P]=ac (.bl ag):=call_of (by
  simp![fzL,B.f];simp[bK,fnP,en0,cI,eAp,aj,aA,ao,eC,B.v,bH,B.t,aB,aC,az,au,clean]) rfl
 have a2:bT [pT ps]=ac (.int ps.length):=by simp[pT,bT]
 have a0:=P0 us;have W:Wp (bh [J,.str a,.str b,pT ps,P]) λd=>d= .bl (tX js a b ps L):=by
  simp_arith![bh,fnP];generalize aM cA=GW at O⊢;generalize aM bO=GF at a3⊢;generalize aM bK=GL at a1⊢;cases h1:st js b [a] a ps with
  |false=>
   rw[h1]at O;simp_arith[sEx,aR,bx,aU,q.v,V.2.2.1,O,truth,tX,h1]
  |true=>
   rw[h1]at O;refine a_ (λρ=>ρ=[ac J,ac (.str a),ac (.str b),ac (pT ps),ac P,af,af]) 1.19 ?_
   .simp_arith[sEx,aR,bx,aU,q.v,V.2.2.1,O,truth]
    exact I _ rfl
   rintro _ rfl;obtain⟨l,o1,o2⟩:=IK B Z F (ρ:=[ac J,ac (.str a),ac (.str b),ac (pT ps),ac P,af,af]) rfl;generalize bU [af] (itS (ao ae 4)) (tpN 0) eTT (eAp (aM bJ) 1.25)=E at o1⊢;by_cases h2:L.length=ps.length
   .have h2':(L.length:Int)=ps.length:=by omega
    cases Y:L.all λl=>l.all nmB with
    |false=>
     rw[Y]at o2;simp_arith[sEx,aR,bx,aU,B.v,a1,B.l,V.2.2.1,a2,ne_int,h2',o1,o2,truth,tX,Y]
    |true=>
     rw[Y]at o2;refine a_ (λρ=>ρ=[ac J,ac (.str a),ac (.str b),ac (pT ps),ac P,af,af]) 1.19 ?_
     .simp_arith[sEx,aR,bx,aU,B.v,a1,B.l,V.2.2.1,a2,ne_int,h2',o1,o2,truth]
      exact I _ rfl
     rintro _ rfl;refine a_ (λρ=>ρ=[ac J,ac (.str a),ac (.str b),ac (pT ps),ac P,ac (.int L.length),af]) 1.19 ?_
     .simp_arith[sEx,aR,bx,aU,B.v,B.l]
      exact I _ rfl
     rintro _ rfl;refine a_ (λρ=>ρ=[ac J,ac (.str a),ac (.str b),ac (pT ps),ac P,ac (.int L.length),ac (fpD .own us)]) 1.19 ?_
     .simp_arith[sEx,aR,bx,aU,B.v,a3,a0]
      exact I _ rfl
     rintro _ rfl;obtain⟨l2,o3,o4⟩:=KY q3 q a7 (ρ:=[ac J,ac (.str a),ac (.str b),ac (pT ps),ac P,ac (.int L.length),ac (fpD .own us)]) rfl rfl rfl;generalize bU [af,af,af,ac 5,ac 6] (itS (ao ae 0)) (tpT 3 (aO (tpN 0) (aO (tpN 1) (aO (tpN 2) cz)))) eTT 1.18=E2 at o3⊢;have gb:=V3 q3 (m:=.brw) (x:=b);cases h4:(fi L b).isSome with
     |true=>
      rw[h4]at gb;simp_arith[sEx,aR,bx,aU,a0,gb,truth,tX,h4]
     |false=>
      rw[h4]at gb;have a9:tX js a b ps L=((decide (L.length=0)||decide (fi L a=ac 0))&&js.all (qT L)):=by
       simp![tX,h1,Y,h4,aaL h2];simp
      rw[a9];by_cases U:L.length=0
      .have h5':¬(0:Int)<L.length:=by omega
       generalize (L.length:Int)=Li at h5' o3⊢;simp_arith[sEx,aR,bx,aU,a0,gb,gGt,h5',o3,o4];intro _;exact .inl (aaY.mp U)
      .have h5':(0:Int)<L.length:=by omega
       have h6:(fi L a).isSome=ag:=by
        rcases a4 with z|z|z
        .rw[h4]at z;cases z
        .rw[z]at U;exact absurd rfl U
        .exact z
       obtain⟨n,h7⟩:=aaq.mp h6;have ga:=(Gn q3 (m:=.brw) (by decide) (x:=a) (d:=0)).2 n h7;by_cases h8:n=0
       .subst h8
        have ga:iW (fpD .brw us) [.str a]=ac (.int 0):=ga;simp_arith[sEx,aR,bx,aU,a0,gb,gGt,h5',ga,ne_int,o3,o4];simp[h7]
       .have h8':¬(n:Int)=0:=by omega
        have hz:(decide (L.length=0)||decide (fi L a=ac 0))=ae:=by simp[U,h7,h8]
        rw[hz,afu];generalize (L.length:Int)=Li at h5' o3⊢;simp_arith[sEx,aR,bx,aU,a0,gb,gGt,h5',ga,ne_int,h8'];exact λz=>absurd z h8
   .have h2':¬(L.length:Int)=ps.length:=by omega
    simp_arith[sEx,aR,bx,aU,B.v,a1,B.l,V.2.2.1,a2,ne_int,h2',truth,tX,h2]
 obtain⟨_,e,rfl⟩:=W;exact e
theorem Vb(h:t∈adj js js.length y):ed js (t.1,t.2.1)=ac (y,t.2.2)/\Sd1 (t.1,t.2.1):=by
 obtain⟨n,j,_,h2,Y⟩:=(nq js y js.length).mp h;rcases Y with⟨rfl,rfl⟩|⟨rfl,rfl⟩
 .exact⟨by simp[ed,h2],.inl rfl⟩
 .exact⟨by simp[ed,h2],.inr rfl⟩
theorem Ve(h:ed js p=ac (x,y))(hs:Sd1 p):(p.1,p.2,y)∈adj js js.length x:=by
 unfold ed at h;split at h
 .rename_i h0
  cases V:js[p.1.toNat]? with
  |none=>rw[V]at h;cases h
  |some j=>
   rw[V]at h;have Z:=(List.getElem?_eq_some_iff.mp V).1;have e:((p.1.toNat:Nat):Int)=p.1:=by omega
   refine(nq js x js.length).mpr ⟨p.1.toNat,j,Z,V,?_⟩;rcases hs with z|z
   .have h:(j.1,j.2.1)=(x,y):=by simpa[z]using h
    cases h;exact .inl ⟨rfl,by rw[e,z]⟩
   .have h:(j.2.1,j.1)=(x,y):=by simpa[z]using h
    cases h;exact .inr ⟨rfl,by rw[e,z]⟩
 .cases h
theorem rW:∀{ps Y:List Pt}{x:Str},go js x (ps++Y)=(go js x ps).bind λy=>go js y Y
 |[],Y,x=>rfl
 |p::r,Y,x=>by
  rw[YW,go,go];cases ed js p with
  |none=>rfl
  |some B=>
   obtain⟨b,e⟩:=B;simp![];split
   .exact rW
   .rfl
theorem FJ(h:ed js p=ac (x,y)):go js x [p]=ac y:=by rw[go,h];simp[go]
theorem Dw(w:Wk2 1.12 h ps y):go js h ps=ac y/\∀p∈ps,Sd1 p:=by
 induction w with
 |nil=>exact⟨rfl,by simp⟩
 |snoc w U I=>
  obtain⟨h1,h2⟩:=Vb U;exact⟨by rw[rW,I.1];exact FJ h1,λp V=>(Yl.mp V).elim (I.2 p) λz=>by rw[Yz.mp z];exact h2⟩
theorem J_{js:List Jt}{h:Str}:∀{Y ps:List Pt}{x y:Str},Wk2 1.12 h ps x->go js x Y=ac y->(∀q∈Y,Sd1 q)->Wk2 1.12 h (ps++Y) y
 |[],ps,x,y,w,e,_=>by rw[go]at e;cases e;simpa using w
 |q::r,ps,x,y,w,e,hs=>by
  rw[go]at e;cases O:ed js q with
  |none=>rw[O]at e;cases e
  |some B=>
   obtain⟨b,v⟩:=B;rw[O]at e;simp![]at e;split at e
   .rename_i hb
    subst hb;have:=J_ (w.snoc (Ve O (hs q (by simp)))) e λz hz=>hs z (by simp[hz]);rw[show ps++q::r=(ps++[q])++r by simp];exact this
   .cases e
variable{Y:List Pt}
theorem JR(e:go js h Y=ac y)(hs:∀q∈Y,Sd1 q):Wk2 1.12 h Y y:=by
 have:=J_ (.nil (ad:=adj js js.length) (h:=h)) e hs;simpa using this
def flp(p:Pt):Pt:=(p.1,-p.2)
theorem T7(h:ed js p=ac (x,y))(hs:Sd1 p):ed js (flp p)=ac (y,x):=by
 unfold ed at h⊢;split at h
 .rename_i h0
  rw[YH (show 0<=(flp p).1 from h0)];show(js[p.1.toNat]?).map _=_;cases V:js[p.1.toNat]? with
  |none=>rw[V]at h;cases h
  |some j=>
   rw[V]at h;rcases hs with z|z
   .have h:(j.1,j.2.1)=(x,y):=by simpa[z]using h
    cases h;simp[flp,z]
   .have h:(j.2.1,j.1)=(x,y):=by simpa[z]using h
    cases h;simp[flp,z]
 .cases h
theorem GJ{js:List Jt}:∀{Y:List Pt}{x y:Str},go js x Y=ac y->(∀q∈Y,Sd1 q)->∃ps,go js y ps=ac x/\∀p∈ps,Sd1 p
 |[],x,y,e,_=>by rw[go]at e;cases e;exact⟨[],rfl,by simp⟩
 |q::r,x,y,e,hs=>by
  rw[go]at e;cases O:ed js q with
  |none=>rw[O]at e;cases e
  |some B=>
   obtain⟨b,v⟩:=B;rw[O]at e;simp![]at e;split at e
   .rename_i hb
    subst hb;obtain⟨ps,h1,h2⟩:=GJ e λz hz=>hs z (by simp[hz]);have U:=hs q (by simp);exact⟨ps++[flp q],by rw[rW,h1];exact FJ (T7 O U),λp V=>(Yl.mp V).elim (h2 p) λz=>by rw[Yz.mp z];exact U.symm.imp (λz=>by simp[flp,z]) λz=>by simp[flp,z]⟩
   .cases e
theorem vis{js:List Jt}:∀{ps:List Pt}{x y:Str},go js x ps=ac y->∀k,k<=ps.length->(x::mt js ps)[k]? =go js x (ps.take k)
 |[],x,y,_,k,hk=>by
  have:k=0:=by simpa using hk
  subst this;rfl
 |p::r,x,y,e,k,hk=>by
  cases k with
  |zero=>rfl
  |succ k=>
   rw[go]at e;cases O:ed js p with
   |none=>rw[O]at e;cases e
   |some B=>
    obtain⟨b,v⟩:=B;rw[O]at e;simp![]at e;split at e
    .rename_i hb
     have V:mt js (p::r)=v::mt js r:=by simp[mt,O]
     rw[YJ,V,vis e k (by simpa using hk),List.take_succ_cons,go,O];simp[hb]
    .cases e
variable{us:List Uw}
theorem Lst.le(h:Lst 1.12 a us)(hn:(ky us).Nodup)(V:(y,ps)∈us)(e:go js a Y=ac y)(hs:∀q∈Y,Sd1 q):ps.length<=Y.length:=by
 obtain⟨u,hu,rfl,U⟩:=h.2 Y y (JR e hs);rw[iB hn V hu];exact U
theorem Lst.has(h:Lst 1.12 a us)(e:go js a Y=ac y)(hs:∀q∈Y,Sd1 q):y∈ky us:=by
 obtain⟨u,hu,rfl,U⟩:=h.2 Y y (JR e hs);exact Yr.mpr ⟨u,hu,rfl⟩
theorem Lst.st(h:Lst 1.12 a us)(hn:(ky us).Nodup)(V:(b,ps)∈us):Jb.st js b [a] a ps=ag:=by
 obtain⟨F,hs⟩:=Dw (h.1 _ V);have F:go js a ps=ac b:=F;have hs:∀p∈ps,Sd1 p:=hs;rw[Hx (by simp)];refine⟨F,?_⟩;show(a::mt js ps).Nodup;have O:(mt js ps).length=ps.length:=by simp[mt]
 rw[List.Nodup,ab4];intro i j hi B I e;have e:(a::mt js ps)[i]? =(a::mt js ps)[j]?:=by rw[Yo hi,Yo B,e]
 rw[Yy,O]at B;rw[vis F i 1.10,vis F j 1.10]at e;have h1:go js a (ps.take j++ps.drop j)=ac b:=by rw[aaM];exact F
 rw[rW,←e,←rW]at h1;have:=h.le hn V h1 λq U=>(Yl.mp U).elim (λz=>hs q (abj z)) λz=>hs q (List.mem_of_mem_drop z);rw[Zd,aaa,abn]at this;omega
theorem Lst.start(h:Lst 1.12 a us):(a,[])∈us:=by
 obtain⟨⟨x,ps⟩,hu,rfl,U⟩:=h.2 [] a .nil;have:ps=[]:=aaY.mp (by simpa using U);rw[←this];exact hu
theorem Lst.next(h:Lst 1.12 a us)(hn:(ky us).Nodup)(V:(x,ps)∈us)(O:ed js p=ac (x,y))(hs:Sd1 p):∃Y,(y,Y)∈us/\Y.length<=ps.length+1:=by
 obtain⟨F,Z⟩:=Dw (h.1 _ V);have e:go js a (ps++[p])=ac y:=by rw[rW,F];exact FJ O
 have B:∀q∈ps++[p],Sd1 q:=λq U=>(Yl.mp U).elim (Z q) λz=>by rw[Yz.mp z];exact hs
 obtain⟨⟨_,Y⟩,hu,rfl⟩:=Yr.mp (h.has e B);exact⟨Y,hu,by have:=h.le hn hu e B;simpa using this⟩
def dW(us:List Uw)(k:Nat)(x:Str):Bool:=us.any λu=>decide (u.1=x)&&decide (u.2.length=k)
theorem nO:dW us k x=ag↔∃ps,(x,ps)∈us/\ps.length=k:=by
 unfold dW;rw[abq];constructor
 .rintro⟨u,h1,h2⟩
  simp at h2;exact⟨u.2,by rw[←h2.1];exact h1,h2.2⟩
 .rintro⟨ps,h1,h2⟩
  exact⟨_,h1,by simp[h2]⟩
theorem Di(hn:(ky us).Nodup)(h:(x,ps)∈us):dW us k x=decide (ps.length=k):=by
 rw[aap,nO,aaN];exact⟨λ⟨Y,h1,h2⟩=>by rw[iB hn h h1];exact h2,λz=>⟨ps,h,z⟩⟩
def lev(us:List Uw)(m:Nat):List (List Str):=(Zw m).map λk=>fU ((ky us).filter (dW us k))
theorem lvc(q:List (List Str)):az (.lst .own (q.map (lvL .own)))=ag/\au (.lst .own (q.map (lvL .own)))=ag/\bj (.lst .own (q.map (lvL .own)))=ag/\view ae (.lst .own (q.map (lvL .own)))= .lst .brw (q.map (lvL .brw)):=by
 have Y:aB (q.map (lvL .own))=ag:=cg (gB _ λl=>by simp[lvL,az,dq]);have F:aC (q.map (lvL .own))=ag:=bL (gB _ λl=>by simp[lvL,au,bQ]);have z:∀l:List Str,aP (l.map D.str)=ag:=by
  intro l
  induction l with
  |nil=>rfl
  |cons p r I=>rw[Ys,aP,I];rfl
 have U:aP (q.map (lvL .own))=ag:=by
  induction q with
  |nil=>rfl
  |cons l r I=>rw[Ys,aP,I (cg (gB _ λl=>by simp[lvL,az,dq])) (bL (gB _ λl=>by simp[lvL,au,bQ]))];simp[lvL,bj,z]
 have h2:eE ae (q.map (lvL .own))=q.map (lvL .brw):=by rw[eF,Yw];exact YT λl _=>by simp[lvL,view,dX,mkV]
 exact⟨by simp[az,Y],by simp[au,F],by simp[bj,U],by simp[view,h2,mkV]⟩
theorem plT(ps:List Pt):plD (pT ps)=ag:=by
 have:∀l:List Pt,tU (l.map ptD)=ag:=by
  intro l
  induction l with
  |nil=>rfl
  |cons p r I=>rw[Ys,tU,I];rfl
 simp[pT,plD,this]
theorem X_(us:List Uw):tU (us.map λu=>pT u.2)=ag:=by
 induction us with
 |nil=>rfl
 |cons u r I=>rw[Ys,tU,I,plT];rfl
theorem R7:∀l:List Str,tU (l.map D.str)=ag
 |[]=>rfl
 |_::r=>by rw[Ys,tU,R7 r];rfl
theorem FT(ps:List Pt):bT [pT ps]=ac (.int ps.length):=by simp[pT,bT]
theorem UL(hn:(ky us).Nodup)(Z:us.length<=60)(k:Nat):k_ 1 [af,ac 0,ac 1] (tpN 0) 1.23 (ao ae 0) [ac (.int k),ac (wM .frz us)]=ac (.lst .own (((ky us).filter (dW us k)).map D.str)):=by
 have O:((us.map (·.1)).map YM).map kD=(ky us).map D.str:=by rw[Yw];rfl
 have q:bU [af,ac 0,ac 1] (λ_=>ac (ae,((us.map (·.1)).map YM).map kD)) (tpN 0) 1.23 (ao ae 0) (([ac (.int k),ac (wM .frz us)].map oV).set 1 (ac (wM .scr us)))=ac (.lst .own (((ky us).filter (dW us k)).map D.str)):=by
  have B:f9 (tpN 0) 1.23 (ao ae 0) [af,ac (.int k),ac (wM .scr us)] ((ky us).map D.str)=ac ((((ky us).map D.str).filter λd=>match d with|.str x=>dW us k x|_=>ae).map id):=by
   refine fO λd hd=>?_;obtain⟨x,F,rfl⟩:=Yr.mp hd;obtain⟨ps,h1,h2⟩:=vL (m:=.scr) F;have Y:decide ((ps.length:Int)=(k:Int))=dW us k x:=by
    rw[Di hn h1];congr 1;exact propext ⟨λh=>by omega,λh=>by omega⟩
   have z:=(jH ps).2.2.1;simp[tpN,aF,eB,e2,ao,eAp,aj,aA,view,Rz,h2,FT,eq_int,isB,aB,aC,az,au,clean,(jH ps).2.1];exact Y
  simp![bU,O,gD,Yt];rw[YH (by rw[eU];omega)];have V:dI [af,ac 0,ac 1] (([ac (.int k),ac (wM .frz us)].map oV).set 1 (ac (wM .scr us)))=[af,ac (.int k),ac (wM .scr us)]:=by simp[dI,oV,plD]
  rw[V,B,abX,List.filter_map];rfl
 unfold k_;simp![YJ,YL,wM,X_,Y6];simp![wM]at q;rw[q];simp![R7,Y6]
theorem BW:∀l:List Str,strsOf (l.map D.str)=ac l
 |[]=>rfl
 |x::r=>by simp[strsOf,BW r]
theorem Tv{E:En->Option D}{A B C W W' I R:D}(h:E [ac A,ac B,ac C,ac W',ac I]=ac R)(Y:fz W=W')(z:az R=ag/\au R=ag)(q:Q (.ret R [ac A,ac B,ac C,ac W',ac I])):Wp (sFz 3 (cI E) [ac A,ac B,ac C,ac W,ac I]) Q:=by
 simp[sFz,iY,Y,cI,h,aL,bV,aF,w_ite,clean,z];exact q
theorem V5(hn:(ky us).Nodup)(Z:us.length<=60)(O:aM bI [.lst .frz (js.map jD),.str a]=ac (wM .own us)) :
  (b∉ky us->bW [.lst .frz (js.map jD),.str a,.str b]=ac .non)/\∀ps,(b,ps)∈us->ps.length<=1000->bW [.lst .frz (js.map jD),.str a,.str b]=ac (.lst .own ((lev us ps.length).map (lvL .own))):=by
 have B:=(JJ.lst js).v;generalize D.lst .frz (js.map jD)=J at O B⊢;have F:=Fj (us:=us) (m:=.own) (.inl rfl);generalize hG:aM bI=GL at O;constructor
 .intro U
  apply Wp.eq;simp_arith![bW,hG,fnP];refine a_ (λρ=>ρ=[ac J,ac (.str a),ac (.str b),ac (wM .own us),af]) 1.19 ?_
  .simp_arith[sEx,aR,bx,aU,B,O,F]
   exact I _ rfl
  rintro _ rfl;have V:dF (.str b) (wM .brw us)=ac (.bl ag):=by rw[p_,Zc (show b∉us.map (·.1)from U)];rfl
  simp_arith[sEx,aR,bx,aU,pU,V]
 .intro ps hps hpl
  have U:b∈us.map (·.1):=Yr.mpr ⟨_,hps,rfl⟩;apply Wp.eq;simp_arith![bW,hG,fnP];refine a_ (λρ=>ρ=[ac J,ac (.str a),ac (.str b),ac (wM .own us),af]) 1.19 ?_
  .simp_arith[sEx,aR,bx,aU,B,O,F]
   exact I _ rfl
  rintro _ rfl;refine a_ (λρ=>ρ=[ac J,ac (.str a),ac (.str b),ac (wM .own us),af]) 1.19 ?_
  .have V:dF (.str b) (wM .brw us)=ac (.bl ae):=by rw[p_,aaL U];rfl
   simp_arith[sEx,aR,bx,aU,pU,V];exact I _ rfl
  rintro _ rfl;obtain⟨Y,h1,h2⟩:=vL (m:=.brw) U;obtain rfl:ps=Y:=iB hn hps h1;refine a_ (λρ=>ρ=[ac J,ac (.str a),ac (.str b),ac (wM .own us),ac (.int ps.length)]) 1.19 ?_
  .simp_arith[sEx,aR,bx,aU,pU,h2,FT,(jH ps).2.1]
   exact I _ rfl
  rintro _ rfl;have a1:fz (wM .own us)=wM .frz us:=T5 (by decide);have a2:ug (aj (ao ae 4) aA) [ac J,ac (.str a),ac (.str b),ac (wM .frz us),ac (.int ps.length)]=ac (ag,jk 0 ps.length):=MF (by simp[aj,ao,aA,view,au]) hpl;have a0:∀k,jG [.lst .own (((ky us).filter (dW us k)).map D.str)]=ac (lvL .own (fU ((ky us).filter (dW us k)))):=λk=>by
   simp![jG,BW];have:((ky us).filter (dW us k)).length<=us.length:=ZJ (acL _ _) (by rw[eU];exact YB _);rw[YH (by rw[Yt];omega)];rfl
  have e8:bU [af,ac 3] (ug (aj (ao ae 4) aA)) (tpN 0) eTT (eAp jG (aj (k_ 1 [af,ac 0,ac 1] (tpN 0) 1.23 (ao ae 0)) aA)) [ac J,ac (.str a),ac (.str b),ac (wM .frz us),ac (.int ps.length)]=ac (.lst .own ((lev us ps.length).map (lvL .own))):=by
   simp![bU,a2,gD,Ax];rw[YH 1.10];have e6:f9 (tpN 0) eTT (eAp jG (aj (k_ 1 [af,ac 0,ac 1] (tpN 0) 1.23 (ao ae 0)) aA)) (dI [af,ac 3] [ac J,ac (.str a),ac (.str b),ac (wM .frz us),ac (.int ps.length)]) (jk 0 ps.length)=ac (((jk 0 ps.length).filter λ_=>ag).map λd=>match d with|.int i=>lvL .own (fU ((ky us).filter (dW us i.toNat)))|_=>.non):=by
    refine fO λd hd=>?_;obtain⟨i,hi⟩:=abM hd;obtain⟨_,rfl⟩:=uC hi;have q:=UL hn Z i;have z:au (.lst .own (((ky us).filter (dW us i)).map D.str))=ag:=by simp[au,bQ]
    generalize k_ 1 [af,ac 0,ac 1] (tpN 0) 1.23 (ao ae 0)=E at q⊢;simp[dI,tpN,aF,eTT,eAp,aj,aA,q,a0 i,clean,az,au,bQ]
   rw[e6,filter_tt];have e9:(jk 0 ps.length).map (λd=>match d with|.int i=>lvL .own (fU ((ky us).filter (dW us i.toNat)))|_=>.non)=(lev us ps.length).map (lvL .own):=by
    rw[jk,lev,Yw,Yw];refine YT λk _=>?_;simp![aat,Int.zero_add,aad]
   rw[e9,Y9]
  have z:=lvc (lev us ps.length);refine Tv e8 a1 ⟨z.1,z.2.1⟩ ?_;exact⟨_,rfl,rfl⟩
def lvs(us:List Uw)(m:Nat)(S:List Str):List (List Str):=(Zw m).map λk=>S.filter (dW us k)
variable{m:Nat}
theorem nA:(lvs us m S).length=m:=by simp[lvs]
theorem qR(h:k<m):(lvs us m S)[k]? =ac (S.filter (dW us k)):=by simp[lvs,h]
theorem Qw(hn:(ky us).Nodup)(F:(x,ps)∈us):lvs us m (S++[x])=if ps.length<m then(lvs us m S).set ps.length (S.filter (dW us ps.length)++[x])else lvs us m S:=by
 have q:∀k,(S++[x]).filter (dW us k)=if k=ps.length then S.filter (dW us k)++[x]else S.filter (dW us k):=λk=>by
  rw[List.filter_append,List.filter_cons,Di hn F];by_cases h:ps.length=k
  .simp[h]
  .have h':¬k=ps.length:=λz=>h z.symm
   simp[h,h']
 refine aaz λk=>?_;by_cases O:k<m
 .rw[qR O,q]
  by_cases V:ps.length<m
  .rw[YH V,aan,nA]
   by_cases h:k=ps.length
   .subst h
    simp[O]
   .rw[Y4 h,Y4 (λz=>h z.symm),qR O]
  .rw[Y4 V,Y4 1.10,qR O]
 .rw[ZD (by rw[nA];omega)]
  split
  .rw[ZD (by rw[afp,nA];omega)]
  .rw[ZD (by rw[nA];omega)]
theorem Q8:lvs us m (fU (ky us))=lev us m:=by
 unfold lvs lev;exact YT λk _=>CJ (.refl _)
theorem Tn{m:Mk}(V:(m== .scr)=ae)(h:us.length<64):kj [wM m us]=ac (.lst .own ((fU (ky us)).map D.str)):=by
 have O:∀l:List Str,sG (l.map YM)=ac l:=by
  intro l
  induction l with
  |nil=>rfl
  |cons x r I=>simp[sG,I]
 simp![kj,wM,Yt,h,V,O,Y9];rfl
def LvE(J:D)(a b:Str)(us:List Uw)(q:List (List Str))(V z:Option D):En:=[ac J,ac (.str a),ac (.str b),ac (wM .own us),ac (.lst .own (q.map (lvL .own))),V,z]
def LvI(J:D)(a b:Str)(us:List Uw)(m i:Nat)(ρ:En):Prop:=∃V z,ρ=LvE J a b us (lvs us m ((fU (ky us)).take i)) V z
theorem UG{q:List (List Str)}(O:q[k]? =ac l)(Z:l.length<1000000) :
  iK aX 4 (qy 4 (eV 4) (ao ae 6)) (aj (ao ae 5) aA) (LvE J a b us q (ac (.str x)) (ac (.int k)))=ac (.nx (LvE J a b us (q.set k (l++[x])) (ac (.str x)) (ac (.int k)))):=by
 have z:k<q.length:=(List.getElem?_eq_some_iff.mp O).1;have B:qy 4 (eV 4) (ao ae 6) (LvE J a b us q (ac (.str x)) (ac (.int k)))=ac [k]:=by
  have U:ixP (.lst .own (q.map (lvL .own))) (.int k)=ac k:=by simp![ixP,Yt];exact uo z
  simp[qy,eV,ao,LvE,view,d_,U,kids,z]
 have I:aX (lvL .own l) [.str x]=ac (lvL .own (l++[x]),.non):=by
  simp[lvL,aX];omega
 unfold iK m6;rw[B];have F:d_ [k] (.lst .own (q.map (lvL .own)))=ac (lvL .own l):=by simp[d_,kids,O]
 have hs:cY [k] (lvL .own (l++[x])) (.lst .own (q.map (lvL .own)))= .lst .own ((q.set k (l++[x])).map (lvL .own)):=by
  simp[cY,kids,O,zN,aeX]
 simp[aj,ao,aA,LvE,view,upS,F,aB,aC,az,au,I,hs]
theorem Ob(q:JJ J js)(hn:(ky us).Nodup)(Z:us.length<=60)(h6:aM bu [J,.str a,.str b]=ac (wM .own us)) :
  (b∉ky us->aY [J,.str a,.str b]=ac .non)/\∀ps,(b,ps)∈us->ps.length<=1000->aY [J,.str a,.str b]=ac (.lst .own ((lev us ps.length).map (lvL .own))):=by
 have a9:=Fj (us:=us) (m:=.own) (.inl rfl);generalize hG:aM bu=GL at h6;constructor
 .intro U
  apply Wp.eq;simp_arith![aY,hG,fnP];refine a_ (λρ=>ρ=[ac J,ac (.str a),ac (.str b),ac (wM .own us),af,af,af]) 1.19 ?_
  .simp_arith[sEx,aR,bx,aU,q.v,h6,a9]
   exact I _ rfl
  rintro _ rfl;have a4:dF (.str b) (wM .brw us)=ac (.bl ag):=by rw[p_,Zc (show b∉us.map (·.1)from U)];rfl
  simp_arith[sEx,aR,bx,aU,pU,a4]
 .intro ps hps hpl
  have U:b∈us.map (·.1):=Yr.mpr ⟨_,hps,rfl⟩;apply Wp.eq;simp_arith![aY,hG,fnP];refine a_ (λρ=>ρ=[ac J,ac (.str a),ac (.str b),ac (wM .own us),af,af,af]) 1.19 ?_
  .simp_arith[sEx,aR,bx,aU,q.v,h6,a9]
   exact I _ rfl
  rintro _ rfl;refine a_ (λρ=>ρ=[ac J,ac (.str a),ac (.str b),ac (wM .own us),af,af,af]) 1.19 ?_
  .have a4:dF (.str b) (wM .brw us)=ac (.bl ae):=by rw[p_,aaL U];rfl
   simp_arith[sEx,aR,bx,aU,pU,a4];exact I _ rfl
  rintro _ rfl;obtain⟨qs,h1,h2⟩:=vL (m:=.brw) U;obtain rfl:ps=qs:=iB hn hps h1;refine a_ (LvI J a b us ps.length 0) 1.19 ?_
  .have e8:bU [af] (itS (e2 gIx (ao ae 3) (ao ae 2))) (tpN 0) eTT (eAp bY aA) [ac J,ac (.str a),ac (.str b),ac (wM .own us),af,af,af]=ac (.lst .own ((lvs us ps.length []).map (lvL .own))):=by
    have e6:f9 (tpN 0) eTT (eAp bY aA) (dI [af] [ac J,ac (.str a),ac (.str b),ac (wM .own us),af,af,af]) (ps.map ptD)=ac (((ps.map ptD).filter λ_=>ag).map λ_=>.lst .own []):=by
     refine fO λd hd=>?_;obtain⟨p,b7,rfl⟩:=Yr.mp hd;have b2:az (ptD p)=ag/\au (ptD p)=ag:=⟨rfl,rfl⟩;simp[dI,tpN,aF,eTT,eAp,aA,bY,clean,b2]
    have b5:=Uc ps;simp![bU,itS,e2,ao,YJ,YL,pU,view,gD,h2,b5,Yt];rw[YH 1.10,e6,filter_tt,Y9];congr 2;refine aaz λk=>?_;rw[List.getElem?_map,List.getElem?_map,List.getElem?_map];by_cases O:k<ps.length
    .rw[qR O,Yo O];rfl
    .rw[ZD 1.10,ZD (by rw[nA];omega)];rfl
   have b4:=lvc (lvs us ps.length []);generalize bU [af] (itS (e2 gIx (ao ae 3) (ao ae 2))) (tpN 0) eTT (eAp bY aA)=E at e8⊢;simp[bN,e8,tgN,clean,bV,aL,aF,w_ite,b4];exact I _ ⟨af,af,by simp[LvE]⟩
  rintro _ ⟨V,x6,rfl⟩;refine a_ (LvI J a b us ps.length (fU (ky us)).length) 1.19 ?_
  .have e1':itS (eAp kj (aj (ao ae 3) aA)) (LvE J a b us (lvs us ps.length ((fU (ky us)).take 0)) V x6)=ac (ag,(fU (ky us)).map D.str):=by
    have b1:au (wM .brw us)=ag:=by simp[wM,au,R6]
    simp[itS,eAp,aj,aA,ao,LvE,pU,b1,Tn (m:=.brw) rfl (show us.length<64 by omega),dw,clean,az,au,dq,bQ,il]
   unfold gO;rw[e1'];simp![aL,aF];refine iQ (LvI J a b us ps.length) ⟨V,x6,rfl⟩ ?_ (λρ h=>I _ (by rwa[Yt]at h));rintro i d ρ hi ⟨y5,y6,rfl⟩;rw[List.getElem?_map]at hi;cases a1:(fU (ky us))[i]? with
   |none=>rw[a1]at hi;cases hi
   |some x=>
    rw[a1]at hi;cases hi;have b3:x∈us.map (·.1):=(gq (ky us)).subset (Y0 a1);obtain⟨rs,Y,F⟩:=vL (m:=.brw) b3;have a6:(fU (ky us)).take (i+1)=(fU (ky us)).take i++[x]:=by rw[aaA,a1];rfl
    have a0:=Qw hn (m:=ps.length) (S:=(fU (ky us)).take i) Y;have b6:((fU (ky us)).take i).length<=60:=by rw[aaa,(gq _).length_eq,eU];omega
    generalize b0:lvs us ps.length ((fU (ky us)).take i)=Ls at a0;have a7:Ls.length=ps.length:=by rw[←b0,nA]
    simp![tgN,clean,az,au,aam,Y6,aL,aF,LvE,Ze,Zq];refine a_ (λρ=>ρ=LvE J a b us Ls (ac (.str x)) (ac (.int rs.length))) 1.19 ?_
    .simp_arith[sEx,aR,bx,aU,pU,F,FT,(jH rs).2.1]
     exact I _ rfl
    rintro _ rfl;have a8:=(lvc Ls).2.2.2;have vI:∀i:Int,view ae (D.int i)=D.int i:=λ_=>rfl;by_cases z:rs.length<ps.length
    .have hlt':(rs.length:Int)<ps.length:=by omega
     have a2:bT [.lst .brw (Ls.map (lvL .brw))]=ac (.int ps.length):=by simp[bT,a7]
     rw[YH z]at a0;have a5:∀(f g:En->Option Fl),sIf (eB (e2 gLt (ao ae 6) (eAp bT (aj (ao ae 4) aA)))) f g (LvE J a b us Ls (ac (.str x)) (ac (.int rs.length)))=f (LvE J a b us Ls (ac (.str x)) (ac (.int rs.length))):=λf g=>by
      have a3:au (.lst .brw (Ls.map (lvL .brw)))=ag:=by
       simp![au];rw[bL (gB _ λl=>by simp[lvL,au,bQ])];rfl
      simp[sIf,eB,e2,ao,eAp,aj,aA,LvE,vI,a8,a3,a2,gLt,hlt',isB]
     rw[a5,UG (l:=((fU (ky us)).take i).filter (dW us rs.length)) (by rw[←b0];exact qR z) (aeT (acL _ _) 1.10),aF];exact⟨_,_,by rw[a6,a0]⟩
    .have hlt':¬(rs.length:Int)<ps.length:=by omega
     have a2:bT [.lst .brw (Ls.map (lvL .brw))]=ac (.int ps.length):=by simp[bT,a7]
     rw[Y4 z]at a0;have a3:au (.lst .brw (Ls.map (lvL .brw)))=ag:=by
      simp![au];rw[bL (gB _ λl=>by simp[lvL,au,bQ])];rfl
     have a5:∀(f g:En->Option Fl),sIf (eB (e2 gLt (ao ae 6) (eAp bT (aj (ao ae 4) aA)))) f g (LvE J a b us Ls (ac (.str x)) (ac (.int rs.length)))=g (LvE J a b us Ls (ac (.str x)) (ac (.int rs.length))):=λf g=>by
      generalize (rs.length:Int)=A at hlt'⊢;generalize (ps.length:Int)=B at hlt' a2;simp[sIf,eB,e2,ao,eAp,aj,aA,LvE,vI,a8,a3,a2,gLt,hlt',isB]
     rw[a5];simp![dg,aF];exact⟨_,_,by rw[a6,a0]⟩
  rintro _ ⟨y5,y6,rfl⟩;rw[aaI,Q8];simp[gP,LvE,aF]
theorem Q7(h:k<m):(lev us m)[k]? =ac (fU ((ky us).filter (dW us k))):=by simp[lev,h]
theorem gn:(lev us m).length=m:=by simp[lev]
theorem pO:x∈fU ((ky us).filter (dW us k))↔∃ps,(x,ps)∈us/\ps.length=k:=by
 rw[(gq _).mem_iff,adU,nO];exact⟨λh=>h.2,λ⟨ps,h1,h2⟩=>⟨Yr.mpr ⟨_,h1,rfl⟩,ps,h1,h2⟩⟩
theorem o8(hn:(ky us).Nodup){n:Nat}:fi (lev us m) x=ac n↔n<m/\∃ps,(x,ps)∈us/\ps.length=n:=by
 unfold fi;rw[Zg];have F:∀(k:Nat)(h:k<(lev us m).length),(lev us m)[k]=fU ((ky us).filter (dW us k)):=λk h=>by
  have:=Q7 (us:=us) (m:=m) (k:=k) (by rwa[gn]at h);rw[Yo h]at this;exact Zr this
 constructor
 .rintro⟨h,h1,_⟩
  rw[F n h]at h1;exact⟨by rwa[gn]at h,pO.mp (by simpa using h1)⟩
 .rintro⟨h,ps,h1,h2⟩
  refine⟨by rwa[gn],by rw[F n (by rwa[gn])];simpa using pO.mpr ⟨ps,h1,h2⟩,λj V=>?_⟩;rw[F j (by rw[gn];omega)];have:x∉fU ((ky us).filter (dW us j)):=λz=>by
   obtain⟨q,Y,B⟩:=pO.mp z;rw[iB hn h1 Y]at h2;omega
  simpa using this
theorem Nb(hn:(ky us).Nodup){q:List Pt}(h:(x,q)∈us):plv (lev us m) x=(min q.length m:Nat):=by
 unfold plv;rw[gn];by_cases V:q.length<m
 .rw[(o8 hn (m:=m) (n:=q.length)).mpr ⟨V,q,h,rfl⟩,abP,acP 1.10]
 .cases e:fi (lev us m) x with
  |none=>rw[acC,adM 1.10]
  |some n=>
   obtain⟨h1,ps,h2,Y⟩:=(o8 hn).mp e;rw[iB hn h h2]at V;omega
theorem HN(hn:(ky us).Nodup)(h:x∉ky us):plv (lev us m) x=(m:Nat):=by
 unfold plv;rw[gn];cases e:fi (lev us m) x with
 |none=>rfl
 |some n=>
  obtain⟨h1,ps,h2,Y⟩:=(o8 hn).mp e;exact absurd (Yr.mpr ⟨_,h2,rfl⟩) h
theorem LK(h:Lst 1.12 a us)(hn:(ky us).Nodup)(V:(b,ps)∈us)(a2:∀x∈ky us,nmB x=ag):tX js a b ps (lev us ps.length)=ag:=by
 have h1:=h.st hn V;have h2:((lev us ps.length).all λl=>l.all nmB)=ag:=by
  rw[aa1];intro l Z;obtain⟨k,_,rfl⟩:=Yr.mp Z;rw[aa1];intro x F;obtain⟨qs,Y,_⟩:=pO.mp F;exact a2 x (Yr.mpr ⟨_,Y,rfl⟩)
 have Y:(fi (lev us ps.length) b).isSome=ae:=by
  cases e:fi (lev us ps.length) b with
  |none=>rfl
  |some n=>
   obtain⟨h4,qs,U,I⟩:=(o8 hn).mp e;rw[iB hn V U]at h4;omega
 have h4:(decide ((lev us ps.length).length=0)||decide (fi (lev us ps.length) a=ac 0))=ag:=by
  rw[gn];by_cases B:ps.length=0
  .simp[B]
  .rw[(o8 hn (n:=0)).mpr ⟨by omega,[],h.start,rfl⟩]
   simp
 have U:js.all (qT (lev us ps.length))=ag:=by
  rw[aa1];intro j hj;obtain⟨n,a3,a4⟩:=aaC hj;have a0:js[n]? =ac j:=by rw[Yo a3,a4]
  have e1:ed js ((n:Int),1)=ac (j.1,j.2.1):=by simp[ed,a0]
  have a1:ed js ((n:Int),-1)=ac (j.2.1,j.1):=by simp[ed,a0]
  unfold qT;refine aaL ?_;by_cases F:j.1∈ky us
  .obtain⟨⟨_,p1⟩,q,rfl⟩:=Yr.mp F
   obtain⟨p2,g2,l2⟩:=h.next hn q e1 (.inl rfl);obtain⟨p3,O,l3⟩:=h.next hn g2 a1 (.inr rfl);rw[iB hn O q]at l3;rw[Nb hn q,Nb hn g2];omega
  .have hy:j.2.1∉ky us:=λz=>by
    obtain⟨⟨y,p1⟩,q,e⟩:=Yr.mp z;have e:y=j.2.1:=e;subst e;obtain⟨p2,g2,_⟩:=h.next hn q a1 (.inr rfl);exact F (Yr.mpr ⟨_,g2,rfl⟩)
   rw[HN hn F,HN hn hy];omega
 have I:decide ((lev us ps.length).length=ps.length)=ag:=by rw[gn];simp
 unfold tX;rw[h1,h2,Y,h4,U,I];rfl
theorem Ja(h:(fi L b).isSome=ag):tX js a b ps L=ae:=by
 simp[tX,h]
theorem Lst.same{O:List Uw}(F:Lst 1.12 a us)(h1:(ky us).Nodup)(I:Lst 1.12 a O)(h:(y,ps)∈us):∃Y,(y,Y)∈O/\Y.length=ps.length:=by
 obtain⟨⟨_,Y⟩,B,rfl,U⟩:=I.2 ps y (F.1 _ h);obtain⟨⟨q,z⟩,hu,e,V⟩:=F.2 Y _ (I.1 _ B);have e:q=_:=e;subst e;rw[iB h1 hu h]at V;exact⟨Y,B,Nat.le_antisymm U V⟩
theorem DR{O:List Uw}(h1:(ky us).Nodup)(h2:(ky O).Nodup)(F:Lst 1.12 a us)(B:Lst 1.12 a O)(m:Nat):lev us m=lev O m:=by
 unfold lev;refine YT λk _=>?_;have Z:dW us k=dW O k:=funext λx=>by
  rw[aap,nO,nO];exact⟨λ⟨ps,U,z⟩=>by obtain⟨Y,q1,q2⟩:=F.same h1 B U;exact⟨Y,q1,q2.trans z⟩,λ⟨ps,U,z⟩=>by obtain⟨Y,q1,q2⟩:=B.same h2 F U;exact⟨Y,q1,q2.trans z⟩⟩
 have V:Zu ((ky us).filter (dW us k)) ((ky O).filter (dW O k)):=by
  rw[Z];refine List.Perm.filter _ ((List.perm_ext_iff_of_nodup h1 h2).mpr λx=>?_);simp![ky,Yr];exact⟨λ⟨u,U,z⟩=>by obtain⟨Y,q1,_⟩:=F.same h1 B (y:=x) (ps:=u.2) (by rw[←z];exact U);exact⟨_,q1,rfl⟩,λ⟨u,U,z⟩=>by obtain⟨Y,q1,_⟩:=B.same h2 F (y:=x) (ps:=u.2) (by rw[←z];exact U);exact⟨_,q1,rfl⟩⟩
 exact pL ((gq _).trans V) (qm (HH _))
theorem mO:∀ds:List D,dtL ds=ds.map dt
 |[]=>rfl
 |d::r=>by rw[dtL,mO r];rfl
theorem Oo(m m' k k':Mk)(L:List (List Str)):tG (.lst m (L.map (lvL k)))=ag/\Alk (dt (.lst m (L.map (lvL k)))) (dt (.lst m' (L.map (lvL k'))))/\eqD (dt (.lst m (L.map (lvL k)))) (dt (.lst m' (L.map (lvL k'))))=ag:=by
 have hd:∀k l,dt (lvL k l)= .lst (l.map λx=>dt (.str x)):=λk l=>by simp[lvL,dt,mO]
 have h1:∀l:List (List Str),mR (l.map (lvL k))=ag:=by
  intro l
  induction l with
  |nil=>rfl
  |cons x r I=>rw[Ys,mR,I];simp[lvL,tG,x_]
 have h2:∀k l,dt (.lst k (YK (lvL k) l))=dt (.lst m (YK (lvL m) l)):=λk l=>by simp[dt,mO,hd]
 have O:∀l:List Str,eqL (l.map λx=>dt (.str x)) (l.map λx=>dt (.str x))=ag:=by
  intro l
  induction l with
  |nil=>rfl
  |cons p r I=>simp![Ys,eqL,I,adk];simp[dt,eqD]
 refine⟨by rw[tG];exact h1 L,?_,?_⟩
 .simp![dt,mO,Yw]
  refine .deepL λp V=>?_;have:∀(L:List (List Str)) p,p∈(L.map (dt∘lvL k)).zip (L.map (dt∘lvL k'))->Sw p.1 p.2:=by
   intro L
   induction L with
   |nil=>intro p V;cases V
   |cons l r I=>
    intro p V;rw[Ys,Ys,ada]at V;rcases Yu.mp V with rfl|V
    .refine⟨_,_,hd k l,hd k' l,λq U=>?_⟩
     have:∀(l:List Str) q,q∈(l.map λx=>dt (.str x)).zip (l.map λx=>dt (.str x))->Sc q.1 q.2:=by
      intro l
      induction l with
      |nil=>intro q U;cases U
      |cons x t z=>
       intro q U;rw[Ys,ada]at U;rcases Yu.mp U with rfl|U
       .exact .str _ _
       .exact z q U
     exact this l q U
    .exact I p V
  exact this L p V
 .simp![dt,mO,eqD,Yw]
  induction L with
  |nil=>rfl
  |cons l r I=>
   simp![Ys,eqL,aat,hd,eqD,O,Bool.true_and];exact I
theorem Xu{m m' k k':Mk}(L:List (List Str)):gEq (.lst m (L.map (lvL k))) (.lst m' (L.map (lvL k')))=ac (.bl ag)/\gNe (.lst m (L.map (lvL k))) (.lst m' (L.map (lvL k')))=ac (.bl ae):=by
 obtain⟨h1,h2,Y⟩:=Oo m m' k k' L;have F:=(Oo m' m k' k L).1;constructor
 .unfold gEq;rw[YH ⟨h1,F,h2⟩,Y]
 .unfold gNe;rw[YH ⟨h1,F,h2⟩,Y];rfl
theorem VN:gNe .non .non=ac (.bl ae):=by
 unfold gNe;rw[YH ⟨rfl,rfl,.sc .non⟩];rfl
def VF:List Str:=rT++[("lone":Str)]
theorem KH:∀x∈VF,x.length<=8/\nmB x=ag:=by decide +kernel
def apN(l:List Str):List Str:=l++[("never":Str)]
theorem N8:∀(L:List (List Str))(done:List D)(ρ:En),8<ρ.length->(∀l∈L,l.length<=1000)->forM 8 (iK aX 8 (eV 8) (aj (eC (.str "never")) aA)) done (L.map (lvL .own)) (ρ.set 8 af)=ac (done++L.map λl=>lvL .own (apN l),ρ.set 8 af)
 |[],done,ρ,_,_=>by simp[forM]
 |l::r,done,ρ,hr,hl=>by
  have V:=hl l (by simp);have h1:aX (lvL .own l) [.str "never"]=ac (lvL .own (apN l),.non):=by
   simp[lvL,aX,apN];omega
  have h2:iK aX 8 (eV 8) (aj (eC (.str "never")) aA) ((ρ.set 8 af).set 8 (ac (lvL .own l)))=ac (.nx (ρ.set 8 (ac (lvL .own (apN l))))):=by
   simp[iK,m6,eV,aj,eC,aA,upS,d_,cY,hr,aB,aC,az,au,h1,aeW]
  have Y:bj (lvL .own (apN l))=ag:=by
   have q:∀l:List Str,aP (l.map D.str)=ag:=by
    intro l
    induction l with
    |nil=>rfl
    |cons p r I=>rw[Ys,aP,I];rfl
   simp[lvL,bj,q]
  have I:=N8 r (done++[lvL .own (apN l)]) ρ hr λl U=>hl l (by simp[U]);rw[Ys,forM,h2];simp![gD,Z_ hr,Y,Y6,aeW,I];simp
theorem Ku(q:JJ J js)(F:ps.length<=900)(B:∀p∈ps,Sd1 p):bh [J,.str a,.str b,pT ps,.non]=ac (.bl ae):=by
 have V:=jH ps;have O:=Df (a:=a) (b:=b) q F B;have z:aM bK [.non]=ac (.bl ae):=rfl;apply Wp.eq;simp_arith![bh,fnP];generalize aM cA=GW at O⊢;generalize aM bK=GL at z⊢;cases h1:st js b [a] a ps with
 |false=>
  rw[h1]at O;simp_arith[sEx,aR,bx,aU,q.v,V.2.2.1,O,truth]
 |true=>
  rw[h1]at O;refine a_ (λρ=>ρ=[ac J,ac (.str a),ac (.str b),ac (pT ps),ac .non,af,af]) 1.19 ?_
  .simp_arith[sEx,aR,bx,aU,q.v,V.2.2.1,O,truth]
   exact I _ rfl
  rintro _ rfl;simp_arith[sEx,aR,bx,aU,z,truth]
structure Us(js:List Jt)(ns:List Str)(a:Str)(us:List Uw):Prop where
 n:(ky us).Nodup
 l:Lst 1.12 a us
 i:∀x∈ky us,x∈ns
theorem RW(Y:a∈ns)(V:∀j∈js,j.1∈ns/\j.2.1∈ns)(w:Wk2 1.12 a ps y):y∈ns:=by
 cases w with
 |nil=>exact Y
 |snoc w U=>
  obtain⟨n,j,_,h2,z⟩:=(nq js _ js.length).mp U;have q:=V j (Y0 h2);rcases z with⟨_,rfl⟩|⟨_,rfl⟩
  .exact q.2
  .exact q.1
theorem Us.of(Y:a∈ns)(V:∀j∈js,j.1∈ns/\j.2.1∈ns)(h1:(ky us).Nodup)(h2:Lst 1.12 a us):Us js ns a us:=⟨h1,h2,λx F=>by
 obtain⟨u,hu,rfl⟩:=Yr.mp F;exact RW Y V (h2.1 u hu)⟩
theorem Us.len(h:Us js ns a us):us.length<=ns.length:=by
 have:=j4 h.n h.i;rwa[eU]at this
theorem Us.short(h:Us js ns a us)(V:(b,ps)∈us)(Y:a∈ns)(I:∀j∈js,j.1∈ns/\j.2.1∈ns):ps.length<ns.length/\∀p∈ps,Sd1 p:=by
 obtain⟨Z,hs⟩:=Dw (h.l.1 _ V);refine⟨?_,hs⟩;have h1:=((Hx (by simp)).mp (h.l.st h.n V)).2;have h2:∀x∈[a]++mt js ps,x∈ns:=λx F=>by
  obtain⟨k,O⟩:=abM F;have B:(a::mt js ps)[k]? =ac x:=O;have z:k<=ps.length:=by
   have:=(List.getElem?_eq_some_iff.mp B).1;simp[mt]at this;omega
  rw[vis Z k z]at B;exact RW Y I (JR B λq U=>hs q (abj U))
 have:=j4 h1 h2;simp[mt]at this;omega
def RlE(J:D)(a b:Str)(L:List (List Str))(F:D)(ps:List Pt)(z Y I q:Option D):En:=[ac J,ac (.str a),ac (.str b),ac 1.17,ac F,ac (pT ps),z,Y,I,q]
theorem Ms(Y:a∈ns)(U:b∈ns)(V:∀j∈js,j.1∈ns/\j.2.1∈ns)(Z:ns.length<64):(mK (a::b::ndl js)).length<64:=by
 have:=j4 (yL (a::b::ndl js)) (ns:=ns) λx F=>by
  rw[Bt]at F;rcases Yu.mp F with rfl|F
  .exact Y
  rcases Yu.mp F with rfl|F
  .exact U
  obtain⟨j,h1,h2⟩:=List.mem_flatMap.mp F;simp at h2;rcases h2 with rfl|rfl
  .exact(V j h1).1
  .exact(V j h1).2
 omega
theorem lvz(L:List (List Str)):fz 1.20= .lst .frz (L.map (lvL .frz))/\fz (.lst .brw (L.map (lvL .brw)))= .lst .frz (L.map (lvL .frz))/\az 1.17=ag/\au 1.17=ag/\fzL (L.map (lvL .own))=L.map (lvL .frz):=by
 have h1:fzL (L.map (lvL .own))=L.map (lvL .frz):=by rw[fX,Yw];exact YT λl _=>by simp[lvL,fz,jm,mkF]
 have h2:fzL (L.map (lvL .brw))=L.map (lvL .frz):=by rw[fX,Yw];exact YT λl _=>by simp[lvL,fz,jm,mkF]
 have Y:aB (L.map (lvL .frz))=ag:=cg (gB _ λl=>by simp[lvL,az,dq]);have F:aC (L.map (lvL .frz))=ag:=bL (gB _ λl=>by simp[lvL,au,bQ]);exact⟨by simp[fz,h1,mkF],by simp[fz,h2,mkF],by simp[az,Y],by simp[au,F],h1⟩
theorem QQ(Y:a∈ns)(U:b∈ns)(V:∀j∈js,j.1∈ns/\j.2.1∈ns)(Z:ns.length<=50)(g0:js.length<=200)(c4:∀x∈ns,x∈VF):cD [.lst .frz (js.map jD),.str a,.str b]=ac (.bl ag):=by
 have f5:=Ms Y U V 1.10;have g9:=Ms U Y V 1.10;obtain⟨dB,qB,ks,rfl,d3⟩:=Mh (JJ.lst js) 1.10;obtain⟨dL,qL,ws,rfl,c8,g5⟩:=Qd d3 qB Y V 1.10;have hW:Us js ns a ws:=.of Y V c8 g5;have hL:aM bI [.lst .frz (js.map jD),.str a]=ac (wM .own ws):=call_of (by simpa[fzL,fz,lR,mkF]using qL) (Ed ws);obtain⟨d1,d2⟩:=V5 (b:=b) c8 (by have:=hW.len;omega) hL;have b5:∀J,JJ J js->∀x y,x∈ns->y∈ns->∃O,Us js ns x O/\aM bu [J,.str x,.str y]=ac (wM .own O)/\(y∉ky O->aM aY [J,.str x,.str y]=ac .non)/\∀ps,(y,ps)∈O->aM aY [J,.str x,.str y]=ac (.lst .own ((lev O ps.length).map (lvL .own))):=λJ hJ x y hx hy=>by
  obtain⟨O,v1,v2,v3⟩:=V8 (a:=x) (b:=y) hJ g0 (Ms hx hy V 1.10);have hV:Us js ns x O:=.of hx V v1 v2;obtain⟨e1,e2⟩:=Ob (b:=y) hJ v1 (by have:=hV.len;omega) v3;refine⟨O,hV,v3,λh=>call_of (by simpa[fzL,fz,hJ.f]using e1 h) rfl,λps h=>call_of (by simpa[fzL,fz,hJ.f]using e2 ps h (by have:=(hV.short h hx V).1;omega)) (lvc _).2.2.1⟩
 have hJ:=JJ.lst js;have b4:=JJ.tup js;obtain⟨us,hU,vw,e3,f3⟩:=b5 _ hJ a b Y U;obtain⟨ts,hT,_,i3,f1⟩:=b5 _ b4 a b Y U;obtain⟨bs,b0,_,e9,f8⟩:=b5 _ hJ b a U Y;obtain⟨cs,g4,_,g6,i0⟩:=b5 _ b4 b a U Y;have a2:=hJ.v;have d8:eQ [.lst .frz (js.map jD)]=ac (.tup (js.map jD)):=rfl;apply Wp.eq;by_cases q:b∈ky us
 .obtain⟨⟨y,ps⟩,hps,e⟩:=Yr.mp q
  have e:y=b:=e;subst e;obtain⟨i2,c1⟩:=hU.short hps Y V;have a3:aM bW [.lst .frz (js.map jD),.str a,.str y]=ac (.lst .own ((lev us ps.length).map (lvL .own))):=by
   obtain⟨qs,q1,q2⟩:=hU.l.same hU.n hW.l hps;rw[DR hU.n hW.n hU.l hW.l,←q2];exact call_of (by simpa[fzL,fz,lR,mkF]using d2 qs q1 1.10) (lvc _).2.2.1
  have a4:=f3 ps hps;have a5:aM aY [.tup (js.map jD),.str a,.str y]=ac (.lst .own ((lev us ps.length).map (lvL .own))):=by
   obtain⟨qs,q1,q2⟩:=hU.l.same hU.n hT.l hps;rw[f1 qs q1,DR hT.n hU.n hT.l hU.l,q2]
  have b8:aM cH [.lst .frz (js.map jD),.str a,.str y]=ac (pT ps):=by
   obtain⟨d,e1,e2⟩:=Ye hJ vw;have:d=pT ps:=by
    rcases e2 with⟨qs,h1,rfl⟩|⟨h1,_⟩
    .rw[iB hU.n h1 hps]
    .exact absurd (Yr.mpr ⟨_,hps,rfl⟩) h1
   subst this;refine call_of (by simpa[fzL,fz,lR,mkF]using e1) ?_;have h2:∀l:List Pt,aP (l.map ptD)=ag:=by
    intro l
    induction l with
    |nil=>rfl
    |cons p r ih=>rw[Ys,aP,ih];rfl
   simp[pT,bj,h2]
  have a0:∀{O:List Uw}{x:Str}{m:Nat},Us js ns x O->∀l∈lev O m,(l.length<=1000/\∀x∈l,x.length<=1000)/\∀x∈l,x∈ns:=λ{O x m} h l Z=>by
   obtain⟨k,_,rfl⟩:=Yr.mp Z;have hm:∀z∈fU ((ky O).filter (dW O k)),z∈ns:=λz hz=>by
    obtain⟨qs,h3,_⟩:=pO.mp hz;exact h.i z (Yr.mpr ⟨_,h3,rfl⟩)
   refine⟨⟨?_,λz hz=>by have:=(KH z (c4 z (hm z hz))).1;omega⟩,hm⟩;rw[(gq _).length_eq];have:=acL (dW O k) (ky O);rw[eU]at this;have:=h.len;omega
  have d5:=LK hU.l hU.n hps λx hx=>(KH x (c4 x (hU.i x hx))).2;have a9:∀P,LL P (lev us ps.length)->aM bh [.lst .frz (js.map jD),.str a,.str y,pT ps,P]=ac (.bl ag):=λP hP=>by
   refine call_of ?_ rfl;simp![fzL,fz,mkF,lR,(jH ps).2.2.2.1,hP.f];rw[BZ hJ hP (by rw[gn];omega) (λl Z=>(a0 hU l Z).1) (λl Z=>(a0 hU l Z).2) 1.10 1.10 1.10 c1 ?_,d5];by_cases h0:ps.length=0
   .exact .inr (.inl (aaY.mp (by rw[gn];exact h0)))
   .exact .inr (.inr (by rw[(o8 hU.n (n:=0)).mpr ⟨by omega,[],hU.l.start,rfl⟩];rfl))
  obtain⟨bk,d6,g3,g8,b6⟩:∃bk,aM aY [.lst .frz (js.map jD),.str y,.str a]=ac bk/\(az bk=ag/\au bk=ag)/\au (view ae bk)=ag/\(0<ps.length->aM bh [.lst .frz (js.map jD),.str a,.str y,pT ps,view ae bk]=ac (.bl ae)):=by
   by_cases c9:a∈ky bs
   .obtain⟨⟨z,qs⟩,hqs,e⟩:=Yr.mp c9
    have e:z=a:=e;subst e;have a1:=lvc (lev bs qs.length);refine⟨_,f8 qs hqs,⟨a1.1,a1.2.1⟩,?_,λb7=>?_⟩
    .rw[a1.2.2.2]
     simp![au];rw[bL (gB _ λl=>by simp[lvL,au,bQ])];rfl
    .rw[a1.2.2.2]
     refine call_of ?_ rfl;simp![fzL,fz,mkF,lR,(jH ps).2.2.2.1];have hz:=(lvz (lev bs qs.length)).2.1;simp![fz,mkF]at hz;rw[hz];have f4:0<qs.length:=by
      rcases ac_ qs.length with h0|h0
      .exfalso
       have hq:qs=[]:=aaY.mp h0;have hg:=(Dw (b0.l.1 _ hqs)).1;rw[hq]at hg;have f7:y=z:=by simpa[go]using hg
       subst f7;have:=hU.l.start;rw[iB hU.n hps this]at b7;simp at b7
      .exact h0
     have b3:(fi (lev bs qs.length) y).isSome=ag:=by rw[(o8 b0.n (n:=0)).mpr ⟨f4,[],b0.l.start,rfl⟩];rfl
     rw[BZ hJ (LL.lst _) (by rw[gn];have:=(b0.short hqs U V).1;omega) (λl Z=>(a0 b0 l Z).1) (λl Z=>(a0 b0 l Z).2) 1.10 1.10 1.10 c1 (.inl b3),Ja b3]
   .exact⟨.non,e9 c9,⟨rfl,rfl⟩,rfl,λ_=>call_of (by simpa[fzL,fz,view,lR,mkF,(jH ps).2.2.2.1]using Ku (a:=a) (b:=y) hJ 1.10 c1) rfl⟩
  have d7:∀l∈lev us ps.length,l.length<=1000:=λl Z=>(a0 hU l Z).1.1;have f6:(lev us ps.length).length=ps.length:=gn;generalize lev us ps.length=L at a3 a4 a5 a9 d7 f6;have a1:=lvc L;have hz:=lvz L;have a7:=LL.lst L;have d4:=λm m' k k'=>Xu (m:=m) (m':=m') (k:=k) (k':=k') L;simp_arith![cD,fnP];generalize aM bW=G1 at a3⊢;generalize aM aY=G2 at a4 a5 d6⊢;generalize aM cH=G3 at b8⊢;generalize aM bh=G4 at a9 b6⊢;have c2:sJ 1.26=ag:=by simp[sJ,sE,oN]
  have g7:fz 1.26= .lst .frz (js.map jD):=hJ.f;have b1:az 1.26=ag/\au 1.26=ag:=⟨hJ.b,hJ.o⟩;generalize D.lst .frz (js.map jD)=J at *
  have vS:∀x:Str,view ae (D.str x)=D.str x:=λ_=>rfl;have c3:=jH ps;have d0:au (.lst .brw (L.map (lvL .brw)))=ag:=by
   simp![au];rw[bL (gB _ λl=>by simp[lvL,au,bQ])];rfl
  refine a_ (λρ=>ρ=[ac J,ac (.str a),ac (.str y),ac 1.20,af,af,af,af,af,af]) 1.19 ?_
  .simp[bN,eAp,aj,aA,ao,a2,vS,a3,tgN,clean,a1,bV,aL,aF,w_ite]
   exact I _ rfl
  rintro _ rfl;refine a_ (λρ=>ρ=[ac J,ac (.str a),ac (.str y),ac 1.17,ac 1.20,af,af,af,af,af]) 1.19 ?_
  .simp[sFz,iY,hz,bN,eAp,aj,aA,ao,a2,vS,a4,tgN,clean,a1,bV,aL,aF,w_ite]
   exact I _ rfl
  rintro _ rfl;refine a_ (λρ=>ρ=[ac J,ac (.str a),ac (.str y),ac 1.17,ac 1.20,af,af,af,af,af]) 1.19 ?_
  .simp[sIf,eB,e2,ao,a1,a7.v,d4,isB,aL,aF,w_ite,dg]
   exact I _ rfl
  rintro _ rfl;refine a_ (λρ=>ρ=[ac J,ac (.str a),ac (.str y),ac 1.17,ac 1.20,af,af,af,af,af]) 1.19 ?_
  .simp[sIf,eB,e2,ao,eC,a7.v,gIs,j9,isB,aL,aF,w_ite,dg]
   exact I _ rfl
  rintro _ rfl;have c5:∃l,bU [af] (itS (ao ae 4)) (tpN 0) eTT (eAp cR (aj (ao ae 0) (aj (eC (.ty "list")) aA))) [ac J,ac (.str a),ac (.str y),ac 1.17,ac 1.20,af,af,af,af,af]=ac (.lst .own l)/\kY [.lst .own l]=ac (.bl ag):=by
   have h5:gM (L.map (lvL .brw))=L.map (lvL .brw):=by rw[fL,Yw];exact YT λl _=>by simp[lvL,fzo,il,mkO]
   have e6:f9 (tpN 0) eTT (eAp cR (aj (ao ae 0) (aj (eC (.ty "list")) aA))) (dI [af] [ac J,ac (.str a),ac (.str y),ac 1.17,ac 1.20,af,af,af,af,af]) (L.map (lvL .brw))=ac (((L.map (lvL .brw)).filter λ_=>ag).map λ_=>.bl ag):=by
    refine fO λd hd=>?_;obtain⟨l,_,rfl⟩:=Yr.mp hd;have B:view ae (lvL .brw l)=lvL .brw l:=by simp[lvL,view,dX,mkV]
    have hi:cR [lvL .brw l,.ty "list"]=ac (.bl ag):=rfl;have a8:au (lvL .brw l)=ag:=by simp[lvL,au,bQ]
    simp[dI,tpN,aF,eTT,eAp,aj,aA,ao,eC,B,hi,a8]
   have e7:=lw (λ_:List Str=>ag) L;refine⟨L.map λ_=>.bl ag,?_,?_⟩
   .simp![bU,itS,ao,YJ,YL,a1.2.2.2,dw,h5,gD,Yt]
    rw[YH 1.10,e6,filter_tt,Yw];rfl
   .simp[kY,e7]
  obtain⟨l5,c5,c6⟩:=c5;refine a_ (λρ=>ρ=[ac J,ac (.str a),ac (.str y),ac 1.17,ac 1.20,af,af,af,af,af]) 1.19 ?_
  .generalize bU [af] (itS (ao ae 4)) (tpN 0) eTT (eAp cR (aj (ao ae 0) (aj (eC (.ty "list")) aA)))=E at c5⊢
   have hi:cR [.lst .brw (L.map (lvL .brw)),.ty "list"]=ac (.bl ag):=rfl;simp[sIf,eOr,qN,mz,eAp,aj,aA,ao,eC,a1,hi,d0,c5,c6,truth,bV,aL,aF,w_ite,dg];exact I _ rfl
  rintro _ rfl;refine a_ (λρ=>ρ=RlE J a y L 1.20 ps af af af af) 1.19 ?_
  .simp[bN,eAp,aj,aA,ao,a2,vS,b8,tgN,clean,c3,bV,aL,aF,w_ite]
   exact I _ rfl
  rintro _ rfl;have c7:bU [af] (itS (ao ae 3)) (tpN 0) eTT (eAp eQ 1.25) (RlE J a y L 1.20 ps af af af af)=ac (.lst .own (L.map lvT)):=by
   have h5:gM (L.map (lvL .frz))=L.map (lvL .frz):=by rw[fL,Yw];exact YT λl _=>by simp[lvL,fzo,il,mkO]
   have e6:f9 (tpN 0) eTT (eAp eQ 1.25) (dI [af] (RlE J a y L 1.20 ps af af af af)) (L.map (lvL .frz))=ac (((L.map (lvL .frz)).filter λ_=>ag).map λd=>match d with|.lst _ ds=>.tup ds|_=>.non):=by
    refine fO λd hd=>?_;obtain⟨l,_,rfl⟩:=Yr.mp hd;have B:view ae (lvL .frz l)=lvL .frz l:=(SS.lst l).v ae;have hi:eQ [lvL .frz l]=ac (lvT l):=rfl;have a8:au (lvL .frz l)=ag:=(SS.lst l).o;simp[dI,tpN,aF,eTT,eAp,aj,aA,ao,B,hi,a8];rfl
   simp![bU,itS,ao,RlE,YJ,YL,a7.v,dw,h5,gD,Yt];rw[YH 1.10];rw[show dI [af] [ac J,ac (.str a),ac (.str y),ac 1.17,ac 1.20,ac (pT ps),af,af,af,af]=dI [af] (RlE J a y L 1.20 ps af af af af)from rfl,e6,filter_tt,Yw];rfl
  have b9:=LL.tup L;have a6:az (.tup (L.map lvT))=ag/\au (.tup (L.map lvT))=ag/\bj (.tup (L.map lvT))=ag:=by
   have h3:aB (L.map lvT)=ag:=cg (gB _ λl=>(SS.tup l).b);have h4:aC (L.map lvT)=ag:=bL (gB _ λl=>(SS.tup l).o);have h6:∀l:List Str,aP (l.map D.str)=ag:=by
    intro l
    induction l with
    |nil=>rfl
    |cons p r ih=>rw[Ys,aP,ih];rfl
   have h7:∀L:List (List Str),aP (L.map lvT)=ag:=by
    intro L
    induction L with
    |nil=>rfl
    |cons p r ih=>rw[Ys,aP,ih];simp[lvT,bj,h6]
   exact⟨by simp[az,h3],by simp[au,h4],by simp[bj,h7]⟩
  refine a_ (λρ=>ρ=RlE J a y L 1.20 ps (ac (.tup (L.map lvT))) af af af) 1.19 ?_
  .generalize bU [af] (itS (ao ae 3)) (tpN 0) eTT (eAp eQ 1.25)=E at c7⊢
   have a8:au (.lst .own (L.map lvT))=ag:=by simpa[au]using a6.2.1
   simp[bN,eAp,aj,aA,c7,eQ,a8,tgN,clean,a6,bV,aL,aF,w_ite];exact I _ (by simp[RlE])
  rintro _ rfl;refine a_ (λρ=>∃x6 x7,ρ=RlE J a y L 1.20 ps x6 x7 af af) 1.19 ?_
  .have hit:itS (eAp bH (aj (ao ae 4) (aj (ao ae 6) aA))) (RlE J a y L 1.17 ps (ac (.tup (L.map lvT))) af af af)=ac (ag,[.lst .frz (L.map (lvL .frz)),.tup (L.map lvT)]):=by
    have h5:gM (L.map (lvL .frz))=L.map (lvL .frz):=by rw[fL,Yw];exact YT λl _=>by simp[lvL,fzo,il,mkO]
    have h6:gM (L.map lvT)=L.map lvT:=by rw[fL,Yw];exact YT λl _=>by simp[lvT,fzo,il]
    have h7:=hz.2.2.1;have h8:=hz.2.2.2.1;simp[itS,eAp,aj,aA,ao,RlE,a7.v,b9.v,bH,h7,h8,a6,dw,clean,aB,aC,gM];refine⟨?_,by simp[fzo,h5,mkO],by simp[fzo,h6]⟩;rw[az,au,aB,aB,aB,aC,aC,aC,h7,h8,a6.1,a6.2.1];exact⟨rfl,rfl⟩
   have b2:∀P x,LL P L->au P=ag->sIf 1.27 (cI (eC (.bl ae))) dg (RlE J a y L 1.17 ps x (ac P) af af)=ac (.nx (RlE J a y L 1.17 ps x (ac P) af af)):=λP x hP a8=>by
    simp[sIf,eB,e2,eAp,aj,aA,ao,eC,RlE,a2,vS,c3,hP.v,a8,b1,au,a9 P hP,iU,isB,dg]
   have d9:∀P x x7,az P=ag->au P=ag->tgN 7 P (RlE J a y L 1.17 ps x x7 af af)=ac (RlE J a y L 1.17 ps x (ac P) af af):=λP x x7 h1 h2=>by
    simp[tgN,clean,h1,h2,RlE]
   have q:gO (itS (eAp bH (aj (ao ae 4) (aj (ao ae 6) aA)))) (tgN 7) (sIf 1.27 (cI (eC (.bl ae))) dg) (RlE J a y L 1.17 ps (ac (.tup (L.map lvT))) af af af)=ac (.nx (RlE J a y L 1.17 ps (ac (.tup (L.map lvT))) (ac (.tup (L.map lvT))) af af)):=by
    unfold gO;rw[hit];simp![gD,Y6,forL,d9 _ _ _ hz.2.2.1 hz.2.2.2.1,b2 _ _ a7 hz.2.2.2.1,d9 _ _ _ a6.1 a6.2.1,b2 _ _ b9 a6.2.1]
   have c0:aP (L.map (lvL .own))=ag:=by have:=a1.2.2.1;simpa[bj]using this
   have f0:sJ 1.17=ag:=by
    have h7:=hz.2.2.1;have h8:=hz.2.2.2.1;simp[az]at h7;simp[au]at h8;simp[sJ,h7,h8]
   have e0:bj (pT ps)=ag:=by
    have h2:∀l:List Pt,aP (l.map ptD)=ag:=by
     intro l
     induction l with
     |nil=>rfl
     |cons p r ih=>rw[Ys,aP,ih];rfl
    simp[pT,bj,h2]
   have h9:rF 4 [0,3] (gO (itS (eAp bH (aj (ao ae 4) (aj (ao ae 6) aA)))) (tgN 7) (sIf 1.27 (cI (eC (.bl ae))) dg)) (RlE J a y L 1.20 ps (ac (.tup (L.map lvT))) af af af)=ac (.nx (RlE J a y L 1.20 ps (ac (.tup (L.map lvT))) (ac (.tup (L.map lvT))) af af)):=by
    generalize gO (itS (eAp bH (aj (ao ae 4) (aj (ao ae 6) aA)))) (tgN 7) (sIf 1.27 (cI (eC (.bl ae))) dg)=FF at q⊢;simp![RlE]at q⊢;simp![rF,YJ,YL];refine(YH ⟨c0,by simp[Aa,c2,f0],by decide⟩).trans ?_;simp![Ze,Zq,hz.2.2.2.2,q,gD,Yy,YX,Y6];have e8:aP (L.map lvT)=ag:=by have:=a6.2.2;simpa[bj]using this
    simp[pJ,Ke,bj,e0,e8]
   rw[h9,aF];exact I _ ⟨_,_,rfl⟩
  rintro _ ⟨x6,x7,rfl⟩;refine a_ (λρ=>∃L2:List (List Str),L2.length<=1000/\ρ=RlE J a y L (.lst .own (L2.map (lvL .own))) ps x6 x7 af af) 1.19 ?_
  .have hfm:=N8 L [] [ac J,ac (.str a),ac (.str y),ac 1.17,af,ac (pT ps),x6,x7,af,af] (by simp) d7
   have c0:aP (L.map (lvL .own))=ag:=by have:=a1.2.2.1;simpa[bj]using this
   have e5:xG 4 8 (iK aX 8 (eV 8) (aj (eC (.str "never")) aA)) (RlE J a y L 1.20 ps x6 x7 af af)=ac (.nx (RlE J a y L (.lst .own ((L.map apN).map (lvL .own))) ps x6 x7 af af)):=by
    simp![xG,RlE,YJ,YL];refine(YH ⟨by decide,c0,by simp⟩).trans ?_;simp![Ze,Zq]at hfm⊢;rw[hfm,Yw];rfl
   rw[e5,aF];exact I _ ⟨L.map apN,by rw[Yt];omega,rfl⟩
  rintro _ ⟨L2,i1,rfl⟩;refine a_ (λρ=>∃F,ρ=RlE J a y L F ps x6 x7 af af) 1.19 ?_
  .simp[iK,m6,eV,aj,eAp,aA,bY,RlE,upS,d_,cY,aB,aC,az,au,aX,bV,aL,aF,w_ite]
   rw[YH 1.10];exact I _ ⟨_,rfl⟩
  rintro _ ⟨F,rfl⟩;refine a_ (λρ=>ρ=RlE J a y L F ps x6 x7 af (ac bk)) 1.19 ?_
  .simp[bN,eAp,aj,aA,ao,RlE,a2,vS,d6,tgN,clean,g3,bV,aL,aF,w_ite]
   exact I _ rfl
  rintro _ rfl;refine a_ (λρ=>ρ=RlE J a y L F ps x6 x7 af (ac bk)) 1.19 ?_
  .have hgl:bT [.lst .frz (L.map (lvL .frz))]=ac (.int L.length):=a7.l
   by_cases h0:0<ps.length
   .have h0':(0:Int)<L.length:=by omega
    have e4:=b6 h0;generalize (L.length:Int)=Li at hgl h0';simp[sIf,oh,eB,e2,ao,eAp,aj,aA,eC,RlE,a7.v,hz,hgl,gGt,h0',a2,vS,c3,g8,b1,e4,iU,au,isB,bV,aL,aF,w_ite,dg];exact I _ rfl
   .have h0':¬(0:Int)<L.length:=by omega
    generalize (L.length:Int)=Li at hgl h0';simp[sIf,oh,eB,e2,ao,eAp,aj,aA,eC,RlE,a7.v,hz,hgl,gGt,h0',isB,bV,aL,aF,w_ite,dg];exact I _ rfl
  rintro _ rfl;simp[cI,e2,ao,eAp,aj,aA,RlE,a7.v,a2,b1,vS,d8,a5,d4,au,clean,az,bV,aL,aF,w_ite]
 .have hd0:b∉ky ws:=λz=>by
   obtain⟨⟨y,ps⟩,hu,e⟩:=Yr.mp z;have e:y=b:=e;subst e;obtain⟨qs,q1,_⟩:=hW.l.same hW.n hU.l hu;exact q (Yr.mpr ⟨_,q1,rfl⟩)
  have a3:aM bW [.lst .frz (js.map jD),.str a,.str b]=ac .non:=call_of (by simpa[fzL,fz,lR,mkF]using d1 hd0) rfl;have a4:=e3 q;have a5:aM aY [.tup (js.map jD),.str b,.str a]=ac .non:=g6 λz=>by
   obtain⟨⟨x,qs⟩,hu,e⟩:=Yr.mp z;have e:x=a:=e;subst e;obtain⟨hg,hs⟩:=Dw (g4.l.1 _ hu);obtain⟨ps,g1,g2⟩:=GJ hg hs;exact q (hU.l.has g1 g2)
  simp_arith![cD,fnP];have b1:az (.tup (js.map jD))=ag/\au (.tup (js.map jD))=ag:=⟨b4.b,b4.o⟩;have f2:au 1.26=ag:=hJ.o;have vS:∀x:Str,view ae (D.str x)=D.str x:=λ_=>rfl;generalize aM bW=G1 at a3⊢;generalize aM aY=G2 at a4 a5⊢;generalize D.lst .frz (js.map jD)=J at *
  generalize D.tup (js.map jD)=T at *
  refine a_ (λρ=>ρ=[ac J,ac (.str a),ac (.str b),ac .non,af,af,af,af,af,af]) 1.19 ?_
  .simp[bN,eAp,aj,aA,ao,a2,vS,a3,tgN,clean,az,au,bV,aL,aF,w_ite]
   exact I _ rfl
  rintro _ rfl;refine a_ (λρ=>ρ=[ac J,ac (.str a),ac (.str b),ac .non,ac .non,af,af,af,af,af]) 1.19 ?_
  .simp[sFz,iY,fz,bN,eAp,aj,aA,ao,a2,vS,a4,tgN,clean,az,au,bV,aL,aF,w_ite]
   exact I _ rfl
  rintro _ rfl;refine a_ (λρ=>ρ=[ac J,ac (.str a),ac (.str b),ac .non,ac .non,af,af,af,af,af]) 1.19 ?_
  .simp[sIf,eB,e2,ao,view,VN,isB,aL,aF,w_ite,dg]
   exact I _ rfl
  rintro _ rfl;simp_arith[sEx,aR,bx,aU,gIs,j9,a2,f2,b1,d8,a5]
def LgE(s d:D)(q B F V z Y:Option D):En:=[ac s,ac d,q,B,F,V,z,Y]
def LgI(s:D)(k:Nat)(ρ:En):Prop:=∃(d:D)(q B F V z Y:Option D),ρ=LgE s d q B F V z Y/\Sd (1+2000*k) d
def LgJ(s:D)(n:Int)(q N J:D)(k:Nat)(ρ:En):Prop:=∃(d:D)(V z Y:Option D),ρ=LgE s d (ac q) (ac N) (ac J) V z Y/\Sd (n+3*k) d
theorem Vj(l:List Jt):aP (l.map jD)=ag:=by
 induction l with
 |nil=>rfl
 |cons p r I=>rw[Ys,aP,I];rfl
theorem Nu(h:Sd n d):bj d=ag:=by
 obtain⟨q,t,rfl,_⟩:=h;have:∀l:List Int,aP (l.map D.int)=ag:=by
  intro l
  induction l with
  |nil=>rfl
  |cons p r I=>rw[Ys,aP,I];rfl
 simp[bj,aP,this]
theorem NB(ns:List Int)(h:ns.length<=63):jt [.lst .scr (ns.map D.int)]=ac (.bl ag):=by
 obtain⟨d0,a8,s0⟩:=PB h;have b1:fzL (ns.map D.int)=ns.map D.int:=by rw[fX,Yw];rfl
 have a2:aM cV [.lst .scr (ns.map D.int)]=ac d0:=call_of (by simpa[fzL,fz,mkF,b1]using a8) (Nu s0);have a7:view ae (D.lst .scr (ns.map D.int))=D.lst .scr (ns.map D.int):=by simp[view,nP,mkV]
 have W:Wp (jt [.lst .scr (ns.map D.int)]) λd=>d= .bl ag:=by
  generalize D.lst .scr (ns.map D.int)=S at a2 a7⊢;simp_arith![jt,fnP];refine a_ (λρ=>ρ=LgE S d0 af af af af af af) 1.19 ?_
  .generalize aM cV=GB at a2⊢
   simp[bN,eAp,aj,aA,ao,a7,a2,tgN,clean,bV,aL,aF,w_ite,s0.cl];exact I _ rfl
  rintro _ rfl;refine a_ (λρ=>True) 1.19 ?_
  .simp[uO,vp,fu,ee2,eUp,eIo,gF,aj,eC,aA,LgE,objs,aL,aF,bV,w_ite,aC,au,aB,az,fzL,fz]
   refine h_ s0 1.10 1.10 1.10 λr1 d1 p1 q1 Z=>?_;simp[lO,fQ,aL,uM,aF,bV,w_ite,aC,au,aB,az];refine⟨by omega,iQ (LgI S) ⟨d1,_,_,_,_,_,_,rfl,Z.le 1.10⟩ ?_ (λρ h=>I _ trivial)⟩;rintro k x ρ O ⟨d2,x2,x3,x4,x5,x6,x7,rfl,s2⟩;obtain⟨b5,rfl⟩:=uC O;have b7:k<=1:=by omega
   simp![tgN,clean,az,au,aam,Y6,aF,LgE,Ze,Zq];refine a_ (λρ=>∃(B:List Str)(d':D),(∀x∈B,x∈rT)/\B.length<=14/\Sd (1+2000*k+4) d'/\ρ=LgE S d' (ac (.int k)) (ac (.lst .own (B.map D.str))) x4 x5 x6 x7) 1.19 ?_
   .simp_arith[sEx,aR,bx,aU]
    refine(QK s2 1.10).mono ?_;rintro _ ⟨B,d3,rfl,h1,_,h3,s3⟩;simp_arith[sEx,aR,bx,aU,dq,bQ];exact I _ ⟨B,d3,h1,h3,s3,rfl⟩
   rintro _ ⟨B,d3,b3,b4,s3,rfl⟩;refine a_ (λρ=>∃(js:List Jt)(d':D),(∀j∈js,j.1∈B/\j.2.1∈B)/\js.length<=28/\Sd (1+2000*k+1004) d'/\ρ=LgE S d' (ac (.int k)) (ac (.lst .own (B.map D.str))) (ac (.lst .own (js.map jD))) x5 x6 x7) 1.19 ?_
   .simp_arith[sEx,aR,bx,aU,LgE,dX,jm,bQ,dq]
    refine(Fp s3 1.10 b4).mono ?_;rintro _ ⟨js,d4,rfl,h1,h2,s4⟩;simp_arith[sEx,aR,bx,aU,sE,oN,bj,aP,Nu s4,Vj];exact I _ ⟨js,d4,h1,by omega,s4.le 1.10,rfl⟩
   rintro _ ⟨js,d4,a4,b6,s4,rfl⟩;have b2:iY 4 (LgE S d4 (ac (.int k)) (ac (.lst .own (B.map D.str))) (ac (.lst .own (js.map jD))) x5 x6 x7)=ac (LgE S d4 (ac (.int k)) (ac (.lst .own (B.map D.str))) (ac 1.26) x5 x6 x7):=by simp[iY,LgE,fz,lR,mkF]
   have a9:iY 3 (LgE S d4 (ac (.int k)) (ac (.lst .own (B.map D.str))) (ac 1.26) x5 x6 x7)=ac (LgE S d4 (ac (.int k)) (ac (.lst .frz (B.map D.str))) (ac 1.26) x5 x6 x7):=by simp[iY,LgE,fz,jm,mkF]
   have b0:ug (aj (eC (.int 5)) aA) (LgE S d4 (ac (.int k)) (ac (.lst .frz (B.map D.str))) (ac 1.26) x5 x6 x7)=ac (ag,jk 0 5):=MF (n:=5) rfl 1.10;unfold sFz;rw[b2,gD,a9,gD];unfold gO;rw[b0];simp![aL,aF];have a6:=(SS.lst B).v;have a5:=(SS.lst B).f;have a3:az (.lst .frz (B.map D.str))=ag/\au (.lst .frz (B.map D.str))=ag:=⟨(SS.lst B).b,(SS.lst B).o⟩;have hJ:=JJ.lst js;have a0:∀a b,a∈B++[("lone":Str)]->b∈B++[("lone":Str)]->aM cD [.lst .frz (js.map jD),.str a,.str b]=ac (.bl ag):=λa b Y U=>by
    refine call_of ?_ rfl;have:=QQ Y U (λj V=>⟨Yv _ (a4 j V).1,Yv _ (a4 j V).2⟩) (by simp;omega) 1.10 λx F=>(Yl.mp F).elim (λz=>Yv _ (b3 x z)) λz=>Yn _ z;simpa[fzL,fz,lR,mkF]using this
   generalize aM cD=GR at a0⊢;refine iQ (LgJ S (1+2000*k+1004) (.int k) (.lst .frz (B.map D.str)) 1.26) ⟨d4,_,_,_,rfl,by simpa using s4⟩ ?_ ?_
   .rintro i x ρ hi ⟨d6,y5,y6,y7,rfl,s6⟩
    obtain⟨b8,rfl⟩:=uC hi;have a1:Wp (e_ [d6,.lst .frz (B.map D.str)]) (λq=>∃(a b:Str)(d':D),q=(.tup [.str a,.str b],[d',.lst .frz (B.map D.str)])/\(a∈B++[("lone":Str)]/\b∈B++[("lone":Str)])/\Sd (1+2000*k+1004+3*i+3) d'):=(Xw s6 1.10 1.10).mono (by rintro _ ⟨a,b,d',rfl,Y,U,s⟩;exact⟨a,b,d',rfl,⟨Y,U⟩,s⟩);generalize D.lst .frz (B.map D.str)=N at a6 a5 a3 a1⊢;generalize D.lst .frz (js.map jD)=J at hJ a0⊢;simp![tgN,clean,az,au,aam,Y6,aF,LgE,Ze,Zq];refine a_ (λρ=>∃(a b:Str)(d':D),(a∈B++[("lone":Str)]/\b∈B++[("lone":Str)])/\Sd (1+2000*k+1004+3*i+3) d'/\ρ=LgE S d' (ac (.int k)) (ac N) (ac J) (ac (.int i)) (ac (.str a)) (ac (.str b))) 1.19 ?_
    .simp_arith[sEx,aR,bx,aU,a6,a5,a3]
     refine a1.mono ?_;rintro _ ⟨a,b,d7,rfl,Y,s7⟩;simp_arith[sEx,aR,bx,aU];exact I _ ⟨a,b,d7,Y,s7,rfl⟩
    rintro _ ⟨a,b,d7,Y,s7,rfl⟩;simp[sIf,qN,mz,eAp,aj,aA,ao,LgE,hJ.v,hJ.o,au,view,a0 a b Y.1 Y.2,truth,bV,aL,aF,w_ite,dg];exact⟨d7,_,_,_,rfl,s7.le (by push_cast;omega)⟩
   .rintro ρ ⟨d6,y5,y6,y7,rfl,s6⟩
    rw[Ax]at s6;exact⟨d6,_,_,_,_,_,_,rfl,s6.le (by push_cast;omega)⟩
  rintro ρ _;simp[cI,eC,aL,bV,aF,w_ite,clean,az,au]
 obtain⟨_,e,rfl⟩:=W;exact e
section
variable{P:Program}{w:World}{K:PySem.W.Frag}{mg:Str->Option Value}{base:Heap}{x qual:Str}{st:Stmt}{f:Addr}{fd:FuncData}{N ps:List Str}{body:En->Option Fl}
theorem qP(k:Nat)(ob:Nat->Bool)(F:Fun K x qual st f fd)(S:bA N ps (aH st))
 (U:(∀_:Unit,N.Nodup)->∀(cdv:Value)(A:Zx)(outer:List Env)(s:Ym)(H:Hp)(E:XK),jh k (A.deeper (abS qual (aH st) s.heap.objs.size f cdv))->j6 (λ_:Unit=>(wR CX0 P w K mg base N qual (aH st) f cdv A outer s H E).nox) ⟨K,mg⟩ ob (λ_=>ae) (ie st) body) :
 dJ P w K mg base CX0 (k+1) f fd ps (spP ⟨K,mg⟩ (fnP ps.length N.length body)):=okP F S (U λ_=>S.nd)
theorem qI(k:Nat)(ob pr:Nat->Bool)(F:Fun K x qual st f fd)(S:bA N ps (aH st))
 (U:(∀_:Unit,N.Nodup)->∀(cdv:Value)(A:Zx)(outer:List Env)(s:Ym)(H:Hp)(E:XK),jh k (A.deeper (abS qual (aH st) s.heap.objs.size f cdv))->j6 (λ_:Unit=>(wR CX0 P w K mg base N qual (aH st) f cdv A outer s H E).nox) ⟨K,mg⟩ ob pr (ie st) body) :
 dJ P w K mg base CX0 (k+1) f fd ps (spI ⟨K,mg⟩ ob pr (fnI pr ps.length N.length body)):=okI F S (U λ_=>S.nd)
end
def top(i:Nat):Stmt:=aeJ.main.body.getD i (.Pass ⟨0,0,0,0⟩)
abbrev sF(n:List (Str×PySem.NameKind)):PySem.Scope:={kind:=.function,names:=n,isGenerator:=ae,isCoroutine:=ae}
local macro_rules
 |`(tactic|trivial)=>`(tactic|first|exact⟨rfl,by decide +kernel,by decide +kernel,by decide +kernel,rfl,by decide +kernel⟩|exact⟨rfl,rfl,rfl,by decide +kernel,rfl,by decide +kernel,by decide +kernel⟩)
open PySem.W (Frag nsIn fnOf keepIn codeIn mg_of mg_none_of)
abbrev nl0:List Str:=["thing"]
abbrev nl1:List Str:=["joinings","one","other"]
abbrev nl2:List Str:=["_law_script"]
abbrev nl3:List Str:=["_law_state","_law_names_here"]
abbrev nl4:List Str:=["_law_joinings_here","_law_one","_law_other"]
abbrev nl5:List Str:=["joinings","way"]
abbrev nl6:List Str:=["joinings","one","other","way"]
abbrev nl7:List Str:=["_law_level"]
abbrev nl8:List Str:=["_law_state","_law_many"]
abbrev nl9:List Str:=["_law_state","_law_names_here","_law_spots","_law_found","_law_turn","_law_k","_law_j","_law_step","_law_way","_law_one","_law_other"]
abbrev T9:List Str:=["_law_joinings_here"]
abbrev Sv:List Str:=["_law_joinings_here","_law_start"]
abbrev Va:List Str:=["_law_level","_law_ways"]
noncomputable abbrev T8:List Str:=["leading","start"]
abbrev Sh:List Str:=["names","joinings"]
abbrev Vk:List Str:=["joining","side"]
abbrev Uz:List Str:=["joinings","name","way"]
abbrev U0:List Str:=["joinings","one","other","way","levels","many","places"]
abbrev TQ:List Str:=["joinings","one","other","way","levels"]
abbrev Vr:List Str:=["_law_joinings_here","_law_one","_law_other","_law_due_here","_law_found","_law_way","_law_as_tuples","_law_paper","_law_level","_law_back"]
abbrev We:List Str:=["_law_joinings_here","_law_one","_law_other","_law_ways","_law_many"]
abbrev V0:List Str:=["_law_name","_law_level","_law_ways"]
abbrev Xk:List Str:=["names","joinings","leading","number","one","other","step"]
abbrev VP:List Str:=["joinings","one","other","ways","levels","name","away"]
abbrev W9:List Str:=["begin","end","step","many","places"]
abbrev ob0:Nat->Bool:=λi=>i==0
abbrev jX(P:Y7)(w:World)(K:Frag)(mg:Str->Option Value)(base:Heap):Prop:=Cal P w K mg base 1 "_law_take" nl8 (spI ⟨K,mg⟩ ob0 ob0 aN)
abbrev wQ(P:Y7)(w:World)(K:Frag)(mg:Str->Option Value)(base:Heap):Prop:=Cal P w K mg base 1 "_law_beside" T9 (spP ⟨K,mg⟩ cM)
abbrev qg(P:Y7)(w:World)(K:Frag)(mg:Str->Option Value)(base:Heap):Prop:=Cal P w K mg base 2 "_law_least_ways" Sv (spP ⟨K,mg⟩ bI)
abbrev FQ(P:Y7)(w:World)(K:Frag)(mg:Str->Option Value)(base:Heap):Prop:=Cal P w K mg base 1 "ends" Vk (spP ⟨K,mg⟩ b8)
abbrev Dp(P:Y7)(w:World)(K:Frag)(mg:Str->Option Value)(base:Heap):Prop:=Cal P w K mg base 1 "ways_from" T8 (spP ⟨K,mg⟩ dM)
abbrev u9(P:Y7)(w:World)(K:Frag)(mg:Str->Option Value)(base:Heap):Prop:=Cal P w K mg base 1 "ends_by_name" Sh (spP ⟨K,mg⟩ cO)
abbrev yM(P:Y7)(w:World)(K:Frag)(mg:Str->Option Value)(base:Heap):Prop:=Cal P w K mg base 2 "names_with" nl1 (spP ⟨K,mg⟩ dh)
abbrev oH(P:Y7)(w:World)(K:Frag)(mg:Str->Option Value)(base:Heap):Prop:=Cal P w K mg base 3 "fewest_ways" nl1 (spP ⟨K,mg⟩ bu)
abbrev BP(P:Y7)(w:World)(K:Frag)(mg:Str->Option Value)(base:Heap):Prop:=Cal P w K mg base 1 "is_couple" nl0 (spP ⟨K,mg⟩ dO)
abbrev DY(P:Y7)(w:World)(K:Frag)(mg:Str->Option Value)(base:Heap):Prop:=Cal P w K mg base 1 "is_number" nl0 (spP ⟨K,mg⟩ cU)
abbrev JB(P:Y7)(w:World)(K:Frag)(mg:Str->Option Value)(base:Heap):Prop:=Cal P w K mg base 2 "is_pair" nl0 (spP ⟨K,mg⟩ cL)
abbrev Av(P:Y7)(w:World)(K:Frag)(mg:Str->Option Value)(base:Heap):Prop:=Cal P w K mg base 1 "are_unlike" ["things"] (spP ⟨K,mg⟩ du)
abbrev Mi(P:Y7)(w:World)(K:Frag)(mg:Str->Option Value)(base:Heap):Prop:=Cal P w K mg base 3 "is_way" nl0 (spP ⟨K,mg⟩ fP)
abbrev Wc(P:Y7)(w:World)(K:Frag)(mg:Str->Option Value)(base:Heap):Prop:=Cal P w K mg base 2 "led" Uz (spP ⟨K,mg⟩ gH)
abbrev Dv(P:Y7)(w:World)(K:Frag)(mg:Str->Option Value)(base:Heap):Prop:=Cal P w K mg base 2 "names_met" nl5 (spP ⟨K,mg⟩ dN)
abbrev sS(P:Y7)(w:World)(K:Frag)(mg:Str->Option Value)(base:Heap):Prop:=Cal P w K mg base 1 "is_listed" nl0 (spP ⟨K,mg⟩ bK)
abbrev JF(P:Y7)(w:World)(K:Frag)(mg:Str->Option Value)(base:Heap):Prop:=Cal P w K mg base 1 "is_name" nl0 (spP ⟨K,mg⟩ cJ)
abbrev wg(P:Y7)(w:World)(K:Frag)(mg:Str->Option Value)(base:Heap):Prop:=Cal P w K mg base 1 "first_places" ["levels"] (spP ⟨K,mg⟩ bO)
abbrev Dd(P:Y7)(w:World)(K:Frag)(mg:Str->Option Value)(base:Heap):Prop:=Cal P w K mg base 4 "shows_way" nl6 (spP ⟨K,mg⟩ cA)
abbrev Cv(P:Y7)(w:World)(K:Frag)(mg:Str->Option Value)(base:Heap):Prop:=Cal P w K mg base 2 "are_names" nl0 (spP ⟨K,mg⟩ bJ)
abbrev Ep(P:Y7)(w:World)(K:Frag)(mg:Str->Option Value)(base:Heap):Prop:=Cal P w K mg base 3 "_law_due" nl4 (spP ⟨K,mg⟩ bW)
abbrev Ce(P:Y7)(w:World)(K:Frag)(mg:Str->Option Value)(base:Heap):Prop:=Cal P w K mg base 4 "levels_of" nl1 (spP ⟨K,mg⟩ aY)
abbrev zy(P:Y7)(w:World)(K:Frag)(mg:Str->Option Value)(base:Heap):Prop:=Cal P w K mg base 4 "fewest_way" nl1 (spP ⟨K,mg⟩ cH)
abbrev uU(P:Y7)(w:World)(K:Frag)(mg:Str->Option Value)(base:Heap):Prop:=Cal P w K mg base 5 "shows_fewest" TQ (spP ⟨K,mg⟩ bh)
abbrev Bd(P:Y7)(w:World)(K:Frag)(mg:Str->Option Value)(base:Heap):Prop:=Cal P w K mg base 1 "_law_begin" nl2 (spP ⟨K,mg⟩ cV)
abbrev yH(P:Y7)(w:World)(K:Frag)(mg:Str->Option Value)(base:Heap):Prop:=Cal P w K mg base 2 "_law_names" ["_law_state"] (spI ⟨K,mg⟩ ob0 ob0 fD)
abbrev tZ(P:Y7)(w:World)(K:Frag)(mg:Str->Option Value)(base:Heap):Prop:=Cal P w K mg base 2 "_law_joinings" nl3 (spI ⟨K,mg⟩ ob0 ob0 dz)
abbrev Fe(P:Y7)(w:World)(K:Frag)(mg:Str->Option Value)(base:Heap):Prop:=Cal P w K mg base 2 "_law_two" nl3 (spI ⟨K,mg⟩ ob0 ob0 e_)
abbrev zE(P:Y7)(w:World)(K:Frag)(mg:Str->Option Value)(base:Heap):Prop:=Cal P w K mg base 6 "_law_right" nl4 (spP ⟨K,mg⟩ cD)
noncomputable abbrev mH:Stmt:=top 29
noncomputable abbrev o_:Stmt:=top 30
noncomputable abbrev mC:Stmt:=top 31
noncomputable abbrev gk:Stmt:=top 32
noncomputable abbrev rG:Stmt:=top 35
noncomputable abbrev lF:Stmt:=top 33
noncomputable abbrev iD:Stmt:=top 34
noncomputable abbrev nR:Stmt:=top 36
noncomputable abbrev mU:Stmt:=top 6
noncomputable abbrev g8:Stmt:=top 5
noncomputable abbrev Et:Stmt:=top 1
noncomputable abbrev kZ:Stmt:=top 4
noncomputable abbrev jY:Stmt:=top 8
noncomputable abbrev jL:Stmt:=top 10
noncomputable abbrev lJ:Stmt:=top 9
noncomputable abbrev jC:Stmt:=top 26
noncomputable abbrev lH:Stmt:=top 21
noncomputable abbrev mG:Stmt:=top 18
noncomputable abbrev mW:Stmt:=top 16
noncomputable abbrev rQ:Stmt:=top 19
noncomputable abbrev pR:Stmt:=top 20
noncomputable abbrev Np:Stmt:=top 2
noncomputable abbrev jO:Stmt:=top 22
noncomputable abbrev m5:Stmt:=top 23
noncomputable abbrev m7:Stmt:=top 17
noncomputable abbrev nY:Stmt:=top 14
noncomputable abbrev jV:Stmt:=top 25
noncomputable abbrev fY:Stmt:=top 27
noncomputable abbrev jd:Stmt:=top 37
noncomputable abbrev Mm:Stmt:=top 38
structure Blt(mg:Str->Option Value):Prop where
 abs:mg "abs"=af
 all:mg "all"=af
 bool_:mg "bool"=af
 divmod:mg "divmod"=af
 enumerate:mg "enumerate"=af
 int_:mg "int"=af
 isinstance:mg "isinstance"=af
 len:mg "len"=af
 list_:mg "list"=af
 range:mg "range"=af
 set_:mg "set"=af
 sorted:mg "sorted"=af
 str_:mg "str"=af
 tuple:mg "tuple"=af
theorem aW{A:Zx}(r:jh k A):A.units+1<cLine:=by have:=r.units;omega
section
variable{P:Program}{w:World}{K:Frag}{mg:Str->Option Value}{base:Heap}
theorem yx:bA ["_law_script","_law_cells"] nl2 (aH mH):=by trivial
theorem zR{f:Addr}{fd:Zh}(F:Fun K "_law_begin" "_law_begin" mH f fd)(B:Blt mg):dJ P w K mg base CX0 1 f fd nl2 (spP ⟨K,mg⟩ cV):=
 qP 0 (λi=>ae) F yx λnd _ _ _ _ _ _ Z=>(aD (bC 1 nd (kJ K9 (λ_=>rfl) (λ_=>B.list_) aeY (aa (nQ QL (ak ae 0) qG (qK aV)) aq)))
  (aD (dD (bR (cb_eq _ (λ_=>rfl) Z.units) (ak ae 1) (gU aq)) (aJ (bC 1 nd (gU (aa aV aq)))) b_)
  (aJ (Iu 1))))
theorem Ea:bA ["_law_state","_law_many","_law_turn","_law_spot","_law_cell","_law_digit","_law_mixed"] nl8 (aH o_):=by trivial
theorem Dg{f:Addr}{fd:Zh}(F:Fun K "_law_take" "_law_take" o_ f fd)(B:Blt mg):dJ P w K mg base CX0 1 f fd nl8 (spI ⟨K,mg⟩ ob0 ob0 aN):=
 qI 0 ob0 ob0 F Ea λnd _ _ _ _ _ _ Z=>(aD (bC 2 nd (eX je (gA 1.28 (ak ag 0) lG) aV))
  (aD (lr (ak ae 2) (nj (nU (λ_=>aW Z)) (eG 0) lG))
  (aD (bC 3 nd (eX rO (ak ae 2) (aZ cT (λ_=>rfl) (λ_=>B.len) Z6 (aa (gA 1.28 (ak ag 0) lG) aq))))
  (aD (bC 4 nd (gA 1.28 (gA 1.28 (ak ag 0) lG) (ak ae 3)))
  (aD (dD (bR R4 (ak ae 4) (eX Uo aV aV)) (aD (lr (aZ Gr (λ_=>rfl) (λ_=>B.divmod) boot_divmod (aa (ak ae 4) (aa (ak ae 1) aq))) (gm (λ_=>rfl) (bc (nj (nU (λ_=>aW Z)) (uy (λ_=>aW Z) (eG 0) lG) (ak ae 3)) (bc (bf 5 nd) fB))))
  (aJ (gY 5))) b_)
  (aD (bC 6 nd (eX rO (eX mZ (eX je (eX je (eX rO (ak ae 4) aV) (eX mZ (eX mZ (ak ae 2) (ak ae 2)) aV)) aV) aV) aV))
  (aD (bC 6 nd (eX rO (eX mZ (ak ae 6) (ak ae 6)) aV))
  (aJ (bB (eX rO (eX QD (eX rO (eX mZ (eX je (ak ae 6) (eX mZ (ak ae 2) aV)) aV) aV) aV) (ak ae 1)))))))))))
theorem zz:bA ["_law_state","_law_many","_law_some","_law_first"] ["_law_state"] (aH mC):=by trivial
theorem Bj{f:Addr}{fd:Zh}(F:Fun K "_law_names" "_law_names" mC f fd)(B:Blt mg)(I:jX P w K mg base):dJ P w K mg base CX0 2 f fd ["_law_state"] (spI ⟨K,mg⟩ ob0 ob0 fD):=
 qI 1 ob0 ob0 F zz λnd _ _ _ _ _ _ Z=>(aD (gZ 1 nd (rY 1.28 (QJ (cW (fK aV) (cW (fK aV) (cW (fK aV) (cW (fK aV) (cW (fK aV) (cW (fK aV) (cW (Bb je (fK aV) (eO [0] (λ_=>I) 1.11 (cX 0 (cZ (bZ (aa aV aq)))))) (cW (eO [0] (λ_=>I) 1.11 (cX 0 (cZ (bZ (aa aV aq))))) (bZ aq)))))))))) (eO [0] (λ_=>I) 1.11 (cX 0 (cZ (bZ (aa aV aq)))))))
  (aD (bC 2 nd (Cy Ii PySem.F.plainAttrs_str PySem.F.slot_str_split PySem.F.type_str_split lG (aa lG aq)))
  (aD (gZ 3 nd (eO [0] (λ_=>I) 1.11 (cX 0 (cZ (bZ (aa (aZ cT (λ_=>rfl) (λ_=>B.len) Z6 (aa (ak ae 2) aq)) aq))))))
  (aJ (bB (nQ QL (eX je (nQ QL (ak ae 2) (qK (ak ae 3)) qG) (nQ QL (ak ae 2) qG (qK (ak ae 3)))) qG (qK (ak ae 1))))))))
theorem ul:bA nl9 nl3 (aH gk):=by trivial
def pK:Scope:=sF [(".0",.local),("_law_name",.local),("_law_take",.globalImplicit),("_law_state",.free)]
theorem qU:(["_law_name","_law_state"]:List Str).Nodup:=by decide +kernel
theorem qH:cj (aH gk) nl9 ["_law_name","_law_state"] pK [af,ac 0]:=by trivial
def oY:Scope:=sF [(".0",.local),("_law_spot",.local)]
theorem qi:(["_law_spot"]:List Str).Nodup:=by decide +kernel
theorem qt:cj (aH gk) nl9 ["_law_spot"] oY [af]:=by trivial
theorem tL{f:Addr}{fd:Zh}(F:Fun K "_law_joinings" "_law_joinings" gk f fd)(B:Blt mg)(I:jX P w K mg base):dJ P w K mg base CX0 2 f fd nl3 (spI ⟨K,mg⟩ ob0 ob0 dz):=
 qI 1 ob0 ob0 F ul λnd _ _ _ _ _ _ Z=>(aD (Ip 2 [af,ac 0] ob0 nd (λ_=>rfl) (λ_=>rfl) (λ_=>qH) (Qc rfl) (fW rfl) (dY (ak ae 1)) (Jy 0 (λ_=>qU)) fj (Bb zc (eO [1] (λ_=>I) 1.11 (cX 1 (cZ (bZ (aa aV aq))))) (fK aV)))
  (aD (GX (Bq (cb_eq _ (λ_=>rfl) Z.units) (eO [0] (λ_=>I) 1.11 (cX 0 (cZ (bZ (aa aV aq))))) (fK aV)) (aJ (C_ 2 [af] ob0 nd (λ_=>rfl) (λ_=>rfl) (λ_=>qt) (fW rfl) (dY (ak ae 2)) (cN 0 (λ_=>qi)) fj (eX mZ (ak ae 0) aV))) b_)
  (aD (bC 3 nd (gU aq))
  (aD (Cu (λ_=>Zv) (λ_=>rfl) (Hm (λ_=>rfl) (λ_=>B.range) (cW (eO [0] (λ_=>I) 1.11 (cX 0 (cZ (bZ (aa (eX je (eX mZ aV (aZ cT (λ_=>rfl) (λ_=>B.len) Z6 (aa (ak ae 1) aq))) aV) aq))))) (bZ aq))) (bf 4 nd) (aD (K5 5 6 (λ_=>rfl) nd (cW (eO [0] (λ_=>I) 1.11 (cX 0 (cZ (bZ (aa (aZ cT (λ_=>rfl) (λ_=>B.len) Z6 (aa (ak ae 1) aq)) aq))))) (cW (eO [0] (λ_=>I) 1.11 (cX 0 (cZ (bZ (aa (aZ cT (λ_=>rfl) (λ_=>B.len) Z6 (aa (ak ae 1) aq)) aq))))) (bZ aq))))
  (aD (bC 7 nd (eX zc (gA 1.28 (ak ae 2) (ak ae 6)) (gA 1.28 (ak ae 2) (ak ae 5))))
  (aD (GX (Bq (cb_eq _ (λ_=>rfl) Z.units) (eO [0] (λ_=>I) 1.11 (cX 0 (cZ (bZ (aa aV aq))))) (fK aV)) (aJ (gZ 7 nd (Bb zc (eO [0] (λ_=>I) 1.11 (cX 0 (cZ (bZ (aa aV aq))))) (fK aV)))) b_)
  (aD (iT gG ZG ZX ZZ (eG 3) (aa (fH (aa (gA 1.28 (ak ae 1) (ak ae 5)) (aa (gA 1.28 (ak ae 1) (ak ae 6)) (aa (ak ae 7) aq)))) aq))
  (aD (gZ 8 nd (eO [0] (λ_=>I) 1.11 (cX 0 (cZ (bZ (aa aV aq))))))
  (aD (dD (bR (cb_eq _ (λ_=>rfl) Z.units) (ak ae 8) aV) (aJ (vR (rY 1.28 (fK (ak ae 3)) (eO [0] (λ_=>I) 1.11 (cX 0 (cZ (bZ (aa (aZ cT (λ_=>rfl) (λ_=>B.len) Z6 (aa (ak ae 3) aq)) aq)))))) (nj (nU (λ_=>aW Z)) (eG 3) (xT rn aV)))) b_)
  (aJ (dD (bR (cb_eq _ (λ_=>rfl) Z.units) (ak ae 8) aV) (aD (vR (rY 1.28 (fK (ak ae 3)) (eO [0] (λ_=>I) 1.11 (cX 0 (cZ (bZ (aa (aZ cT (λ_=>rfl) (λ_=>B.len) Z6 (aa (ak ae 3) aq)) aq)))))) (gm (λ_=>rfl) (bc (bf 9 nd) (bc (bf 10 nd) (bc (bf 7 nd) fB)))))
  (aJ (lr (fH (aa (ak ae 10) (aa (ak ae 9) (aa (xT rn (ak ae 7)) aq)))) (nj (nU (λ_=>aW Z)) (eG 3) (xT rn aV))))) b_)))))))))
  (aJ (gY 3))))))
theorem Ej:bA ["_law_state","_law_names_here","_law_some","_law_one","_law_other"] nl3 (aH rG):=by trivial
theorem Gq{f:Addr}{fd:Zh}(F:Fun K "_law_two" "_law_two" rG f fd)(B:Blt mg)(I:jX P w K mg base):dJ P w K mg base CX0 2 f fd nl3 (spI ⟨K,mg⟩ ob0 ob0 e_):=
 qI 1 ob0 ob0 F Ej λnd _ _ _ _ _ _ Z=>(aD (bC 2 nd (eX je (ak ae 1) (gU (aa lG aq))))
  (aD (gZ 3 nd (rY 1.28 (fK (ak ae 2)) (eO [0] (λ_=>I) 1.11 (cX 0 (cZ (bZ (aa (aZ cT (λ_=>rfl) (λ_=>B.len) Z6 (aa (ak ae 2) aq)) aq)))))))
  (aD (gZ 4 nd (rY 1.28 (fK (ak ae 2)) (eO [0] (λ_=>I) 1.11 (cX 0 (cZ (bZ (aa (aZ cT (λ_=>rfl) (λ_=>B.len) Z6 (aa (ak ae 2) aq)) aq)))))))
  (aJ (N7 (Pk (cW (fK (ak ae 3)) (cW (rY 1.28 (fK (gU (aa (ak ae 4) (aa (ak ae 3) aq)))) (Fq Rn (λ_=>rfl) (λ_=>B.int_) boot_int (cW (Qs (cb_eq _ (λ_=>rfl) Z.units) (eO [0] (λ_=>I) 1.11 (cX 0 (cZ (bZ (aa aV aq))))) (fK aV)) (bZ aq)))) (bZ aq)))))))))
theorem wB:bA ["_law_joinings_here","_law_found","_law_number","_law_one","_law_other","_law_step"] T9 (aH lF):=by trivial
theorem wy{f:Addr}{fd:Zh}(F:Fun K "_law_beside" "_law_beside" lF f fd)(B:Blt mg):dJ P w K mg base CX0 1 f fd T9 (spP ⟨K,mg⟩ cM):=
 qP 0 (λi=>ae) F wB λnd _ _ _ _ _ _ Z=>(aD (bC 1 nd uq)
  (aD (ig (λ_=>Zv) (λ_=>rfl) (uG (λ_=>rfl) (λ_=>B.enumerate) (aa (ak ae 0) aq)) (gm (λ_=>rfl) (bc (bf 2 nd) (bc (gm (λ_=>rfl) (bc (bf 3 nd) (bc (bf 4 nd) (bc (bf 5 nd) fB)))) fB))) (aD (GK 1 (aa (ak ae 3) (aa (gU aq) aq)) (aa (fH (aa (fH (aa (ak ae 2) (aa aV aq))) (aa (ak ae 4) aq))) aq))
  (aJ (GK 1 (aa (ak ae 4) (aa (gU aq) aq)) (aa (fH (aa (fH (aa (ak ae 2) (aa (xT rn aV) aq))) (aa (ak ae 3) aq))) aq)))))
  (aJ (gY 1))))
theorem qd:bA ["_law_joinings_here","_law_start","_law_beside_here","_law_found","_law_here","_law_further","_law_name","_law_pair","_law_other","_law_way"] Sv (aH iD):=by trivial
theorem pP{f:Addr}{fd:Zh}(F:Fun K "_law_least_ways" "_law_least_ways" iD f fd)(B:Blt mg)(q:wQ P w K mg base):dJ P w K mg base CX0 2 f fd Sv (spP ⟨K,mg⟩ bI):=
 qP 1 (λi=>ae) F qd λnd _ _ _ _ _ _ Z=>(aD (bC 2 nd (b7 (λ_=>q) 1.11 (aa (ak ae 0) aq)))
  (aD (bC 3 nd (yC (rK (ak ae 1) (fH aq) vz)))
  (aD (bC 4 nd (yC (rK (ak ae 1) (fH aq) vz)))
  (aD (yg 1000000 (λ_=>Zv) (G8 (bR (Vi _ (λ_=>rfl) Z.units) (ak ae 4) uq)) (aD (bC 5 nd uq)
  (aD (mD 2 (mD 4 (Oc 4 (λ_=>Zv) (λ_=>rfl) (bf 6 nd) (aJ (ig (λ_=>Zv) (λ_=>rfl) (dY (O2 (λ_=>aW Z) (ak ae 2) (aa (ak ae 6) (aa (gU aq) aq)))) (gm (λ_=>rfl) (bc (bf 7 nd) (bc (bf 8 nd) fB))) (aD (bC 9 nd (eX je (gA 1.28 (ak ae 4) (ak ae 6)) (fH (aa (ak ae 7) aq))))
  (aJ (dD (oJ (Al (bR (mF (λ_=>aW Z)) (ak ae 8) (ak ae 3)) (vA (oJ (mV (bR (mF (λ_=>aW Z)) (ak ae 8) (ak ae 5)) (lu (bR (UJ _ (λ_=>rfl) Z.units) (ak ae 9) (gA 1.28 (ak ae 5) (ak ae 8))))))))) (aJ (lr (ak ae 9) (nj (nU (λ_=>aW Z)) (eG 5) (ak ae 8)))) b_))))))))
  (aD (mD 5 (iT LC Z5 PySem.F.slot_dict_update PySem.F.type_dict_update (eG 3) (aa (ak ae 5) aq)))
  (aJ (bC 4 nd (ak ae 5)))))))
  (aJ (gY 3))))))
theorem Ex:bA We nl4 (aH nR):=by trivial
def oE:Scope:=sF [(".0",.local),("_law_level",.cell),("sorted",.globalImplicit),("_law_ways",.free)]
theorem za:(Va:List Str).Nodup:=by decide +kernel
theorem zH:cj (aH nR) We Va oE [af,ac 3]:=by trivial
def wH:Scope:=sF [(".0",.local),("_law_name",.local),("len",.globalImplicit),("_law_level",.free),("_law_ways",.free)]
theorem zF:(V0:List Str).Nodup:=by decide +kernel
theorem zb:cj (oE) Va V0 wH [af,ac 0,ac 1]:=by trivial
theorem Gf{f:Addr}{fd:Zh}(F:Fun K "_law_due" "_law_due" nR f fd)(B:Blt mg)(q:qg P w K mg base):dJ P w K mg base CX0 3 f fd nl4 (spP ⟨K,mg⟩ bW):=
 qP 2 (λi=>ae) F Ex λnd _ _ _ _ _ _ Z=>(aD (bC 3 nd (b7 (λ_=>q) 1.11 (aa (ak ae 0) (aa (ak ae 1) aq))))
  (aD (dD (bR (mF (λ_=>aW Z)) (ak ae 2) (ak ae 3)) (aJ (bB rm)) b_)
  (aD (bC 4 nd (aZ cT (λ_=>rfl) (λ_=>B.len) Z6 (aa (gA 1.28 (ak ae 3) (ak ae 2)) aq)))
  (aJ (mD 3 (bB (jl [af,ac 3] ob0 (λ_=>rfl) (λ_=>rfl) (λ_=>zH) (fW rfl) (Lr (λ_=>rfl) (λ_=>B.range) (aa (ak ae 4) aq)) (cN 0 (λ_=>za)) fj (aZ BX (λ_=>rfl) (λ_=>B.sorted) afe (aa (Ox 1 [af,ac 0,ac 1] ob0 (λ_=>rfl) (λ_=>rfl) (λ_=>zb.rel) (fW rfl) (cN 0 (λ_=>zF)) (Nq (bR (cb_eq _ (λ_=>rfl) Z.units) (aZ cT (λ_=>rfl) (λ_=>B.len) Z6 (aa (gA 1.28 (ak ae 2) (ak ae 0)) aq)) (ak ae 1))) (ak ae 0)) aq)))))))))
theorem zV:bA ["leading","start","ways","waiting","name","number","side","end"] T8 (aH mU):=by trivial
theorem Ah{f:Addr}{fd:Zh}(F:Fun K "ways_from" "ways_from" mU f fd)(B:Blt mg):dJ P w K mg base CX0 1 f fd T8 (spP ⟨K,mg⟩ dM):=
 qP 0 (λi=>i==3) F zV λnd _ _ _ _ _ _ Z=>(aD (bC 2 nd (yC (rK (ak ae 1) (fH aq) vz)))
  (aD (bC 3 nd (gU (aa (ak ae 1) aq)))
  (aD (yg 1000000 (λ_=>Zv) (G8 (ji (ak ag 3))) (aD (gZ 4 nd (Rf Jc ZG PySem.F.slot_list_pop PySem.F.type_list_pop (eG 3) (aa aV aq)))
  (aJ (ig (λ_=>Zv) (λ_=>rfl) (dY (gA 1.28 (ak ae 0) (ak ae 4))) (gm (λ_=>rfl) (bc (bf 5 nd) (bc (bf 6 nd) (bc (bf 7 nd) fB)))) (aJ (dD (bR (mF (λ_=>aW Z)) (ak ae 7) (ak ae 2)) (aD (lr (eX je (gA 1.28 (ak ae 2) (ak ae 4)) (fH (aa (fH (aa (ak ae 5) (aa (ak ae 6) aq))) aq))) (nj (nU (λ_=>aW Z)) (eG 2) (ak ae 7)))
  (aJ (iT gG ZG ZX ZZ (eG 3) (aa (ak ae 7) aq)))) b_))))))
  (aJ (gY 2)))))
theorem tQ:bA Xk Sh (aH g8):=by trivial
def pB:Scope:=sF [(".0",.local),("name",.local)]
theorem qp:(["name"]:List Str).Nodup:=by decide +kernel
theorem qC:cj (aH g8) Xk ["name"] pB [af]:=by trivial
theorem sZ{f:Addr}{fd:Zh}(F:Fun K "ends_by_name" "ends_by_name" g8 f fd)(B:Blt mg):dJ P w K mg base CX0 1 f fd Sh (spP ⟨K,mg⟩ cO):=
 qP 0 (λi=>ae) F tQ λnd _ _ _ _ _ _ Z=>(aD (N_ 2 [af] ob0 nd (λ_=>rfl) (λ_=>rfl) (λ_=>qC) (fW rfl) (dY (ak ae 0)) (cN 0 (λ_=>qp)) fj (ak ae 0) (gU aq))
  (aD (ig (λ_=>Zv) (λ_=>rfl) (uG (λ_=>rfl) (λ_=>B.enumerate) (aa (ak ae 1) aq)) (gm (λ_=>rfl) (bc (bf 3 nd) (bc (gm (λ_=>rfl) (bc (bf 4 nd) (bc (bf 5 nd) (bc (bf 6 nd) fB)))) fB))) (aD (iT gG ZG ZX ZZ (uy (λ_=>aW Z) (eG 2) (ak ae 4)) (aa (fH (aa (ak ae 3) (aa aV (aa (ak ae 5) aq)))) aq))
  (aJ (iT gG ZG ZX ZZ (uy (λ_=>aW Z) (eG 2) (ak ae 5)) (aa (fH (aa (ak ae 3) (aa (xT rn aV) (aa (ak ae 4) aq)))) aq)))))
  (aJ (gY 2))))
theorem QG:bA ["joining","side","one","other","step"] Vk (aH Et):=by trivial
theorem PQ{f:Addr}{fd:Zh}(F:Fun K "ends" "ends" Et f fd)(B:Blt mg):dJ P w K mg base CX0 1 f fd Vk (spP ⟨K,mg⟩ b8):=
 qP 0 (λi=>ae) F QG λnd _ _ _ _ _ _ Z=>(aD (lr (ak ae 0) (gm (λ_=>rfl) (bc (bf 2 nd) (bc (bf 3 nd) (bc (bf 4 nd) fB)))))
  (aD (dD (bR (cb_eq _ (λ_=>rfl) Z.units) (ak ae 1) aV) (aJ (bB (fH (aa (ak ae 2) (aa (ak ae 3) aq))))) b_)
  (aJ (bB (fH (aa (ak ae 3) (aa (ak ae 2) aq)))))))
theorem wF:bA ["joinings","one","other","found","joining"] nl1 (aH kZ):=by trivial
theorem wI{f:Addr}{fd:Zh}(F:Fun K "names_with" "names_with" kZ f fd)(B:Blt mg)(q:FQ P w K mg base):dJ P w K mg base CX0 2 f fd nl1 (spP ⟨K,mg⟩ dh):=
 qP 1 (λi=>ae) F wF λnd _ _ _ _ _ _ Z=>(aD (bC 3 nd (gU (aa (ak ae 1) (aa (ak ae 2) aq))))
  (aD (ig (λ_=>Zv) (λ_=>rfl) (dY (ak ae 0)) (bf 4 nd) (aJ (iT Gx ZG PySem.F.slot_list_extend PySem.F.type_list_extend (eG 3) (aa (b7 (λ_=>q) 1.11 (aa (ak ae 4) (aa aV aq))) aq))))
  (aJ (bB (Cj (λ_=>rfl) (λ_=>B.sorted) (λ_=>B.set_) (aa (ak ae 3) aq))))))
theorem vf:bA nl1 nl1 (aH jY):=by trivial
theorem vG{f:Addr}{fd:Zh}(F:Fun K "fewest_ways" "fewest_ways" jY f fd)(B:Blt mg)(I:Dp P w K mg base)(q:u9 P w K mg base)(z:yM P w K mg base):dJ P w K mg base CX0 3 f fd nl1 (spP ⟨K,mg⟩ bu):=
 qP 2 (λi=>ae) F vf λnd _ _ _ _ _ _ Z=>(aJ (bB (b7 (λ_=>I) 1.11 (aa (b7 (λ_=>q) 1.11 (aa (b7 (λ_=>z) 1.11 (aa (ak ae 0) (aa (ak ae 1) (aa (ak ae 2) aq)))) (aa (ak ae 0) aq))) (aa (ak ae 1) aq)))))
theorem yZ:bA VP nl1 (aH jL):=by trivial
def uc:Scope:=sF [(".0",.local),("pair",.local)]
theorem vh:(["pair"]:List Str).Nodup:=by decide +kernel
theorem vo:cj (aH jL) VP ["pair"] uc [af]:=by trivial
theorem yD{f:Addr}{fd:Zh}(F:Fun K "levels_of" "levels_of" jL f fd)(B:Blt mg)(U:oH P w K mg base):dJ P w K mg base CX0 4 f fd nl1 (spP ⟨K,mg⟩ aY):=
 qP 3 (λi=>ae) F yZ λnd _ _ _ _ _ _ Z=>(aD (bC 3 nd (b7 (λ_=>U) 1.11 (aa (ak ae 0) (aa (ak ae 1) (aa (ak ae 2) aq)))))
  (aD (dD (bR (mF (λ_=>aW Z)) (ak ae 2) (ak ae 3)) (aJ (bB rm)) b_)
  (aD (C_ 4 [af] ob0 nd (λ_=>rfl) (λ_=>rfl) (λ_=>vo) (fW rfl) (dY (gA 1.28 (ak ae 3) (ak ae 2))) (cN 0 (λ_=>vh)) fj (gU aq))
  (aD (ig (λ_=>Zv) (λ_=>rfl) (dY (aZ (BV (λ_=>rfl)) (λ_=>rfl) (λ_=>B.sorted) afe (aa (ak ae 3) aq))) (bf 5 nd) (aD (bC 6 nd (aZ cT (λ_=>rfl) (λ_=>B.len) Z6 (aa (gA 1.28 (ak ae 3) (ak ae 5)) aq)))
  (aJ (dD (bR HQ (ak ae 6) (aZ cT (λ_=>rfl) (λ_=>B.len) Z6 (aa (ak ae 4) aq))) (aJ (iT gG ZG ZX ZZ (uy (λ_=>aW Z) (eG 4) (ak ae 6)) (aa (ak ae 5) aq))) b_))))
  (aJ (gY 4))))))
theorem wK:bA nl1 nl1 (aH lJ):=by trivial
theorem wD{f:Addr}{fd:Zh}(F:Fun K "fewest_way" "fewest_way" lJ f fd)(B:Blt mg)(U:oH P w K mg base):dJ P w K mg base CX0 4 f fd nl1 (spP ⟨K,mg⟩ cH):=
 qP 3 (λi=>ae) F wK λnd _ _ _ _ _ _ Z=>(aJ (bB (Cy (uB (λ_=>aW Z)) Z5 Z3 abb (b7 (λ_=>U) 1.11 (aa (ak ae 0) (aa (ak ae 1) (aa (ak ae 2) aq)))) (aa (ak ae 2) aq))))
theorem uh:bA ["levels","places","place","level","name"] ["levels"] (aH jC):=by trivial
theorem tY{f:Addr}{fd:Zh}(F:Fun K "first_places" "first_places" jC f fd)(B:Blt mg):dJ P w K mg base CX0 1 f fd ["levels"] (spP ⟨K,mg⟩ bO):=
 qP 0 (λi=>ae) F uh λnd _ _ _ _ _ _ Z=>(aD (bC 1 nd uq)
  (aD (ig (λ_=>Zv) (λ_=>rfl) (uG (λ_=>rfl) (λ_=>B.enumerate) (aa (ak ae 0) aq)) (gm (λ_=>rfl) (bc (bf 2 nd) (bc (bf 3 nd) fB))) (aJ (mD 3 (ig (λ_=>Zv) (λ_=>rfl) (dY (ak ae 3)) (bf 4 nd) (aJ (iT Qz Z5 acY acZ (eG 1) (aa (ak ae 4) (aa (ak ae 2) aq))))))))
  (aJ (gY 1))))
theorem wJ:bA ["things"] ["things"] (aH lH):=by trivial
theorem wN{f:Addr}{fd:Zh}(F:Fun K "are_unlike" "are_unlike" lH f fd)(B:Blt mg):dJ P w K mg base CX0 1 f fd ["things"] (spP ⟨K,mg⟩ du):=
 qP 0 (λi=>ae) F wJ λnd _ _ _ _ _ _ Z=>(aJ (bB (pD (cb_eq _ (λ_=>rfl) Z.units) (Fv (λ_=>rfl) (λ_=>B.len) (λ_=>B.set_) (aa (ak ae 0) aq)) (aZ cT (λ_=>rfl) (λ_=>B.len) Z6 (aa (ak ae 0) aq)))))
theorem yK:bA nl0 nl0 (aH mG):=by trivial
theorem yS{f:Addr}{fd:Zh}(F:Fun K "is_couple" "is_couple" mG f fd)(B:Blt mg):dJ P w K mg base CX0 1 f fd nl0 (spP ⟨K,mg⟩ dO):=
 qP 0 (λi=>ae) F yK λnd _ _ _ _ _ _ Z=>(aJ (bB (pG (aZ fZ (λ_=>rfl) (λ_=>B.isinstance) aaV (aa (ak ae 0) (aa (qF (λ_=>rfl) (λ_=>B.tuple) aci) aq))) (uW (pD (cb_eq _ (λ_=>rfl) Z.units) (aZ cT (λ_=>rfl) (λ_=>B.len) Z6 (aa (ak ae 0) aq)) aV)))))
theorem zq:bA nl0 nl0 (aH mW):=by trivial
theorem zf{f:Addr}{fd:Zh}(F:Fun K "is_number" "is_number" mW f fd)(B:Blt mg):dJ P w K mg base CX0 1 f fd nl0 (spP ⟨K,mg⟩ cU):=
 qP 0 (λi=>ae) F zq λnd _ _ _ _ _ _ Z=>(aJ (bB (pG (aZ fZ (λ_=>rfl) (λ_=>B.isinstance) aaV (aa (ak ae 0) (aa (qF (λ_=>rfl) (λ_=>B.int_) boot_int) aq))) (uW (Tf (aZ fZ (λ_=>rfl) (λ_=>B.isinstance) aaV (aa (ak ae 0) (aa (qF (λ_=>rfl) (λ_=>B.bool_) boot_bool) aq))))))))
theorem FW:bA nl0 nl0 (aH rQ):=by trivial
theorem Fz{f:Addr}{fd:Zh}(F:Fun K "is_pair" "is_pair" rQ f fd)(B:Blt mg)(z:BP P w K mg base)(q:DY P w K mg base):dJ P w K mg base CX0 2 f fd nl0 (spP ⟨K,mg⟩ cL):=
 qP 1 (λi=>ae) F FW λnd _ _ _ _ _ _ Z=>(aJ (bB (pG (b7 (λ_=>z) 1.11 (aa (ak ae 0) aq)) (pG (b7 (λ_=>q) 1.11 (aa (gA 1.28 (ak ae 0) aV) aq)) (pG (b7 (λ_=>q) 1.11 (aa (gA 1.28 (ak ae 0) aV) aq)) (uW (pD (K7 (λ_=>aW Z)) (gA 1.28 (ak ae 0) aV) (fH (aa aV (aa (xT rn aV) aq))))))))))
theorem JL:bA nl0 nl0 (aH pR):=by trivial
def zZ:Scope:=sF [(".0",.local),("pair",.local),("is_pair",.globalImplicit)]
theorem DP:(["pair"]:List Str).Nodup:=by decide +kernel
theorem D_:cj (aH pR) nl0 ["pair"] zZ [af]:=by trivial
theorem Ji{f:Addr}{fd:Zh}(F:Fun K "is_way" "is_way" pR f fd)(B:Blt mg)(q:JB P w K mg base):dJ P w K mg base CX0 3 f fd nl0 (spP ⟨K,mg⟩ fP):=
 qP 2 (λi=>ae) F JL λnd _ _ _ _ _ _ Z=>(aJ (bB (pG (aZ fZ (λ_=>rfl) (λ_=>B.isinstance) aaV (aa (ak ae 0) (aa (qF (λ_=>rfl) (λ_=>B.tuple) aci) aq))) (uW (aZ (nW (λ_=>rfl)) (λ_=>rfl) (λ_=>B.all) adN (aa (jl [af] ob0 (λ_=>rfl) (λ_=>rfl) (λ_=>D_) (fW rfl) (dY (ak ae 0)) (cN 0 (λ_=>DP)) fj (b7 (λ_=>q) 1.11 (aa (ak ae 0) aq))) aq))))))
theorem Su:bA ["joinings","name","way","here","number","side","begin","end"] Uz (aH Np):=by trivial
theorem Vf{f:Addr}{fd:Zh}(F:Fun K "led" "led" Np f fd)(B:Blt mg)(q:FQ P w K mg base):dJ P w K mg base CX0 2 f fd Uz (spP ⟨K,mg⟩ gH):=
 qP 1 (λi=>ae) F Su λnd _ _ _ _ _ _ Z=>(aD (bC 3 nd (ak ae 1))
  (aD (ig (λ_=>Zv) (λ_=>rfl) (dY (ak ae 2)) (gm (λ_=>rfl) (bc (bf 4 nd) (bc (bf 5 nd) fB))) (aD (dD (oJ (mV (bR HQ (ak ae 4) aV) (lu (bR R4 (ak ae 4) (aZ cT (λ_=>rfl) (λ_=>B.len) Z6 (aa (ak ae 0) aq)))))) (aJ (bB rm)) b_)
  (aD (lr (b7 (λ_=>q) 1.11 (aa (gA 1.28 (ak ae 0) (ak ae 4)) (aa (ak ae 5) aq))) (gm (λ_=>rfl) (bc (bf 6 nd) (bc (bf 7 nd) fB))))
  (aD (dD (bR (yq _ (λ_=>rfl) Z.units) (ak ae 6) (ak ae 3)) (aJ (bB rm)) b_)
  (aJ (bC 3 nd (ak ae 7)))))))
  (aJ (gY 3))))
theorem Aw:bA nl5 nl5 (aH jO):=by trivial
def t_:Scope:=sF [(".0",.local),("number",.local),("side",.local),("ends",.globalImplicit),("joinings",.free)]
theorem lZ:(["number","side","joinings"]:List Str).Nodup:=by decide +kernel
theorem uZ:cj (aH jO) nl5 ["number","side","joinings"] t_ [af,af,ac 0]:=by trivial
theorem yQ{f:Addr}{fd:Zh}(F:Fun K "names_met" "names_met" jO f fd)(B:Blt mg)(q:FQ P w K mg base):dJ P w K mg base CX0 2 f fd nl5 (spP ⟨K,mg⟩ dN):=
 qP 1 (λi=>ae) F Aw λnd _ _ _ _ _ _ Z=>(aJ (bB (jl [af,af,ac 0] (λi=>i==0||i==1) (λ_=>rfl) (λ_=>rfl) (λ_=>uZ) (fW rfl) (dY (ak ae 1)) (Cg (λ_=>rfl) (jy (cN 0 (λ_=>lZ)) (jy (cN 1 (λ_=>lZ)) wY))) fj (gA 1.28 (b7 (λ_=>q) 1.11 (aa (gA 1.28 (ak ae 2) (ak ae 0)) (aa (ak ae 1) aq))) aV))))
theorem zB:bA nl6 nl6 (aH m5):=by trivial
theorem yR{f:Addr}{fd:Zh}(F:Fun K "shows_way" "shows_way" m5 f fd)(B:Blt mg)(q:Av P w K mg base)(I:Mi P w K mg base)(O:Wc P w K mg base)(z:Dv P w K mg base):dJ P w K mg base CX0 4 f fd nl6 (spP ⟨K,mg⟩ cA):=
 qP 3 (λi=>ae) F zB λnd _ _ _ _ _ _ Z=>(aD (dD (oJ (mV (jW (ji (b7 (λ_=>I) 1.11 (aa (ak ae 3) aq)))) (lu (bR (yq _ (λ_=>rfl) Z.units) (b7 (λ_=>O) 1.11 (aa (ak ae 0) (aa (ak ae 1) (aa (ak ae 3) aq)))) (ak ae 2))))) (aJ (bB jT)) b_)
  (aJ (bB (b7 (λ_=>q) 1.11 (aa (eX je (gU (aa (ak ae 1) aq)) (b7 (λ_=>z) 1.11 (aa (ak ae 0) (aa (ak ae 3) aq)))) aq)))))
theorem yU:bA nl0 nl0 (aH m7):=by trivial
theorem yu{f:Addr}{fd:Zh}(F:Fun K "is_listed" "is_listed" m7 f fd)(B:Blt mg):dJ P w K mg base CX0 1 f fd nl0 (spP ⟨K,mg⟩ bK):=
 qP 0 (λi=>ae) F yU λnd _ _ _ _ _ _ Z=>(aJ (bB (aZ fZ (λ_=>rfl) (λ_=>B.isinstance) aaV (aa (ak ae 0) (aa (fH (aa (qF (λ_=>rfl) (λ_=>B.list_) aeY) (aa (qF (λ_=>rfl) (λ_=>B.tuple) aci) aq))) aq)))))
theorem Eh:bA nl0 nl0 (aH nY):=by trivial
def wG:Scope:=sF [(".0",.local),("sign",.local),("LETTERS",.globalImplicit)]
theorem yG:(["sign"]:List Str).Nodup:=by decide +kernel
theorem zL:cj (aH nY) nl0 ["sign"] wG [af]:=by trivial
theorem Gg{f:Addr}{fd:Zh}(F:Fun K "is_name" "is_name" nY f fd)(B:Blt mg)(q:Glb mg "LETTERS" (.str "abcdefghijklmnopqrstuvwxyz"))(z:Glb mg "LONGEST" (.int 8)):dJ P w K mg base CX0 1 f fd nl0 (spP ⟨K,mg⟩ cJ):=
 qP 0 (λi=>ae) F Eh λnd _ _ _ _ _ _ Z=>(aD (dD (jW (ji (aZ fZ (λ_=>rfl) (λ_=>B.isinstance) aaV (aa (ak ae 0) (aa (qF (λ_=>rfl) (λ_=>B.str_) boot_str) aq))))) (aJ (bB jT)) b_)
  (aD (dD (oJ (mV (bR HQ (aZ cT (λ_=>rfl) (λ_=>B.len) Z6 (aa (ak ae 0) aq)) aV) (lu (bR J3 (aZ cT (λ_=>rfl) (λ_=>B.len) Z6 (aa (ak ae 0) aq)) (Oz z))))) (aJ (bB jT)) b_)
  (aJ (bB (aZ (nW (λ_=>rfl)) (λ_=>rfl) (λ_=>B.all) adN (aa (jl [af] ob0 (λ_=>rfl) (λ_=>rfl) (λ_=>zL) (fW rfl) (Rh (ak ae 0)) (cN 0 (λ_=>yG)) fj (pD (K7 (λ_=>aW Z)) (ak ae 0) (Mq q))) aq))))))
theorem zX:bA nl0 nl0 (aH jV):=by trivial
def tB:Scope:=sF [(".0",.local),("name",.local),("is_name",.globalImplicit)]
theorem vB:(["name"]:List Str).Nodup:=by decide +kernel
theorem vJ:cj (aH jV) nl0 ["name"] tB [af]:=by trivial
theorem zu{f:Addr}{fd:Zh}(F:Fun K "are_names" "are_names" jV f fd)(B:Blt mg)(V:sS P w K mg base)(q:JF P w K mg base):dJ P w K mg base CX0 2 f fd nl0 (spP ⟨K,mg⟩ bJ):=
 qP 1 (λi=>ae) F zX λnd _ _ _ _ _ _ Z=>(aJ (bB (pG (b7 (λ_=>V) 1.11 (aa (ak ae 0) aq)) (uW (aZ (nW (λ_=>rfl)) (λ_=>rfl) (λ_=>B.all) adN (aa (jl [af] ob0 (λ_=>rfl) (λ_=>rfl) (λ_=>vJ) (fW rfl) (dY (ak ae 0)) (cN 0 (λ_=>vB)) fj (b7 (λ_=>q) 1.11 (aa (ak ae 0) aq))) aq))))))
theorem tK:bA U0 TQ (aH fY):=by trivial
def pI:Scope:=sF [(".0",.local),("level",.local),("are_names",.globalImplicit)]
theorem qQ:(["level"]:List Str).Nodup:=by decide +kernel
theorem pM:cj (aH fY) U0 ["level"] pI [af]:=by trivial
def pC:Scope:=sF [(".0",.local),("begin",.local),("end",.local),("step",.local),("abs",.globalImplicit),("many",.free),("places",.free)]
theorem g_:(W9:List Str).Nodup:=by decide +kernel
theorem p6:cj (aH fY) U0 W9 pC [af,af,af,ac 5,ac 6]:=by trivial
theorem tH{f:Addr}{fd:Zh}(F:Fun K "shows_fewest" "shows_fewest" fY f fd)(B:Blt mg)(q:wg P w K mg base)(I:Dd P w K mg base)(V:sS P w K mg base)(z:Cv P w K mg base):dJ P w K mg base CX0 5 f fd TQ (spP ⟨K,mg⟩ bh):=
 qP 4 (λi=>ae) F tK λnd _ _ _ _ _ _ Z=>(aD (dD (jW (ji (b7 (λ_=>I) 1.11 (aa (ak ae 0) (aa (ak ae 1) (aa (ak ae 2) (aa (ak ae 3) aq))))))) (aJ (bB jT)) b_)
  (aD (dD (oJ (mV (jW (ji (b7 (λ_=>V) 1.11 (aa (ak ae 4) aq)))) (mV (bR (yq _ (λ_=>rfl) Z.units) (aZ cT (λ_=>rfl) (λ_=>B.len) Z6 (aa (ak ae 4) aq)) (aZ cT (λ_=>rfl) (λ_=>B.len) Z6 (aa (ak ae 3) aq))) (lu (jW (ji (aZ (nW (λ_=>rfl)) (λ_=>rfl) (λ_=>B.all) adN (aa (jl [af] ob0 (λ_=>rfl) (λ_=>rfl) (λ_=>pM) (fW rfl) (dY (ak ae 4)) (cN 0 (λ_=>qQ)) fj (b7 (λ_=>z) 1.11 (aa (ak ae 0) aq))) aq)))))))) (aJ (bB jT)) b_)
  (aD (bC 5 nd (aZ cT (λ_=>rfl) (λ_=>B.len) Z6 (aa (ak ae 4) aq)))
  (aD (bC 6 nd (b7 (λ_=>q) 1.11 (aa (ak ae 4) aq)))
  (aD (dD (oJ (mV (bR (K7 (λ_=>aW Z)) (ak ae 2) (ak ae 6)) (lu (oJ (Al (bR J3 (ak ae 5) aV) (vA (bR (yq _ (λ_=>rfl) Z.units) (Cy (uB (λ_=>aW Z)) Z5 Z3 abb (ak ae 6) (aa (ak ae 1) aq)) aV))))))) (aJ (bB jT)) b_)
  (aJ (bB (aZ (nW (λ_=>rfl)) (λ_=>rfl) (λ_=>B.all) adN (aa (jl [af,af,af,ac 5,ac 6] (λi=>i==0||i==1||i==2) (λ_=>rfl) (λ_=>rfl) (λ_=>p6) (fW rfl) (dY (ak ae 0)) (Cg (λ_=>rfl) (jy (cN 0 (λ_=>g_)) (jy (cN 1 (λ_=>g_)) (jy (cN 2 (λ_=>g_)) wY)))) fj (pD W7 (aZ QX (λ_=>rfl) (λ_=>B.abs) boot_abs (aa (eX zc (Cy (uB (λ_=>aW Z)) Z5 Z3 abb (ak ae 4) (aa (ak ae 0) (aa (ak ae 3) aq))) (Cy (uB (λ_=>aW Z)) Z5 Z3 abb (ak ae 4) (aa (ak ae 1) (aa (ak ae 3) aq)))) aq)) aV)) aq)))))))))
theorem zW:bA Vr nl4 (aH jd):=by trivial
def tE:Scope:=sF [(".0",.local),("_law_level",.local),("isinstance",.globalImplicit),("list",.globalImplicit)]
theorem v7:(nl7:List Str).Nodup:=by decide +kernel
theorem uT:cj (aH jd) Vr nl7 tE [af]:=by trivial
def tW:Scope:=sF [(".0",.local),("_law_level",.local),("tuple",.globalImplicit)]
theorem vM:(nl7:List Str).Nodup:=by decide +kernel
theorem uI:cj (aH jd) Vr nl7 tW [af]:=by trivial
theorem yw{f:Addr}{fd:Zh}(F:Fun K "_law_right" "_law_right" jd f fd)(B:Blt mg)(I:Ep P w K mg base)(Y:Ce P w K mg base)(z:zy P w K mg base)(q:uU P w K mg base):dJ P w K mg base CX0 6 f fd nl4 (spP ⟨K,mg⟩ cD):=
 qP 5 (λi=>ae) F zW λnd _ _ _ _ _ _ Z=>(aD (bC 3 nd (b7 (λ_=>I) 1.11 (aa (ak ae 0) (aa (ak ae 1) (aa (ak ae 2) aq)))))
  (aD (mD 3 (bC 4 nd (b7 (λ_=>Y) 1.11 (aa (ak ae 0) (aa (ak ae 1) (aa (ak ae 2) aq))))))
  (aD (dD (bR (yq _ (λ_=>rfl) Z.units) (ak ae 4) (ak ae 3)) (aJ (bB jT)) b_)
  (aD (dD (bR R1 (ak ae 3) rm) (aJ (bB (pD R1 (b7 (λ_=>Y) 1.11 (aa (kJ nT (λ_=>rfl) (λ_=>B.tuple) aci (aa (ak ae 0) aq)) (aa (ak ae 2) (aa (ak ae 1) aq)))) rm))) b_)
  (aD (dD (oJ (mV (jW (ji (aZ fZ (λ_=>rfl) (λ_=>B.isinstance) aaV (aa (ak ae 4) (aa (qF (λ_=>rfl) (λ_=>B.list_) aeY) aq))))) (lu (jW (ji (aZ (nW (λ_=>rfl)) (λ_=>rfl) (λ_=>B.all) adN (aa (jl [af] ob0 (λ_=>rfl) (λ_=>rfl) (λ_=>uT) (fW rfl) (dY (ak ae 4)) (cN 0 (λ_=>v7)) fj (aZ fZ (λ_=>rfl) (λ_=>B.isinstance) aaV (aa (ak ae 0) (aa (qF (λ_=>rfl) (λ_=>B.list_) aeY) aq)))) aq))))))) (aJ (bB jT)) b_)
  (aD (bC 5 nd (b7 (λ_=>z) 1.11 (aa (ak ae 0) (aa (ak ae 1) (aa (ak ae 2) aq)))))
  (aD (bC 6 nd (kJ nT (λ_=>rfl) (λ_=>B.tuple) aci (aa (jl [af] ob0 (λ_=>rfl) (λ_=>rfl) (λ_=>uI) (fW rfl) (dY (ak ae 3)) (cN 0 (λ_=>vM)) fj (kJ nT (λ_=>rfl) (λ_=>B.tuple) aci (aa (ak ae 0) aq))) aq)))
  (Je 4 [0,3] 1 (aJ (ig (λ_=>Zv) (λ_=>rfl) (dY (fH (aa (ak ae 4) (aa (ak ae 6) aq)))) (bf 7 nd) (aJ (dD (bR wV (b7 (λ_=>q) 1.11 (aa (ak ae 0) (aa (ak ae 1) (aa (ak ae 2) (aa (ak ae 5) (aa (ak ae 7) aq)))))) jT) (aJ (bB jT)) b_))))
  (aD (Nj 4 8 (λ_=>Zv) (λ_=>rfl) nd (aJ (iT gG ZG ZX ZZ (eG 8) (aa lG aq))))
  (aD (iT gG ZG ZX ZZ (eG 4) (aa (gU aq) aq))
  (aD (bC 9 nd (b7 (λ_=>Y) 1.11 (aa (ak ae 0) (aa (ak ae 2) (aa (ak ae 1) aq)))))
  (aD (dD (oJ (Al (bR J3 (aZ cT (λ_=>rfl) (λ_=>B.len) Z6 (aa (ak ae 3) aq)) aV) (vA (bR wV (b7 (λ_=>q) 1.11 (aa (ak ae 0) (aa (ak ae 1) (aa (ak ae 2) (aa (ak ae 5) (aa (ak ae 9) aq)))))) jT)))) (aJ (bB jT)) b_)
  (aJ (bB (pD (cb_eq _ (λ_=>rfl) Z.units) (b7 (λ_=>Y) 1.11 (aa (kJ nT (λ_=>rfl) (λ_=>B.tuple) aci (aa (ak ae 0) aq)) (aa (ak ae 1) (aa (ak ae 2) aq)))) (ak ae 3))))))))))))))))
theorem Uj:bA ["_law_script","_law_state","_law_turn","_law_names_here","_law_joinings_here","_law_again","_law_one","_law_other"] nl2 (aH Mm):=by trivial
theorem T4{f:Addr}{fd:Zh}(F:Fun K "law" "law" Mm f fd)(B:Blt mg)(z:Bd P w K mg base)(O:yH P w K mg base)(q:tZ P w K mg base)(I:jX P w K mg base)(V:Fe P w K mg base)(U:zE P w K mg base):dJ P w K mg base CX0 7 f fd nl2 (spP ⟨K,mg⟩ jt):=
 qP 6 (λi=>i==1) F Uj λnd _ _ _ _ _ _ Z=>(aD (bC 1 nd (b7 (λ_=>z) 1.11 (aa (ak ae 0) aq)))
  (aD (Cu (λ_=>Zv) (λ_=>rfl) (Hm (λ_=>rfl) (λ_=>B.range) (cW (Bb je (fK aV) (eO [1] (λ_=>I) 1.11 (cX 1 (cZ (bZ (aa aV aq)))))) (bZ aq))) (bf 2 nd) (aD (gZ 3 nd (eO [1] (λ_=>O) 1.11 (cX 1 (cZ (bZ aq)))))
  (aD (gZ 4 nd (eO [1] (λ_=>q) 1.11 (cX 1 (cZ (bZ (aa (ak ae 3) aq))))))
  (aJ (mD 4 (mD 3 (ig (λ_=>Zv) (λ_=>rfl) (Lr (λ_=>rfl) (λ_=>B.range) (aa aV aq)) (bf 5 nd) (aD (vR (eO [1] (λ_=>V) 1.11 (cX 1 (cZ (bZ (aa (ak ae 3) aq))))) (gm (λ_=>rfl) (bc (bf 6 nd) (bc (bf 7 nd) fB))))
  (aJ (dD (jW (ji (b7 (λ_=>U) 1.11 (aa (ak ae 4) (aa (ak ae 6) (aa (ak ae 7) aq)))))) (aJ (bB jT)) b_))))))))))
  (aJ (bB jT))))
end
section
variable{K:Frag}{x m qual c:Str}{st:Stmt}{f C:Addr}{oc:Value}{od an:Option Addr}{osl:Array (Option Value)}{kV doc pm cdv ct:Value}{fl:List Str}
structure Tp(K:Frag)(x:Str)(st:Stmt):Prop where
 ex:∃f fd,nsIn K ZQ x=ac (ac (.ref f))/\Fun K x x st f fd
theorem tp_mk(a:nsIn K ZQ x=ac (ac (.ref f)))(l:K.lookup f=ac ⟨oc,od,.func (fnOf x x (nF st) (ie st) (aH st) .none kV doc pm an cdv ct),osl⟩)(c:codeIn K cdv x=ag)(k:keepIn K (.ref f)=ag):Tp K x st:=⟨f,_,a,Vm l c k⟩
theorem al_nil{P:Str->Prop}:∀x∈([]:List Str),P x:=λ_ h=>by cases h
theorem al_cons{P:Str->Prop}{a:Str}{l:List Str}(h:P a)(t:∀x∈l,P x):∀x∈a::l,P x:=List.forall_mem_cons.mpr ⟨h,t⟩
end
section
variable(P:Program)(w:World){K:Frag}{mg:Str->Option Value}(base:Heap){h:Heap}(Xi:K.In h)(Gi:h.Ns mainGlobals mg){x m qual c:Str}{st:Stmt}{C:Addr}{fl ps:List Str}{k:Nat}{sp:Sp}
include Xi Gi
theorem Xd(t:Tp K x st)(ok:∀{f fd},Fun K x x st f fd->dJ P w K mg base CX0 k f fd ps sp)(U:∀(kV doc pm:Value)(an:Option Addr)(cdv ct:Value)(us:List Value),us.length=ps.length->bindArgs (fnOf x x (nF st) (ie st) (aH st) .none kV doc pm an cdv ct) ⟨us,[]⟩=pure (ps.zip us)):Cal P w K mg base k x ps sp:=
 let⟨f,fd,a,F⟩:=t.ex;⟨f,fd,ok F,mg_of Xi Gi a,F.kp,F.binds U⟩
end
variable{h:Heap}
theorem jM{K:Frag}(X:K.In h)(G:h.Ns ZQ mg)(z:∀x∈l,nsIn K ZQ x=ac af)(F:l.contains x=ag):mg x=af:=mg_none_of X G (z x (acK.mp F))
theorem Bw:∀ns:List Int,aG G H W (ns.map D.int) (ns.map V.int) []
 |[]=>.nil
 |x::r=>aG.cons (M:=[]) (M':=[]) dZ (Bw r)
theorem Tj{K:Frag}{a:Addr}{ns:List Int}{Q:VK}{E:XK}(Z:ns.length<=63)(U:SqL K H a (ns.map V.int))(q:∀H',Q (.bl ag) H'):spP ⟨K,mg⟩ jt [.ref a] H Q E:=by
 refine⟨[.lst .scr (ns.map D.int)],λ_=>False,?_,?_,?_,λ_ z=>z.elim,.bl ag,NB ns Z,λv H' L s r F nd c=>?_⟩
 .refine aG.one (M:=[]) ?_
  rw[Rep];refine⟨a,_,[],rfl,Bw ns,?_,rfl,rfl⟩;rcases U with z|z
  .exact .inl ⟨z,⟨λz=>z,λz=>z,λz=>z⟩⟩
  .exact .inr ⟨_,rfl,z⟩
 .simp[aB,az,cg (ds:=ns.map D.int) (by simp[az])]
 .simp[aC,au,bL (ds:=ns.map D.int) (by simp[au])]
 .rw[(v4 r).1];exact q H'
variable{P:List Value->Prop}
theorem un1(h:∀q,P [q]):∀us:List Value,us.length=1->P us
 |[q],_=>h q
theorem un2(h:∀q F,P [q,F]):∀us:List Value,us.length=2->P us
 |[q,F],_=>h q F
theorem un3(h:∀q F B,P [q,F,B]):∀us:List Value,us.length=3->P us
 |[q,F,B],_=>h q F B
theorem un4(h:∀q F B z,P [q,F,B,z]):∀us:List Value,us.length=4->P us
 |[q,F,B,z],_=>h q F B z
theorem un5(h:∀q F B z I,P [q,F,B,z,I]):∀us:List Value,us.length=5->P us
 |[q,F,B,z,I],_=>h q F B z I
def Ow(K:Frag):Sp:=λO H Q _=>∃(a:Addr)(ns:List Int),O=[.ref a]/\SqL K H a (ns.map V.int)/\ns.length<=63/\∀H',Q (.bl ag) H'
variable{l:adW}
theorem all_mk{K:Frag}{fa:Addr}{d4 e9:Tok}(X:K.In h)(G:h.Ns ZQ mg)(e8:mg "law"=ac (.ref fa))
  (t1:Tp K "_law_begin" mH)
  (t2:Tp K "_law_take" o_)
  (t3:Tp K "_law_names" mC)
  (t4:Tp K "_law_joinings" gk)
  (t5:Tp K "_law_two" rG)
  (t6:Tp K "_law_beside" lF)
  (t7:Tp K "_law_least_ways" iD)
  (t8:Tp K "_law_due" nR)
  (t9:Tp K "ways_from" mU)
  (c7:Tp K "ends_by_name" g8)
  (e5:Tp K "ends" Et)
  (d6:Tp K "names_with" kZ)
  (e4:Tp K "fewest_ways" jY)
  (e3:Tp K "levels_of" jL)
  (d5:Tp K "fewest_way" lJ)
  (d9:Tp K "first_places" jC)
  (c9:Tp K "are_unlike" lH)
  (e7:Tp K "is_couple" mG)
  (e0:Tp K "is_number" mW)
  (d7:Tp K "is_pair" rQ)
  (e2:Tp K "is_way" pR)
  (d1:Tp K "led" Np)
  (d8:Tp K "names_met" jO)
  (e6:Tp K "shows_way" m5)
  (c8:Tp K "is_listed" m7)
  (d0:Tp K "is_name" nY)
  (d2:Tp K "are_names" jV)
  (d3:Tp K "shows_fewest" fY)
  (f0:Tp K "_law_right" jd)
  (e1:Tp K "law" Mm)
  (g1:nsIn K ZQ "LETTERS"=ac (ac (.str "abcdefghijklmnopqrstuvwxyz" d4)))
  (g2:nsIn K ZQ "LONGEST"=ac (ac (.int 8 e9)))
  (z:∀x:Str,x∈(["abs","all","bool","divmod","enumerate","int","isinstance","len","list","range","set","sorted","str","tuple"]:List Str)->nsIn K ZQ x=ac af) :
  ∃fd:Zh,(∀(s:Ym)(v:Value),aec s fd ⟨[v],[]⟩ [("_law_script",v)])/\∀base:Heap,K.In base->base.Ns ZQ mg->dJ l.prog w K mg base CX0 7 fa fd nl2 (Ow K):=by
 obtain⟨f,fd,a,F⟩:=e1.ex;cases e8.symm.trans (mg_of X G a);have B:Blt mg:=⟨jM X G z rfl,jM X G z rfl,jM X G z rfl,jM X G z rfl,jM X G z rfl,jM X G z rfl,jM X G z rfl,jM X G z rfl,jM X G z rfl,jM X G z rfl,jM X G z rfl,jM X G z rfl,jM X G z rfl,jM X G z rfl⟩;have b9:Glb mg "LETTERS" (.str "abcdefghijklmnopqrstuvwxyz"):=⟨_,mg_of X G g1,⟨_,rfl⟩⟩;have c0:Glb mg "LONGEST" (.int 8):=⟨_,mg_of X G g2,⟨_,rfl⟩⟩;refine⟨fd,λs v=>by obtain⟨_,_,_,_,_,_,_,_,_,rfl,_⟩:=F.ex;exact .of_eq rfl,λbase _ _=>?_⟩;have T:=@Xd l.prog w K mg base h X G;have b1:=T t1 (λF=>zR F B) λ_ _ _ _ _ _=>un1 λ_=>rfl;have I:=T t2 (λF=>Dg F B) λ_ _ _ _ _ _=>un2 λ_ _=>rfl;have b7:=T t3 (λF=>Bj F B I) λ_ _ _ _ _ _=>un1 λ_=>rfl;have a3:=T t4 (λF=>tL F B I) λ_ _ _ _ _ _=>un2 λ_ _=>rfl;have c3:=T t5 (λF=>Gq F B I) λ_ _ _ _ _ _=>un2 λ_ _=>rfl;have a5:=T t6 (λF=>wy F B) λ_ _ _ _ _ _=>un1 λ_=>rfl;have a0:=T t7 (λF=>pP F B a5) λ_ _ _ _ _ _=>un2 λ_ _=>rfl;have c2:=T t8 (λF=>Gf F B a0) λ_ _ _ _ _ _=>un3 λ_ _ _=>rfl;have b6:=T t9 (λF=>Ah F B) λ_ _ _ _ _ _=>un2 λ_ _=>rfl;have a2:=T c7 (λF=>sZ F B) λ_ _ _ _ _ _=>un2 λ_ _=>rfl;have b2:=T e5 (λF=>PQ F B) λ_ _ _ _ _ _=>un2 λ_ _=>rfl;have a7:=T d6 (λF=>wI F B b2) λ_ _ _ _ _ _=>un3 λ_ _ _=>rfl;have U:=T e4 (λF=>vG F B b6 a2 a7) λ_ _ _ _ _ _=>un3 λ_ _ _=>rfl;have Y:=T e3 (λF=>yD F B U) λ_ _ _ _ _ _=>un3 λ_ _ _=>rfl;have a8:=T d5 (λF=>wD F B U) λ_ _ _ _ _ _=>un3 λ_ _ _=>rfl;have a4:=T d9 (λF=>tY F B) λ_ _ _ _ _ _=>un1 λ_=>rfl;have a6:=T c9 (λF=>wN F B) λ_ _ _ _ _ _=>un1 λ_=>rfl;have b8:=T e7 (λF=>yS F B) λ_ _ _ _ _ _=>un1 λ_=>rfl;have b0:=T e0 (λF=>zf F B) λ_ _ _ _ _ _=>un1 λ_=>rfl;have c1:=T d7 (λF=>Fz F B b8 b0) λ_ _ _ _ _ _=>un1 λ_=>rfl;have c5:=T e2 (λF=>Ji F B c1) λ_ _ _ _ _ _=>un1 λ_=>rfl;have c6:=T d1 (λF=>Vf F B b2) λ_ _ _ _ _ _=>un3 λ_ _ _=>rfl;have b4:=T d8 (λF=>yQ F B b2) λ_ _ _ _ _ _=>un2 λ_ _=>rfl;have b5:=T e6 (λF=>yR F B a6 c5 c6 b4) λ_ _ _ _ _ _=>un4 λ_ _ _ _=>rfl;have V:=T c8 (λF=>yu F B) λ_ _ _ _ _ _=>un1 λ_=>rfl;have c4:=T d0 (λF=>Gg F B b9 c0) λ_ _ _ _ _ _=>un1 λ_=>rfl;have a9:=T d2 (λF=>zu F B V c4) λ_ _ _ _ _ _=>un1 λ_=>rfl;have a1:=T d3 (λF=>tH F B a4 b5 V a9) λ_ _ _ _ _ _=>un5 λ_ _ _ _ _=>rfl;have b3:=T f0 (λF=>yw F B c2 Y a8 a1) λ_ _ _ _ _ _=>un3 λ_ _ _=>rfl;exact dJ.imp (T4 F B b1 b7 a3 I c3 b3) λO H Q E ⟨a,ns,e,hS,Z,q⟩=>by subst e;exact Tj Z hS q
theorem walk{q:Y7}{B:List Str}{Y:(Str->Option Value)->Heap->Prop}{V:World->Heap->Prop}{d:DefRec}{K:Params->Frag}(hn:l.most=ac 63)(I:d.params.defaults=[])
  (hY:∀(w:World)(h:Heap),V w h->(K w.params).In h)
  (F:∀(w:World)(mg:Str->Option Value)(fa:Addr)(h:Heap),(K w.params).In h->h.Ns ZQ mg->mg d.name=ac (.ref fa)->
   ∃fd:Zh,(∀(s:Ym)(u:Value),aec s fd ⟨[u],[]⟩ [("_law_script",u)])/\∀base:Heap,(K w.params).In base->base.Ns ZQ mg->dJ l.prog w (K w.params) mg base CX0 7 fa fd nl2 (Ow (K w.params))) :
  afH q B Y V l.row.toRowW d [] (λf O=>afr f O):=
 L2.walk_of (n:=63) (k:=7) (x:="_law_script") (CX:=λ_=>CX0) (sp:=λw=>Ow (K w.params)) hn (by decide) I ⟨rfl,by decide,by decide,rfl⟩ hY F (λ_ _ a ns Z _ U=>⟨a,ns,rfl,U,Z,λ_=>rfl⟩) λ_ _ _ _ _ z=>z
end Jb
end
namespace PySem.W.Fast
def tw17709099383085523814:=0
def tw5494273275197802728:=0
def tw12873563455193691915:=0
def tw8636624826075542157:=0
def tw15636583810674450772:=0
def tw13044303572645385426:=0
def tw7405785467106624843:=0
def tw15586291336038550233:=0
def tw12701765408027885720:=0
def tw8532950585167615688:=0
def tw14366675423973869475:=0
def tw887665794680838462:=0
def tw255238544862453901:=0
def tw15986029376532657040:=0
def tw7688774725626567336:=0
def tw13172382324197835986:=0
def tw13355543700278317049:=0
def tw9872869360136821361:=0
def tw17481733233599986345:=0
def tw4761650372641329782:=0
def tw13440779611909188497:=0
def tw5852680484198720758:=0
def tw206196229085016824:=0
def tw3697713515758712370:=0
def tw4607770204864072362:=0
def tw4423105555079389950:=0
def tw10642993786741424936:=0
def tw616984520346310303:=0
def tw11147042653902922570:=0
def tw2300247586639833545:=0
def tw17502587636786606776:=0
def tw11121016694154078378:=0
def tw8338808612013560421:=0
def tw9202306539278964645:=0
def tw13444674095544098244:=0
def tw17282184646672474045:=0
def tw1972026315405049456:=0
def tw4026548044623491811:=0
def tw10188678692466553955:=0
def tw8669374343510084782:=0
def tw1121132351366577241:=0
def tw952460206419984254:=0
def tw6386370288741142731:=0
def tw8122358926194899672:=0
def tw8181832459172931229:=0
def tw142913203193389758:=0
def tw6379504458439172911:=0
def tw3444643126158845802:=0
def tw13038151333713104749:=0
def tw5142205858502611426:=0
def tw11363288556021190268:=0
def tw4176517307666061972:=0
def tw17083535486726532693:=0
def tw16828092271294890095:=0
def tw684307684322297441:=0
def tw16968562554583927346:=0
def tw12054216680026290858:=0
def tw10912648647848130347:=0
def tw14002647796915895649:=0
def tw17577077683178068413:=0
def tw10378675422525805415:=0
def tw15001170494720875600:=0
def tw10256333722722004393:=0
def tw1987121673210835406:=0
def tw243638125470124320:=0
def tw11875479128945396067:=0
def tw17025792058586262591:=0
def tw7276639203557479055:=0
def tw6657727232963972659:=0
def tw16524657622754167307:=0
def tw11602321706383437890:=0
def tw9550820668901049811:=0
def tw328690796501899622:=0
def tw6841889591045799550:=0
def tw4891838061663991536:=0
def tw1966835626183719461:=0
def tw3792852649770020142:=0
def tw11171537492235157566:=0
def tw15197840011943897698:=0
def tw6374061120432789507:=0
def tw9531127720703516505:=0
def tw15377788288724691464:=0
def tw7031381017585281867:=0
def tw13513093291518130608:=0
def tw91794072152656246:=0
def tw7000619009058622755:=0
def tw2215595011121347982:=0
def tw13618560135941866900:=0
def tw11032223868444189519:=0
def tw6572771380768609475:=0
def tw12126445279909181842:=0
def tw7954737373433820868:=0
def tw10038808977720675013:=0
def tw4757247338405751064:=0
def tw4415704513693228021:=0
def tw16496720892302747587:=0
def tw2478784051540953742:=0
def tw17609003998940154400:=0
def tw16184074046337522725:=0
def tw1392262513859492534:=0
def tw7725791960200373924:=0
def tw13906189324360627015:=0
def tw7905922559830062417:=0
def tw18140795677235282017:=0
def tw6743382679794183864:=0
def tw13528430262937248563:=0
def tw6187201193213289913:=0
def tw6360610685654342655:=0
def tw1892115973894634225:=0
def tw3275657466781738261:=0
def tw12400061005840370677:=0
def tw17773274265690885101:=0
def tw6988563321501914848:=0
def tw4460393538706649958:=0
def tw8365215674427519415:=0
def tw18180063829051500546:=0
def tw620788899780559120:=0
def tw11072081246324542984:=0
def tw11983308316048187018:=0
def tw14173502858406471629:=0
def tw3851054307030884935:=0
def tw1551727086647348298:=0
def tw6688215235138864382:=0
def tw3691024407207322073:=0
def tw18359271449352578561:=0
def tw4676555154505873090:=0
def tw12819218567922591494:=0
def tw17539455566651051073:=0
def tw8251738281311733092:=0
def tw1645860888642341263:=0
def tw17724160242012867610:=0
def tw14346379057080674322:=0
def tw8519570577304054359:=0
def tw1174579496312332225:=0
def tw11636152631197660001:=0
def tw1570584662536486403:=0
def tw5322867572742471199:=0
def tw8920975077440428383:=0
def tw12074114696264152043:=0
def tw7231275997578752430:=0
def tw1524518411253923961:=0
def tw5913671577325364236:=0
def tw1711204857745057276:=0
def tw9264681244391126446:=0
def tw4051089450189093510:=0
def tw5896439515823378814:=0
def tw6497051005793867117:=0
def tw15799969988947838448:=0
def tw4454461754830102382:=0
def tw3406864744281088319:=0
def tw12689719684026142772:=0
def tw13270432688642463100:=0
def tw16484847529557151816:=0
def tw14944752865015826296:=0
def tw13046123563272128855:=0
def tw12198453437537371305:=0
def tw6735487962278586669:=0
def tw120862891046406371:=0
def tw1523311324068282852:=0
def tw13077006323843461772:=0
def tw5522866872063273021:=0
def tw10215609470860410833:=0
def tw4010608253092552445:=0
def tw4933206322267355765:=0
def tw3685929089139644405:=0
def tw11272932165975958660:=0
def tw11631154091487849412:=0
def tw13934570886397454540:=0
def tw12199809549225990738:=0
def tw11570088453897598663:=0
def tw11032652544595864252:=0
def tw16372860492233059569:=0
def tw16436211953717924341:=0
def tw18213527514715656097:=0
def tw3365085858209421000:=0
def tw11330379131319932091:=0
def tw18285910509945596685:=0
def tw6037259227115999024:=0
def tw6611062162636720025:=0
def tw1281211738478206394:=0
end PySem.W.Fast
open PySem PySem.W PyProof.Rows
set_option maxRecDepth 100000 in
set_option maxHeartbeats 0 in
theorem PySem.Challenge.cw_joinback_k11_levels_holds : PySem.Challenge.rw_joinback_k11_levels.Holds := by
 w_on;o_law;k_head;(case hw=>w_witness2)
 k_fill
 refine Jb.walk (l:=PySem.Challenge.rw_joinback_k11_levels) rfl rfl (λw h Y=>PySem.W.kIn_of Y) ?F
 case F=>
  intro w mg fa h KX G hmg;refine' Jb.all_mk KX G hmg ?_ ?_ ?_ ?_ ?_ ?_ ?_ ?_ ?_ ?_ ?_ ?_ ?_ ?_ ?_ ?_ ?_ ?_ ?_ ?_ ?_ ?_ ?_ ?_ ?_ ?_ ?_ ?_ ?_ ?_ ?_ ?_ ?_
  all_goals repeat' (first|(refine' Jb.tp_mk ?_ ?_ ?_ ?_)|(refine' Jb.mp_mk ?_ ?_ ?_ ?_ ?_)|(refine' Jb.cp_mk ?_ ?_ ?_ ?_ ?_ ?_ ?_ ?_)|(refine' Jb.al_cons ?_ ?_)|exact Jb.al_nil|k_is)
