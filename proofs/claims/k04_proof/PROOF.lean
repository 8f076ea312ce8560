import PyProof.Rows.All
import Wide.All
import OpenK.AllK
import Wide.FinOn
import Lean
import PyProof.EqAt
import PyProof.EqKinds
import PyProof.TupleCall
import KE.KSortTup
import PyProof.AttrMissHeap
import PyProof.NeKinds
import PyProof.TupleIter
import PyProof.TupleOfSeq
import PySem.Challenge.RW_joinback_k04_numbers
set_option Elab.async false
set_option linter.all false
set_option compiler.extract_closed false
set_option maxRecDepth 100000
set_option hygiene false
set_option hygiene false
local macro_rules
 |`(tactic|show 1)=>`(tactic|(repeat(any_goals(first|assumption|wp_step))))
 |`(tactic|show 2)=>`(tactic|(intro pins s σ H x y v u Q I rx J h;obtain⟨i,j,rfl,rfl,q⟩:=h;obtain⟨t,rfl⟩:=rx;obtain⟨t',rfl⟩:=J))
 |`(tactic|show 3)=>`(tactic|(have q1:=q.from m1;have a0:∀{ρ2:En}{σ2:L2.St}{H2:Hp}{S2:Ad},Mv P H1 H2 σ σ2 S S2 []->LtB true H1 (wn ob S Fr) H2 (wn ob S2 Fr):=λm=>qU (Cd s1 m);refine⟨λi m σ2 H2=>i+m=items.length/\∃ρ2 S2,Sta G H2 ob ρ2 σ2 S2 Fr/\Mv P H1 H2 σ σ2 S S2 []/\forL tg V (items.drop i) ρ2=some r,⟨items.length,by omega,ρ,S,s1,.refl,e⟩,?_⟩;rintro i m σ2 H2 ⟨a6,ρ2,S2,Y,m2,e2⟩;by_cases N:i<items.length))
local macro_rules
 |`(1.10)=>`((by omega))
 |`(1.11)=>`((model X.prog X.w))
 |`(1.12)=>`((λ_=>O.mono (by decide)))
 |`(1.13)=>`((model prog w))
 |`(1.14)=>`((.ListComp elt [⟨target,iter,ifs,0⟩] scope pos))
 |`(1.15)=>`((ao false 0))
 |`(1.16)=>`((ao false 1))
 |`(1.17)=>`((ixb (λ_=>aP O)))
 |`(1.18)=>`((bD X N' scope C Z H fp))
 |`(1.19)=>`((D.lst Mk.frz (List.map D.str ns)))
 |`(1.20)=>`((sIf (eB (e2 gNe (eAp (bz cu) (ak (ao false 2) (ak (e2 gm (e2 cg (e2 gIx (ao false 5) (ao false 7)) (ao false 9)) (e2 gIx (ao false 5) (ao false 8))) aG))) (eC (.int 0)))) (gO (eAp bC (ak (eC (.str "ring")) (ak (ao false 7) (ak (e2 cg (eAp bC (ak (eAp bC (ak (ao false 6) (ak (eC (.int 1)) aG))) aG)) (eAp (bz dF) (ak (e2 gIx (ao false 3) (ao false 8)) (ak (e2 gIx (ao false 3) (ao false 7)) aG)))) aG))))) fB))
 |`(1.21)=>`((.DictComp kx vx [⟨target,iter,ifs,0⟩] scope pos))
 |`(1.22)=>`((aj false 1))
 |`(1.23)=>`((x==("__debug__":Str)))
 |`(1.24)=>`((obC cap ob))
 |`(1.25)=>`((aj false 0))
 |`(1.26)=>`((dN [0] (λ_=>I) 1.12 (cJ 0 (cM (bM (aa aH aq))))))
 |`(1.27)=>`((by decide))
set_option hygiene true
local macro_rules
 |`(tactic|simp![$x,*]$[$l:location]?)=>`(tactic|simp only[$x,*]$[$l:location]?)
set_option hygiene true
open Lean.Parser.Command Lean.Parser.Term in
local macro_rules
 |`(command|def $i:declId $s:optDeclSig := $v)=>`(command|noncomputable def $i $s := $v)
 |`(command|def $i:declId $s:optDeclSig $[$a:matchAlt]*)=>`(command|noncomputable def $i $s:optDeclSig $[$a:matchAlt]*)
section
def Xu:=@if_pos
def Xz:=@if_neg
def XX:=@if_true
def X8:=@decide_eq_false
def YJ:=@if_false
def YL:=@decide_eq_true
def aaX:=@or_false
open PySem renaming wpAny_bind->gD,Shared->zb,wpAny_pure->Xg,sizeLine->Xp,starEach->Xy,mainGlobals->XH,Program->X7,compareOp->Yp,FuncData->Yu,wpAny_callSpecial?_slot->Yw,Around->Yy,assignEach->YS,wpAny_newObj_type->YX,foldedSetIterable->YZ,wpAny_mono->Y9,wpAny_holding->Za,binaryOp->Zh,builtinLookup_eq_fast->Zt,bootBuiltins->Zu,rawInt->Zv,codeAny_call_builtin->ZD,backTo->ZK,wpAny_field->ZL,wpAny_isInstance->ZV,codeAny_builtin->Z3,mem_of_lookup->Z5,IsPair->Z6,isSubtype_type->Z7,pyNext->aaa,wpAny_typeOf->aab,wpAny_setField_rec->aae,wpAny_passesOwn->aaf,typeLookup_type->aah,wpAny_attempt->aak,plainId_quiet->aal,sysModules->aap,wpAny_seqItems->aat,wpAny_call_entry->aav,wpAny_standAt->aaF,swapsWithSole->aaG
open PySem renaming codeAny->aaH,swapsWith->aaI,boot_len->aaN,wpAny_truthy_bool->aaO,holding->aaS,IsPart->aaT,attributeBase->aa1,sliceBounds->aa3,wpAny_of_eq->aa4,letOwnedTupleGo->aa9,assign->abf,wpAny_Call_Name_kw->abg,tupleKind_room_in1->abj,wpAny_comprehension_free->abk,wpAny_rule->abn,wpAny_setField->abo,wpAny_pyIter_enum->abw,wpAny_pyIter_list->abx,sizeLine_eq->abz,wpAny_throw->abC,wpAny_isOneOf_itemiter->abF,swappedStores->abH,behindInMarks->abI,NameKind->abM,wpAny_pyIter_zip->abR,wpAny_execs_nil->ab0,wpAny_typeNameOfWhole_itemiter->ab5,wpAny_updateSeq_pair->ab6,getItem->aca,Keyword->acb,Fin->acn,wpAny_letOwnedTupleGo_enum->acw,wpAny_handled->acy,wpAny_onRaise->acA,slot_list_getitem->acC,typeLookup->acH,call_meets->acI,wpAny_letOwnedTupleGo_zip->acK,valueAt->acM,callerA->acN
open PySem renaming newList->acO,wpAny_eqBool_str->acP,Paired->acQ,noFill_tuple_add->acS,wpAny_getItem_list_slice->acT,entryFor_of_tree->acV,tupleKind->ac9,exec_Assign_arm->ada,PassesOwn->adb,wpAny_updateSeq->adi,wpAny_pyNext_list_item->adm,seqIndex_of->ado,keywordEach->adq,isTrue->adz,wpAny_pyNext_list_end->adA,BindsTo->adC,wpAny_notOrdered_dict->adH,callType_newIn->adI,wpAny_newTuple->adK,GenState->adO,wpAny_loadName_local->adP,Operator->adQ,wpAny_load->adR,PlainAttrs->adT,wpAny_newFunctionEnv->adW,attributeErrorLeaves->adX,entryFor->adY,assignInOrder->ad5,seq_tuple_add->ad6,evalPart_none->ad7,holding->ad_,wpAny_loadName_cell->aeb,wpAny_dictSet_pairs->aee,codeAny_mono->aeq,concat_meets->aer,seqIndex?->aes,seqIndex_neg->aet,isSubtype->aew,call_meetsIn->aex,list_append->aeJ
open PySem renaming wpAny_letGo->aeU,call->ae7
open List renaming getElem?_eq_some_iff->qb,mem_map->zc,mem_append->W2,mem_append_right->Xf,map_map->Xh,map_cons->Xi,mem_cons->Xj,getElem?_eq_getElem->Xk,mem_append_left->Xo,length_map->Xq,mem_singleton->Xv,mem_of_getElem?->Xw,nodup_append->Xx,getElem?_append_left->XD,append_nil->XJ,map_congr_left->XM,length_cons->XN,mem_cons_of_mem->XQ,range->X3,map_append->X4,mem_cons_self->X_,cons_append->Yc,getElem?_cons_succ->Yh,getD_eq_getElem?_getD->Yi,getElem?_cons_zero->Yj,length_nil->Yl,findIdx?_eq_some_iff_getElem->Ym,nodup_cons->Yo,map_nil->Yq,Perm->Yt,length_append->YB,set_cons_succ->YC,mem_filter->YD,mem_range->YF,replicate->YK,getElem_of_mem->YW,getElem?_append_right->Y0,find?_cons->Y5,mem_flatten->Y6,take_add_one->Y_
open List renaming map_id->Zc,set_cons_zero->Zf,not_mem_nil->Zk,Sublist->Zn,getElem?_set_self->Zo,sublist_append_right->Zq,findIdx?_eq_none_iff->Zr,take_length->Zw,length->Zz,Pairwise->ZC,pairwise_map->ZF,flatten_cons->ZG,getElem_cons_drop->ZQ,sum_cons->ZS,getElem_mem->ZW,getElem?_eq_none_iff->Z0,pairwise_iff_getElem->Z1,drop_length->Z8,pairwise_cons->aad,perm_append_comm->aai,append_assoc->aan,drop_eq_getElem_cons->aar,sublist_append_left->aay,mem_map_of_mem->aaD,take_of_length_le->aaM,length_take->aaU,length_drop->aaV,filter_cons->aaY,mem_reverse->aaZ,all_cons->aa0,perm_ext_iff_of_nodup->aa2,filterMap_cons->aa5,length_reverse->aa7,flatten_append->aa8,findIdx?_cons->abm,reverse_cons->abt,ext_getElem?->abv,getElem?_set->aby,eraseIdx_append_of_length_le->abD,drop_eq_nil_of_le->abE
open List renaming length_pos_of_mem->abG,any_cons->abJ,getElem_inj->abL,nil_sublist->abO,all_eq_true->abP,countP_cons->abQ,take_append_drop->abU,mem_iff_getElem?->abV,set_append_right->abW,pairwise_flatten->abX,of_mem_zip->ab1,getElem?_range->ab8,mem_filterMap->aci,getElem?_inj->acF,mem_or_eq_of_mem_set->acJ,lookup_cons->acU,set_eq_of_length_le->acY,any_eq_true->acZ,zip->ac0,flatten_nil->ac3,getElem?_replicate->ac6,forIn_cons->adg,range_succ_eq_map->adv,length_singleton->adE,getElem?_reverse->adF,length_filter_le->adM,getElem?_of_mem->ad1,toList_toArray->aeh,length_zipWith->aei,length_pos_iff->aej,countP_eq_zero->aek,all_map->aev,toArray->aez,zip_cons_cons->aeA,filter_filter->aeC,push_toArray->aeL,filter_congr->aeR,map_fst_zip->ae1,map_snd_zip->ae2,zipIdx_cons->ae5
open List renaming zipIdx_nil->ae9,filter_map->afa,drop_zero->afe,forIn_nil->afl
open PySem.Heap renaming get?_push_of_some->za,lt_size->Xm,get?_push_size->Xr,get?_update_other->Yd,size_push->YM,get?_update_self->ZX,size_update->Z9,SameBut->aaR,DictAt->adx,get?_update_ne->aeg,IsSliceOf->afj
open Option renaming bind_some->Mx,map_some->Yb,getD_some->aaz,map_eq_some_iff->aaL,isSome_map->acD,isSome_iff_exists->acR,getD_none->ae0,bind_none->ae6
open PySem.W renaming Frag->Xl,kia_one->Zb,fnOf->abh,kitx_list->abq,kitx_dict->abr,kitOne->ab9,keepIn->ab_,kitAny->acd,methodObj->acB,instObj->ac_,OpenLaw->adf,KatTups->adh,cellsFrom_some->adn,lookIn->adB,codeIn->adD,kitx_float->aen,kitx_tuple->aeo,kitx_none->aeG,kitx_bool->aeH,plainGet->aeW,kitx_int->aeX,kitx_str->aeY,kitx_own->aeZ,kas_kind->ae3,kat_cons->ae4,kat_yes->ae8,findIn->afc,WalkO->afn
open Nat renaming le_refl->Xn,lt_of_lt_of_le->XC,ne_of_lt->XS,le_trans->Yz,lt_irrefl->YQ,ne_of_gt->Y4,zero_le->ZP,zero_add->Z4,le_of_lt->Z_,sub_self->aax,lt_succ_of_lt->abu,lt_succ_self->abN,lt_trichotomy->acG,succ_ne_self->acX,le_succ->adu,mul_le_mul_right->ad3,not_lt_zero->afb
open Sum renaming inr->XF,inl->acL
open Bool renaming and_eq_true->XR,false_ne_true->X6,false_eq_true->Ye,and_self->aam,eq_iff_iff->aba,not_true->acx,and_eq_true_iff->adV,not_eq_true'->aeS,and_assoc->afh,and_false->afi
open PySem.Value renaming ref->X5,none->Yg,type->Y8,str->abe,int->abS,bool->abZ,float->aeT,isStrOf->afm
open PySem.Builtin.Slice renaming slicePlaces->Yk,sliceAdjust->Yr,sliceApplied->aaj
open Option.some renaming inj->Yn,injEq->aaP
open PyProof.Rows renaming slot_tuple_getitem->Ys,boot_isinstance->Zd,callWith_type1->ZJ,envOfC->abA,AllBare->abT,callWith_builtin1->ab2,boot_tuple->ab7,boot_sorted->acf,assignInOrder_cons->ach,subscriptTail->acv,subscriptTail_builtinR->adp,mirror_perm->adw,seqObj->adJ,tail_any->adS,boot_str->ad4,entry_tuple_getitem->aec,boot_list->aeD,IntsAre->aeE
open PySem.Builtin.Str renaming occurrences->Yv,strKind->aa6,partsBetween->abl
open PySem.PassesOwn renaming never->Yx
open Function renaming comp->YG
open Int renaming toNat_natCast->YH,le_refl->ZR,le_trans->ab3,dvd_add->acg,emod_eq_zero_of_dvd->ac7,emod_add_mul_ediv->adN,emod_lt_of_pos->aeB,dvd_sub->aeV,emod_nonneg->ae_
open True renaming intro->YT
open PySem.F renaming slot_dict_itemiterator_next->Y7,plainAttrs_list->Zg,slot_tuple_iterator_next->Zm,slot_list_append->Zx,type_list_append->Zy,slot_list_getattribute->aaw,slot_zip_next->aaJ,args_tuple_add_2->abi,entry_tuple_add->abp,slot_tuple_add->abB,args_dict_itemiterator_next_1->abY,entry_dict_itemiterator_next->ab4,args_tuple_iterator_next_1->ace,entry_tuple_iterator_next->aco,slot_dict_update->ac4,type_dict_update->ac5,plainAttrs_dict->ac8,args_list_append_2->adU,args_dict_update_2->adZ,args_object_init_2->ad0,entry_list_append->aed,entry_dict_update->aef,slot_list_append->aeu,slot_dict_update->aey,plain_list_iadd->aeO,slot_dict_items->aeP,args_zip_next_1->aeQ
open Or renaming inr->Ze,inl->ZZ
open PySem.Obj renaming mapSeq->Zi,mapFields->abK,data_mapFields->ack,isFreed_of_fields->adG,cls_mapFields->aeM
open PySem.Around renaming under_plainId->Zj
open PySem.Str renaming ofString->ZM,length_append->aaQ
open PySem.Builtin.Tuple renaming tupleExact->Z2,tupleItemsOf->acu
open Array renaming getD_eq_getD_getElem?->aac,length_toList->aaC,getElem?_eq_none->ady,getElem_toList->ad2
open ForInStep renaming yield->aag
open List.Sublist renaming refl->aao
open False renaming elim->aaq
open PySem.Builtin.SmallTypes renaming nextOf->aas,stopIteration->acz,ownedTupleFields->aeF,newRecord->afg
open PySem.PyData renaming hasDict->aau,shownAll->aaK,showable->abb,showableAll->acq,hasDictAll->acE,shown->ac2,depthAll->adl
open List.Pairwise renaming imp_of_mem->aaA,nil->aeK
open PySem.Builtin.Dict_items renaming slot0->aaB
open PySem.Builtin.Dict renaming updateFrom->aaE,selfAndRest->acW
open PySem.IsL renaming update->aaW
open List.cons renaming injEq->aa_
open Classical renaming byContradiction->abd
open PySem.Heap.IsSliceOf renaming new->acj
open PySem.Builtin.List renaming listExtendWith->acp,listSameRef->ac1
open PySem.Paired renaming length->acr
open PySem.Calls renaming Name_function_global->acs,callWith_builtin->adt,spliced_cons->aep,spliced_nil->aeI
open PySem.Heap.DictOf renaming new->ade
open List.Perm renaming trans->adk,mem_iff->aeN,refl->afk
open PySem.W.Looks renaming of_pure->adL
open PySem.NameKind renaming free->ad8
open Prod.mk renaming injEq->ad9
open PySem.Challenge renaming pw_joinback_k04_numbers->aea
open PySem.SeqAt.EqAt renaming int_str->ael,str_int->aem
open PySem.Manifest renaming find?->afd
open Sum.inr renaming inj->afo
open PySem
variable{XP:(Str->Option Value)->Heap->Prop}{a it f dx sl:Addr}{A:Around}{g:Array GenState}{p:Array Nat}{items:Array Value}{g':Array adO}{b:Bool}{op:CmpOp}{d' d:Drawn}{env:Env}{e c tg elt target kx vx:Expr}{h h' base:Heap}{C:Int->Int->Prop}{pins:List (Addr×Obj)}{B ks gs:List (List Str)}{J:List (Option Expr)}{U R:List (Str×Int)}{ch M fp L:List Addr}{es ifs elts:List Expr}{vs:List Int}{js:List Nat}{N ps ns N' xs ys:List Str}{us:List Value}{t' i j n tk ep x1:Nat}{ob pr:Nat->Bool}{tn:Nat->Heap->Prop}{ρ:Nat->Int}{o:Obj}{l:OpenLaw}{pos pos' apos p2 cpos pos2 tpos:Pos}{prog:Program}{scope:Scope}{s:Shared}{x y name:Str}{Y mg:Str->Option Value}{T:String}{κ α β ι:Type}{u v:Value}{RR:Value->Addr->Result->zb->Prop}{E:Value->Shared->Prop}{Q:Value->zb->Prop}{w:World}{YP:World->Heap->Prop}{P:X7}{fd:Yu}{s' Z:zb}
namespace L2
open PySem PySem.Spec PyProof.Rows
abbrev Key:=Sum Int Str
def rW:Key->Value->Bool
 |.inl k,v=>Value.isInt k v
 |.inr x,v=>afm x v
def W0(w:World):Key->Int
 |.inl k=>hashInt k
 |.inr x=>hashStr w x
theorem cB:∀{k:Key}{v:Value},rW k v=true->(∃i t,k=acL i/\v=abS i t)∨(∃x t,k=XF x/\v=abe x t)
 |.inl i,v,h=>by
  obtain⟨t,e⟩:=Value.isInt_shape (k:=i) (v:=v) h;exact .inl ⟨i,t,rfl,e⟩
 |.inr x,v,h=>by
  obtain⟨t,e⟩:=Value.isStrOf_shape (x:=x) (v:=v) h;exact .inr ⟨x,t,rfl,e⟩
theorem HY(i:Int)(t:Tok):rW (.inl i) (.int i t)=true:=by simp[rW,Value.isInt]
theorem Ik(x:Str)(t:Tok):rW (.inr x) (.str x t)=true:=by simp[rW,afm]
theorem RQ(a b:Int):decide ((acL a:Key)=acL b)=(a==b):=by
 by_cases e:a=b
 .subst e;simp
 .have h:¬(acL a:Key)=acL b:=λq=>e (Sum.inl.inj q)
  rw[X8 h];exact(beq_eq_false_iff_ne.mpr e).symm
theorem TX(a b:Str):decide ((XF a:Key)=XF b)=decide (a=b):=by
 by_cases e:a=b
 .subst e;simp
 .have h:¬(XF a:Key)=XF b:=λq=>e (afo q)
  rw[X8 h,X8 e]
theorem Um(a:Int)(b:Str):decide ((acL a:Key)=XF b)=false:=X8 (λq=>nomatch q)
theorem TV(a:Str)(b:Int):decide ((XF a:Key)=acL b)=false:=X8 (λq=>nomatch q)
noncomputable def bA(prog:X7)(w:World):PySem.KeyKind prog w Key where
 is:=rW
 hash:=W0 w
 inj:=λv a b Z U=>by
  rcases cB Z with⟨i,t,rfl,rfl⟩|⟨x,t,rfl,rfl⟩
  .rcases cB U with⟨j,u,rfl,e⟩|⟨y,u,rfl,e⟩
   .injection e with e1 _;rw[e1]
   .exact nomatch e
  .rcases cB U with⟨j,u,rfl,e⟩|⟨y,u,rfl,e⟩
   .exact nomatch e
   .injection e with e1 _;rw[e1]
 byValue:=λk v h=>by
  rcases cB h with⟨i,t,rfl,rfl⟩|⟨x,t,rfl,rfl⟩<;>rfl
 pyHash:=λB h=>by
  rcases cB B with⟨i,t,rfl,rfl⟩|⟨x,t,rfl,rfl⟩
  .exact wpAny_pyHash_int h
  .exact wpAny_pyHash_str h
 eqBool:=λV B h=>by
  rcases cB V with⟨i,t,rfl,rfl⟩|⟨x,t,rfl,rfl⟩
  .rcases cB B with⟨j,u,rfl,rfl⟩|⟨y,u,rfl,rfl⟩
   .rw[RQ]at h;exact wpAny_eqBool_int h
   .rw[Um]at h;exact ael i t y u _ _ _ _ h
  .rcases cB B with⟨j,u,rfl,rfl⟩|⟨y,u,rfl,rfl⟩
   .rw[TV]at h;exact aem x t j u _ _ _ _ h
   .rw[TX]at h;exact acP h
 «strs»:=λk x t v h=>by
  rcases cB h with⟨i,u,rfl,e⟩|⟨y,u,rfl,e⟩
  .exact nomatch e
  .injection e with e1 _
   subst e1;cases v<;>rfl
theorem Br(prog:X7)(w:World)(i:Int)(t:Tok):(bA prog w).is (.inl i) (.int i t)=true:=HY i t
theorem Ab(prog:X7)(w:World)(x:Str)(t:Tok):(bA prog w).is (.inr x) (.str x t)=true:=Ik x t
inductive V where
 |non|bl (b:Bool)|int (i:Int)|str (x:Str)|byt (b:Array UInt8)|flt (b:UInt64)|ref (a:Addr)|ty (n:String)
 deriving DecidableEq
def RelV:V->Value->Prop
 |.non,u=>u=Yg
 |.bl b,u=>u=abZ b
 |.int i,u=>∃t,u=abS i t
 |.str x,u=>∃t,u=abe x t
 |.byt b,u=>∃t,u=Value.bytes b t
 |.flt b,u=>∃t,u=aeT b t
 |.ref a,u=>u=X5 a
 |.ty n,u=>u=Y8 n
noncomputable abbrev Vals:List V->List Value->Prop:=acQ RelV
variable{xs:List V}
theorem Vals.length(r:Vals xs us):xs.length=us.length:=acr r
theorem Vals.get:∀{xs:List V}{us:List Value}{i:Nat}{x:V},Vals xs us->xs[i]? =some x->∃u,us[i]? =some u/\RelV x u
 |_,_,_,_,.nil,e=>by simp at e
 |_,_,0,_,.cons r _,e=>by simp at e;subst e;exact⟨_,rfl,r⟩
 |_,_,i+1,x,.cons _ t,e=>by
  obtain⟨u,h1,h2⟩:=Vals.get (i:=i) (x:=x) t (by simpa using e);exact⟨u,by simpa using h1,h2⟩
theorem Vals.set{x:V}(r:RelV x u):∀{xs:List V}{us:List Value}(i:Nat),Vals xs us->Vals (xs.set i x) (us.set i u)
 |_,_,_,.nil=>.nil
 |_,_,0,.cons _ t=>.cons r t
 |_,_,i+1,.cons q t=>.cons q (Vals.set r i t)
theorem Vals.append:∀{xs ys:List V}{us Z:List Value},Vals xs us->Vals ys Z->Vals (xs++ys) (us++Z)
 |_,_,_,_,.nil,s=>s
 |_,_,_,_,.cons r t,s=>.cons r (Vals.append t s)
theorem Vals.take:∀{xs:List V}{us:List Value}(n:Nat),Vals xs us->Vals (xs.take n) (us.take n)
 |_,_,0,_=>.nil
 |_,_,_+1,.nil=>.nil
 |_,_,n+1,.cons r t=>.cons r (Vals.take n t)
theorem Vals.drop:∀{xs:List V}{us:List Value}(n:Nat),Vals xs us->Vals (xs.drop n) (us.drop n)
 |_,_,0,r=>r
 |_,_,_+1,.nil=>.nil
 |_,_,n+1,.cons _ t=>Vals.drop n t
def ud:Option V->Option Value->Prop
 |some v,some u=>RelV v u
 |none,none=>True
 |_,_=>False
def KV:List (κ×V)->List (κ×Value)->Prop:=acQ λ(p:κ×V)(q:κ×Value)=>p.1=q.1/\RelV p.2 q.2
def kV:Key->V
 |.inl i=>.int i
 |.inr x=>.str x
inductive HO where
 |lst (xs:List V)
 |tup (xs:List V)
 |dK (kvs:List (Key×V))|dT (kvs:List (List Key×V))
 |set (S:Int->Bool) (n:Nat)
 |ins (C dx:Addr) (fs:List (Str×V))
 |own (x:Addr)
 |xd (fs:List (Str×V))
 |met (f x:Addr)
 |rng (lo hi:Int)
 |frz (o:Obj) (u:HO)
 |tbl (ps:Array Value)
 |ext (φ:Heap->Prop)
abbrev Hp:=Addr->Option HO
def upd(H:Hp)(a:Addr)(o:HO):Hp:=λb=>if b=a then some o else H b
variable{H:Hp}{o:HO}
theorem aN:upd H a o a=some o:=by unfold upd;rw[Xu rfl]
variable{b:Addr}
theorem aJ(h:b≠a):upd H a o b=H b:=by unfold upd;rw[Xz h]
theorem Ff{u:HO}:upd (upd H a o) a u=upd H a u:=by
 funext b;unfold upd;split<;>rfl
theorem jN{u:HO}(h:H a=some o)(h':H b=some u)(d:o≠u):a≠b:=by
 intro e;subst e;rw[h]at h';exact d (Yn h')
theorem aY(h:H a=some o)(h':H b=none):a≠b:=by
 intro e;subst e;rw[h]at h';cases h'
def lE(h:Heap)(a:Addr)(items:Array Value):Prop:=∃o,h.get? a=some o/\o.cls= .type "tuple"/\∃n,o.data= .seq items n/\o.dict=none
theorem lE.new(h:Heap)(items:Array Value):lE (h.push {cls:=.type "tuple",data:=.seq items}) h.objs.size items:=⟨_,Xr _ rfl,rfl,_,rfl,rfl⟩
theorem lE.t(x:lE h a items):IsTup h a items:=let⟨o,e,c,n,d,_⟩:=x;⟨o,e,c,n,d⟩
section
variable(P:Program)(w:World)
def bZ(H:Hp)(h:Heap)(a:Addr):HO->Prop
 |.lst xs=>xs.length<=Xp/\∃(B:List Value)(n:Nat),Vals xs B/\h.get? a=some {cls:=.type "list",data:=.seq B.toArray n}
 |.tup xs=>xs.length<=Xp/\∃B:List Value,Vals xs B/\lE h a B.toArray
 |.dK kvs=>kvs.length<=Xp/\(a==aap)=false/\∃vs,KV kvs vs/\h.DictOf (bA P w) a vs
 |.dT kvs=>kvs.length<=Xp/\(a==aap)=false/\∃xs:List (List Key×Addr×Value),
  acQ (λ(p:List Key×V)(q:List Key×Addr×Value)=>p.1=q.1/\H q.2.1=some (.tup (p.1.map kV))/\RelV p.2 q.2.2) kvs xs/\
  ∃o es ep,h.get? a=some o/\o.ExactDict/\o.data= .dict es ep/\es.toList=xs.map (entryOfKey (ac9 (bA P w)))/\(xs.map (·.1)).Nodup
 |.set S n=>h.SetOf (intKind P w) a S n
 |.ins C dx fs=>H dx=some (.own a)/\fs.length<=1000/\dx≠a/\h.get? a=some (ac_ C dx)/\
  ∃Y,h.Ns1 dx Y/\(∀f,ud (fs.lookup f) (Y f))/\PySem.Within Y (fs.map (·.1))
 |.own _=>∃o,h.get? a=some o
 |.xd fs=>∃Y,h.Ns1 a Y/\∀f,ud (fs.lookup f) (Y f)
 |.rng lo hi=>∃t u v,h.get? a=some {cls:=.type "range",data:=.fields #[.int lo t,.int hi u,.int 1 v]}
 |.frz o u=>h.get? a=some o/\bZ H h a u
 |.tbl ps=>h.get? a=some {cls:=.none,data:=.fields ps}
 |.met f x=>h.get? a=some (acB (.ref f) (.ref x))
 |.ext I=>I h/\(∃o,h.get? a=some o)/\∀h1 h2:Heap,I h1->(∀o,h1.get? a=some o->h2.get? a=some o)->I h2
def HOk(H:Hp)(h:Heap):Prop:=∀a o,H a=some o->bZ P w H h a o
end
variable{P:Program}
theorem bZ.lt(x:bZ P w H h a o):a<h.objs.size:=by
 cases o with
 |lst xs=>obtain⟨_,_,_,_,e⟩:=x;exact Xm e
 |tup xs=>obtain⟨_,_,_,p⟩:=x;exact p.t.lt
 |dK kvs=>obtain⟨_,_,_,_,o,_,_,e,_⟩:=x;exact Xm e
 |dT kvs=>obtain⟨_,_,_,_,o,_,_,e,_⟩:=x;exact Xm e
 |set S n=>obtain⟨o,_,_,_,e,_⟩:=x;exact Xm e
 |ins C dx fs=>obtain⟨_,_,_,e,_⟩:=x;exact Xm e
 |own y=>obtain⟨_,e⟩:=x;exact Xm e
 |xd fs=>obtain⟨_,⟨_,_,_,e,_⟩,_⟩:=x;exact Xm e
 |rng lo hi=>obtain⟨_,_,_,e⟩:=x;exact Xm e
 |frz ob u=>obtain⟨e,_⟩:=x;exact Xm e
 |tbl ps=>exact Xm (show h.get? a=some _ from x)
 |met f y=>exact Xm (show h.get? a=some _ from x)
 |ext I=>obtain⟨_,⟨_,e⟩,_⟩:=x;exact Xm e
theorem Paired.mapP{F G:α->β->Prop}:∀{q:List α}{B:List β},acQ F q B->(∀a b,F a b->G a b)->acQ G q B
 |_,_,.nil,_=>.nil
 |_,_,.cons r t,f=>.cons (f _ _ r) (Paired.mapP t f)
variable{H':Hp}
theorem bZ.stay(x:bZ P w H h a o)(k:∀b u,(b=a∨H b=some (.own a))->h.get? b=some u->h'.get? b=some u)
  (N:∀b,H b=some (.own a)->H' b=some (.own a)) (U:∀b xs,H b=some (.tup xs)->H' b=some (.tup xs)):bZ P w H' h' a o:=by
 induction o with
 |lst xs=>obtain⟨z,B,n,r,e⟩:=x;exact⟨z,B,n,r,k _ _ (.inl rfl) e⟩
 |tup xs=>obtain⟨z,B,r,ob,e,c⟩:=x;exact⟨z,B,r,ob,k _ _ (.inl rfl) e,c⟩
 |dK kvs=>obtain⟨z,y,vs,r,ob,es,ep,e,c⟩:=x;exact⟨z,y,vs,r,ob,es,ep,k _ _ (.inl rfl) e,c⟩
 |dT kvs=>
  obtain⟨z,y,xs,r,ob,es,ep,e,c⟩:=x;exact⟨z,y,xs,Paired.mapP r λp q z=>⟨z.1,U _ _ z.2.1,z.2.2⟩,ob,es,ep,k _ _ (.inl rfl) e,c⟩
 |set S n=>obtain⟨ob,es,ep,t,e,c⟩:=x;exact⟨ob,es,ep,t,k _ _ (.inl rfl) e,c⟩
 |ins C dx fs=>
  obtain⟨d,z,F,e,Y,⟨O,es,ep,e2,c⟩,r⟩:=x;exact⟨N _ d,z,F,k _ _ (.inl rfl) e,Y,⟨O,es,ep,k _ _ (.inr d) e2,c⟩,r⟩
 |own y=>obtain⟨ob,e⟩:=x;exact⟨ob,k _ _ (.inl rfl) e⟩
 |xd fs=>obtain⟨Y,⟨O,es,ep,e,c⟩,r⟩:=x;exact⟨Y,⟨O,es,ep,k _ _ (.inl rfl) e,c⟩,r⟩
 |rng lo hi=>obtain⟨t,u,v,e⟩:=x;exact⟨t,u,v,k _ _ (.inl rfl) e⟩
 |frz ob u J=>obtain⟨e,q⟩:=x;exact⟨k _ _ (.inl rfl) e,J q⟩
 |tbl ps=>
  have e:h.get? a=some {cls:=.none,data:=.fields ps}:=x;show h'.get? a=some {cls:=.none,data:=.fields ps};exact k a _ (.inl rfl) e
 |met f y=>
  have e:h.get? a=some (acB (.ref f) (.ref y)):=x;show h'.get? a=some (acB (.ref f) (.ref y));exact k a _ (.inl rfl) e
 |ext I=>obtain⟨p,⟨o,e⟩,st⟩:=x;exact⟨st _ _ p λo q=>k _ _ (.inl rfl) q,⟨o,k _ _ (.inl rfl) e⟩,st⟩
theorem HOk.lt(x:HOk P w H h)(e:H a=some o):a<h.objs.size:=(x a o e).lt
theorem HOk.fresh(x:HOk P w H h)(e:h.objs.size<=a):H a=none:=by
 cases q:H a with
 |none=>rfl
 |some u=>exact absurd (XC (x.lt q) e) (YQ _)
theorem HOk.kept(x:HOk P w H h)(k:∀b u,h.get? b=some u->h'.get? b=some u):HOk P w H h':=λa o e=>
 (x a o e).stay (λb u _ q=>k b u q) (λ_ q=>q) λ_ _ q=>q
theorem HOk.laid(x:HOk P w H h)(k:∀b u,h.get? b=some u->h'.get? b=some u)(F:h.objs.size<=a)(new:bZ P w (upd H a o) h' a o):HOk P w (upd H a o) h':=λb u e=>by
 have hn:=x.fresh F;by_cases U:b=a
 .subst U;rw[aN]at e;cases e;exact new
 .rw[aJ U]at e
  exact(x b u e).stay (λc v _ q=>k c v q) (λc q=>by rw[aJ (aY q hn)];exact q) λc xs q=>by rw[aJ (aY q hn)];exact q
def Rd(H:Hp)(a:Addr)(u:HO):Prop:=H a=some u∨∃o,H a=some (.frz o u)
theorem Rd.ok{P:X7}{u:HO}(r:Rd H a u)(x:HOk P w H h):bZ P w H h a u:=by
 rcases r with r|⟨o,r⟩
 .exact x a u r
 .obtain⟨_,q⟩:=x a _ r
  exact q
def Mut:Option HO->Prop
 |some (.lst _)=>True
 |some (.dK _)=>True
 |some (.dT _)=>True
 |some (.set _ _)=>True
 |some (.ins _ _ _)=>True
 |some (.ext _)=>True
 |_=>False
variable{x e:Addr}{o':HO}
theorem HOk.write(ok:HOk P w H h)(mu:Mut (H x))(V:e=x∨H e=some (.own x))(k:∀b u,b≠e->h.get? b=some u->h'.get? b=some u)(N:∃u,h'.get? e=some u)
  (new:bZ P w (upd H x o') h' x o'):HOk P w (upd H x o') h':=λb u q=>by
 have I:∀c y,H c=some (.own y)->c≠x:=λc y r z=>by subst z;rw[r]at mu;exact mu
 have J:∀c xs,H c=some (.tup xs)->c≠x:=λc xs r z=>by subst z;rw[r]at mu;exact mu
 by_cases U:b=x
 .subst U;rw[aN]at q;cases q;exact new
 .rw[aJ U]at q
  by_cases F:b=e
  .have q':H b=some (.own x):=by
    rcases V with z|z
    .exact absurd (F.trans z) U
    .rw[F];exact z
   rw[q]at q';cases q';obtain⟨v,B⟩:=N;exact⟨v,by rw[F];exact B⟩
  .refine(ok b u q).stay (λc v Y r=>k c v ?_ r) (λc r=>by rw[aJ (I c b r)];exact r) λc xs r=>by rw[aJ (J c xs r)];exact r
   rcases Y with rfl|Y
   .exact F
   .rintro rfl
    rcases V with z|z
    .exact I c b Y z
    .rw[Y]at z;cases z;exact U rfl
structure Un(fs ex:List Addr)(H H':Hp)(h h':Heap):Prop where
 keep:∀b o,h.get? b=some o->H b=none->b∉fs->b∉ex->h'.get? b=some o
 slot:∀b o,h.get? b=some o->H b=none->b∈fs->b∉ex->∃sl,h'.get? b=some {o with slots:=sl}
 free:∀b o,h.get? b=some o->H b=none->b∉ex->H' b=none
 there:∀b o,h.get? b=some o->b∉ex->∃o',h'.get? b=some o'
 tups:∀b xs,H b=some (.tup xs)->H' b=some (.tup xs)
 frzs:∀b o u,H b=some (.frz o u)->H' b=some (.frz o u)
 tbls:∀b ps,H b=some (.tbl ps)->∃more,H' b=some (.tbl (ps++more))
section
variable{fs fs' ex ex':List Addr}{H H1 H2:Hp}{h h1 h2 h':Heap}{a x e:Addr}{o:HO}
theorem Un.any(u:Un fs ex H H1 h h1){b:Addr}{ob:Obj}(q:h.get? b=some ob)(n:H b=none)(J:b∉ex):∃sl,h1.get? b=some {ob with slots:=sl}:=by
 by_cases U:b∈fs
 .exact u.slot b ob q n U J
 .exact⟨ob.slots,u.keep b ob q n U J⟩
theorem Un.kept(k:∀b u,h.get? b=some u->h'.get? b=some u):Un fs ex H H h h':=
 ⟨λb ob q _ _ _=>k b ob q,λb ob q _ _ _=>⟨ob.slots,k b ob q⟩,λ_ _ _ n _=>n,λb ob q _=>⟨ob,k b ob q⟩,λ_ _ q=>q,λ_ _ _ q=>q,λ_ ps q=>⟨#[],by rw[q];simp⟩⟩
theorem Un.refl:Un fs ex H H h h:=Un.kept λ_ _ q=>q
theorem Un.laid(k:∀b u,h.get? b=some u->h'.get? b=some u)(F:h.objs.size<=a)(hn:H a=none):Un fs ex H (upd H a o) h h' where
 keep:=λb u q _ _ _=>k b u q
 slot:=λb u q _ _ _=>⟨u.slots,k b u q⟩
 free:=λb u q n _=>by rw[aJ (XS (XC (Xm q) F))];exact n
 there:=λb u q _=>⟨u,k b u q⟩
 tups:=λb xs q=>by rw[aJ (aY q hn)];exact q
 frzs:=λb u xs q=>by rw[aJ (aY q hn)];exact q
 tbls:=λb ps q=>⟨#[],by rw[aJ (aY q hn),q];simp⟩
theorem Un.write(mu:Mut (H x))(V:e=x∨H e=some (.own x))(k:∀b u,b≠e->h.get? b=some u->h'.get? b=some u)(N:∃u,h'.get? e=some u):Un fs ex H (upd H x o) h h':=by
 have J:∀b,H b=none->b≠x:=λb n z=>by subst z;rw[n]at mu;exact mu
 have U:∀b,H b=none->b≠e:=λb n z=>by
  subst z;rcases V with r|r
  .exact J b n r
  .rw[n]at r;cases r
 have B:∀b u,H b=some u->¬Mut (some u)->b≠x:=λb u q I z=>by subst z;rw[q]at mu;exact I mu
 refine⟨λb u q n _ _=>k b u (U b n) q,λb u q n _ _=>⟨u.slots,k b u (U b n) q⟩,λb u q n _=>by rw[aJ (J b n)];exact n,λb u q _=>?_,
  λb xs q=>by rw[aJ (B b _ q λz=>z)];exact q,λb u xs q=>by rw[aJ (B b _ q λz=>z)];exact q,λb ps q=>⟨#[],by rw[aJ (B b _ q λz=>z),q];simp⟩⟩
 by_cases F:b=e
 .subst F;exact N
 .exact⟨u,k b u F q⟩
end
def trk(h:Heap)(H:Hp):List Addr:=(X3 h.objs.size).filter λa=>(H a).isSome
def xU(h:Heap)(H:Hp):Heap:=PySem.W.hideAll h (trk h H)
theorem Ia(h:Heap)(H:Hp):(xU h H).objs.size=h.objs.size:=PySem.W.hideAll_size _ _
variable{o:Obj}
theorem J6(e:h.get? b=some o)(n:H b=none):(xU h H).get? b=some o:=
 PySem.W.hideAll_get _ e λJ=>by
  have q:(H b).isSome=true:=(YD.mp J).2;rw[n]at q;simp at q
theorem Og(e:(xU h H).get? b=some o):h.get? b=some o/\H b=none:=by
 have N:h.get? b=some o:=PySem.W.of_hideAll (trk h H) e;refine⟨N,?_⟩;cases q:H b with
 |none=>rfl
 |some x=>
  have J:b∈trk h H:=YD.mpr ⟨YF.mpr (Xm N),by simp[q]⟩;have z:(xU h H).get? b=none:=PySem.W.hideAll_none (trk h H) J;rw[z]at e;cases e
def QH(g h:Heap)(L:Addr):List (Addr×Obj):=(X3 h.objs.size).filterMap λa=>if a=L∨(g.get? a).isSome=true then none else(h.get? a).map λo=>(a,o)
def rest(g h:Heap)(L d:Addr):List (Addr×Obj):=(QH g h L).filter λp=>decide (p.1≠d)
structure Mod(K:PySem.W.Frag)(mg:Str->Option Value)(base:Heap):Prop where
 kin:K.In base
 glob:base.Ns XH mg
 blt:∃mb,base.Ns builtinsNs mb/\∀x:Str,x≠"__name__"->mb x=Zu x
 nolimit:base.NoLimit
structure Cx where
 prog:X7
 w:World
 K:Xl
 mg:Str->Option Value
 base:Heap
 A:Yy
 N:List Str
 s₀:zb
 H₀:Hp
 env:Env
 outer:List Env
 stack:List Env
 ex:List Addr
 fn:Str->Bool
 calm:Bool
 pn:List (Addr×Obj)
 xe:Value->zb->Prop
def frs(l:List Env):List Addr:=l.filterMap (·.frame)
noncomputable abbrev Cx.fs(X:Cx):List Addr:=frs X.outer
def Vis(I:Scope)(x:Str):Prop:=I.names.lookup x=some .local∨I.names.lookup x=some .cell∨I.names.lookup x=some .free
def Loc(I:Scope)(x:Str):Prop:=I.names.lookup x=some .local∨I.names.lookup x=some .cell
def Look(env:Env)(h:Heap)(m:Str->Option Value)(x:Str)(u:Value):Prop:=
 (env.kindOf x=some .local/\m x=some u)∨((env.kindOf x=some .cell∨env.kindOf x=some .free)/\∃c,env.cells.lookup x=some c/\h.IsCell c (some u))
structure Cx.Ok(X:Cx):Prop where
 mod:Mod X.K X.mg X.base
 kind:X.env.scope.kind= .function
 glob:X.env.globals=XH
 blt:X.env.builtins=builtinsNs
 above:X.s₀.heap.objs.size<=X.env.locals
 inj:∀x y c,X.env.cells.lookup x=some c->X.env.cells.lookup y=some c->x=y
 has:∀x,(X.env.kindOf x=some .cell∨X.env.kindOf x=some .free)->∃c,X.env.cells.lookup x=some c
 cab:∀x c,X.fn x=true->X.env.cells.lookup x=some c->X.s₀.heap.objs.size<=c
 hd:X.calm=true->X.A.handled=none
 frames:X.A.frames=some X.stack
 stk:X.stack=X.outer∨(X.stack=X.env::X.outer/\X.env.frame=some X.env.locals)
 exf:∀b∈X.ex,b≠X.env.locals/\∀x c,X.env.cells.lookup x=some c->c≠b
 bs:∀b o,X.base.get? b=some o->X.s₀.heap.get? b=some o/\X.H₀ b=none
 bsz:X.base.objs.size<=X.s₀.heap.objs.size
 noex:∀b o,X.base.get? b=some o->b∉X.ex
 exfs:∀b∈X.ex,b∉X.fs
 funs:X.s₀.heap.FunFrames X.base X.outer
 frf:∀b∈X.fs,X.H₀ b=none
structure Inv(X:Cx)(pins:List (Addr×Obj))(σ:List (Option V))(H:Hp)(s:Shared):Prop where
 ok:X.Ok
 os:s.os=X.s₀.os
 bare:abT s.gens
 base:Un X.fs X.ex X.H₀ H X.s₀.heap s.heap
 loc:∃m,s.heap.Ns X.env.locals m/\∀(i:Nat)(x:Str)(v:V),X.N[i]? =some x->σ[i]? =some (some v)->Vis X.env.scope x->∃u,RelV v u/\Look X.env s.heap m x u
 cell:∀x c,X.env.cells.lookup x=some c->∃v,s.heap.IsCell c v
 free:H X.env.locals=none
 freeC:∀x c,X.env.cells.lookup x=some c->H c=none
 pin:∀p∈X.pn++pins,s.heap.get? p.1=some p.2/\H p.1=none/\p.1≠X.env.locals/\p.1∉X.fs/\∀v,p.2.data≠.cell v
 hok:HOk X.prog X.w H s.heap
 len:σ.length=X.N.length
variable{X:Cx}
theorem Cx.Ok.nofr(ok:X.Ok)(e:X.base.get? b=some o):b∉X.fs:=λU=>by
 have:=(ok.funs.mem U).1;rw[e]at this;cases this
variable{σ:List (Option V)}
theorem Inv.bs(I:Inv X pins σ H s):∀b o,X.base.get? b=some o->s.heap.get? b=some o/\H b=none:=λb o e=>
 ⟨I.base.keep b o (I.ok.bs b o e).1 (I.ok.bs b o e).2 (I.ok.nofr e) (I.ok.noex b o e),I.base.free b o (I.ok.bs b o e).1 (I.ok.bs b o e).2 (I.ok.noex b o e)⟩
theorem Inv.bk(I:Inv X pins σ H s):∀b o,X.base.get? b=some o->s.heap.get? b=some o:=λb o e=>(I.bs b o e).1
theorem Inv.mod(I:Inv X pins σ H s):Mod X.K X.mg X.base:=I.ok.mod
theorem Inv.kIn(I:Inv X pins σ H s):X.K.In s.heap:=I.ok.mod.kin.keeps I.bk
theorem Inv.lt(I:Inv X pins σ H s):X.env.locals<s.heap.objs.size:=let⟨_,hn,_⟩:=I.loc;hn.lt
theorem Inv.sz(I:Inv X pins σ H s):X.s₀.heap.objs.size<=s.heap.objs.size:=Yz I.ok.above (Z_ I.lt)
theorem Inv.nofs(I:Inv X pins σ H s)(h:s.heap.objs.size<=a):a∉X.fs:=λU=>by
 obtain⟨_,o,N,_⟩:=I.ok.funs.mem U;exact absurd (XC (Xm N) (Yz I.sz h)) (YQ _)
theorem Inv.cne(I:Inv X pins σ H s):∀x c,X.env.cells.lookup x=some c->c≠X.env.locals:=λx c e z=>by
 obtain⟨v,o,N,hd⟩:=I.cell x c e;obtain⟨m,⟨o',es,ep,B,U,_⟩,_⟩:=I.loc;rw[z,B]at N;cases N;rw[U]at hd;cases hd
theorem Inv.funs(I:Inv X pins σ H s):s.heap.FunFrames X.base X.outer:=by
 have all:∀(l:List Env),(∀b∈frs l,b∈X.fs)->X.s₀.heap.FunFrames X.base l->s.heap.FunFrames X.base l:=by
  intro l
  induction l with
  |nil=>intro _ _;trivial
  |cons env r J=>
   intro hs Z;obtain⟨B,⟨L,o,F,hn,N,hd⟩,O⟩:=Z;have q:L∈X.fs:=hs L (by unfold frs;rw[aa5,F];exact X_);obtain⟨sl,e⟩:=I.base.slot L o N (I.ok.frf L q) q λz=>I.ok.exfs L z q;exact⟨B,⟨L,_,F,hn,e,hd⟩,J (λb U=>hs b (by unfold frs;rw[aa5,F];exact XQ _ U)) O⟩
 exact all X.outer (λ_ U=>U) I.ok.funs
theorem Inv.stack(I:Inv X pins σ H s):s.heap.FunFrames X.base X.stack:=by
 rcases I.ok.stk with e|⟨e,O⟩
 .rw[e];exact I.funs
 .rw[e]
  obtain⟨m,hn,_⟩:=I.loc;refine .cons (by rw[I.ok.kind];decide) O hn ?_ I.funs;exact Heap.get?_none_of_le (Yz I.ok.bsz I.ok.above)
theorem Inv.stkSub(I:Inv X pins σ H s):∀b∈frs X.stack,b∈X.env.locals::X.fs:=λb U=>by
 rcases I.ok.stk with e|⟨e,O⟩
 .rw[e]at U;exact XQ _ U
 .rw[e]at U
  unfold frs at U;rw[aa5,O]at U;exact U
theorem Inv.stkFree(I:Inv X pins σ H s):∀b∈frs X.stack,H b=none:=λb U=>by
 rcases Xj.mp (I.stkSub b U)with e|U
 .rw[e];exact I.free
 .obtain⟨_,o,ho,_⟩:=I.ok.funs.mem U
  exact I.base.free b o ho (I.ok.frf b U) λz=>I.ok.exfs b z U
theorem Inv.step(I:Inv X pins σ H s)
  (V:∀b∈ch,(b∈X.ex∨X.s₀.heap.objs.size<=b)/\b≠X.env.locals/\(∀x c,X.env.cells.lookup x=some c->c≠b)/\∀p∈X.pn++pins,p.1≠b)
  (keep:∀b o,b≠X.env.locals->b∉X.fs->b∉ch->s.heap.get? b=some o->H b=none->h'.get? b=some o)
  (slot:∀b o,b≠X.env.locals->b∈X.fs->b∉ch->s.heap.get? b=some o->H b=none->∃sl,h'.get? b=some {o with slots:=sl}) (free:∀b o,b∉ch->s.heap.get? b=some o->H b=none->H' b=none)
  (there:∀b o,b∉ch->s.heap.get? b=some o->∃o',h'.get? b=some o')
  (tups:∀b xs,H b=some (.tup xs)->H' b=some (.tup xs)) (frzs:∀b o u,H b=some (.frz o u)->H' b=some (.frz o u)) (tbls:∀b ps,H b=some (.tbl ps)->∃more,H' b=some (.tbl (ps++more)))
  (ns:∀m,s.heap.Ns X.env.locals m->h'.Ns X.env.locals m) (hok:HOk X.prog X.w H' h') (hg:abT g') :
  Inv X pins σ H' {s with heap:=h',gens:=g',drawn:=d',toks:=t'}:=by
 have a1:∀b o,X.s₀.heap.get? b=some o->b≠X.env.locals:=λb o e=>XS (XC (Xm e) I.ok.above);have a0:∀b o,X.s₀.heap.get? b=some o->b∉X.ex->b∉ch:=λb o e J U=>by
  rcases(V b U).1 with z|z
  .exact J z
  .exact absurd (XC (Xm e) z) (YQ _)
 have O:∀x c,X.env.cells.lookup x=some c->∀v,s.heap.IsCell c v->h'.IsCell c v:=λx c e v ⟨o,N,hd⟩=>by
  have Z:c∉ch:=λz=>(V c z).2.2.1 x c e rfl;by_cases Y:c∈X.fs
  .obtain⟨sl,q⟩:=slot c o (I.cne x c e) Y Z N (I.freeC x c e)
   exact⟨_,q,hd⟩
  .exact⟨o,keep c o (I.cne x c e) Y Z N (I.freeC x c e),hd⟩
 refine⟨I.ok,I.os,hg,⟨λb o e n U J=>?_,λb o e n U J=>?_,λb o e n J=>?_,λb o e J=>?_,λb xs e=>tups b xs (I.base.tups b xs e),λb o xs e=>frzs b o xs (I.base.frzs b o xs e),λb ps e=>?_⟩,?_,λx c e=>?_,?_,λx c e=>?_,λp F=>?_,hok,I.len⟩
 .exact keep b o (a1 b o e) U (a0 b o e J) (I.base.keep b o e n U J) (I.base.free b o e n J)
 .obtain⟨sl,e1⟩:=I.base.slot b o e n U J
  obtain⟨a2,e2⟩:=slot b _ (a1 b o e) U (a0 b o e J) e1 (I.base.free b o e n J);exact⟨a2,e2⟩
 .obtain⟨o',e1⟩:=I.base.there b o e J
  exact free b o' (a0 b o e J) e1 (I.base.free b o e n J)
 .obtain⟨o',e1⟩:=I.base.there b o e J
  exact there b o' (a0 b o e J) e1
 .obtain⟨m1,e1⟩:=I.base.tbls b ps e
  obtain⟨B,e2⟩:=tbls b _ e1;exact⟨m1++B,by rw[e2,Array.append_assoc]⟩
 .obtain⟨m,hn,hl⟩:=I.loc
  refine⟨m,ns m hn,λi x v e1 e2 e3=>?_⟩;obtain⟨u,r,l⟩:=hl i x v e1 e2 e3;refine⟨u,r,?_⟩;rcases l with l|⟨k,c,e,z⟩
  .exact .inl l
  .exact .inr ⟨k,c,e,O x c e _ z⟩
 .obtain⟨v,z⟩:=I.cell x c e
  exact⟨v,O x c e v z⟩
 .obtain⟨m,⟨o,_,_,N,_⟩,_⟩:=I.loc
  exact free _ o (λz=>(V _ z).2.1 rfl) N I.free
 .obtain⟨v,o,N,hd⟩:=I.cell x c e
  exact free c o (λz=>(V c z).2.2.1 x c e rfl) N (I.freeC x c e)
 .obtain⟨e,n,ne,nf,d⟩:=I.pin p F
  have Z:p.1∉ch:=λz=>(V p.1 z).2.2.2 p F rfl;exact⟨keep p.1 p.2 ne nf Z e n,free p.1 p.2 Z e n,ne,nf,d⟩
theorem Inv.un(I:Inv X pins σ H s)(u:Un X.fs [] H H' s.heap h')(hok:HOk X.prog X.w H' h'):Inv X pins σ H' {s with heap:=h',toks:=t'}:=by
 obtain⟨m,⟨o,es,ep,N,r⟩,_⟩:=id I.loc;obtain⟨sl,q⟩:=u.any N I.free (by simp);exact I.step (g':=s.gens) (d':=s.drawn) (ch:=[]) (λ_ z=>nomatch z) (λb o _ U _ e n=>u.keep b o e n U (by simp)) (λb o _ U _ e n=>u.slot b o e n U (by simp)) (λb o _ e n=>u.free b o e n (by simp)) (λb o _ e=>u.there b o e (by simp)) u.tups u.frzs u.tbls (λO J=>by
  obtain⟨o',Z,Y,B,F⟩:=J;rw[N]at B;cases B;exact⟨_,Z,Y,q,F⟩) hok I.bare
theorem Inv.call(I:Inv X pins σ H s)(u:Un (frs X.stack) ch H H' s.heap h')(hok:HOk X.prog X.w H' h')(F:abT g')
  (V:∀b∈ch,(b∈X.ex∨X.s₀.heap.objs.size<=b)/\b≠X.env.locals/\(∀x c,X.env.cells.lookup x=some c->c≠b)/\∀p∈X.pn++pins,p.1≠b) :
  Inv X pins σ H' {s with heap:=h',gens:=g',drawn:=d',toks:=t'}:=by
 obtain⟨m,⟨o,es,ep,N,r⟩,_⟩:=id I.loc;obtain⟨sl,q⟩:=u.any N I.free λz=>(V _ z).2.1 rfl;exact I.step (ch:=ch) V (λb o q U Y e n=>u.keep b o e n (λz=>(Xj.mp (I.stkSub b z)).elim q U) Y) (λb o _ _ Y e n=>u.any e n Y) (λb o Y e n=>u.free b o e n Y) (λb o Y e=>u.there b o e Y) u.tups u.frzs u.tbls (λO J=>by
  obtain⟨o',Z,a0,B,r'⟩:=J;rw[N]at B;cases B;exact⟨_,Z,a0,q,r'⟩) hok F
theorem Inv.turned(I:Inv X pins σ H s)(k:∀b o,b≠it->s.heap.get? b=some o->h'.get? b=some o)(hn:H it=none)(F:it≠X.env.locals)
  (h1:it∈X.ex∨X.s₀.heap.objs.size<=it) (h2:∀x c,X.env.cells.lookup x=some c->c≠it) (O:∀p∈X.pn++pins,p.1≠it):Inv X pins σ H {s with heap:=h',toks:=t'}:=by
 have B:∀b u,H b=some u->b≠it:=λb u e z=>by rw[z,hn]at e;cases e
 refine I.step (g':=s.gens) (d':=s.drawn) (ch:=[it]) (λb U=>?_) (λb o _ _ Y e _=>k b o (λz=>Y (by simp[z])) e) (λb o _ _ Y e _=>⟨o.slots,k b o (λz=>Y (by simp[z])) e⟩) (λ_ _ _ _ n=>n)
  (λb o Y e=>⟨o,k b o (λz=>Y (by simp[z])) e⟩) (λ_ _ e=>e) (λ_ _ _ e=>e) (λb ps e=>⟨#[],by rw[e];simp⟩) (λm J=>?_) (λb u e=>?_) I.bare
 .have e:b=it:=by simpa using U
  subst e;exact⟨h1,F,h2,O⟩
 .obtain⟨o,es,ep,ho,r⟩:=J
  exact⟨o,es,ep,k _ o (Ne.symm F) ho,r⟩
 .refine(I.hok b u e).stay (λc v Y q=>k c v ?_ q) (λ_ q=>q) λ_ _ q=>q
  rcases Y with z|z
  .rw[z];exact B b u e
  .exact B c _ z
theorem Inv.tok(I:Inv X pins σ H s)(t:Nat):Inv X pins σ H {s with toks:=t}:=I.un (h':=s.heap) (t':=t) Un.refl I.hok
theorem Inv.kept(I:Inv X pins σ H s)(k:∀b u,s.heap.get? b=some u->h'.get? b=some u):Inv X pins σ H {s with heap:=h',toks:=t'}:=I.un (Un.kept k) (I.hok.kept k)
theorem Inv.laid{o:HO}(I:Inv X pins σ H s)(k:∀b u,s.heap.get? b=some u->h'.get? b=some u)(F:s.heap.objs.size<=a)(new:bZ X.prog X.w (upd H a o) h' a o) :
 Inv X pins σ (upd H a o) {s with heap:=h',toks:=t'}:=I.un (Un.laid k F (I.hok.fresh F)) (I.hok.laid k F new)
theorem Inv.write{o:HO}(I:Inv X pins σ H s)(mu:Mut (H x))(V:e=x∨H e=some (.own x))(k:∀b u,b≠e->s.heap.get? b=some u->h'.get? b=some u)(N:∃u,h'.get? e=some u)
 (new:bZ X.prog X.w (upd H x o) h' x o):Inv X pins σ (upd H x o) {s with heap:=h',toks:=t'}:=I.un (Un.write mu V k N) (I.hok.write mu V k N new)
theorem Inv.weak{B:List (Option V)}(I:Inv X pins σ H s)(Z:B.length=σ.length)(w:∀(i:Nat) v,B[i]? =some (some v)->σ[i]? =some (some v)):Inv X pins B H s:=
 ⟨I.ok,I.os,I.bare,I.base,let⟨m,hn,hl'⟩:=I.loc;⟨m,hn,λi x v e1 e2 q=>hl' i x v e1 (w i v e2) q⟩,I.cell,I.free,I.freeC,I.pin,I.hok,Z.trans I.len⟩
theorem Inv.pins_of{q:List (Addr×Obj)}(I:Inv X pins σ H s)(h:∀p∈q,s.heap.get? p.1=some p.2/\H p.1=none/\p.1≠X.env.locals/\p.1∉X.fs/\∀v,p.2.data≠.cell v):Inv X q σ H s:=
 ⟨I.ok,I.os,I.bare,I.base,I.loc,I.cell,I.free,I.freeC,λp F=>(W2.mp F).elim (λz=>I.pin p (Xo _ z)) (h p),I.hok,I.len⟩
variable{x:Str}
theorem Bq(Y:N.Nodup)(a:N[i]? =some x)(b:N[j]? =some x):i=j:=by
 obtain⟨h1,e1⟩:=qb.mp a;obtain⟨h2,e2⟩:=qb.mp b;exact(abL Y).mp (e1.trans e2.symm)
variable{M:Model}{A:Yy}{E:Value->zb->Prop}{Q:Unit->zb->Prop}
theorem Gp{v:V}(I:Inv X pins σ H s)(hN:X.N.Nodup)(hi:X.N[i]? =some x)(J:Loc X.env.scope x)(r:RelV v u)
  (h:∀s',Inv X pins (σ.set i (some v)) H s'->(∃a,aaR a s.heap s'.heap/\(a=X.env.locals∨X.env.cells.lookup x=some a))->Q () s') (O:X.fn x=true∨X.env.scope.names.lookup x=some .local:=by first|exact .inl rfl|exact .inr rfl|assumption):wpAny M A (storeName X.env x u) Q E s:=by
 obtain⟨m,hn,hl⟩:=id I.loc;have a3:(X.env.scope.kind== .class||(X.env.scope.kind== .module&&X.env.locals !=X.env.globals))=false:=by rw[I.ok.kind];rfl
 have a2:i<σ.length:=by rw[I.len];exact(qb.mp hi).1
 have cne:=I.cne;have a0:∀{a:Addr}{h':Heap},(∃o,s.heap.get? a=some o/\H a=none)->aaR a s.heap h'->HOk X.prog X.w H h':=λ{a h'} Z hs b ob e=>by
  obtain⟨_,_,a1⟩:=Z;refine(I.hok b ob e).stay (λc w' Y q=>(hs.2 c ?_).trans q) (λ_ q=>q) λ_ _ q=>q;rintro rfl;rcases Y with rfl|Y
  .rw[a1]at e;cases e
  .rw[a1]at Y;cases Y
 rcases J with B|B
 .refine wpAny_storeName_local B hn (λh' a8 hs=>?_) a3
  obtain⟨oL,_,_,a7,_⟩:=id hn;refine h _ ⟨I.ok,I.os,I.bare,⟨λb o e n U J=>?_,λb o e n U J=>?_,I.base.free,λb o e J=>?_,I.base.tups,I.base.frzs,I.base.tbls⟩,⟨_,a8,λj y v' e1 e2 e3=>?_⟩,λy c e=>?_,I.free,I.freeC,λp F=>?_,a0 ⟨oL,a7,I.free⟩ hs,by simpa using I.len⟩ ⟨_,hs,.inl rfl⟩
  .exact(hs.2 b (XS (XC (Xm e) I.ok.above))).trans (I.base.keep b o e n U J)
  .obtain⟨sl,e1⟩:=I.base.slot b o e n U J
   exact⟨sl,(hs.2 b (XS (XC (Xm e) I.ok.above))).trans e1⟩
  .obtain⟨o',e1⟩:=I.base.there b o e J
   exact⟨o',(hs.2 b (XS (XC (Xm e) I.ok.above))).trans e1⟩
  .by_cases hj:j=i
   .subst hj
    rw[hi]at e1;cases e1;rw[Zo a2]at e2;cases e2;exact⟨u,r,.inl ⟨B,by simp⟩⟩
   .rw[List.getElem?_set_ne (Ne.symm hj)]at e2
    obtain⟨u',r',q⟩:=hl j y v' e1 e2 e3;refine⟨u',r',?_⟩;rcases q with⟨k,e⟩|⟨k,c,e,z⟩
    .refine .inl ⟨k,?_⟩
     have:y≠x:=λe=>hj (Bq hN e1 (e▸hi));simp[this,e]
    .exact .inr ⟨k,c,e,z.sameBut hs (cne y c e)⟩
  .obtain⟨w',z⟩:=I.cell y c e
   exact⟨w',z.sameBut hs (cne y c e)⟩
  .obtain⟨e,n,ne,nf,d⟩:=I.pin p F
   exact⟨(hs.2 p.1 ne).trans e,n,ne,nf,d⟩
 .have hfn:X.fn x=true:=by
   rcases O with z|z
   .exact z
   .rw[z]at B;cases B
  obtain⟨c,Y⟩:=I.ok.has x (.inl B);obtain⟨w',z⟩:=I.cell x c Y;refine wpAny_storeName_cell I.ok.kind B Y z (λh' a4 hs=>?_);obtain⟨oc,a6,a5⟩:=id z;refine h {s with heap:=h'} ⟨I.ok,I.os,I.bare,⟨λb o e n U J=>?_,λb o e n U J=>?_,I.base.free,λb o e J=>?_,I.base.tups,I.base.frzs,I.base.tbls⟩,⟨m,hn.sameBut hs (Ne.symm (cne x c Y)),λj y v' e1 e2 e3=>?_⟩,λy c' e=>?_,I.free,I.freeC,λp F=>?_,a0 ⟨oc,a6,I.freeC x c Y⟩ hs,by simpa using I.len⟩ ⟨c,hs,.inr Y⟩
  .exact(hs.2 b (XS (XC (Xm e) (I.ok.cab x c hfn Y)))).trans (I.base.keep b o e n U J)
  .obtain⟨sl,e1⟩:=I.base.slot b o e n U J
   exact⟨sl,(hs.2 b (XS (XC (Xm e) (I.ok.cab x c hfn Y)))).trans e1⟩
  .obtain⟨o',e1⟩:=I.base.there b o e J
   exact⟨o',(hs.2 b (XS (XC (Xm e) (I.ok.cab x c hfn Y)))).trans e1⟩
  .by_cases hj:j=i
   .subst hj
    rw[hi]at e1;cases e1;rw[Zo a2]at e2;cases e2;exact⟨u,r,.inr ⟨.inl B,c,Y,a4⟩⟩
   .rw[List.getElem?_set_ne (Ne.symm hj)]at e2
    obtain⟨u',r',q⟩:=hl j y v' e1 e2 e3;refine⟨u',r',?_⟩;rcases q with q|⟨k,c',e,z'⟩
    .exact .inl q
    .refine .inr ⟨k,c',e,z'.sameBut hs ?_⟩
     rintro rfl;exact hj (Bq hN e1 (I.ok.inj _ _ _ e Y▸hi))
  .by_cases hcc:c'=c
   .subst hcc;exact⟨_,a4⟩
   .obtain⟨w2,z2⟩:=I.cell y c' e
    exact⟨w2,z2.sameBut hs hcc⟩
  .obtain⟨e,n,ne,nf,d⟩:=I.pin p F
   refine⟨(hs.2 p.1 ?_).trans e,n,ne,nf,d⟩;intro q;rw[q,a6]at e;have q':oc=p.2:=Yn e;exact d w' (by rw[←q'];exact a5)
theorem kZ{v:V}(I:Inv X pins σ H s)(Y:X.N.Nodup)(hi:X.N[i]? =some x)(J:Loc X.env.scope x)(r:RelV v u)
  (h:∀s',Inv X pins (σ.set i (some v)) H s'->Q () s') (O:X.fn x=true∨X.env.scope.names.lookup x=some .local:=by first|exact .inl rfl|exact .inr rfl|assumption):wpAny M A (storeName X.env x u) Q E s:=
 Gp I Y hi J r (λs' Z _=>h s' Z) O
theorem Inv.call'(I:Inv X pins σ H s)(N:s'.os=s.os)(u:Un (frs X.stack) ch H H' s.heap s'.heap)(hok:HOk X.prog X.w H' s'.heap)(F:abT s'.gens)
  (V:∀b∈ch,(b∈X.ex∨X.s₀.heap.objs.size<=b)/\b≠X.env.locals/\(∀x c,X.env.cells.lookup x=some c->c≠b)/\∀p∈X.pn++pins,p.1≠b):Inv X pins σ H' s':=by
 obtain⟨h',g',d',t',o'⟩:=s';have e:o'=s.os:=N;subst e;exact I.call (g':=g') (t':=t') (d':=d') u hok F V
abbrev XK:=Value->Option Addr->Hp->Prop
abbrev St:=List (Option V)
abbrev VK:=V->Hp->Prop
abbrev TE:=St->Hp->VK->Prop
abbrev TT:=St->Hp->(Bool->Hp->Prop)->Prop
abbrev TA:=St->Hp->(List V->Hp->Prop)->Prop
structure Ends where
 nx:St->Hp->Prop
 rt:VK
 bk:St->Hp->Prop:=λ_ _=>False
 ct:St->Hp->Prop:=λ_ _=>False
abbrev TS:=Ends->St->Hp->Prop
def EP(X:Cx)(pins:List (Addr×Obj))(σ:St)(Q:VK)(u:Value)(s':zb):Prop:=∃v H',Inv X pins σ H' s'/\RelV v u/\Q v H'
def TP(X:Cx)(pins:List (Addr×Obj))(σ:St)(Q:Bool->Hp->Prop)(b:Bool)(s':zb):Prop:=∃H',Inv X pins σ H' s'/\Q b H'
def AP(X:Cx)(pins:List (Addr×Obj))(σ:St)(Q:List V->Hp->Prop)(us:List Value)(s':zb):Prop:=∃vs H',Inv X pins σ H' s'/\Vals vs us/\Q vs H'
def SP(X:Cx)(pins:List (Addr×Obj))(D:Ends)(f:Flow)(s':zb):Prop:=
 match f with
 |.next=>∃B H',Inv X pins B H' s'/\D.nx B H'
 |.brk=>∃B H',Inv X pins B H' s'/\D.bk B H'
 |.cont=>∃B H',Inv X pins B H' s'/\D.ct B H'
 |.ret u=>∃v B H',Inv X pins B H' s'/\RelV v u/\D.rt v H'
def PE(X:Cx)(e:Expr)(t:TE):Prop:=
 ∀(pins:List (Addr×Obj))(s:zb)(σ:St)(H:Hp)(Q:VK),Inv X pins σ H s->t σ H Q->wpAny 1.11 X.A (eval e X.env) (EP X pins σ Q) X.xe s
def PT(X:Cx)(e:Expr)(t:TT):Prop:=
 ∀(pins:List (Addr×Obj))(s:zb)(σ:St)(H:Hp)(Q:Bool->Hp->Prop),Inv X pins σ H s->t σ H Q->wpAny 1.11 X.A (adz e X.env (eval e X.env)) (TP X pins σ Q) X.xe s
def PW(X:Cx)(e:Expr)(t:TT):Prop:=
 ∀(q:Sem Value)(pins:List (Addr×Obj))(s:zb)(σ:St)(H:Hp)(Q:Bool->Hp->Prop),Inv X pins σ H s->t σ H Q->wpAny 1.11 X.A (adz e X.env q) (TP X pins σ Q) X.xe s
variable{e:Expr}
theorem PW.pt{t:TT}(h:PW X e t):PT X e t:=h _
def PA(X:Cx)(es:List Expr)(t:TA):Prop:=
 ∀(pos:Pos)(pins:List (Addr×Obj))(s:zb)(σ:St)(H:Hp)(Q:List V->Hp->Prop),Inv X pins σ H s->t σ H Q->wpAny 1.11 X.A (spliced (ZK pos (Xy es X.env))) (AP X pins σ Q) X.xe s
def PS(X:Cx)(st:Stmt)(t:TS):Prop:=
 ∀(pins:List (Addr×Obj))(s:zb)(σ:St)(H:Hp)(D:Ends),Inv X pins σ H s->t D σ H->wpAny 1.11 X.A (exec st X.env) (SP X pins D) X.xe s
def PSs(X:Cx)(st:List Stmt)(t:TS):Prop:=
 ∀(pins:List (Addr×Obj))(s:zb)(σ:St)(H:Hp)(D:Ends),Inv X pins σ H s->t D σ H->wpAny 1.11 X.A (execs st X.env) (SP X pins D) X.xe s
theorem thn{t:Sem α}{Q U:α->zb->Prop}{s:zb}(h:wpAny M A t Q E s)(V:∀a s,Q a s->U a s):wpAny M A t U E s:=Y9 h V λ_ _ x=>x
section
variable{X:Cx}
def Jm(i:Nat):TE:=λσ H Q=>∃v,σ[i]? =some (some v)/\Q v H
def tC(v:V):TE:=λ_ H Q=>Q v H
theorem IK{i:Nat}{x:Str}{pos:Pos}(F:X.N[i]? =some x)(O:Vis X.env.scope x)(hd:1.23=false:=by decide)(U:(x==("__classdict__":Str))=false:=by decide):PE X (.Name x pos) (Jm i):=by
 intro pins s σ H Q I h;obtain⟨v,e,h⟩:=h;obtain⟨m,hn,Z⟩:=I.loc;obtain⟨u,r,l⟩:=Z i x v F e O;have fin:EP X pins σ Q u s:=⟨v,H,I,r,h⟩;rcases l with⟨B,J⟩|⟨B,c,Y,q⟩
 .exact wpAny_Name (adP I.ok.kind B hn J fin) hd
 .rcases B with B|B
  .exact wpAny_Name (aeb I.ok.kind B Y q fin) hd
  .exact wpAny_Name (wpAny_loadName_free I.ok.kind B Y q fin U) hd
theorem RJ{i j pos}:PE X (.Constant (.int i) j pos) (tC (.int i)):=λ_ _ _ H _ I h=>wpAny_Constant_int ⟨.int i,H,I.tok _,⟨_,rfl⟩,h⟩
theorem U0{b j pos}:PE X (.Constant (.bool b) j pos) (tC (.bl b)):=λ_ _ _ H _ I h=>Constant_bool ⟨.bl b,H,I,rfl,h⟩
theorem Tf{j pos}:PE X (.Constant .none j pos) (tC .non):=λ_ _ _ H _ I h=>Constant_none ⟨.non,H,I,rfl,h⟩
theorem Ss{x j pos}:PE X (.Constant (.str x) j pos) (tC (.str x)):=λ_ _ _ H _ I h=>Calls.Constant_str ⟨.str x,H,I.tok _,⟨_,rfl⟩,h⟩
def Gl(X:Cx)(x:Str):Prop:=X.env.kindOf x=some .globalImplicit
theorem PL{E:Value->zb->Prop}{pins:List (Addr×Obj)}{s:zb}{σ:St}{H:Hp}{x:Str}{u:Value}{pos:Pos}{Q:Value->zb->Prop}(I:Inv X pins σ H s)(F:Gl X x)(J:X.mg x=some u)(h:Q u s)
  (hd:1.23=false:=by decide):wpAny 1.11 X.A (eval (.Name x pos) X.env) Q E s:=
 acs I.ok.kind F (Calls.loadGlobal_global (by rw[I.ok.glob];exact I.mod.glob.keeps I.bk) J h) hd
theorem mO{E:Value->zb->Prop}{pins:List (Addr×Obj)}{s:zb}{σ:St}{H:Hp}{x:Str}{u:Value}{pos:Pos}{Q:Value->zb->Prop}(I:Inv X pins σ H s)(F:Gl X x)(J:X.mg x=none)(B:Zu x=some u)(h:Q u s)
  (hn:x≠"__name__":=by decide) (hd:1.23=false:=by decide):wpAny 1.11 X.A (eval (.Name x pos) X.env) Q E s:=by
 obtain⟨q,h1,h2⟩:=I.mod.blt;exact acs I.ok.kind F (Calls.loadGlobal_builtin (by rw[I.ok.glob];exact I.mod.glob.keeps I.bk) J (by rw[I.ok.blt];exact h1.keeps I.bk) ((h2 x hn).trans B) h) hd
theorem Pn{x:Str}{v:V}{u:Value}{pos:Pos}(F:Gl X x)(J:X.mg x=none)(B:Zu x=some u)(r:RelV v u)(hn:x≠"__name__":=by decide)(hd:1.23=false:=by decide):PE X (.Name x pos) (tC v):=
 λ_ _ _ H _ I h=>mO I F J B ⟨v,H,I,r,h⟩ hn hd
variable{a b:Expr}{ta tb:TE}{pos:Pos}
variable{tA tB':TT}{rest:List Expr}
def Tv(t u:TT):TT:=λσ H Q=>t σ H λc H1=>if c=true then u σ H1 Q else Q false H1
def tOr(t u:TT):TT:=λσ H Q=>t σ H λc H1=>if c=true then Q true H1 else u σ H1 Q
def VJ(t:TT):TT:=λσ H Q=>t σ H λc H1=>Q (!c) H1
theorem Fg(Z:PT X a tA):PW X (.BoolOp .And [a] pos) tA:=by
 intro q pins s σ H Q I h;refine isTrue_and (thn (Z pins s σ H Q I h) λc B e=>?_);cases c with
 |true=>exact isTrue_and_nil e
 |false=>exact e
theorem Uy(Z:PT X a tA):PW X (.BoolOp .Or [a] pos) tA:=by
 intro q pins s σ H Q I h;refine isTrue_or (thn (Z pins s σ H Q I h) λc B e=>?_);cases c with
 |false=>exact isTrue_or_nil e
 |true=>exact e
theorem Ls(Z:PT X a tA)(U:PW X (.BoolOp .And (b::rest) pos) tB'):PW X (.BoolOp .And (a::b::rest) pos) (Tv tA tB'):=by
 intro q pins s σ H Q I h;refine isTrue_and (thn (Z pins s σ H _ I h) λc B ⟨H1,O,F⟩=>?_);cases c with
 |true=>exact U q pins B σ H1 Q O F
 |false=>exact⟨H1,O,F⟩
theorem WM(Z:PT X a tA)(U:PW X (.BoolOp .Or (b::rest) pos) tB'):PW X (.BoolOp .Or (a::b::rest) pos) (tOr tA tB'):=by
 intro q pins s σ H Q I h;refine isTrue_or (thn (Z pins s σ H _ I h) λc B ⟨H1,O,F⟩=>?_);cases c with
 |true=>exact⟨H1,O,F⟩
 |false=>exact U q pins B σ H1 Q O F
theorem R3(Z:PT X a tA):PT X (.UnaryOp .Not a pos) (VJ tA):=by
 intro pins s σ H Q I h;exact isTrue_not (Z pins s σ H (λc H1=>Q (!c) H1) I h)
def Ru(ta tb:TE):TE:=λσ H Q=>ta σ H λx H1=>∃c,x= .bl c/\if c=true then tb σ H1 Q else Q (.bl false) H1
theorem RZ{op}{t:TE}(h:PE X a t):PE X (.BoolOp op [a] pos) t:=λpins s σ H Q I q=>BoolOp_one (h pins s σ H Q I q)
theorem R6(Z:PE X a ta)(U:PE X (.BoolOp .And (b::rest) pos) tb):PE X (.BoolOp .And (a::b::rest) pos) (Ru ta tb):=by
 intro pins s σ H Q I h;refine BoolOp_and (thn (Z pins s σ H _ I h) λv B ⟨x,H1,O,N,F⟩=>?_);obtain⟨c,rfl,F⟩:=F;cases N;refine aaO ?_;cases c with
 |true=>exact U pins B σ H1 Q O F
 |false=>exact⟨.bl false,H1,O,rfl,F⟩
end
def SqL(K:Xl)(H:Hp)(a:Addr)(xs:List V):Prop:=
 Rd H a (.lst xs)∨
  ∃(o:Obj)(B:Array Value)(n:Nat),K.lookup a=some o/\o.cls= .type "list"/\o.dict=none/\o.data= .seq B n/\B.size<=Xp/\Vals xs B.toList
def SqT(K:Xl)(H:Hp)(a:Addr)(xs:List V):Prop:=
 Rd H a (.tup xs)∨
  ∃(o:Obj)(B:Array Value)(n:Nat),K.lookup a=some o/\o.cls= .type "tuple"/\o.data= .seq B n/\B.size<=Xp/\Vals xs B.toList
def W6:Value->Option V
 |.none=>some .non
 |.bool b=>some (.bl b)
 |.int i _=>some (.int i)
 |.str x _=>some (.str x)
 |.bytes b _=>some (.byt b)
 |.float b _=>some (.flt b)
 |.ref a=>some (.ref a)
 |.type n=>some (.ty n)
 |_=>none
theorem RelV.abs{x:V}(r:RelV x u):W6 u=some x:=by
 cases x with
 |non=>cases r;rfl
 |bl _=>cases r;rfl
 |int _=>obtain⟨t,rfl⟩:=r;rfl
 |str _=>obtain⟨t,rfl⟩:=r;rfl
 |byt _=>obtain⟨t,rfl⟩:=r;rfl
 |flt _=>obtain⟨t,rfl⟩:=r;rfl
 |ref _=>cases r;rfl
 |ty _=>cases r;rfl
theorem RelV.inj{x y:V}(r:RelV x u)(q:RelV y u):x=y:=Yn (r.abs.symm.trans q.abs)
theorem Vals.inj:∀{xs ys:List V}{us:List Value},Vals xs us->Vals ys us->xs=ys
 |_,_,_,.nil,.nil=>rfl
 |_,_,_,.cons r t,.cons r' t'=>by rw[r.inj r',Vals.inj t t']
theorem SqL.of{K:Xl}(h:H a=some (.lst xs)):SqL K H a xs:=.inl (.inl h)
theorem SqT.of{K:Xl}(h:H a=some (.tup xs)):SqT K H a xs:=.inl (.inl h)
variable{σ:St}
theorem Inv.list(I:Inv X pins σ H s)(h:SqL X.K H a xs):∃B:List Value,Vals xs B/\PlainL s.heap a B.toArray/\xs.length<=Xp:=by
 rcases h with h|⟨o,B,n,q,Y,hd,hs,F,r⟩
 .obtain⟨z,B,n,r,e⟩:=h.ok I.hok
  exact⟨B,r,⟨_,n,e,rfl,rfl,rfl⟩,z⟩
 .refine⟨B.toList,r,⟨o,n,I.kIn a o q,Y,hd,by simpa using hs⟩,?_⟩
  have e:=r.length;simp![aaC]at e;omega
theorem Inv.tuple(I:Inv X pins σ H s)(h:SqT X.K H a xs):∃B:List Value,Vals xs B/\IsTup s.heap a B.toArray/\xs.length<=Xp:=by
 rcases h with h|⟨o,B,n,q,Y,hs,F,r⟩
 .obtain⟨z,B,r,p⟩:=h.ok I.hok
  exact⟨B,r,p.t,z⟩
 .refine⟨B.toList,r,⟨o,I.kIn a o q,Y,n,by simpa using hs⟩,?_⟩
  have e:=r.length;simp![aaC]at e;omega
variable{ys:List V}
theorem Inv.list_inj(I:Inv X pins σ H s)(h:SqL X.K H a xs)(h':SqL X.K H a ys):xs=ys:=by
 obtain⟨B,r,⟨o,n,e,_,_,d⟩,_⟩:=I.list h;obtain⟨its',F,⟨o',J,N,_,_,d'⟩,_⟩:=I.list h';rw[e]at N;cases N;rw[d]at d';injection d' with d1 _;have:B=its':=by simpa using congrArg Array.toList d1
 subst this;exact r.inj F
theorem Inv.tuple_inj(I:Inv X pins σ H s)(h:SqT X.K H a xs)(h':SqT X.K H a ys):xs=ys:=by
 obtain⟨B,r,⟨o,e,_,n,d⟩,_⟩:=I.tuple h;obtain⟨its',F,⟨o',N,_,J,d'⟩,_⟩:=I.tuple h';rw[e]at N;cases N;rw[d]at d';injection d' with d1 _;have:B=its':=by simpa using congrArg Array.toList d1
 subst this;exact r.inj F
abbrev Cx.wish(X:Cx)(E:Value->zb->Prop):Cx:={X with xe:=E}
abbrev Cx.nox(X:Cx):Cx:=X.wish λ_ _=>False
theorem Cx.Ok.wish(ok:X.Ok)(E:Value->zb->Prop):(X.wish E).Ok:=
 ⟨ok.mod,ok.kind,ok.glob,ok.blt,ok.above,ok.inj,ok.has,ok.cab,ok.hd,ok.frames,ok.stk,ok.exf,ok.bs,ok.bsz,ok.noex,ok.exfs,ok.funs,ok.frf⟩
theorem Cx.Ok.unwish(ok:(X.wish E).Ok):X.Ok:=
 ⟨ok.mod,ok.kind,ok.glob,ok.blt,ok.above,ok.inj,ok.has,ok.cab,ok.hd,ok.frames,ok.stk,ok.exf,ok.bs,ok.bsz,ok.noex,ok.exfs,ok.funs,ok.frf⟩
theorem Inv.wish(I:Inv X pins σ H s)(E:Value->zb->Prop):Inv (X.wish E) pins σ H s:=⟨I.ok.wish E,I.os,I.bare,I.base,I.loc,I.cell,I.free,I.freeC,I.pin,I.hok,I.len⟩
variable{E:Value->Shared->Prop}
theorem Inv.unwish(I:Inv (X.wish E) pins σ H s):Inv X pins σ H s:=⟨I.ok.unwish,I.os,I.bare,I.base,I.loc,I.cell,I.free,I.freeC,I.pin,I.hok,I.len⟩
theorem SP.unwish{D:Ends}{f:Flow}(h:SP (X.wish E) pins D f s'):SP X pins D f s':=by
 cases f with
 |next=>obtain⟨B,H',I,q⟩:=h;exact⟨B,H',I.unwish,q⟩
 |brk=>obtain⟨B,H',I,q⟩:=h;exact⟨B,H',I.unwish,q⟩
 |cont=>obtain⟨B,H',I,q⟩:=h;exact⟨B,H',I.unwish,q⟩
 |ret u=>obtain⟨v,B,H',I,r,q⟩:=h;exact⟨v,B,H',I.unwish,r,q⟩
theorem PSs.nox{st:List Stmt}{t:TS}(h:PSs X.nox st t):PSs X st t:=λpins s σ H D I B=>
 Y9 (h pins s σ H D (I.wish _) B) (λ_ _ q=>q.unwish) λ_ _ z=>aaq z
section
variable{X:Cx}{st:Stmt}{rest:List Stmt}{t u:TS}{e:Expr}{te:TE}{pos:Pos}
def Rn:TS:=λD σ H=>D.nx σ H
def WF(t u:TS):TS:=λD σ H=>t {D with nx:=u D} σ H
theorem PB:PSs X [] Rn:=λ_ _ σ H _ I h=>ab0 ⟨σ,H,I,h⟩
theorem Ip(h1:PS X st t)(h2:PSs X rest u):PSs X (st::rest) (WF t u):=by
 intro pins s σ H D I h;refine wpAny_execs_cons (thn (h1 pins s σ H {D with nx:=u D} I h) λf F q=>?_);cases f with
 |next=>
  obtain⟨B,H',Z,q⟩:=q;exact h2 pins F B H' D Z q
 |ret v=>exact q
 |brk=>exact q
 |cont=>exact q
theorem PK(h1:PS X st t):PSs X [st] t:=by
 intro pins s σ H D I h;refine wpAny_execs_cons (thn (h1 pins s σ H D I h) λf B q=>?_);cases f with
 |next=>exact ab0 q
 |ret v=>exact q
 |brk=>exact q
 |cont=>exact q
theorem Inv.quiet{pins:List (Addr×Obj)}{σ:St}{H:Hp}{s:zb}(I:Inv X pins σ H s):interactive X.env=false:=by simp[interactive,I.ok.kind]
def Rr(te:TE):TS:=λD σ H=>te σ H λ_ H1=>D.nx σ H1
theorem N6(V:PE X e te)(hs:aaI e none pos.line X.env=pure false:=by rfl):PS X (.Expr e pos) (Rr te):=by
 intro pins s σ H D I h;exact wpAny_Expr_any (thn (V pins s σ H _ I h) λv B ⟨x,H1,O,N,F⟩=>⟨σ,H1,O,F⟩) I.quiet hs
def Uv(te:TE):TS:=λD σ H=>te σ H D.rt
theorem Dp(V:PE X e te):PS X (.Return (some e) pos) (Uv te):=by
 intro pins s σ H D I h;exact wpAny_Return_some (thn (V pins s σ H _ I h) λv B ⟨x,H1,O,N,F⟩=>⟨x,σ,H1,O,N,F⟩)
def Ws(c:TT)(t u:TS):TS:=λD σ H=>c σ H λb H1=>if b=true then t D σ H1 else u D σ H1
theorem Q9{c:Expr}{a b:List Stmt}{tc:TT}(Y:PT X c tc)(Z:PSs X a t)(U:PSs X b u):PS X (.If c a b pos) (Ws tc t u):=by
 intro pins s σ H D I h;refine wpAny_If (thn (Y pins s σ H _ I h) λd B ⟨H1,O,F⟩=>?_);cases d with
 |true=>exact Z pins B σ H1 D O F
 |false=>exact U pins B σ H1 D O F
end
abbrev TG:=V->St->Hp->(St->Hp->Prop)->Prop
abbrev TGs:=List V->St->Hp->(St->Hp->Prop)->Prop
def PG(X:Cx)(target:Expr)(t:TG):Prop:=
 ∀(pins:List (Addr×Obj))(s:zb)(σ:St)(H:Hp)(v:V)(u:Value)(Q:St->Hp->Prop),Inv X pins σ H s->RelV v u->t v σ H Q->
  wpAny 1.11 X.A (abf target X.env u) (λ_ s'=>∃B H',Inv X pins B H' s'/\Q B H') X.xe s
def PGs(X:Cx)(ts:List Expr)(t:TGs):Prop:=
 ∀(pins:List (Addr×Obj))(s:zb)(σ:St)(H:Hp)(vs:List V)(us:List Value)(Q:St->Hp->Prop),Inv X pins σ H s->Vals vs us->t vs σ H Q->
  wpAny 1.11 X.A (ad5 ((YS ts X.env).map (·.2)) us) (λ_ s'=>∃B H',Inv X pins B H' s'/\Q B H') X.xe s
abbrev HH:=V->V->V->Hp->(Hp->Prop)->Prop
def Oi(X:Cx)(t:HH):Prop:=
 ∀(pins:List (Addr×Obj))(s:zb)(σ:St)(H:Hp)(o i v:V)(ov U u:Value)(Q:Hp->Prop),Inv X pins σ H s->RelV o ov->RelV i U->RelV v u->t o i v H Q->
  wpAny 1.11 X.A (setItem ov U u) (λ_ s'=>∃H',Inv X pins σ H' s'/\Q H') X.xe s
abbrev TIp:=V->V->Hp->VK->Prop
def PIp(X:Cx)(op:adQ)(t:TIp):Prop:=
 ∀(pins:List (Addr×Obj))(s:zb)(σ:St)(H:Hp)(x y:V)(v u:Value)(Q:VK),Inv X pins σ H s->RelV x v->RelV y u->t x y H Q->
  wpAny 1.11 X.A (inplaceOp op v u) (EP X pins σ Q) X.xe s
def pZ(i:Nat):TG:=λv σ H Q=>Q (σ.set i (some v)) H
theorem yV(Y:X.N.Nodup)(hi:X.N[i]? =some x)(J:Loc X.env.scope x)(O:X.fn x=true∨X.env.scope.names.lookup x=some .local:=by first|exact .inl rfl|exact .inr rfl|assumption):PG X (.Name x pos) (pZ i):=by
 intro pins s σ H v u Q I r h;exact wpAny_assign_Name (kZ I Y hi J r (λs' Z=>⟨_,H,Z,h⟩) O)
def O3:TGs:=λvs σ H Q=>vs=[]/\Q σ H
def MF(t:TG)(u:TGs):TGs:=λvs σ H Q=>∃v r,vs=v::r/\t v σ H λB H'=>u r B H' Q
theorem Ea:PGs X [] O3:=by
 intro pins s σ H vs us Q I r h;obtain⟨e,h⟩:=h;subst e;cases r;exact assignInOrder_nil ⟨σ,H,I,h⟩
theorem A_{t:TG}{u:TGs}(h1:PG X e t)(h2:PGs X es u)
  (hs:(YS (e::es) X.env).map (·.2)=abf e X.env::(YS es X.env).map (·.2):=by rfl):PGs X (e::es) (MF t u):=by
 intro pins s σ H vs us Q I r h;obtain⟨v,q,e1,h⟩:=h;subst e1;cases r with
 |cons r U=>
  rw[hs];refine ach (thn (h1 pins s σ H _ _ _ I r h) λ_ B ⟨N,H1,O,F⟩=>?_);exact h2 pins B N H1 _ _ Q O U F
def T7(K:Xl)(n:Nat)(t:TGs):TG:=λv σ H Q=>∃a xs,v= .ref a/\SqT K H a xs/\xs.length=n/\t xs σ H Q
variable{k:Nat}
theorem Km{t:TGs}(Y:X.calm=true)(h:PGs X es t)
  (hn:(YS es X.env).length=n:=by rfl) (V:(YS es X.env).findIdx? (·.1)=none:=by rfl):PG X (.Tuple es k pos) (T7 X.K n t):=by
 intro pins s σ H v u Q I r q;obtain⟨a,xs,e1,N,Z,q⟩:=q;subst e1;cases r;obtain⟨B,F,U,hz⟩:=I.tuple N;refine assign_Tuple_tuple (I.ok.hd Y) U (by simp[hn,←Z,F.length]) V λh' J=>?_;have O:Inv X pins σ H {s with heap:=h'}:=I.kept (t':=s.toks) λb o e=>J b o (XS (Xm e)) e;exact h pins _ σ H xs _ Q O (by simpa using F) q
def gm(to V:TE)(t:HH):TG:=λv σ H Q=>to σ H λo H1=>V σ H1 λi H2=>t o i v H2 λI=>Q σ I
theorem SN{o i:Expr}{to V:TE}{t:HH}(N:PE X o to)(hi:PE X i V)(hs:Oi X t)
  (Z:∀v,abf (.Subscript o i pos) X.env v=(do
   let ov ←aaS [v] (eval o X.env)
   let iv ←aaS [v,ov] (eval i X.env)
   standAt pos
   aaS [v,ov,iv] (setItem ov iv v)
   release [v,ov,iv] []):=by intro _;rfl):PG X (.Subscript o i pos) (gm to V t):=by
 intro pins s σ H v u Q I r h;rw[Z];refine gD (Za (thn (N pins s σ H _ I h) λov B ⟨x,H1,O,r1,F⟩=>?_));refine gD (Za (thn (hi pins B σ H1 _ O F) λiv Y ⟨y,H2,U,r2,q⟩=>?_));refine gD (aaF (gD (Za (thn (hs pins Y σ H2 x y v ov iv u _ U r1 r2 r q) λ_ J ⟨H3,I3,q3⟩=>?_))));exact wpAny_release ⟨σ,H3,I3,q3⟩
def CZ(te:TE)(g:TG):TS:=λD σ H=>te σ H λx H1=>g x σ H1 D.nx
variable{te:TE}{g:TG}
theorem Jx(V:PE X e te)(F:PG X tg g)(hs:aaG [tg] e pos.line X.env=pure false:=by rfl)(J:abH [tg] e X.env=pure none:=by rfl)
  (h1:(YS [tg] X.env).map (·.2)=[abf tg X.env]:=by rfl):PS X (.Assign [tg] e pos) (CZ te g):=by
 intro pins s σ H D I h;refine wpAny_Assign_stores (thn (V pins s σ H _ I h) λv B ⟨x,H1,O,N,U⟩=>?_) hs J;rw[h1];exact thn (F pins B σ H1 x v _ O N U) λ_ Y q=>q
theorem JH(Z:X.N.Nodup)(hi:X.N[i]? =some x)(J:Loc X.env.scope x)(V:PE X e te)(hs:aaI e (some (.Name x pos')) pos.line X.env=pure false:=by rfl)(O:X.fn x=true∨X.env.scope.names.lookup x=some .local:=by first|exact .inl rfl|exact .inr rfl|assumption) :
  PS X (.Assign [.Name x pos'] e pos) (CZ te (pZ i)):=by
 intro pins s σ H D I h;refine wpAny_Assign_Name (thn (V pins s σ H _ I h) λv B ⟨y,H1,I1,q,F⟩=>?_) hs;exact kZ I1 Z hi J q (λY U=>⟨_,H1,U,F⟩) O
def VG(i j:Nat)(ta:TA):TS:=λD σ H=>ta σ H λvs H1=>∃v w,vs=[v,w]/\D.nx ((σ.set i (some v)).set j (some w)) H1
variable{a:Expr}{ta:TA}
theorem Uu{b:Expr}{px py pt:Pos}{kt k2 pt2}(Y:X.calm=true)(hN:X.N.Nodup)(hi:X.N[i]? =some x)(hj:X.N[j]? =some y)(a1:i≠j)
  (J:X.env.scope.names.lookup x=some .local) (V:X.env.scope.names.lookup y=some .local) (Z:PA X [a,b] ta)
  (hw:abH [.Tuple [.Name x px,.Name y py] kt pt] (.Tuple [a,b] k2 pt2) X.env=pure (some [x,y]))
  (hs:aaG [.Tuple [.Name x px,.Name y py] kt pt] (.Tuple [a,b] k2 pt2) pos.line X.env=pure false:=by rfl) :
  PS X (.Assign [.Tuple [.Name x px,.Name y py] kt pt] (.Tuple [a,b] k2 pt2) pos) (VG i j ta):=by
 intro pins s σ H D I h;rw[ada];refine gD (aaF ?_);rw[hs];refine gD (Xg ?_);rw[Xz 1.27];refine gD (Tuple_ (thn (Z _ pins s σ H _ I h) λus B ⟨vs,H1,O,r1,F⟩=>?_));obtain⟨v,w,e1,F⟩:=F;subst e1;obtain⟨u1,u2,rfl,rv,a2⟩:∃u1 u2,us=[u1,u2]/\RelV v u1/\RelV w u2:=by
  cases r1 with
  |cons p q=>
   cases q with
   |cons p' q'=>
    cases q';exact⟨_,_,rfl,p,p'⟩
 refine YX ?_ (by show 2<=Xp;decide);have U:Inv X pins σ H1 {B with heap:=B.heap.push {cls:=.type "tuple",data:=.seq [u1,u2].toArray}}:=O.kept (t':=B.toks) λb o e=>za _ e;rw[hw];refine gD (Xg ?_);show wpAny 1.11 X.A (do rule "assign.swapped-stores";let items ←unpackItems (.ref B.heap.objs.size) 2 none;ad5 [λv=>bindName X.env y v,λv=>bindName X.env x v] items.reverse;pure Flow.next) _ _ _;refine gD (abn (gD (unpackItems_tuple (items:=#[u1,u2]) (I.ok.hd Y) (IsTup.new B.heap _) λh' a0=>?_)));have I3:=U.kept (h':=h') (t':=B.toks) λb o e=>a0 b o (XS (Xm e)) e;show wpAny _ _ (ad5 [λv=>bindName X.env y v,λv=>bindName X.env x v] [u2,u1] >>=λ_=>pure Flow.next) _ _ _;refine gD (ach (wpAny_bindName (kZ I3 hN hj (.inl V) a2 (λs2 I4=>?_) (.inr V))));refine ach (wpAny_bindName (kZ I4 hN hi (.inl J) rv (λs3 I5=>assignInOrder_nil (Xg ?_)) (.inr J)));rw[List.set_comm _ _ (Ne.symm a1)]at I5;exact⟨_,H1,I5,F⟩
def Vo(i:Nat)(te:TE)(V:TIp):TS:=λD σ H=>∃x,σ[i]? =some (some x)/\te σ H λy H1=>V x y H1 λz H2=>D.nx (σ.set i (some z)) H2
theorem R9{op:adQ}{ti:TIp}(hN:X.N.Nodup)(hi:X.N[i]? =some x)(J:Loc X.env.scope x)(V:PE X e te)(ho:PIp X op ti)(O:X.fn x=true∨X.env.scope.names.lookup x=some .local:=by first|exact .inl rfl|exact .inr rfl|assumption) :
  PS X (.AugAssign (.Name x pos') op e pos) (Vo i te ti):=by
 intro pins s σ H D I h;obtain⟨v,e1,h⟩:=h;obtain⟨m,hn,Z⟩:=I.loc;have a3:Vis X.env.scope x:=by rcases J with k|k;exact .inl k;exact .inr (.inl k)
 obtain⟨u,r,l⟩:=Z i x v hi e1 a3;refine wpAny_AugAssign_Name ?_;have go:wpAny 1.11 X.A (eval e X.env) (λw a1=>wpAny 1.11 X.A (inplaceOp op u w) (λr a2=>wpAny 1.11 X.A (storeName X.env x r) (λ_=>SP X pins D .next) X.xe a2) X.xe a1) X.xe s:=by
  refine thn (V pins s σ H _ I h) λw B ⟨y,H1,I1,r1,F⟩=>?_;refine thn (ho pins B σ H1 v y u w _ I1 r r1 F) λz s2 ⟨zv,H2,U,r2,q⟩=>?_;exact kZ U hN hi J r2 (λs3 I3=>⟨_,H2,I3,q⟩) O
 rcases l with⟨hk,hm⟩|⟨hk,c,Y,a0⟩
 .exact adP I.ok.kind hk hn hm go
 .rcases hk with hk|hk
  .exact aeb I.ok.kind hk Y a0 go
  .rcases J with k|k
   .have:X.env.scope.names.lookup x=some .free:=hk
    rw[k]at this;cases this
   .have:X.env.scope.names.lookup x=some .free:=hk
    rw[k]at this;cases this
def ipI(f:Int->Int->Int):TIp:=λx y H Q=>∃i j,x= .int i/\y= .int j/\Q (.int (f i j)) H
theorem Sq:PIp X .Add (ipI λi j=>i+j):=by
 intro pins s σ H x y v u Q I N O h;obtain⟨i,j,e1,e2,q⟩:=h;subst e1;subst e2;obtain⟨t,rfl⟩:=N;obtain⟨t',rfl⟩:=O;exact iadd_int ⟨.int _,H,I.tok _,⟨_,rfl⟩,q⟩
def K4(c:TT)(tb:TS):TS:=λD σ H=>∃W:Nat->St->Hp->Prop,(∃m,W m σ H)/\∀m σ H,W m σ H->
 c σ H λb H1=>if b=true then ∃N:St->Hp->Prop,(∀B H',N B H'->∃O,O<m/\W O B H')/\tb {D with nx:=N,ct:=N,bk:=D.nx} σ H1 else D.nx σ H1
variable{tb:TS}
theorem Nt{V:List Stmt}{tc:TT}(F:adb 1.11 X.A X.env X.xe)(Y:PT X c tc)(U:PSs X V tb):PS X (.While c V [] pos) (K4 tc tb):=by
 intro pins s σ H D I h;obtain⟨W,⟨m0,w0⟩,turn⟩:=h;refine wpAny_While (codeAny_whileLoop (λn s'=>∃B H',Inv X pins B H' s'/\W n B H') ?_ m0 ⟨σ,H,I,w0⟩);rintro n s1 ⟨a1,H1,O,w1⟩;refine aaf F (thn (Y pins s1 a1 H1 _ O (turn n a1 H1 w1)) λb s2 ⟨H2,I2,q⟩=>?_);cases b with
 |true=>
  obtain⟨N,hN,q⟩:=q;rw[Xu rfl];refine aaf F (thn (U pins s2 a1 H2 _ I2 q) λf s3 q3=>?_);cases f with
  |next=>
   obtain⟨a0,H3,Z,n3⟩:=q3;obtain⟨m',J,w3⟩:=hN a0 H3 n3;exact⟨m',J,a0,H3,Z,w3⟩
  |cont=>
   obtain⟨a0,H3,Z,n3⟩:=q3;obtain⟨m',J,w3⟩:=hN a0 H3 n3;exact⟨m',J,a0,H3,Z,w3⟩
  |brk=>exact q3
  |ret v=>exact q3
 |false=>
  rw[Xz X6];exact ab0 ⟨a1,H2,I2,q⟩
structure It where
 go:Nat->Hp->Prop
 yld:Nat->Hp->V->Hp->Prop
 stop:Nat->Hp->Prop
def jG(X:Cx)(pins:List (Addr×Obj))(H:Hp)(b:Addr):Prop:=
 H b=none/\b≠X.env.locals/\b∉X.fs/\(b∈X.ex∨X.s₀.heap.objs.size<=b)/\(∀x c,X.env.cells.lookup x=some c->c≠b)/\∀p∈X.pn++pins,p.1≠b
variable{s:zb}
theorem Inv.fpOk(I:Inv X pins σ H s)(U:s.heap.objs.size<=b)(hn:H' b=none):jG X pins H' b:=by
 refine⟨hn,Y4 (XC I.lt U),I.nofs U,.inr (Yz I.sz U),λx c e z=>?_,λp F z=>?_⟩
 .obtain⟨v,q⟩:=I.cell x c e
  exact absurd (XC q.lt (by rw[z];exact U)) (YQ _)
 .exact absurd (XC (Xm (I.pin p F).1) (by rw[z];exact U)) (YQ _)
structure Turn(P:Program)(w:World)(K:PySem.W.Frag)(tg:Expr)(J:It)(fp:List Addr)(it:Addr)(tn:Nat->Heap->Prop):Prop where
 mem:it∈fp
 obj:∀i h,tn i h->∀b∈fp,∃o,h.get? b=some o/\∀v,o.data≠.cell v
 keep:∀i h h',tn i h->(∀b∈fp,∀o,h.get? b=some o->h'.get? b=some o)->tn i h'
 item:∀(X:Cx),X.prog=P->X.w=w->X.K=K->X.calm=true->∀(i:Nat)(pins:List (Addr×Obj))(s:zb)(σ:St)(H:Hp)(E:Value->zb->Prop),Inv X pins σ H s->(∀b∈fp,jG X pins H b)->tn i s.heap->J.go i H->
  wpAny (model P w) X.A (aaa (.ref it)) (λr s1=>∃u,r=some u/\
   wpAny (model P w) X.A (aa9 tg (.ref it) u) (λ_ s2=>∃x H',Inv X pins σ H' s2/\RelV x u/\J.yld i H x H'/\tn (i+1) s2.heap/\∀b∈fp,H' b=none) E s1) E s
 done:∀(X:Cx),X.prog=P->X.w=w->X.K=K->X.calm=true->∀(i:Nat)(pins:List (Addr×Obj))(s:zb)(σ:St)(H:Hp)(E:Value->zb->Prop),Inv X pins σ H s->(∀b∈fp,jG X pins H b)->tn i s.heap->J.stop i H->
  wpAny (model P w) X.A (aaa (.ref it)) (λr s1=>r=none/\Inv X pins σ H s1) E s
 self:∀(A:Yy)(i:Nat)(s:zb)(Q:Value->zb->Prop)(E:Value->zb->Prop),tn i s.heap->Q (.ref it) s->wpAny (model P w) A (pyIter (.ref it)) Q E s
abbrev TI:=St->Hp->(It->Hp->Prop)->Prop
def PIE(X:Cx)(pins:List (Addr×Obj))(σ:St)(tg:Expr)(R:It->Hp->Prop)(B:Value)(Y:zb):Prop:=
 ∃(it:Addr)(fp:List Addr)(q:Nat->Heap->Prop)(J:It)(H':Hp),B= .ref it/\Inv X pins σ H' Y/\Turn X.prog X.w X.K tg J fp it q/\q 0 Y.heap/\(∀b∈fp,jG X pins H' b)/\R J H'
def PI(X:Cx)(tg iter:Expr)(wi:TI):Prop:=
 ∀(pins:List (Addr×Obj))(s:zb)(σ:St)(H:Hp)(R:It->Hp->Prop),Inv X pins σ H s->wi σ H R->
  wpAny 1.11 X.A (eval iter X.env) (λv B=>wpAny 1.11 X.A (pyIter v) (PIE X pins σ tg R) X.xe B) X.xe s
theorem zJ   {E:Value->zb->Prop}      {n:String} {vs:Array Value}  (N:s.heap.get? it=some o) (Y:o.cls = .type n) (hd:o.data = .fields vs)
    (hn:["enumerate", "zip", "dict_itemiterator", "dict_reverseitemiterator", "odict_iterator", "itertools.zip_longest", "itertools.pairwise"].contains n=false) (V:Q () s):wpAny M A (aa9 tg (.ref it) u) Q E s:=by
  unfold aa9
  cases tg <;> first
    | exact Xg V
    | (cases u <;> first
        | exact Xg V
        | (refine gD (adR N ?_)
           rw [Y,hd]
           show wpAny M A (if (["enumerate", "zip", "dict_itemiterator", "dict_reverseitemiterator", "odict_iterator", "itertools.zip_longest", "itertools.pairwise"].contains n && vs[0]? == some (Zv _))=true then _ else _) Q E s
           rw [Xz (by intro h; rw [hn,Bool.false_and] at h; cases h)]
           exact Xg V))
def Itl(K:Xl)(a:Addr):It:=
 ⟨λi H=>∃xs x,SqL K H a xs/\xs[i]? =some x,λi H x H'=>H'=H/\∀xs,SqL K H a xs->xs[i]? =some x,λi H=>∃xs,SqL K H a xs/\xs.length<=i⟩
def Itt(K:Xl)(a:Addr):It:=
 ⟨λi H=>∃xs x,SqT K H a xs/\xs[i]? =some x,λi H x H'=>H'=H/\∀xs,SqT K H a xs->xs[i]? =some x,λi H=>∃xs,SqT K H a xs/\xs.length<=i⟩
def Itr(lo:Int)(n:Nat):It:=⟨λi _=>i<n,λi H x H'=>H'=H/\x= .int (lo+i),λi _=>n<=i⟩
variable{P:X7}
theorem Hs{K:Xl}(a it:Addr):Turn P w K tg (Itl K a) [it] it (λi h=>h.IsListIter it a i)where
 mem:=by simp
 obj:=λi h st b U=>by
  have e:b=it:=by simpa using U
  subst e;obtain⟨o,e,c,d⟩:=st;exact⟨o,e,λv z=>by rw[d]at z;cases z⟩
 keep:=λi h h' st k=>st.at λo e=>k it (by simp) o e
 item:=by
  intro X hP q hK Y i pins s σ H E I O st F;subst hP q hK;obtain⟨xs,x,N,J⟩:=F;obtain⟨B,rv,p,hz⟩:=I.list N;obtain⟨u,V,ru⟩:=rv.get J;obtain⟨f0,f1,f2,f3,f4,f5⟩:=O it (by simp);refine adm st p.isList (x:=u) (by simpa using V) λh' a0 sb=>?_;have I1:Inv X pins σ H {s with heap:=h'}:=I.turned (t':=s.toks) (λb o U e=>(sb.2 b U).trans e) f0 f1 f3 f4 f5;obtain⟨o,e,c,d⟩:=id a0;exact⟨u,rfl,zJ (s:={s with heap:=h'}) e c d 1.27 ⟨x,H,I1,ru,⟨rfl,λys hy=>by rw[I.list_inj hy N];exact J⟩,a0,λb U=>(O b U).1⟩⟩
 done:=by
  intro X hP q hK Y i pins s σ H E I O st F;subst hP q hK;obtain⟨xs,N,J⟩:=F;obtain⟨B,rv,p,hz⟩:=I.list N;obtain⟨f0,f1,f2,f3,f4,f5⟩:=O it (by simp);have Z:=rv.length;exact adA (I.ok.hd Y) st p.isList (by simp;omega) λh' eb=>⟨rfl,I.turned (t':=s.toks) (λb o U e=>eb b o U e) f0 f1 f3 f4 f5⟩
 self:=λ_ _ _ _ _ st h=>wpAny_pyIter_listiter st h
theorem BZ{K:Xl}(a it:Addr):Turn P w K tg (Itt K a) [it] it (λi h=>h.IsTupleIter it a i)where
 mem:=by simp
 obj:=λi h st b U=>by
  have e:b=it:=by simpa using U
  subst e;obtain⟨o,e,c,d⟩:=st;exact⟨o,e,λv z=>by rw[d]at z;cases z⟩
 keep:=λi h h' st k=>st.at λo e=>k it (by simp) o e
 item:=by
  intro X hP q hK Y i pins s σ H E I O st F;subst hP q hK;obtain⟨xs,x,N,J⟩:=F;obtain⟨B,rv,p,hz⟩:=I.tuple N;obtain⟨u,V,ru⟩:=rv.get J;obtain⟨f0,f1,f2,f3,f4,f5⟩:=O it (by simp);refine wpAny_pyNext_tuple_item st (show s.heap.IsTuple a B.toArray from p) (x:=u) (by simpa using V) λh' a0 sb=>?_;have I1:Inv X pins σ H {s with heap:=h'}:=I.turned (t':=s.toks) (λb o U e=>(sb.2 b U).trans e) f0 f1 f3 f4 f5;obtain⟨o,e,c,d⟩:=id a0;exact⟨u,rfl,zJ (s:={s with heap:=h'}) e c d 1.27 ⟨x,H,I1,ru,⟨rfl,λys hy=>by rw[I.tuple_inj hy N];exact J⟩,a0,λb U=>(O b U).1⟩⟩
 done:=by
  intro X hP q hK Y i pins s σ H E I O st F;subst hP q hK;obtain⟨xs,N,J⟩:=F;obtain⟨B,rv,p,hz⟩:=I.tuple N;obtain⟨f0,f1,f2,f3,f4,f5⟩:=O it (by simp);have Z:=rv.length;exact wpAny_pyNext_tuple_end (I.ok.hd Y) st (show s.heap.IsTuple a B.toArray from p) (by simp;omega) λh' eb=>⟨rfl,I.turned (t':=s.toks) (λb o U e=>eb b o U e) f0 f1 f3 f4 f5⟩
 self:=λ_ _ _ _ _ st h=>wpAny_pyIter_tupleiter st h
theorem Ck{K:Xl}(it:Addr)(lo:Int)(n:Nat):Turn P w K tg (Itr lo n) [it] it (λi h=>IsRangeIter h it (lo+(i:Nat)*1) ((n:Int)-(i:Nat)) 1)where
 mem:=by simp
 obj:=λi h st b U=>by
  have e:b=it:=by simpa using U
  subst e;exact⟨_,st,λv z=>by
   have z':Data.fields _=Data.cell v:=z;cases z'⟩
 keep:=λi h h' st k=>k it (by simp) _ st
 item:=by
  intro X Z q hK Y i pins s σ H E I O st F;subst Z q hK;obtain⟨f0,V,N,f3,f4,f5⟩:=O it (by simp);have W:=Walks.range (prog:=X.prog) (w:=X.w) (I.ok.hd Y) it lo 1 n;refine W.item i s _ _ F st λv h' tk B J kk=>?_;obtain⟨t,rfl⟩:=B;have I1:Inv X pins σ H {s with heap:=h',toks:=tk}:=I.turned (λb o U e=>kk b o (by simpa using U) e) f0 V f3 f4 f5;refine⟨_,rfl,zJ (s:={s with heap:=h',toks:=tk}) (n:="range_iterator") J rfl rfl 1.27 ⟨.int (lo+i),H,I1,⟨t,?_⟩,⟨rfl,rfl⟩,J,λb U=>(O b U).1⟩⟩;rw[Int.mul_one]
 done:=by
  intro X Z q hK Y i pins s σ H E I O st F;subst Z q hK;obtain⟨f0,V,N,f3,f4,f5⟩:=O it (by simp);exact wpAny_pyNext_range_end (I.ok.hd Y) st (by have:n<=i:=F;omega) λh' eb=>⟨rfl,I.turned (t':=s.toks) (λb o U e=>eb b o U e) f0 V f3 f4 f5⟩
 self:=λ_ _ _ _ _ st h=>wpAny_pyIter_rangeiter st h
theorem Lh{R:It->Hp->Prop}{E:Value->zb->Prop}{lo hi:Int}{t u v:Tok}(I:Inv X pins σ H s)(h1: -(2 ^ 62)<=lo)(h2:lo<2 ^ 62)(O: -(2 ^ 62)<=hi)(F:hi<2 ^ 62)
  (q:R (Itr lo (hi-lo).toNat) H):wpAny 1.11 X.A (pyIter (.ref s.heap.objs.size)) (PIE X pins σ tg R) E {s with heap:=s.heap.push {cls:=.type "range",data:=.fields #[.int lo t,.int hi u,.int 1 v]},toks:=tk}:=by
 refine wpAny_pyIter_range (IsRange.new ..) (small_one h1 h2 O F) ?_;have B:Inv X pins σ H {s with heap:=s.heap.push {cls:=.type "range",data:=.fields #[.int lo t,.int hi u,.int 1 v]},toks:=tk}:=I.kept λb o e=>za _ e;refine⟨(s.heap.push {cls:=.type "range",data:=.fields #[.int lo t,.int hi u,.int 1 v]}).objs.size,[(s.heap.push {cls:=.type "range",data:=.fields #[.int lo t,.int hi u,.int 1 v]}).objs.size],_,_,H,rfl,
  B.kept (t':=tk) λb o e=>za _ e,Ck _ lo (hi-lo).toNat,?_,λb U=>?_,q⟩
 .have e1:lo+((0:Nat):Int)*1=lo:=by simp
  have e2:(((hi-lo).toNat:Nat):Int)-((0:Nat):Int)=Builtin.Range.rangeSize lo hi 1:=by rw[rangeSize_one];split<;>omega
  show IsRangeIter _ _ (lo+((0:Nat):Int)*1) ((((hi-lo).toNat:Nat):Int)-((0:Nat):Int)) 1;rw[e1,e2];exact Xr _ rfl
 .have e:b=(s.heap.push {cls:=.type "range",data:=.fields #[.int lo t,.int hi u,.int 1 v]}).objs.size:=by simpa using U
  subst e;exact B.fpOk (Xn _) (B.hok.fresh (Xn _))
def Nu(ta:TA):TI:=λσ H R=>ta σ H λvs H1=>∃j:Int,vs=[.int j]/\-(2 ^ 62)<=j/\j<2 ^ 62/\R (Itr 0 j.toNat) H1
theorem wI{p:Pos}(F:Gl X "range")(J:X.mg "range"=none)(Z:PA X [a] ta)(hs:Xy [a] X.env=[(false,eval a X.env)]:=by rfl):PI X tg (.Call (.Name "range" p) [a] [] pos) (Nu ta):=by
 intro pins s σ H R I h;refine Call_ (mO I F J boot_range (ZJ (thn (Z pos pins s σ H _ I h) λus B ⟨vs,H1,O,N,V⟩=>?_) hs rfl));obtain⟨j,e,V,Y,q⟩:=V;subst e;cases N with
 |cons r U=>
  cases U;obtain⟨t,rfl⟩:=r;exact call_range_1 (Lh O 1.10 1.10 V Y (by simpa using q))
def Ua(wi:TI)(g:TG)(tb:TS):TS:=λD σ H=>wi σ H λJ H1=>∃W:Nat->Nat->St->Hp->Prop,(∃m,W 0 m σ H1)/\∀i m σ H,W i m σ H->
 (J.stop i H/\D.nx σ H)∨(J.go i H/\∃N:St->Hp->Prop,(∀B H',N B H'->∃O,O<m/\W (i+1) O B H')/\∀x H',J.yld i H x H'->g x σ H' λσ2 H2=>tb {D with nx:=N,ct:=N,bk:=D.nx} σ2 H2)
def j6(fp:List Addr)(h:Heap):List (Addr×Obj):=fp.filterMap λb=>(h.get? b).map λo=>(b,o)
theorem cW(U:b∈fp)(e:h.get? b=some o):(b,o)∈j6 fp h:=aci.mpr ⟨b,U,by rw[e];rfl⟩
theorem qH{p:Addr×Obj}(F:p∈j6 fp h):p.1∈fp/\h.get? p.1=some p.2:=by
 obtain⟨b,U,e⟩:=aci.mp F;cases q:h.get? b with
 |none=>rw[q]at e;cases e
 |some o=>
  rw[q]at e;have N:(b,o)=p:=Yn e;subst N;exact⟨U,q⟩
theorem Inv.pinned(I:Inv X pins σ H s)(O:∀b∈fp,jG X pins H b)(N:∀b∈fp,∃o,s.heap.get? b=some o/\∀v,o.data≠.cell v):Inv X (pins++j6 fp s.heap) σ H s:=
 I.pins_of λp F=>(W2.mp F).elim (λz=>I.pin p (Xf _ z)) λz=>by
  obtain⟨U,e⟩:=qH z;obtain⟨q,V,J,_⟩:=O p.1 U;obtain⟨o,B,d⟩:=N p.1 U;rw[e]at B;cases B;exact⟨e,q,V,J,d⟩
theorem Inv.unpinned{U:List (Addr×Obj)}(I:Inv X (pins++U) σ H s):Inv X pins σ H s:=I.pins_of λp F=>I.pin p (Xf _ (Xo _ F))
theorem Jl{iter:Expr}{V:List Stmt}{wi:TI}(F:adb 1.11 X.A X.env X.xe)(Y:X.calm=true)(hi:PI X tg iter wi)(hg:PG X tg g)(U:PSs X V tb)
  (hs:∀x,YZ iter X.env x=pure x:=by intro _;rfl):PS X (.For tg iter V [] pos) (Ua wi g tb):=by
 intro pins s σ H D I h;refine wpAny_For (thn (hi pins s σ H _ I h) λv s1 h1=>thn h1 λb1 s2 h2=>?_) hs;obtain⟨it,fp,tn,J,H2,e,I2,T,a7,f2,W,⟨m0,w0⟩,turn⟩:=h2;subst e;have a1:∀{H':Hp},(∀b∈fp,H' b=none)->∀b∈fp,jG X pins H' b:=λhn b U=>⟨hn b U,(f2 b U).2⟩;refine codeAny_forLoop_any (λn s'=>∃i B H',Inv X pins B H' s'/\tn i s'.heap/\(∀b∈fp,H' b=none)/\W i n B H') ?_ m0 ⟨0,σ,H2,I2,a7,λb U=>(f2 b U).1,w0⟩;rintro n s3 ⟨i,a2,H3,I3,a5,a6,w3⟩;rcases turn i n a2 H3 w3 with⟨stop,qn⟩|⟨go,N,hN,step⟩
 .refine aaf F (thn (T.done X rfl rfl rfl Y i pins s3 a2 H3 X.xe I3 (a1 a6) a5 stop) λr Z ⟨O,I4⟩=>?_)
  subst O;exact ab0 ⟨a2,H3,I4,qn⟩
 .refine aaf F (thn (T.item X rfl rfl rfl Y i pins s3 a2 H3 X.xe I3 (a1 a6) a5 go) λr Z ⟨u,O,h4⟩=>?_)
  subst O;refine aaf F (thn h4 λ_ s5 ⟨x,H5,I5,r5,y5,a4,b0⟩=>?_);have a9:=I5.pinned (a1 b0) (T.obj _ _ a4);refine aaf F (thn (hg _ s5 a2 H5 x u _ a9 r5 (step x H5 y5)) λ_ s6 ⟨a8,H6,I6,q6⟩=>?_);refine aaf F (thn (U _ s6 a8 H6 _ I6 q6) λf s7 q7=>?_);have a3:∀{a0:St}{H7:Hp},Inv X (pins++j6 fp s5.heap) a0 H7 s7->N a0 H7->∃m,m<n/\∃i B H',Inv X pins B H' s7/\tn i s7.heap/\(∀b∈fp,H' b=none)/\W i m B H':=λ{a0 H7} I7 n7=>by
   obtain⟨m',hm,w7⟩:=hN a0 H7 n7;refine⟨m',hm,i+1,a0,H7,I7.unpinned,T.keep _ _ _ a4 λb U o e=>(I7.pin (b,o) (Xf _ (Xf _ (cW U e)))).1,λb U=>?_,w7⟩;obtain⟨o,e,d⟩:=T.obj _ _ a4 b U;exact(I7.pin (b,o) (Xf _ (Xf _ (cW U e)))).2.1
  cases f with
  |next=>obtain⟨a0,H7,I7,n7⟩:=q7;exact a3 I7 n7
  |cont=>obtain⟨a0,H7,I7,n7⟩:=q7;exact a3 I7 n7
  |brk=>obtain⟨a0,H7,I7,q7⟩:=q7;exact⟨a0,H7,I7.unpinned,q7⟩
  |ret v=>obtain⟨q,a0,H7,I7,r7,q7⟩:=q7;exact⟨q,a0,H7,I7.unpinned,r7,q7⟩
abbrev R2:=V->V->Hp->VK->Prop
def OpR(X:Cx)(f:Value->Value->Sem Value)(r:R2):Prop:=
 ∀(pins:List (Addr×Obj))(s:zb)(σ:St)(H:Hp)(x y:V)(v u:Value)(Q:VK),Inv X pins σ H s->RelV x v->RelV y u->r x y H Q->
  wpAny 1.11 X.A (f v u) (EP X pins σ Q) X.xe s
def UnR(X:Cx)(f:Value->Sem Value)(r:V->Hp->VK->Prop):Prop:=
 ∀(pins:List (Addr×Obj))(s:zb)(σ:St)(H:Hp)(x:V)(v:Value)(Q:VK),Inv X pins σ H s->RelV x v->r x H Q->
  wpAny 1.11 X.A (f v) (EP X pins σ Q) X.xe s
def dO(X:Cx)(f:Value)(r:List V->Hp->VK->Prop):Prop:=
 ∀(pins:List (Addr×Obj))(s:zb)(σ:St)(H:Hp)(xs:List V)(us:List Value)(Q:VK),Inv X pins σ H s->Vals xs us->r xs H Q->
  wpAny 1.11 X.A (call f us) (EP X pins σ Q) X.xe s
def Xe(X:Cx)(r:V->Hp->(Bool->Hp->Prop)->Prop):Prop:=
 ∀(pins:List (Addr×Obj))(s:zb)(σ:St)(H:Hp)(x:V)(v:Value)(Q:Bool->Hp->Prop),Inv X pins σ H s->RelV x v->r x H Q->
  wpAny 1.11 X.A (truthy v) (TP X pins σ Q) X.xe s
def tOp(r:R2)(ta tb:TE):TE:=λσ H Q=>ta σ H λx H1=>tb σ H1 λy H2=>r x y H2 Q
def tUn(r:V->Hp->VK->Prop)(ta:TE):TE:=λσ H Q=>ta σ H λx H1=>r x H1 Q
def rI(C:Int->Int->Prop)(g:Int->Int->V):R2:=λx y H Q=>∃i j,x= .int i/\y= .int j/\C i j/\Q (g i j) H
def rI0(g:Int->Int->V):R2:=λx y H Q=>∃i j,x= .int i/\y= .int j/\Q (g i j) H
def rU(g:Int->V):V->Hp->VK->Prop:=λx H Q=>∃i,x= .int i/\Q (g i) H
variable{b:Expr}{f:Value->Value->Sem Value}{ta tb:TE}
theorem Uh(Z:PE X a ta)(U:PE X b tb){R:V->V->Hp->Prop}(I:Inv X pins σ H s)
  (h:ta σ H λx H1=>tb σ H1 λy H2=>R x y H2) {Q:Value->zb->Prop} 
  (O:∀v u Y x y H2,Inv X pins σ H2 Y->RelV x v->RelV y u->R x y H2->wpAny 1.11 X.A (f v u) Q X.xe Y) :
  wpAny 1.11 X.A (eval a X.env) (λv J=>wpAny 1.11 X.A (eval b X.env) (λu a0=>wpAny 1.11 X.A (f v u) Q X.xe a0) X.xe J) X.xe s:=by
 refine thn (Z pins s σ H _ I h) λv B ⟨x,H1,I1,N,F⟩=>?_;refine thn (U pins B σ H1 _ I1 F) λu Y ⟨y,H2,I2,r2,q⟩=>?_;exact O v u Y x y H2 I2 N r2 q
variable{r:R2}
theorem Rc{op:adQ}(N:OpR X (Zh op) r)(Z:PE X a ta)(U:PE X b tb):PE X (.BinOp a op b pos) (tOp r ta tb):=by
 intro pins s σ H Q I h;exact wpAny_BinOp (Uh Z U I h λv u Y x y H2 B rx J q=>N pins Y σ H2 x y v u Q B rx J q)
theorem VR{op:UnaryOp}{r:V->Hp->VK->Prop}(N:UnR X (unaryOp op) r)(Z:PE X a ta):PE X (.UnaryOp op a pos) (tUn r ta):=by
 intro pins s σ H Q I h;exact UnaryOp_ (thn (Z pins s σ H _ I h) λv B ⟨x,H1,O,q,F⟩=>N pins B σ H1 x v Q O q F)
variable{g:Int->Int->Int}
theorem opI
  (B:∀(i j:Int)(t u:Tok)(s:zb)(Q:Value->zb->Prop)(E:Value->zb->Prop),C i j->Q (.int (g i j) s.toks) {s with toks:=s.toks+1}->wpAny 1.11 X.A (f (.int i t) (.int j u)) Q E s) :
  OpR X f (rI C λi j=>.int (g i j)):=by
 intro pins s σ H x y v u Q I rx J h;obtain⟨i,j,rfl,rfl,Y,q⟩:=h;obtain⟨t,rfl⟩:=rx;obtain⟨t',rfl⟩:=J;exact B i j t t' s _ _ Y ⟨.int (g i j),H,I.tok _,⟨_,rfl⟩,q⟩
theorem Wc
  (B:∀(i j:Int)(t u:Tok)(s:zb)(Q:Value->zb->Prop)(E:Value->zb->Prop),Q (.int (g i j) s.toks) {s with toks:=s.toks+1}->wpAny 1.11 X.A (f (.int i t) (.int j u)) Q E s) :
  OpR X f (rI0 λi j=>.int (g i j)):=by
 show 2;exact B i j t t' s _ _ ⟨.int (g i j),H,I.tok _,⟨_,rfl⟩,q⟩
theorem Tj{g:Int->Int->Bool}
  (B:∀(i j:Int)(t u:Tok)(s:zb)(Q:Value->zb->Prop)(E:Value->zb->Prop),Q (.bool (g i j)) s->wpAny 1.11 X.A (f (.int i t) (.int j u)) Q E s) :
  OpR X f (rI0 λi j=>.bl (g i j)):=by
 show 2;exact B i j t t' s _ _ ⟨.bl (g i j),H,I,rfl,q⟩
def W4(i j:Int):Prop:=0<=j/\j<=1000000/\i.natAbs<2 ^ 64
def T9(i j:Int):Prop:=(-(2 ^ 64)<i/\i<2 ^ 64)∨(-(2 ^ 64)<j/\j<2 ^ 64)
theorem T9.ok{i j:Int}(h:T9 i j):IntMulOk i j:=by
 rcases h with⟨h1,h2⟩|⟨h1,h2⟩
 .exact .of_left (intBits_le_64 h1 h2)
 .exact .of_right (intBits_le_64 h1 h2)
theorem Su:OpR X (Zh .Add) (rI0 λi j=>.int (i+j)):=Wc λ_ _ _ _ _ _ _ q=>add_int q
theorem Uo:OpR X (Zh .Sub) (rI0 λi j=>.int (i-j)):=Wc λ_ _ _ _ _ _ _ q=>sub_int q
theorem Ur:OpR X (Zh .Mult) (rI T9 λi j=>.int (i*j)):=opI λ_ _ _ _ _ _ _ Y q=>mul_int q Y.ok
theorem Uc:OpR X (Zh .Mod) (rI (λ_ j=>0<j) λi j=>.int (i % j)):=opI λi j _ _ _ _ _ Y q=>by
 have h1:(0:Int)<j:=Y;exact mod_int' 1.10 (by rw[Int.fmod_eq_emod_of_nonneg i 1.10];exact q)
theorem T3:OpR X (Zh .Pow) (rI W4 λi j=>.int (i ^ j.toNat)):=opI λ_ _ _ _ _ _ _ Y q=>pow_int_small Y.1 Y.2.1 Y.2.2 q
theorem unI{f:Value->Sem Value}{g:Int->Int}
  (B:∀(i:Int)(t:Tok)(s:zb)(Q:Value->zb->Prop)(E:Value->zb->Prop),Q (.int (g i) s.toks) {s with toks:=s.toks+1}->wpAny 1.11 X.A (f (.int i t)) Q E s) :
  UnR X f (rU λi=>.int (g i)):=by
 intro pins s σ H x v Q I rx h;obtain⟨i,rfl,q⟩:=h;obtain⟨t,rfl⟩:=rx;exact B i t s _ _ ⟨.int (g i),H,I.tok _,⟨_,rfl⟩,q⟩
theorem RP:UnR X (unaryOp .USub) (rU λi=>.int (-i)):=unI λ_ _ _ _ _ q=>neg_int q
theorem Dq{Q:VK}{k O:Bool}(I:Inv X pins σ H s)(q:Q (.bl k) H)(e:k=O):EP X pins σ Q (.bool O) s:=by
 subst e;exact⟨.bl k,H,I,rfl,q⟩
theorem Wa:OpR X (Yp .Lt) (rI0 λi j=>.bl (decide (i<j))):=Tj λ_ _ _ _ _ _ _ q=>lt_int q
theorem Wv:OpR X (Yp .Gt) (rI0 λi j=>.bl (decide (j<i))):=Tj λ_ _ _ _ _ _ _ q=>gt_int q
theorem Vz:OpR X (Yp .GtE) (rI0 λi j=>.bl (decide (j<=i))):=Tj λ_ _ _ _ _ _ _ q=>ge_int q
theorem H9:OpR X (Yp .Lt) (λx y H Q=>∃i j,x= .str i/\y= .str j/\Q (.bl (decide (i.cps.toList<j.cps.toList))) H):=by
 show 2;exact lt_str (Dq I q rfl)
theorem G6:OpR X (Yp .In) (λx y H Q=>∃i j,x= .str i/\y= .str j/\Q (.bl (!(Yv j i 0 j.length 1).isEmpty)) H):=by
 show 2;exact in_str (Dq I q rfl)
theorem SX:OpR X (Yp .Is) (λx y H Q=>y= .non/\Q (.bl (decide (x= .non))) H):=by
 intro pins s σ H x y v u Q I rx J h;obtain⟨rfl,q⟩:=h;cases J;refine is_none_gen (Dq I q ?_);cases x<;>first
  |(cases rx;rfl)
  |(obtain⟨t,rfl⟩:=rx;rfl)
theorem Qu(N:OpR X (Yp op) r)(Z:PE X a ta)(U:PE X b tb)(J:abI op b=false):PE X (.Compare a [op] [b] pos) (tOp r ta tb):=by
 intro pins s σ H Q I h;exact wpAny_Compare1 (Uh Z U I h λv u Y x y H2 B rx F q=>N pins Y σ H2 x y v u Q B rx F q) J
def Lq(t:TE):TT:=λσ H Q=>t σ H λx H'=>∃k,x= .bl k/\Q k H'
theorem Eh(N:OpR X (Yp op) r)(Z:PE X a ta)(U:PE X b tb)(J:abI op b=false):PT X (.Compare a [op] [b] pos) (Lq (tOp r ta tb)):=by
 intro pins s σ H Q I h;refine wpAny_isTrue_Compare1 (thn (Z pins s σ H _ I h) λv B ⟨x,H1,O,V,F⟩=>thn (U pins B σ H1 _ O F) λu Y ⟨y,H2,I2,r2,q⟩=>
  thn (N pins Y σ H2 x y v u _ I2 V r2 q) λc s3 ⟨z,H3,I3,r3,k,e,q3⟩=>?_) J
 subst e;cases r3;exact aaO ⟨H3,I3,q3⟩
def Qe(K:Xl)(x:V)(H:Hp)(k:Bool):Prop:=
 match x with
 |.non=>k=false
 |.bl b=>k=b
 |.int i=>k=(i !=0)
 |.str y=>y.length<=Xp/\k=((y.length:Int)!=0)
 |.byt y=>y.size<=Xp/\k=((y.size:Int)!=0)
 |.ref p=>(∃xs,SqL K H p xs/\k= !xs.isEmpty)∨(∃xs,SqT K H p xs/\k= !xs.isEmpty)∨∃kvs,H p=some (.dK kvs)/\k= !kvs.isEmpty
 |_=>False
theorem BW{kvs:List (κ×V)}{vs:List (κ×Value)}(r:KV kvs vs):(!vs.isEmpty)= !kvs.isEmpty:=by
 cases r<;>rfl
theorem uR{B:List Value}(r:Vals xs B):(!B.toArray.isEmpty)= !xs.isEmpty:=by
 cases r<;>simp
theorem oM:(Xp:Nat)<2 ^ 63:=by rw[abz];decide
theorem Ux:Xe X (λx H Q=>∃k,Qe X.K x H k/\Q k H):=by
 intro pins s σ H x v Q I rx h;obtain⟨k,e,q⟩:=h;have Z:=oM;have hs:Xp=16777216:=abz;cases x with
 |non=>
  cases rx;have N:k=false:=e;subst N;exact truthy_none ⟨H,I,q⟩
 |bl b=>
  cases rx;have N:k=b:=e;subst N;exact aaO ⟨H,I,q⟩
 |int i=>
  obtain⟨t,rfl⟩:=rx;have N:k=(i !=0):=e;subst N;exact PySem.P.truthy_int ⟨H,I,q⟩
 |str y=>
  obtain⟨t,rfl⟩:=rx;obtain⟨V,N⟩:y.length<=Xp/\k=((y.length:Int)!=0):=e;subst N;exact PySem.P.truthy_str 1.10 ⟨H,I.tok _,q⟩
 |byt y=>
  obtain⟨t,rfl⟩:=rx;obtain⟨V,N⟩:y.size<=Xp/\k=((y.size:Int)!=0):=e;subst N;exact PySem.W.truthy_bytes 1.10 ⟨H,I.tok _,q⟩
 |ref p=>
  cases rx;have N:(∃xs,SqL X.K H p xs/\k= !xs.isEmpty)∨(∃xs,SqT X.K H p xs/\k= !xs.isEmpty)∨∃kvs,H p=some (.dK kvs)/\k= !kvs.isEmpty:=e;rcases N with⟨xs,J,N⟩|⟨xs,J,N⟩|⟨kvs,J,N⟩
  .subst N
   obtain⟨B,r,U,Y⟩:=I.list J;have O:=r.length;exact wpAny_truthy_list U.isList (by simp![List.size_toArray];omega) ⟨H,I.tok _,by rw[uR r];exact q⟩
  .subst N
   obtain⟨B,r,U,Y⟩:=I.tuple J;have O:=r.length;exact truthy_tuple U (by simp![List.size_toArray];omega) ⟨H,I.tok _,by rw[uR r];exact q⟩
  .subst N
   obtain⟨Y,F,vs,r,m⟩:kvs.length<=Xp/\(p==aap)=false/\∃vs,KV kvs vs/\s.heap.DictOf (bA X.prog X.w) p vs:=I.hok p _ J;have O:kvs.length=vs.length:=acr r;exact wpAny_truthy_dict F m 1.10 ⟨H,I.tok _,by rw[BW r];exact q⟩
 |_=>exact(show False from e).elim
theorem JV(Z:PE X a ta)(V:∀q,adz a X.env q=(do let v ←q;standAt a.pos;aaS [v] (truthy v))) :
  PT X a (λσ H Q=>ta σ H λx H'=>∃k,Qe X.K x H' k/\Q k H'):=by
 intro pins s σ H Q I h;exact isTrue_plain (thn (Z pins s σ H _ I h) λv B ⟨x,H1,O,N,F⟩=>Ux pins B σ H1 x v Q O N F) (V _)
theorem Do:OpR X (Zh .Add) (λx y H Q=>∃i j,x= .str i/\y= .str j/\i.length+j.length<=Xp/\Q (.str (i++j)) H):=by
 intro pins s σ H x y v u Q I rx J h;obtain⟨i,j,rfl,rfl,Y,q⟩:=h;obtain⟨t,rfl⟩:=rx;obtain⟨t',rfl⟩:=J;exact add_str (λt' tk=>⟨.str (i++j),H,I.tok _,⟨_,rfl⟩,q⟩) Y
theorem vals1{x:V}(r:Vals [x] us):∃u,us=[u]/\RelV x u:=by
 cases r with
 |cons N O=>cases O;exact⟨_,rfl,N⟩
theorem vals2{x y:V}(r:Vals [x,y] us):∃u B,us=[u,B]/\RelV x u/\RelV y B:=by
 cases r with
 |cons N O=>
  cases O with
  |cons F q=>cases q;exact⟨_,_,rfl,N,F⟩
theorem Mt:dO X (.builtin "abs") (λxs H Q=>∃i,xs=[.int i]/\Q (.int (if i<0 then -i else i)) H):=by
 intro pins s σ H xs us Q I r h;obtain⟨i,rfl,q⟩:=h;obtain⟨u,rfl,t,rfl⟩:=vals1 r;exact call_abs_int λu tk=>⟨.int (if i<0 then -i else i),H,I.tok _,⟨_,rfl⟩,q⟩
theorem Hk(Y:X.calm=true):dO X (.builtin "min") (λxs H Q=>∃i j,xs=[.int i,.int j]/\Q (.int (if j<i then j else i)) H):=by
 intro pins s σ H xs us Q I r h;obtain⟨i,j,rfl,q⟩:=h;obtain⟨u,B,rfl,⟨t,rfl⟩,⟨t',rfl⟩⟩:=vals2 r;refine min_two_ints (I.ok.hd Y) λh' tk k=>⟨_,H,I.kept k,?_,q⟩;by_cases F:j<i
 .rw[Xu F,Xu F];exact⟨_,rfl⟩
 .rw[Xz F,Xz F];exact⟨_,rfl⟩
theorem Hh:dO X (.type "int") (λxs H Q=>(∃i,xs=[.int i]/\Q (.int i) H)∨∃k,xs=[.bl k]/\Q (.int (if k then 1 else 0)) H):=by
 intro pins s σ H xs us Q I r h;rcases h with⟨i,rfl,q⟩|⟨k,rfl,q⟩
 .obtain⟨u,rfl,t,rfl⟩:=vals1 r
  exact call_int_int ⟨.int i,H,I,⟨_,rfl⟩,q⟩
 .obtain⟨u,rfl,r1⟩:=vals1 r
  cases r1;exact call_int_bool ⟨.int (if k then 1 else 0),H,I.tok _,⟨_,rfl⟩,q⟩
theorem yD:dO X (.type "str") (λxs H Q=>∃i,xs=[.int i]/\i.natAbs.log2<1920/\Q (.str (toString i)) H):=by
 intro pins s σ H xs us Q I r h;obtain⟨i,rfl,Y,q⟩:=h;obtain⟨u,rfl,t,rfl⟩:=vals1 r;exact PySem.P.str_of_int Y ⟨.str _,H,I.tok _,⟨_,rfl⟩,q⟩
structure Ut(h:Heap)(x dx C:Addr)(mA:Str->Option Value):Prop where
 obj:h.get? x=some (ac_ C dx)
 ns:h.Ns1 dx mA
 ne:dx≠x
theorem GQ(n:h.Ns1 dx Y):∃O,h.get? dx=some O/\∀name,adB name O=some (Y name):=by
 obtain⟨o,es,ep,N,hd,B,_,J⟩:=n;refine⟨o,N,λname=>?_⟩;have e:=J name;unfold nsFind findBy at e;rw[←Array.find?_toList]at e;unfold adB;rw[hd];dsimp only;split
 .rename_i y q
  rw[q]at e;exact congrArg some e
 .rename_i q
  rw[q]at e;have a:es.toList.any (·.refKey)=false:=by
   rw[List.any_eq_false];intro y V;obtain⟨z,t,F⟩:=B y (Array.mem_toList_iff.mp V);simp[DictEntry.refKey,F]
  have U:¬es.toList.any (·.refKey)=true:=by rw[a];exact X6
  rw[Xz U];exact congrArg some e
theorem Ut.look{x C:Addr}(I:Ut h x dx C Y):∃O,PySem.W.InstAt h x (ac_ C dx) C (some O)/\∀name,adB name O=some (Y name):=
 let⟨O,ho,hl⟩:=GQ I.ns
 ⟨O,⟨I.obj,rfl,rfl,ho⟩,hl⟩
theorem ud.some_of{v:V}{o:Option Value}(r:ud (some v) o):∃u,o=some u/\RelV v u:=by
 cases o with
 |none=>exact(show False from r).elim
 |some u=>exact⟨u,rfl,r⟩
section
variable{P:Program}{w:World}{H H':Hp}{h h':Heap}{a C dx:Addr}{fs fs':List (Str×V)}
theorem DQ(hok:HOk P w H h)(e:H a=some (.ins C dx fs)):∃Y,Ut h a dx C Y/\(∀f,ud (fs.lookup f) (Y f))/\PySem.Within Y (fs.map (·.1))/\fs.length<=1000/\H dx=some (.own a):=by
 obtain⟨d,z,F,ob,Y,n,r,q⟩:=(show bZ P w H h a (.ins C dx fs)from hok a _ e);exact⟨Y,⟨ob,n,F⟩,r,q,z,d⟩
end
structure Cls(K:PySem.W.Frag)(C:Addr):Prop where
 pg:aeW K C Str.empty=true
 hd:PySem.W.hasDictIn K C=true
 po:PySem.W.plainOver K C=true
 sa:afc K (.ref C) "__setattr__"=some (some (.builtin "object.__setattr__"))
theorem Cls.get{K:Xl}{C:Addr}(c:Cls K C)(f:Str):aeW K C f=true:=c.pg
inductive lW(K:PySem.W.Frag)(H:Hp):V->Value->Prop where
 |non:lW K H .non (.type "NoneType")
 |bl (x:Bool):lW K H (.bl x) (.type "bool")
 |int (i:Int):lW K H (.int i) (.type "int")
 |str (x:Str):lW K H (.str x) (.type "str")
 |flt (x:UInt64):lW K H (.flt x) (.type "float")
 |lst {a:Addr} {xs:List V} (e:H a=some (.lst xs)):lW K H (.ref a) (.type "list")
 |frz {a:Addr} {o:Obj} {xs:List V} (e:H a=some (.frz o (.lst xs))):lW K H (.ref a) (.type "list")
 |tup {a:Addr} {xs:List V} (e:H a=some (.tup xs)):lW K H (.ref a) (.type "tuple")
 |dK {a:Addr} {kvs:List (Key×V)} (e:H a=some (.dK kvs)):lW K H (.ref a) (.type "dict")
 |dT {a:Addr} {kvs:List (List Key×V)} (e:H a=some (.dT kvs)):lW K H (.ref a) (.type "dict")
 |ins {a C dx:Addr} {fs:List (Str×V)} (e:H a=some (.ins C dx fs)) (cl:Cls K C) (ha:afc K (.ref C) "__class__"=some (some (.builtin "object.__class__")))
  (hn:PySem.W.specialIn K (.builtin "object.__class__") "__get__"=some (some (.builtin "getset_descriptor.__get__"))) (htk:PySem.W.takesIn K (.builtin "object.__class__")=some true)
  (hm:PySem.W.mroIn K C (.type "object")=some true):lW K H (.ref a) (.ref C)
variable{b:Bool}{s:Shared}{A:Around}{Q:Value->Shared->Prop}{c:Value}
theorem GJ{x:V}{t:Value}(I:Inv X pins σ H s)(rx:RelV x u)(U:lW X.K H x t)(e:ab9 X.K t c=some b)(h:∀tk,Q (.bool b) {s with toks:=tk}) :
  wpAny 1.11 A (call (.builtin "isinstance") [u,c]) Q E s:=by
 cases U with
 |non=>cases (show u=Yg from rx);exact Zb aeG I.kIn YT e (λz=>nomatch z) h
 |bl y=>cases (show u=abZ y from rx);exact Zb aeH I.kIn YT e (λz=>nomatch z) h
 |int i=>obtain⟨t,q⟩:=(show ∃t,u=abS i t from rx);cases q;exact Zb aeX I.kIn YT e (λz=>nomatch z) h
 |str y=>obtain⟨t,q⟩:=(show ∃t,u=abe y t from rx);cases q;exact Zb aeY I.kIn YT e (λz=>nomatch z) h
 |flt y=>obtain⟨t,q⟩:=(show ∃t,u=aeT y t from rx);cases q;exact Zb aen I.kIn YT e (λz=>nomatch z) h
 |@lst a xs F=>
  cases (show u=X5 a from rx);obtain⟨_,_,n,_,h1⟩:=(show bZ X.prog X.w H s.heap a (.lst xs)from I.hok a _ F);exact Zb abq I.kIn ⟨_,h1,rfl⟩ e (λz=>nomatch z) h
 |@frz a ob xs F=>
  cases (show u=X5 a from rx);obtain⟨_,_,_,n,_,h1⟩:=(show bZ X.prog X.w H s.heap a (.frz ob (.lst xs))from I.hok a _ F);exact Zb abq I.kIn ⟨_,h1,rfl⟩ e (λz=>nomatch z) h
 |@tup a xs F=>
  cases (show u=X5 a from rx);obtain⟨_,_,_,p⟩:=(show bZ X.prog X.w H s.heap a (.tup xs)from I.hok a _ F);obtain⟨o,h1,h2,_⟩:=p;exact Zb aeo I.kIn ⟨o,h1,h2⟩ e (λz=>nomatch z) h
 |@dK a kvs F=>
  cases (show u=X5 a from rx);obtain⟨_,_,vs,_,p⟩:=(show bZ X.prog X.w H s.heap a (.dK kvs)from I.hok a _ F);obtain⟨o,es,ep,h1,h2,_⟩:=p;exact Zb abr I.kIn ⟨o,h1,h2.1⟩ e (λz=>nomatch z) h
 |@dT a kvs F=>
  cases (show u=X5 a from rx);obtain⟨_,_,xs,_,o,es,ep,h1,h2,_⟩:=(show bZ X.prog X.w H s.heap a (.dT kvs)from I.hok a _ F);exact Zb abr I.kIn ⟨o,h1,h2.1⟩ e (λz=>nomatch z) h
 |@ins a C dx fs F N Z hn B hm=>
  cases (show u=X5 a from rx);obtain⟨Y,O,_⟩:=DQ I.hok F;obtain⟨od,J,_⟩:=O.look;exact Zb (aeZ (N.get _) N.hd Z hn B hm) I.kIn J e (λz=>nomatch z) h
structure jq(k:Nat)(A:Around):Prop where
 hd:A.handled=none
 dp:A.depth+3*k+5<recursionLimit
 un:A.units+16*k+200<cLine
 gd:A.guards=some []
variable{A:Yy}
theorem jq.mono(r:jq k A)(h:j<=k):jq j A:=⟨r.hd,by have:=r.dp;omega,by have:=r.un;omega,r.gd⟩
theorem jq.deeper(r:jq (k+1) A)(env:Env):jq k (A.deeper env):=
 ⟨r.hd,by have:=r.dp;show A.depth+1+3*k+5<_;omega,by have:=r.un;show A.units+3+16*k+200<_;omega,r.gd⟩
theorem jq.depth(r:jq k A):A.depth<recursionLimit:=by have:=r.dp;omega
theorem jq.units(r:jq k A):A.units+64<cLine:=by have:=r.un;omega
def Vh:TA:=λ_ H Q=>Q [] H
def K1(ta:TE)(q:TA):TA:=λσ H Q=>ta σ H λx H1=>q σ H1 λxs H2=>Q (x::xs) H2
section
variable{X:Cx}{e:Expr}{es:List Expr}{te:TE}{t:TA}{pos:Pos}
theorem UJ:PA X [] Vh:=λ_ _ _ _ H Q I h=>aeI ⟨[],H,I,.nil,h⟩
theorem yQ(Z:PE X e te)(O:PA X es t)(hs:Xy (e::es) X.env=(false,eval e X.env)::Xy es X.env:=by rfl):PA X (e::es) (K1 te t):=by
 intro pos pins s σ H Q I h;rw[hs];show wpAny _ _ (spliced ((false,eval e X.env)::ZK pos (Xy es X.env))) _ _ s;refine aep (thn (Z pins s σ H _ I h) λu B ⟨x,H1,J,N,F⟩=>?_);exact thn (O pos pins B σ H1 _ J F) λus Y ⟨xs,H2,U,V,q⟩=>⟨x::xs,H2,U,.cons N V,q⟩
def WY(t:TA):TE:=λσ H Q=>t σ H λxs H1=>xs.length<=Xp/\∀p,H1 p=none->Q (.ref p) (upd H1 p (.tup xs))
def W9(t:TA):TE:=λσ H Q=>t σ H λxs H1=>xs.length<=Xp/\∀p,H1 p=none->Q (.ref p) (upd H1 p (.lst xs))
theorem Kf{x1}(h:PA X es t):PE X (.Tuple es x1 pos) (WY t):=by
 intro pins s σ H Q I N;refine wpAny_Tuple_spliced (thn (h pos pins s σ H _ I N) λus B ⟨xs,H1,F,r,z,q⟩=>⟨by rw[←r.length];exact z,?_⟩);have O:H1 B.heap.objs.size=none:=F.hok.fresh (Xn _);refine⟨.ref B.heap.objs.size,upd H1 B.heap.objs.size (.tup xs),F.laid (t':=B.toks) (λb u e=>za _ e) (Xn _) ?_,rfl,q _ O⟩;exact⟨z,us,r,⟨_,Xr _ rfl,rfl,_,rfl,rfl⟩⟩
theorem KZ(h:PA X es t):PE X (.List es pos) (W9 t):=by
 intro pins s σ H Q I N;refine wpAny_List_spliced (thn (h pos pins s σ H _ I N) λus B ⟨xs,H1,F,r,z,q⟩=>⟨by rw[←r.length];exact z,?_⟩);have O:H1 B.heap.objs.size=none:=F.hok.fresh (Xn _);refine⟨.ref B.heap.objs.size,upd H1 B.heap.objs.size (.lst xs),F.laid (t':=B.toks) (λb u e=>za _ e) (Xn _) ?_,rfl,q _ O⟩;exact⟨z,us,0,r,Xr _ rfl⟩
end
abbrev Sp:=List V->Hp->VK->XK->Prop
abbrev CXT:=List Env->Hp->zb->XK->Value->zb->Prop
structure O6(P:Program)(w:World)(K:PySem.W.Frag)(mg:Str->Option Value)(base:Heap)(A:Around)(outer:List Env)(s:Shared)(H:Hp):Prop where
 frames:A.frames=some outer
 mod:Mod K mg base
 bs:∀b o,base.get? b=some o->s.heap.get? b=some o/\H b=none
 bsz:base.objs.size<=s.heap.objs.size
 funs:s.heap.FunFrames base outer
 frf:∀b∈frs outer,H b=none
 hok:HOk P w H s.heap
 bare:abT s.gens
def CE(outer:List Env)(P:X7)(w:World)(H:Hp)(s:zb)(Q:VK)(u:Value)(s':zb):Prop:=
 ∃v H',s'.os=s.os/\abT s'.gens/\Un (frs outer) [] H H' s.heap s'.heap/\HOk P w H' s'.heap/\RelV v u/\Q v H'
def CR(CX:CXT)(outer:List Env)(P:X7)(w:World)(H:Hp)(s:zb)(Q:VK)(E:XK)(r:Result)(s':zb):Prop:=
 match r with
 |.ok (.ret u)=>CE outer P w H s Q u s'
 |.ok _=>False
 |.error e=>CX outer H s E e s'
structure gw(P:Program)(w:World)(K:PySem.W.Frag)(mg:Str->Option Value)(base:Heap)(CX:CXT)(k:Nat)(f:Addr)(fd:FuncData)(ps:List Str)(sp:Sp):Prop where
 len:∀vs H Q E,sp vs H Q E->vs.length=ps.length
 run:∀(A:Yy)(outer:List Env)(s:zb)(H:Hp)(args:Args)(us:List Value)(vs:List V)(Q:VK)(E:XK),jq k A->O6 P w K mg base A outer s H->adC s fd args (ps.zip us)->Vals vs us->sp vs H Q E->
  aaH (model P w) A (.call (.ref f) args) (CR CX outer P w H s Q E) s
variable{f:Addr}{CX:CXT}
theorem gw.imp{K:Xl}{sp I:Sp}(F:gw P w K mg base CX k f fd ps sp)
  (h:∀vs H Q E,I vs H Q E->sp vs H Q E):gw P w K mg base CX k f fd ps I:=
 ⟨λvs H Q E q=>F.len vs H Q E (h _ _ _ _ q),λA outer s H args us vs Q E O V U B hs=>F.run A outer s H args us vs Q E O V U B (h _ _ _ _ hs)⟩
theorem Inv.env0(I:Inv X pins σ H s):O6 X.prog X.w X.K X.mg X.base X.A X.stack s H:=
 ⟨I.ok.frames,I.ok.mod,I.bs,Yz I.ok.bsz I.sz,I.stack,I.stkFree,I.hok,I.bare⟩
variable{s':Shared}
theorem Inv.after{Q:VK}(I:Inv X pins σ H s)(h:CE X.stack X.prog X.w H s Q u s'):EP X pins σ Q u s':=by
 obtain⟨v,H',os,bare,un,hok,r,q⟩:=h;obtain⟨F,g,d,t,B⟩:=s';obtain rfl:B=s.os:=os;exact⟨v,H',I.call (h':=F) (g':=g) (d':=d) (t':=t) (ch:=[]) un hok bare (λb z=>absurd z (by simp)),r,q⟩
def Rm(sp:Sp)(dvs:List V)(E:XK)(t:TA):TE:=λσ H Q=>t σ H λvs H1=>sp (vs++dvs) H1 Q E
def Binds(K:Xl)(fd:Yu)(ps:List Str)(ds:List Value):Prop:=
 ∀(s:zb)(us:List Value),K.In s.heap->(us++ds).length=ps.length->adC s fd ⟨us,[]⟩ (ps.zip (us++ds))
theorem Binds.all{K:Xl}(h:∀us:List Value,us.length=ps.length->bindArgs fd ⟨us,[]⟩=pure (ps.zip us)):Binds K fd ps []:=λs us _ Z=>by
 rw[XJ]at Z⊢;exact .of_eq (h us Z)
def BL(CX:CXT)(X:Cx)(E:XK):Prop:=∀(pins:List (Addr×Obj))(σ:St)(H:Hp)(s:zb)(e:Value)(s':zb),Inv X pins σ H s->CX X.stack H s E e s'->X.xe e s'
section
variable{X:Cx}{CX:CXT}{k:Nat}{f C:Addr}{fd:FuncData}{ps:List Str}{sp:Sp}{dvs:List V}{ds:List Value}{E:XK}{x m:Str}{p pos apos:Pos}{e o:Expr}{es:List Expr}{ta:TE}{t:TA}
theorem Sd{pins:List (Addr×Obj)}{σ:St}{H:Hp}{s:zb}{Q:VK}{us:List Value}{vs:List V}(F:gw X.prog X.w X.K X.mg X.base CX k f fd ps sp)(O:jq k X.A)(U:Binds X.K fd ps ds)(hd:Vals dvs ds)(J:BL CX X E)
  (I:Inv X pins σ H s) (r:Vals vs us) (h:sp (vs++dvs) H Q E):wpAny 1.11 X.A (call (.ref f) us) (EP X pins σ Q) X.xe s:=by
 have q:Vals (vs++dvs) (us++ds):=r.append hd;have Z:(us++ds).length=ps.length:=by rw[←q.length];exact F.len _ _ _ _ h
 refine wpAny_call (aeq (F.run X.A X.stack s H ⟨us,[]⟩ (us++ds) (vs++dvs) Q E O I.env0 (U s us I.kIn Z) q h) λr s' N=>?_);cases r with
 |error e=>exact J pins σ H s e s' I N
 |ok B=>
  cases B with
  |ret u=>exact I.after N
  |next=>exact aaq N
  |brk=>exact aaq N
  |cont=>exact aaq N
theorem Px(F:gw X.prog X.w X.K X.mg X.base CX k f fd ps sp)(O:jq k X.A)(hg:Gl X x)(hm:X.mg x=some (.ref f))(hk:ab_ X.K (.ref f)=true)(U:Binds X.K fd ps ds)(hd:Vals dvs ds)(J:BL CX X E)
  (Z:PA X (e::es) t) (N:1.23=false:=by decide) (V:Xy (e::es) X.env=(false,eval e X.env)::Xy es X.env:=by rfl) (Y:(ZK pos (Xy es X.env)).any (·.1)=false:=by rfl) :
  PE X (.Call (.Name x p) (e::es) [] pos) (Rm sp dvs E t):=by
 intro pins s σ H Q I h;refine abg (PL I hg hm ?_ N);refine PySem.W.callWith_K (h₀:=X.base) I.ok.mod.kin hk (thn (Z pos pins s σ H _ I h) λus B ⟨vs,H1,I1,r,q⟩=>⟨I1.kIn,?_⟩) V Y;exact Sd F O U hd J I1 r q
end
structure cD(N P:List Str)(sc:Scope):Prop where
 kind:sc.kind= .function
 co:sc.isCoroutine=false
 gen:sc.isGenerator=false
 nd:N.Nodup
 pre:N.take P.length=P
 par:∀x∈P,sc.names.lookup x=some .local∨sc.names.lookup x=some .cell
 nofree:∀y∈sc.names,y.2≠.free
theorem wG{F:Str->Option abM}:∀{binds:List (Str×Value)}{m:Str->Option Value},(∀v,(x,v)∉binds)->bindL F binds m x=m x
 |[],_,_=>rfl
 |(n,v)::r,m,h=>by
  unfold bindL;rw[wG λw q=>h w (XQ _ q)];split
  .have:x≠n:=by rintro rfl;exact h v X_
   simp[this]
  .rfl
theorem wU{F:Str->Option abM}:∀{binds:List (Str×Value)}{m:Str->Option Value},(∀v,(x,v)∉binds)->bindC F binds m x=m x
 |[],_,_=>rfl
 |(n,v)::r,m,h=>by
  unfold bindC;rw[wU λw q=>h w (XQ _ q)];split
  .rfl
  .have:x≠n:=by rintro rfl;exact h v X_
   simp[this]
theorem wW{F:Str->Option abM}{x:Str}{v:Value}:∀{P:List Str}{vs:List Value}{i:Nat}{m:Str->Option Value},P.Nodup->P[i]? =some x->vs[i]? =some v->F x=some .local->
  bindL F (P.zip vs) m x=some v
 |[],_,_,_,_,h,_,_=>by simp at h
 |_::_,[],_,_,_,_,h,_=>by simp at h
 |p::P,w::vs,0,m,nd,h1,h2,hk=>by
  simp at h1 h2;subst h1;subst h2;show bindL F ((p,w)::P.zip vs) m p=_;unfold bindL;rw[wG λv B=>(Yo.mp nd).1 (ab1 B).1,Xu hk];simp
 |p::P,w::vs,i+1,m,nd,h1,h2,hk=>by
  show bindL F ((p,w)::P.zip vs) m x=_;unfold bindL;exact wW (i:=i) (Yo.mp nd).2 (by simpa using h1) (by simpa using h2) hk
theorem wY{F:Str->Option abM}{x:Str}{v:Value}:∀{P:List Str}{vs:List Value}{i:Nat}{m:Str->Option Value},P.Nodup->P[i]? =some x->vs[i]? =some v->F x≠some .local->
  bindC F (P.zip vs) m x=some v
 |[],_,_,_,_,h,_,_=>by simp at h
 |_::_,[],_,_,_,_,h,_=>by simp at h
 |p::P,w::vs,0,m,nd,h1,h2,hk=>by
  simp at h1 h2;subst h1;subst h2;show bindC F ((p,w)::P.zip vs) m p=_;unfold bindC;rw[wU λv B=>(Yo.mp nd).1 (ab1 B).1,Xz hk];simp
 |p::P,w::vs,i+1,m,nd,h1,h2,hk=>by
  show bindC F ((p,w)::P.zip vs) m x=_;unfold bindC;exact wY (i:=i) (Yo.mp nd).2 (by simpa using h1) (by simpa using h2) hk
def start(N:List Str)(vs:List V):St:=vs.map some++YK (N.length-vs.length) none
noncomputable def Bp(CX:CXT)(P:X7)(w:World)(K:Xl)(mg:Str->Option Value)(base:Heap)(N:List Str)(Y:Str)(scope:Scope)(f:Addr)(Z:Value)(A:Yy)(outer:List Env)(s:zb)(H:Hp)(E:XK):Cx where
 prog:=P
 w:=w
 K:=K
 mg:=mg
 base:=base
 A:=A.deeper (abA Y scope s.heap.objs.size f Z)
 N:=N
 s₀:=s
 H₀:=H
 env:=abA Y scope s.heap.objs.size f Z
 outer:=outer
 stack:=abA Y scope s.heap.objs.size f Z::outer
 ex:=[]
 calm:=true
 fn:=λ_=>true
 pn:=[]
 xe:=λe s'=>wpAny (model P w) (A.deeper (abA Y scope s.heap.objs.size f Z)) (leaving (abA Y scope s.heap.objs.size f Z) e) (λ_ q=>CX outer H s E e q) (λB q=>CX outer H s E B q) s'
theorem Bf{I:Scope}(h:I.names.lookup x=some .cell):∃c,(cellsFrom n I.names []).lookup x=some c:=by
 have q:=adn I.names n [] (.inl h);exact acR.mp q
theorem Gx{K:Xl}{Y:Str}{cd:Value}{outer:List Env}{s B:zb}{E:XK}{vs:List V}
  (S:cD N ps scope) (hd:A.handled=none) (I:O6 P w K mg base A outer s H) (hl:vs.length=ps.length) (r:Vals vs us)
  (x:InCallC s s.heap.objs.size (bindL (abA Y scope s.heap.objs.size f cd).kindOf (ps.zip us) λ_=>none) (cellsFrom (s.heap.objs.size+1) scope.names []) (bindC (abA Y scope s.heap.objs.size f cd).kindOf (ps.zip us) λ_=>none) B) :
  Inv (Bp CX P w K mg base N Y scope f cd A outer s H E) [] (start N vs) H B:=by
 have U:ps.length<=N.length:=by have:=congrArg Zz S.pre;rw[aaU]at this;omega
 obtain⟨h1,tk,rfl,hk⟩:=x.done;have a0:∀b:Addr,b∉(Bp CX P w K mg base N Y scope f cd A outer s H E).ex:=λb z=>absurd (show b∈([]:List Addr)from z) (by simp);refine⟨⟨I.mod,S.kind,rfl,rfl,Xn _,λy z c h1 h2=>?_,λy hy=>?_,λy c _ h=>?_,λ_=>hd,Around.frames_deeper I.frames,.inr ⟨rfl,rfl⟩,λb z=>absurd z (a0 b),I.bs,I.bsz,λb _ _=>a0 b,λb z=>absurd z (a0 b),I.funs,I.frf⟩,
  rfl,I.bare,Un.kept hk,⟨_,x.toInCall.ns,λi y v h1 h2 O=>?_⟩,λy c h=>⟨_,x.cell y c h⟩,I.hok.fresh (Xn _),λy c h=>?_,λp F=>absurd (show p∈([]:List (Addr×Obj))from F) (by simp),I.hok.kept hk,?_⟩
 .exact name_of_addr x.apart (Z5 h1) (Z5 h2)
 .have hy:scope.names.lookup y=some .cell∨scope.names.lookup y=some .free:=hy
  rcases hy with hy|hy
  .exact Bf hy
  .exact absurd rfl (S.nofree _ (Z5 hy))
 .exact Z_ (x.above y c (Z5 h))
 .have hi:i<vs.length:=by
   unfold start at h2;by_cases hi:i<vs.length
   .exact hi
   .rw[Y0 (by simpa using hi)]at h2
    rw[ac6]at h2;split at h2<;>cases h2
  have Z:vs[i]? =some v:=by
   unfold start at h2;rw[XD (by simpa using hi),List.getElem?_map]at h2;cases e:vs[i]? with
   |none=>rw[e]at h2;cases h2
   |some a=>rw[e]at h2;cases h2;rfl
  obtain⟨u,hu,J⟩:=r.get Z;have F:ps[i]? =some y:=by
   rw[←S.pre,List.getElem?_take_of_lt 1.10];exact h1
  have a1:ps.Nodup:=by rw[←S.pre];exact S.nd.sublist (List.take_sublist _ _)
  refine⟨u,J,?_⟩;rcases S.par y (Xw F)with k|k
  .exact .inl ⟨k,wW a1 F hu k⟩
  .obtain⟨c,e⟩:=Bf (n:=s.heap.objs.size+1) k
   refine .inr ⟨.inl k,c,e,?_⟩;have q:=x.cell y c e;rw[wY a1 F hu (by show scope.names.lookup y≠_;rw[k];decide)]at q;exact q
 .exact I.hok.fresh (Z_ (x.above y c (Z5 h)))
 .unfold start
  show _=N.length;rw[YB,Xq,List.length_replicate];omega
theorem Vi{K:Xl}{Y:Str}{a1:Arguments}{a2:List Stmt}{dV kV a5 pm a0 ct oc:Value}{an od:Option Addr}
  {a7:Array (Option Value)}  {sp:Sp} (lk:K.lookup f=some ⟨oc,od,.func (abh name Y a1 a2 scope dV kV a5 pm an a0 ct),a7⟩) (a8:adD K a0 Y=true) (S:cD N ps scope)
  (len:∀vs H Q E,sp vs H Q E->vs.length=ps.length)
  (a3:∀(A:Yy)(outer:List Env)(s:zb)(H:Hp)(vs:List V)(Q:VK)(E:XK),jq k (A.deeper (abA Y scope s.heap.objs.size f a0))->sp vs H Q E->
   ∃t,PSs (Bp CX P w K mg base N Y scope f a0 A outer s H E) a2 t/\t {nx:=λ_ H'=>Q .non H',rt:=Q} (start N vs) H) :
  gw P w K mg base CX (k+1) f (abh name Y a1 a2 scope dV kV a5 pm an a0 ct) ps sp:=by
 refine⟨len,λA outer s H args us vs Q E O e0 U r a6=>?_⟩;have Z:=len _ _ _ _ a6;have KX:K.In s.heap:=e0.mod.kin.keeps λb o e=>(e0.bs b o e).1;have a9:s.heap.NoLimit:=e0.mod.nolimit.keeps λb o e=>(e0.bs b o e).1;have a4:∀y∈ps.zip us,scope.names.lookup y.1=some .local∨(scope.names.lookup y.1=some .cell/\((cellsFrom (s.heap.objs.size+1) scope.names []).lookup y.1).isSome=true):=λ⟨n,v⟩ hy=>by
  rcases S.par n (ab1 hy).1 with q|q
  .exact .inl q
  .exact .inr ⟨q,adn _ _ _ (.inl q)⟩
 refine codeAny_call_function O.depth (KX _ _ lk) rfl S.co S.gen rfl (PySem.W.codeRec_of KX a8) (U _ _ _ _ ?_);refine wpAny_newFunctionEnv_cells S.kind a4 λenv he s1 x=>?_;subst he;refine⟨a9.keeps x.toInCall.keep,codeAny_func ?_⟩;obtain⟨t,ht,hq⟩:=a3 A outer s H vs Q E (O.deeper _) a6;have I:Inv (Bp CX P w K mg base N Y scope f a0 A outer s H E) [] (start N vs) H s1:=Gx S O.hd e0 Z r x;refine Y9 (ht [] s1 (start N vs) H _ I hq) (λF s' hs=>?_) λe s' hs=>hs;have fin:∀{B:St}{H':Hp}{v:V}{u:Value},Inv (Bp CX P w K mg base N Y scope f a0 A outer s H E) [] B H' s'->RelV v u->Q v H'->CE outer P w H s Q u s':=
  λ{B H' v u} J rv q=>⟨v,H',J.os,J.bare,J.base,J.hok,rv,q⟩
 cases F with
 |ret u=>
  obtain⟨v,B,H',J,rv,q⟩:=hs;exact fin J rv q
 |next=>
  obtain⟨B,H',J,q⟩:=hs;exact fin (v:=V.non) (u:=Yg) J rfl q
 |brk=>
  obtain⟨_,_,_,q⟩:=hs;exact aaq q
 |cont=>
  obtain⟨_,_,_,q⟩:=hs;exact aaq q
section
variable{X:Cx}{x:Str}{p pos:Pos}{e:Expr}{es:List Expr}{t:TA}{id T:String}{r:List V->Hp->VK->Prop}
def tCB(r:List V->Hp->VK->Prop)(t:TA):TE:=λσ H Q=>t σ H λvs H1=>r vs H1 Q
theorem Az(Y:dO X (.builtin id) r)(F:Gl X x)(J:X.mg x=none)(hv:Zu x=some (.builtin id))(Z:PA X (e::es) t)(hn:x≠"__name__":=by decide)(q:1.23=false:=by decide)
  (V:Xy (e::es) X.env=(false,eval e X.env)::Xy es X.env:=by rfl) (U:(ZK pos (Xy es X.env)).any (·.1)=false:=by rfl):PE X (.Call (.Name x p) (e::es) [] pos) (tCB r t):=by
 intro pins s σ H Q I h;refine abg (mO I F J hv ?_ hn q);exact ab2 (thn (Z pos pins s σ H _ I h) λus B ⟨vs,H1,O,N,q1⟩=>Y pins B σ H1 vs us Q O N q1) V U
theorem xG(Y:dO X (.type T) r)(F:Gl X x)(J:X.mg x=none)(hv:Zu x=some (.type T))(Z:PA X (e::es) t)(hn:x≠"__name__":=by decide)(q:1.23=false:=by decide)
  (V:Xy (e::es) X.env=(false,eval e X.env)::Xy es X.env:=by rfl) (U:(ZK pos (Xy es X.env)).any (·.1)=false:=by rfl):PE X (.Call (.Name x p) (e::es) [] pos) (tCB r t):=by
 intro pins s σ H Q I h;refine abg (mO I F J hv ?_ hn q);exact ZJ (thn (Z pos pins s σ H _ I h) λus B ⟨vs,H1,O,N,q1⟩=>Y pins B σ H1 vs us Q O N q1) V U
end
end L2
namespace HT
open PySem PyProof.Rows
theorem cat_tup{t b:Addr}{vs Z:List Value}(ht:IsTup s.heap t vs.toArray)(U:IsTup s.heap b Z.toArray)(B:vs≠[])
  (h1:Z=[]->Q (.ref t) s) (h2:Z≠[]->Q (.ref s.heap.objs.size) {s with heap:=s.heap.push {cls:=.type "tuple",data:=.seq (vs++Z).toArray}})
  (hsz:vs.length+Z.length<=Xp):wpAny 1.13 A (Zh .Add (.ref t) (.ref b)) Q E s:=by
 obtain⟨⟨cls,dd,data,sl⟩,N,Y,n,hd⟩:=id ht;obtain⟨⟨a3,a1,a2,a0⟩,J,V,O,I⟩:=id U;simp only at Y hd V I;subst Y hd V I;have e:vs.toArray++Z.toArray=(vs++Z).toArray:=by simp
 by_cases q:Z=[]
 .exact aer ⟨_,N,rfl⟩ ⟨_,J,rfl⟩ acS ad6 abB abp (abi _ _)
   (tuple_addW1 t b vs.toArray Z.toArray n O dd a1 sl a0 (by simpa using B) (by simp[q])) ⟨N,J,h1 q⟩
 .refine aer ⟨_,N,rfl⟩ ⟨_,J,rfl⟩ acS ad6 abB abp (abi _ _)
   (tuple_addW2 t b vs.toArray Z.toArray n O dd a1 sl a0 (by simpa using B) (by simpa using q) (by rw[List.size_toArray,List.size_toArray];exact hsz)) ⟨N,J,?_⟩
  rw[e];exact h2 q
def sIx(n d:Nat):Option Int->Nat
 |none=>d
 |some v=>if v<0 then(v+(n:Int)).toNat else min v.toNat n
theorem sIx_none(n d:Nat):sIx n d none=d:=rfl
theorem sIx_nat(n d k:Nat):sIx n d (some (k:Int))=min k n:=by
 show(if(k:Int)<0 then((k:Int)+(n:Int)).toNat else min (k:Int).toNat n)=min k n;rw[Xz 1.10,YH]
theorem R1(n d:Nat)(hd:d<=n)(o:Option Int):sIx n d o<=n:=by
 cases o with
 |none=>exact hd
 |some v=>
  show(if v<0 then(v+(n:Int)).toNat else min v.toNat n)<=n;by_cases B:v<0
  .rw[Xu B];omega
  .rw[Xz B];exact Nat.min_le_right _ _
theorem FJ(v:Int)(n d:Nat):(if v<0 then max (v+(n:Int)) 0 else min v (n:Int))=((sIx n d (some v):Nat):Int):=by
 show(if v<0 then max (v+(n:Int)) 0 else min v (n:Int))=(((if v<0 then(v+(n:Int)).toNat else min v.toNat n):Nat):Int);by_cases B:v<0
 .simp![Xu B];omega
 .simp![Xz B];omega
theorem adjust_gen(lo hi:Option Int)(n:Nat):Yr lo hi 1 (n:Int)=(((sIx n 0 lo:Nat):Int),((sIx n n hi:Nat):Int)):=by
 have h1:¬((1:Int)<0):=by omega
 unfold Yr;simp![h1,YJ];refine Prod.ext ?_ ?_
 .cases lo with
  |none=>rfl
  |some v=>exact FJ v n 0
 .cases hi with
  |none=>rfl
  |some v=>exact FJ v n n
theorem places_gen(i j:Nat):Yk (i:Int) (j:Int) 1=j-i:=by
 unfold Yk;have h1:(1:Int)>0:=by omega
 simp![h1,XX,Int.ediv_one];split<;>omega
theorem slicePart_{o:Option Int}{Q:Option Int->zb->Prop}(p:aaT v o)(h:Q o s):wpAny 1.13 A (Builtin.Slice.slicePartIndex v) Q E s:=by
 cases p with
 |none=>exact slicePart_none h
 |int i t=>exact slicePart_int h
theorem qG{Z N:Value}{lo hi:Option Int}{Q:Int×Int×Nat->zb->Prop}(hs:s.heap.IsSliceOf sl Z N .none)(U:aaT Z lo)(V:aaT N hi)
  (h:Q (((sIx n 0 lo:Nat):Int),1,sIx n n hi-sIx n 0 lo) s):wpAny 1.13 A (aaj (.ref sl) (pure (n:Int))) Q E s:=by
 obtain⟨os,J,I,O⟩:=id hs;unfold aaj Builtin.Slice.sliceFields;refine gD (gD (ZL J O (x:=Z) rfl (gD (ZL J O (x:=N) rfl (gD (ZL J O (x:=.none) rfl (Xg ?_)))))));refine gD (slicePart_none ?_);show wpAny _ _ (if((1:Int)==0)=true then _ else _) _ _ s;rw[Xz 1.27];refine gD (slicePart_ U (gD (slicePart_ V (gD (Xg ?_)))));show wpAny _ _ (match Yr lo hi 1 (n:Int)with|(lo,hi)=>pure (lo,(1:Int),Yk lo hi 1)) _ _ s;rw[adjust_gen lo hi n];show wpAny _ _ (pure (((sIx n 0 lo:Nat):Int),(1:Int),Yk ((sIx n 0 lo:Nat):Int) ((sIx n n hi:Nat):Int) 1)) _ _ s;rw[places_gen];exact Xg h
theorem I_(xs:Array Value)(i k:Nat):((X3 k).filterMap λ(m:Nat)=>xs[((i:Int)+(m:Int)*1).toNat]?).toArray=((xs.toList.drop i).take k).toArray:=by
 have e:(λ(m:Nat)=>xs[((i:Int)+(m:Int)*1).toNat]?)=λm=>xs[i+m]?:=by
  funext m;have:((i:Int)+(m:Int)*1).toNat=i+m:=by omega
  rw[this]
 rw[e];have:=pick_run xs i k;rw[List.filterMap_map]at this;have e2:((λx=>xs[x]?)∘λx=>i+x)=λm=>xs[i+m]?:=rfl;rw[e2]at this;rw[this]
theorem getItem_tuple_cut{t:Addr}{Z N:Value}{lo hi:Option Int}(U:IsTup s.heap t items)(hs:s.heap.IsSliceOf sl Z N .none)(pl:aaT Z lo)(V:aaT N hi)
  (hw:¬(sIx items.size 0 lo=0/\sIx items.size items.size hi=items.size))
  (h:Q (.ref s.heap.objs.size) {s with heap:=s.heap.push {cls:=.type "tuple",data:=.seq ((items.toList.drop (sIx items.size 0 lo)).take (sIx items.size items.size hi-sIx items.size 0 lo)).toArray}})
  (hsz:items.size<=Xp):wpAny 1.13 A (aca (.ref t) (.ref sl)) Q E s:=by
 have B:sizeOk (.seq ((items.toList.drop (sIx items.size 0 lo)).take (sIx items.size items.size hi-sIx items.size 0 lo)).toArray):=by
  show((items.toList.drop (sIx items.size 0 lo)).take (sIx items.size items.size hi-sIx items.size 0 lo)).toArray.size<=Xp;rw[List.size_toArray,aaU,aaV,aaC];omega
 have I:sIx items.size items.size hi<=items.size:=R1 _ _ (Xn _) hi;obtain⟨os,J,a1,O⟩:=id hs;have Y:s.TypeIs (.ref sl) "slice":=⟨os,J,a1⟩;unfold aca
 try with_reducible refine Za ?_
 first|refine gD (Xg ?_)|skip
 refine gD (wpAny_sequenceKey U.typeIs 1.27 ?_);refine gD (Yw (name:=ZM "__getitem__") U.typeIs Ys
  (aav Ys U.typeIs aec ?_ (args_tuple_getitem _ _)))
 show wpAny _ _ (acu (.ref t) >>=_) _ _ s;refine gD (tupleItemsOf_ U ?_);refine gD (aab Y ?_);rw[Xu 1.27];refine gD (qG hs pl V ?_);have a0:¬((((sIx items.size 0 lo:Nat):Int)==0&&(1:Int)==1&&(sIx items.size items.size hi-sIx items.size 0 lo)==items.size)=true):=by
  intro q;rw[XR,XR]at q;have F:((sIx items.size 0 lo:Nat):Int)=0:=eq_of_beq q.1.1;have q2:sIx items.size items.size hi-sIx items.size 0 lo=items.size:=eq_of_beq q.2;exact hw ⟨by omega,by omega⟩
 show wpAny _ _ (if(((sIx items.size 0 lo:Nat):Int)==0&&(1:Int)==1&&(sIx items.size items.size hi-sIx items.size 0 lo)==items.size)=true then _ else _) _ _ s;rw[Xz a0,I_]
 first
  |exact gD (m:=Z2 _) (YX (Xg ⟨_,rfl,Xg h⟩) B)
  |exact gD (m:=Z2 _) (YX (gD (Xg (Xg ⟨_,rfl,Xg h⟩))) B)
  |exact gD (gD (m:=Z2 _) (YX (Xg (Xg ⟨_,rfl,Xg h⟩)) B))
  |exact gD (gD (m:=Z2 _) (YX (Xg ⟨_,rfl,Xg h⟩) B))
end HT
namespace L2
open PySem PySem.Spec PyProof.Rows
abbrev TO:=St->Hp->(Option Int->Hp->Prop)->Prop
def PO(X:Cx)(e:Option Expr)(t:TO):Prop:=
 ∀(pins:List (Addr×Obj))(s:zb)(σ:St)(H:Hp)(Q:Option Int->Hp->Prop),Inv X pins σ H s->t σ H Q->
  wpAny 1.11 X.A (evalPart e X.env) (λu s'=>∃o H',Inv X pins σ H' s'/\aaT u o/\Q o H') X.xe s
def Qm:TO:=λ_ H Q=>Q none H
def Wu(t:TE):TO:=λσ H Q=>t σ H λx H1=>∃i,x= .int i/\Q (some i) H1
section
variable{X:Cx}{e:Expr}{te:TE}{lo hi:Option Expr}{tl th:TO}{pos p2:Pos}
theorem QJ:PO X none Qm:=by
 intro pins s σ H Q I h;rw[ad7];exact Xg ⟨none,H,I,.none,h⟩
theorem Qk(h:PE X e te):PO X (some e) (Wu te):=by
 intro pins s σ H Q I J;rw[evalPart_some];refine thn (h pins s σ H _ I J) λu B ⟨x,H1,O,N,F⟩=>?_;obtain⟨i,rfl,q⟩:=F;obtain⟨t,rfl⟩:=N;exact⟨some i,H1,O,.int i t,q⟩
def SlR(X:Cx)(r:V->Option Int->Option Int->Hp->VK->Prop):Prop:=
 ∀(pins:List (Addr×Obj))(s:zb)(σ:St)(H:Hp)(x:V)(v Z N:Value)(lo hi:Option Int)(sl:Addr)(Q:VK),Inv X pins σ H s->RelV x v->s.heap.IsSliceOf sl Z N .none->aaT Z lo->aaT N hi->r x lo hi H Q->
  ∃T id,acH (.type T) "__getitem__"=pure (some (.builtin id))/\s.TypeIs v T/\wpAny 1.11 X.A (aca v (.ref sl)) (EP X pins σ Q) X.xe s
theorem SlR.or{r F:V->Option Int->Option Int->Hp->VK->Prop}(h:SlR X r)(h':SlR X F):SlR X (λx lo hi H Q=>r x lo hi H Q∨F x lo hi H Q):=by
 intro pins s σ H x v Z N lo hi sl Q I rx hs U B q;rcases q with q|q
 .exact h pins s σ H x v Z N lo hi sl Q I rx hs U B q
 .exact h' pins s σ H x v Z N lo hi sl Q I rx hs U B q
def tSl(r:V->Option Int->Option Int->Hp->VK->Prop)(te:TE)(tl th:TO):TE:=λσ H Q=>te σ H λx H1=>tl σ H1 λl H2=>th σ H2 λu I=>r x l u I Q
theorem Bd{r:V->Option Int->Option Int->Hp->VK->Prop}(O:SlR X r)(he:PE X e te)(Z:PO X lo tl)(hu:PO X hi th):PE X (.Subscript e (.Slice lo hi none p2) pos) (tSl r te tl th):=by
 intro pins s σ H Q I h;refine Subscript_ (thn (he pins s σ H _ I h) λv B ⟨x,H1,I1,N,q1⟩=>?_);refine wpAny_Slice (thn (Z pins B σ H1 _ I1 q1) λvl Y ⟨l,H2,I2,pl,q2⟩=>thn (hu pins Y σ H2 _ I2 q2) λvu J ⟨u,H3,I3,pu,q3⟩=>?_);rw[ad7];refine Xg ?_;have I4:Inv X pins σ H3 {J with heap:=J.heap.push {cls:=.type "slice",data:=.fields #[vl,vu,.none]}}:=I3.kept (t':=J.toks) λb ob q=>za _ q;obtain⟨T,id,hT,U,F⟩:=O pins {J with heap:=J.heap.push {cls:=.type "slice",data:=.fields #[vl,vu,.none]}} σ H3 x v vl vu l u J.heap.objs.size Q I4 N (acj ..) pl pu q3;show wpAny 1.11 X.A (acv e (.Slice lo hi none p2) v (.ref J.heap.objs.size)) (EP X pins σ Q) X.xe {J with heap:=J.heap.push {cls:=.type "slice",data:=.fields #[vl,vu,.none]}};exact adS (ops:=[.ref J.heap.objs.size,v]) U hT F (by with_unfolding_all rfl)
def uQ(xs:List V)(lo hi:Option Int):List V:=(xs.drop (HT.sIx xs.length 0 lo)).take (HT.sIx xs.length xs.length hi-HT.sIx xs.length 0 lo)
theorem sG(xs:List V)(lo hi:Option Int):(uQ xs lo hi).length<=xs.length:=by
 unfold uQ;rw[aaU,aaV];omega
def W3(K:Xl):V->Option Int->Option Int->Hp->VK->Prop:=λx lo hi H Q=>∃a xs,x= .ref a/\SqT K H a xs/\
 ¬(HT.sIx xs.length 0 lo=0/\HT.sIx xs.length xs.length hi=xs.length)/\∀p,H p=none->Q (.ref p) (upd H p (.tup (uQ xs lo hi)))
theorem R4:SlR X (W3 X.K):=by
 intro pins s σ H x v Z N lo hi sl Q I rx hs pl V h;obtain⟨a,xs,rfl,J,F,q⟩:=h;cases rx;obtain⟨B,r,U,Y⟩:=I.tuple J;have O:B.toArray.size=xs.length:=by rw[List.size_toArray];exact r.length.symm
 refine⟨"tuple",_,Ys.lookup,U.typeIs,?_⟩;refine HT.getItem_tuple_cut U hs pl V (by rw[O];exact F) ?_ (by rw[O];exact Y);rw[O];refine⟨.ref s.heap.objs.size,_,I.laid (t':=s.toks) (o:=.tup (uQ xs lo hi)) (λb ob q=>za _ q) (Xn _) ?_,rfl,q _ (I.hok.fresh (Xn _))⟩;exact⟨Yz (sG xs lo hi) Y,_,(r.drop (HT.sIx xs.length 0 lo)).take (HT.sIx xs.length xs.length hi-HT.sIx xs.length 0 lo),lE.new _ _⟩
def WD(K:Xl):R2:=λx y H Q=>∃a b xs ys,x= .ref a/\y= .ref b/\SqT K H a xs/\SqT K H b ys/\xs≠[]/\xs.length+ys.length<=Xp/\
 (ys=[]->Q (.ref a) H)/\(ys≠[]->∀p,H p=none->Q (.ref p) (upd H p (.tup (xs++ys))))
theorem Vals.nil_iff{xs:List V}{us:List Value}(r:Vals xs us):us=[]↔xs=[]:=by
 cases r with
 |nil=>simp
 |cons _ _=>simp
theorem Qg:OpR X (Zh .Add) (WD X.K):=by
 intro pins s σ H x y v u Q I rx ry h;obtain⟨a,b,xs,ys,rfl,rfl,Z,U,J,Y,F,q2⟩:=h;cases rx;cases ry;obtain⟨B,N,p1,_⟩:=I.tuple Z;obtain⟨V,O,p2,_⟩:=I.tuple U;refine HT.cat_tup p1 p2 (λz=>J (N.nil_iff.mp z)) (λz=>⟨.ref a,H,I,rfl,F (O.nil_iff.mp z)⟩) (λz=>?_) (by rw[←N.length,←O.length];exact Y);refine⟨.ref s.heap.objs.size,_,I.laid (t':=s.toks) (o:=.tup (xs++ys)) (λb ob q=>za _ q) (Xn _) ?_,rfl,q2 (λw=>z (O.nil_iff.mpr w)) _ (I.hok.fresh (Xn _))⟩;exact⟨by rw[YB];exact Y,_,N.append O,lE.new _ _⟩
end
def ixN(n:Nat)(i:Int):Option Nat:=if 0<=i then(if i<n then some i.toNat else none)else if -(n:Int)<=i then some (i+n).toNat else none
def atI(xs:List α)(i:Int):Option α:=(ixN xs.length i).bind λj=>xs[j]?
variable{i:Int}
theorem y_(h:ixN n i=some j):aes i n=some j/\j<n/\-(n:Int)<=i/\i<n:=by
 unfold ixN at h;by_cases V:0<=i
 .rw[Xu V]at h
  by_cases h1:i<n
  .rw[Xu h1]at h
   have e:i.toNat=j:=Yn h;exact⟨by rw[ado V h1,e],by omega,by omega,h1⟩
  .rw[Xz h1]at h;cases h
 .rw[Xz V]at h
  by_cases h1: -(n:Int)<=i
  .rw[Xu h1]at h
   have e:(i+n).toNat=j:=Yn h;exact⟨by rw[aet 1.10 h1,e],by omega,h1,by omega⟩
  .rw[Xz h1]at h;cases h
theorem yj{xs:List α}{v:α}(h:atI xs i=some v):∃j,aes i xs.length=some j/\xs[j]? =some v/\j<xs.length/\-(xs.length:Int)<=i/\i<xs.length:=by
 unfold atI at h;cases e:ixN xs.length i with
 |none=>rw[e]at h;cases h
 |some j=>
  rw[e]at h;obtain⟨h1,h2,O,F⟩:=y_ e;exact⟨j,h1,h,h2,O,F⟩
def tW(b:Expr):Prop:=∀o i,subscripted b false o i=operate [o,i] (aca o i)
def IxR(X:Cx)(r:R2):Prop:=
 ∀(U B:Expr)(pins:List (Addr×Obj))(s:zb)(σ:St)(H:Hp)(x y:V)(v u:Value)(Q:VK),Inv X pins σ H s->RelV x v->RelV y u->r x y H Q->
  subscripted B false v u=operate [v,u] (aca v u)->wpAny 1.11 X.A (acv U B v u) (EP X pins σ Q) X.xe s
def MtR(X:Cx)(id:String)(r:V->List V->Hp->VK->Prop):Prop:=
 ∀(pins:List (Addr×Obj))(s:zb)(σ:St)(H:Hp)(x:V)(xs:List V)(v:Value)(us:List Value)(Q:VK),Inv X pins σ H s->RelV x v->Vals xs us->r x xs H Q->
  wpAny 1.11 X.A (call (.builtin id) (v::us)) (EP X pins σ Q) X.xe s
section
variable{X:Cx}{a b:Expr}{ta tb:TE}{pos:Pos}
theorem IxR.or{r F:R2}(h:IxR X r)(h':IxR X F):IxR X (λx y H Q=>r x y H Q∨F x y H Q):=by
 intro U B pins s σ H x y v u Q I rx J q hs;rcases q with q|q
 .exact h U B pins s σ H x y v u Q I rx J q hs
 .exact h' U B pins s σ H x y v u Q I rx J q hs
theorem Iz{r:R2}(O:IxR X r)(Z:PE X a ta)(U:PE X b tb)(hs:tW b):PE X (.Subscript a b pos) (tOp r ta tb):=by
 intro pins s σ H Q I h;exact Subscript_ (Uh Z U I h λv u Y x y H2 B rx J q=>O a b pins Y σ H2 x y v u Q B rx J q (hs _ _))
def V7(K:Xl):R2:=λx y H Q=>∃p xs i v,x= .ref p/\y= .int i/\SqL K H p xs/\atI xs i=some v/\Q v H
def Wx(K:Xl):R2:=λx y H Q=>∃p xs i v,x= .ref p/\y= .int i/\SqT K H p xs/\atI xs i=some v/\Q v H
def Wl:R2:=λx y H Q=>∃z i c,x= .str z/\y= .int i/\z.length<=Xp/\atI z.cps.toList i=some c/\Q (.str ⟨#[c]⟩) H
theorem Oa:IxR X (V7 X.K):=by
 intro a0 a2 pins s σ H x y v u Q I rx J h hs;obtain⟨p,xs,i,z,rfl,rfl,N,V,q⟩:=h;cases rx;obtain⟨t,rfl⟩:=J;obtain⟨B,r,U,Y⟩:=I.list N;obtain⟨j,h1,h2,O,F,h5⟩:=yj V;obtain⟨w,ew,a1⟩:=r.get h2;have Z:=r.length;have hn:=oM;have fin:EP X pins σ Q w s:=⟨z,H,I,a1,q⟩;by_cases h0:0<=i
 .have hj:i.toNat=j:=by
   rw[ado h0 h5]at h1;exact Yn h1
  exact item_listR U.isList h0 1.10 (by rw[hj];simpa using ew) fin hs
 .have hj:(i+(B.toArray.size:Int)).toNat=j:=by
   rw[aet 1.10 F]at h1;rw[List.size_toArray,←Z];exact Yn h1
  exact adp (x:=w) U.isList.typeIs acC.lookup
   (wpAny_getItem_list_neg (Q:=λr s'=>r=w/\EP X pins σ Q r s') U.isList 1.10 (by rw[List.size_toArray]<;>omega) 1.10 (by rw[hj];simpa using ew) ⟨rfl,fin⟩) hs
theorem R7:IxR X (Wx X.K):=by
 intro a0 a2 pins s σ H x y v u Q I rx J h hs;obtain⟨p,xs,i,z,rfl,rfl,N,V,q⟩:=h;cases rx;obtain⟨t,rfl⟩:=J;obtain⟨B,r,U,Y⟩:=I.tuple N;obtain⟨j,h1,h2,O,F,h5⟩:=yj V;obtain⟨w,ew,a1⟩:=r.get h2;have Z:=r.length;have hn:=oM;have fin:EP X pins σ Q w s:=⟨z,H,I,a1,q⟩;exact adp (x:=w) U.typeIs slot_tuple_getitem.lookup
  (getItem_tuple (j:=j) (Q:=λr s'=>r=w/\EP X pins σ Q r s') U 1.10 1.10 (by rw[List.size_toArray,←Z];exact h1) (by simpa using ew) ⟨rfl,fin⟩) hs
theorem Tu:IxR X Wl:=by
 intro U B pins s σ H x y v u Q I rx J h hs;obtain⟨z,i,c,rfl,rfl,Y,V,q⟩:=h;obtain⟨t,rfl⟩:=rx;obtain⟨t',rfl⟩:=J;obtain⟨j,h1,h2,O,F,N⟩:=yj V;have Z:z.cps.toList.length=z.length:=by simp[Str.length]
 rw[Z]at h1 F N;have hn:=oM;exact adS (typeIs_str s z t) slot_str_getitem.lookup (getItem_str (c:=c) (by
  have e1:decide (i< -(2 ^ 63:Int))=false:=X8 1.10;have e2:decide (i>=2 ^ 63)=false:=X8 1.10;rw[e1,e2,Bool.or_false]) (by rw[h1];simpa using h2) ⟨.str ⟨#[c]⟩,H,I.tok _,⟨_,rfl⟩,q⟩) hs
def rIx(K:Xl):R2:=λx y H Q=>V7 K x y H Q∨Wx K x y H Q∨Wl x y H Q
theorem RK:IxR X (rIx X.K):=Oa.or (R7.or Tu)
theorem BX(B:List Value)(n j:Nat)(u:Value):Zi (·.setIfInBounds j u) {cls:=.type "list",data:=.seq B.toArray n}={cls:=.type "list",data:=.seq (B.set j u).toArray n}:=by
 simp[Zi]
theorem Inv.lst{pins:List (Addr×Obj)}{σ:St}{H:Hp}{s:zb}{p:Addr}{xs:List V}(I:Inv X pins σ H s)(h:H p=some (.lst xs)) :
  ∃(B:List Value)(n:Nat),Vals xs B/\s.heap.get? p=some {cls:=.type "list",data:=.seq B.toArray n}/\xs.length<=Xp:=by
 obtain⟨z,B,n,r,e⟩:=I.hok p _ h;exact⟨B,n,r,e,z⟩
theorem Inv.lstUpd{pins:List (Addr×Obj)}{σ:St}{H:Hp}{s:zb}{p:Addr}{xs ys:List V}{B its':List Value}{n J:Nat}{f:Obj->Obj}(I:Inv X pins σ H s)(h:H p=some (.lst xs))
  (N:s.heap.get? p=some {cls:=.type "list",data:=.seq B.toArray n}) (O:f {cls:=.type "list",data:=.seq B.toArray n}={cls:=.type "list",data:=.seq its'.toArray J}) (r:Vals ys its') (Y:ys.length<=Xp) (t:Nat) :
  Inv X pins σ (upd H p (.lst ys)) {s with heap:=s.heap.update p f,toks:=t}:=by
 have e:(s.heap.update p f).get? p=some {cls:=.type "list",data:=.seq its'.toArray J}:=by
  rw[ZX f N (by rw[O]<;>rfl),O]
 refine I.write (x:=p) (e:=p) (by rw[h];trivial) (.inl rfl) (λb u U q=>(Yd _ _ (Ne.symm U)).trans q) ⟨_,e⟩ ?_;exact⟨Y,its',J,r,e⟩
def QX:V->V->V->Hp->(Hp->Prop)->Prop:=λo i v H Q=>∃p xs k j,o= .ref p/\i= .int k/\H p=some (.lst xs)/\ixN xs.length k=some j/\Q (upd H p (.lst (xs.set j v)))
theorem set_list:Oi X QX:=by
 intro pins s σ H o i v ov U u Q I ro ri J h;obtain⟨p,xs,k,j,rfl,rfl,F,hj,q⟩:=h;cases ro;obtain⟨t,rfl⟩:=ri;obtain⟨B,n,r,N,Y⟩:=I.lst F;obtain⟨h1,h2,O,h4⟩:=y_ hj;have Z:=r.length;have hn:=oM;have I':Inv X pins σ (upd H p (.lst (xs.set j v))) {s with heap:=s.heap.update p (Zi (·.setIfInBounds j u))}:=
  I.lstUpd F N (BX B n j u) (r.set J j) (by rw[List.length_set];exact Y) s.toks
 by_cases V:0<=k
 .have hk:k.toNat=j:=by
   rw[ado V h4]at h1;exact Yn h1
  exact PySem.W.ki_setAt N V 1.10 (by rw[List.size_toArray,←Z];exact h4) (by rw[hk];exact⟨_,I',q⟩)
 .have hk:(k+(B.toArray.size:Int)).toNat=j:=by
   rw[aet 1.10 O]at h1;rw[List.size_toArray,←Z];exact Yn h1
  exact PySem.W.ki_setBack N 1.10 (by rw[List.size_toArray,←Z];exact O) 1.10 (by rw[hk];exact⟨_,I',q⟩)
theorem yU(lo hi:Option Int)(n:Nat):(aa3 lo hi none n).1=((HT.sIx n 0 lo:Nat):Int)/\(aa3 lo hi none n).2.1=((HT.sIx n n hi:Nat):Int)/\(aa3 lo hi none n).2.2=1:=by
 refine⟨?_,?_,rfl⟩
 .cases lo with
  |none=>simp[aa3,HT.sIx]
  |some i=>
   simp![aa3,HT.sIx,ae0,show(1:Int)>0 by decide,XX];by_cases h:i<0
   .simp![h,XX]<;>omega
   .simp![h,YJ]<;>omega
 .cases hi with
  |none=>simp[aa3,HT.sIx]
  |some i=>
   simp![aa3,HT.sIx,ae0,show(1:Int)>0 by decide,XX];by_cases h:i<0
   .simp![h,XX]<;>omega
   .simp![h,YJ]<;>omega
theorem vY(B:List Value)(lo hi:Option Int):slicePick B.toArray lo hi none=((B.drop (HT.sIx B.length 0 lo)).take (HT.sIx B.length B.length hi-HT.sIx B.length 0 lo)).toArray:=by
 obtain⟨h1,h2,O⟩:=yU lo hi B.toArray.size;unfold slicePick;rw[h1,h2,O];simp![sliceRange_one,pick_run,List.size_toArray]<;>rfl
def Vn(K:Xl):V->Option Int->Option Int->Hp->VK->Prop:=λx lo hi H Q=>∃a xs,x= .ref a/\SqL K H a xs/\∀p,H p=none->Q (.ref p) (upd H p (.lst (uQ xs lo hi)))
theorem N8:SlR X (Vn X.K):=by
 intro pins s σ H x v Z N lo hi sl Q I rx hs F V h;obtain⟨a,xs,rfl,J,q⟩:=h;cases rx;obtain⟨B,r,U,Y⟩:=I.list J;have O:=r.length;refine⟨"list",_,acC.lookup,U.isList.typeIs,?_⟩;refine acT U.isList hs F V .none (by simp) ?_ (by rw[List.size_toArray]<;>omega);rw[vY,←O];refine⟨.ref s.heap.objs.size,_,I.laid (t':=s.toks) (o:=.lst (uQ xs lo hi)) (λb ob q=>za _ q) (Xn _) ?_,rfl,q _ (I.hok.fresh (Xn _))⟩;exact⟨Yz (sG xs lo hi) Y,_,0,(r.drop (HT.sIx xs.length 0 lo)).take (HT.sIx xs.length xs.length hi-HT.sIx xs.length 0 lo),Xr _ rfl⟩
def lR:V->Bool
 |.non=>true
 |.bl _=>true
 |.int _=>true
 |.str _=>true
 |_=>false
def eqV:V->V->Bool
 |.non,.non=>true
 |.bl a,.bl b=>a==b
 |.bl a,.int b=>(if a then 1 else 0)==b
 |.int a,.bl b=>a==(if b then 1 else 0)
 |.int a,.int b=>a==b
 |.str a,.str b=>a==b
 |_,_=>false
theorem Uq{A:Yy}{s:zb}{y x:V}{u v:Value}(J:RelV y u)(rx:RelV x v)(O:lR y=true)(F:lR x=true):SeqAt.EqAt A s u v (eqV y x):=by
 cases y with
 |non=>
  cases J;cases x with
  |non=>cases rx;exact SeqAt.EqAt.same _
  |bl b=>cases rx;exact SeqAt.EqAt.none_bool b
  |int b=>obtain⟨t,rfl⟩:=rx;exact SeqAt.EqAt.none_int b t
  |str b=>obtain⟨t,rfl⟩:=rx;exact SeqAt.EqAt.none_str b t
  |_=>exact absurd (show false=true from F) X6
 |bl a=>
  cases J;cases x with
  |non=>cases rx;exact SeqAt.EqAt.bool_none a
  |bl b=>cases rx;exact SeqAt.EqAt.bool_bool a b
  |int b=>obtain⟨t,rfl⟩:=rx;exact SeqAt.EqAt.bool_int a b t
  |str b=>obtain⟨t,rfl⟩:=rx;exact SeqAt.EqAt.bool_str a b t
  |_=>exact absurd (show false=true from F) X6
 |int a=>
  obtain⟨t',rfl⟩:=J;cases x with
  |non=>cases rx;exact SeqAt.EqAt.int_none a t'
  |bl b=>cases rx;exact SeqAt.EqAt.int_bool a t' b
  |int b=>obtain⟨t,rfl⟩:=rx;exact SeqAt.EqAt.int_int a t' b t
  |str b=>obtain⟨t,rfl⟩:=rx;exact ael a t' b t
  |_=>exact absurd (show false=true from F) X6
 |str a=>
  obtain⟨t',rfl⟩:=J;cases x with
  |non=>cases rx;exact SeqAt.EqAt.str_none a t'
  |bl b=>cases rx;exact SeqAt.EqAt.str_bool a t' b
  |int b=>obtain⟨t,rfl⟩:=rx;exact aem a t' b t
  |str b=>obtain⟨t,rfl⟩:=rx;exact SeqAt.EqAt.str_str a t' b t
  |_=>exact absurd (show false=true from F) X6
 |_=>exact absurd (show false=true from O) X6
def eqU(x:V)(u:Value):Bool:=match u with
 |.none=>eqV .non x
 |.bool b=>eqV (.bl b) x
 |.int i _=>eqV (.int i) x
 |.str z _=>eqV (.str z) x
 |_=>false
theorem IV{x y:V}{u:Value}(r:RelV y u)(f:lR y=true):eqU x u=eqV y x:=by
 cases y with
 |non=>cases r;rfl
 |bl b=>cases r;rfl
 |int i=>obtain⟨t,rfl⟩:=r;rfl
 |str z=>obtain⟨t,rfl⟩:=r;rfl
 |_=>exact absurd (show false=true from f) X6
theorem qt{x:V}:∀{xs:List V}{us:List Value},Vals xs us->xs.all lR=true->us.any (eqU x)=xs.any λy=>eqV y x
 |_,_,.nil,_=>rfl
 |y::xs,u::us,.cons r t,f=>by
  rw[aa0,XR]at f;rw[abJ,abJ,IV r f.1,qt t f.2]
theorem lY{A:Yy}{s:zb}{x:V}{v:Value}(rx:RelV x v)(F:lR x=true):∀{xs:List V}{us:List Value},Vals xs us->xs.all lR=true->∀u∈us,SeqAt.EqAt A s u v (eqU x u)
 |_,_,.nil,_=>λu q=>by cases q
 |y::xs,u::us,.cons r t,f=>λJ q=>by
  rw[aa0,XR]at f;rcases Xj.mp q with rfl|q
  .rw[IV r f.1];exact Uq r rx f.1 F
  .exact lY rx F t f.2 J q
def inV(x:V)(xs:List V):Bool:=xs.any λy=>eqV y x
def rIn(K:Xl)(q:Bool):R2:=λx y H Q=>∃p xs,y= .ref p/\(SqL K H p xs∨SqT K H p xs)/\lR x=true/\xs.all lR=true/\Q (.bl (if q then !inV x xs else inV x xs)) H
theorem GF:OpR X (Yp .In) (rIn X.K false):=by
 intro pins s σ H x y v u Q I rx J h;obtain⟨p,xs,rfl,N,F,fs,q⟩:=h;cases J;rcases N with N|N
 .obtain⟨its,r,pl,hz⟩:=I.list N
  refine SeqAt.in_listAt (eqU x) pl.isList (λw B=>lY rx F r fs w (by simpa using B)) ⟨.bl _,H,I,rfl,?_⟩;rw[show its.toArray.any (eqU x)=its.any (eqU x)by simp,qt r fs];exact q
 .obtain⟨its,r,pl,hz⟩:=I.tuple N
  refine SeqAt.in_tupleAt (eqU x) pl (λw B=>lY rx F r fs w (by simpa using B)) ⟨.bl _,H,I,rfl,?_⟩;rw[show its.toArray.any (eqU x)=its.any (eqU x)by simp,qt r fs];exact q
theorem yz:OpR X (Yp .NotIn) (rIn X.K true):=by
 intro pins s σ H x y v u Q I rx J h;obtain⟨p,xs,rfl,N,F,fs,q⟩:=h;cases J;rcases N with N|N
 .obtain⟨its,r,pl,hz⟩:=I.list N
  refine SeqAt.notIn_listAt (eqU x) pl.isList (λw B=>lY rx F r fs w (by simpa using B)) ⟨.bl _,H,I,rfl,?_⟩;rw[show its.toArray.any (eqU x)=its.any (eqU x)by simp,qt r fs];exact q
 .obtain⟨its,r,pl,hz⟩:=I.tuple N
  refine SeqAt.notIn_tupleAt (eqU x) pl (λw B=>lY rx F r fs w (by simpa using B)) ⟨.bl _,H,I,rfl,?_⟩;rw[show its.toArray.any (eqU x)=its.any (eqU x)by simp,qt r fs];exact q
theorem yg:OpR X (Yp .NotIn) (λx y H Q=>∃i j,x= .str i/\y= .str j/\Q (.bl (!(!(Yv j i 0 j.length 1).isEmpty))) H):=by
 show 2;exact notIn_str ⟨.bl _,H,I,rfl,q⟩
theorem yL:dO X (.builtin "len") (λxs H Q=>∃p ys,xs=[.ref p]/\(SqL X.K H p ys∨SqT X.K H p ys)/\Q (.int ys.length) H):=by
 intro pins s σ H xs us Q I r h;obtain⟨p,ys,rfl,N,q⟩:=h;obtain⟨u,rfl,rx⟩:=vals1 r;cases rx;have hn:=oM;rcases N with N|N
 .obtain⟨its,r',pl,hz⟩:=I.list N
  have O:=r'.length;exact Calls.call_len_list pl.isList (by simp![List.size_toArray]<;>omega) ⟨.int ys.length,H,I.tok _,⟨s.toks+1,by rw[List.size_toArray,O]⟩,q⟩
 .obtain⟨its,r',pl,hz⟩:=I.tuple N
  have O:=r'.length;exact len_tuple pl (by simp![List.size_toArray]<;>omega) ⟨.int ys.length,H,I.tok _,⟨s.toks+1,by rw[List.size_toArray,O]⟩,q⟩
theorem xT:dO X (.builtin "len") (λxs H Q=>∃z,xs=[.str z]/\z.length<=Xp/\Q (.int z.length) H):=by
 intro pins s σ H xs us Q I r h;obtain⟨z,rfl,Y,q⟩:=h;obtain⟨u,rfl,t,rfl⟩:=vals1 r;have hn:=oM;exact len_str 1.10 ⟨.int z.length,H,I.tok _,⟨_,rfl⟩,q⟩
theorem v9:dO X (.type "tuple") (λxs H Q=>∃p ys,xs=[.ref p]/\((SqL X.K H p ys/\∀l,H l=none->Q (.ref l) (upd H l (.tup ys)))∨(SqT X.K H p ys/\Q (.ref p) H))):=by
 intro pins s σ H xs us Q I r h;obtain⟨p,ys,rfl,h⟩:=h;obtain⟨u,rfl,rx⟩:=vals1 r;cases rx;rcases h with⟨N,q⟩|⟨N,q⟩
 .obtain⟨its,r',pl,hz⟩:=I.list N
  have O:=r'.length;refine call_tuple_list pl.isList (λh' kp=>?_) (by simp![List.size_toArray]<;>omega);have B:Inv X pins σ H {s with heap:=h'}:=I.kept (t':=s.toks) kp;have U:Inv X pins σ (upd H h'.objs.size (.tup ys)) {s with heap:=h'.push {cls:=.type "tuple",data:=.seq its.toArray}}:=
   B.laid (t':=s.toks) (λb o e=>za _ e) (Xn _) (show bZ X.prog X.w _ _ _ (.tup ys)from⟨hz,its,r',lE.new _ _⟩)
  exact⟨.ref h'.objs.size,_,U,rfl,q _ (B.hok.fresh (Xn _))⟩
 .obtain⟨its,r',pl,hz⟩:=I.tuple N
  exact call_tuple_same pl ⟨.ref p,H,I,rfl,q⟩
def tyV(K:Xl)(T:String)(x:V)(H:Hp):Prop:=match x with
 |.str _=>T="str"
 |.int _=>T="int"
 |.ref p=>(T="list"/\∃xs,SqL K H p xs)∨(T="tuple"/\∃o,K.lookup p=some o/\o.cls= .type "tuple"/\o.dict=none)∨
  (T="dict"/\((∃kvs,H p=some (.dK kvs))∨∃kvs,H p=some (.dT kvs)))∨(T="set"/\∃S n,H p=some (.set S n))
 |_=>False
theorem Ul{pins:List (Addr×Obj)}{σ:St}{H:Hp}{s:zb}{T:String}{x:V}{v:Value}(I:Inv X pins σ H s)(r:RelV x v)(U:tyV X.K T x H) :
  s.TypeIs v T/\∀a,v= .ref a->∃ob,s.heap.get? a=some ob/\ob.dict=none:=by
 cases x with
 |str z=>
  obtain⟨t,rfl⟩:=r;cases (show T="str" from U);exact⟨typeIs_str s z t,λ_ e=>nomatch e⟩
 |int i=>
  obtain⟨t,rfl⟩:=r;cases (show T="int" from U);exact⟨typeIs_int s i t,λ_ e=>nomatch e⟩
 |ref p=>
  cases r;rcases U with⟨rfl,xs,N⟩|⟨rfl,o,B,Y,hd⟩|⟨rfl,B⟩|⟨rfl,S,n,B⟩
  .obtain⟨its,_,pl,_⟩:=I.list N
   refine⟨pl.isList.typeIs,λa e=>?_⟩;cases e;obtain⟨o,n,e,c,hd,_⟩:=pl;exact⟨o,e,hd⟩
  .refine⟨⟨o,I.kIn p o B,Y⟩,λa e=>?_⟩
   cases e;exact⟨o,I.kIn _ o B,hd⟩
  .have z:∃o,s.heap.get? p=some o/\o.ExactDict:=by
    rcases B with⟨kvs,B⟩|⟨kvs,B⟩
    .obtain⟨_,_,_,_,o,_,_,e,ex,_⟩:=I.hok p _ B
     exact⟨o,e,ex⟩
    .obtain⟨_,_,_,_,o,_,_,e,ex,_⟩:=I.hok p _ B
     exact⟨o,e,ex⟩
   obtain⟨o,e,ex⟩:=z;refine⟨⟨o,e,ex.1⟩,λa e2=>?_⟩;cases e2;exact⟨o,e,ex.2.1⟩
  .obtain⟨o,_,_,_,e,ex,_⟩:=I.hok p _ B
   refine⟨⟨o,e,ex.1⟩,λa e2=>?_⟩;cases e2;exact⟨o,e,ex.2.1⟩
 |_=>exact aaq U
def tBM(K:Xl)(T:String)(r:V->List V->Hp->VK->Prop)(to:TE)(t:TA):TE:=λσ H Q=>to σ H λx H1=>tyV K T x H1/\t σ H1 λxs H2=>r x xs H2 Q
variable{o e:Expr}{es:List Expr}{to:TE}{t:TA}{name:Str}{apos cpos:Pos}{T id:String}{r:V->List V->Hp->VK->Prop}
theorem K5(pa:adT T)(slot:Slot T name id)(a3:typeOf (.builtin id)=pure (.type "method_descriptor"))(J:MtR X id r)(N:PE X o to)(Z:PA X (e::es) t)
  (a0:aa1 o name X.env (eval o X.env)=eval o X.env:=by rfl)
  (a2:((ZK cpos (Xy (e::es) X.env)).all (λx=>!x.1)&&(backToKw cpos (adq [] X.env)).all (λx=>x.1.isSome)
   &&decide ((e::es).length+([]:List acb).length+(if([]:List acb).isEmpty then 0 else 1)<30))=true:=by rfl)
  (a1:(apos.endLine==cpos.line)=true:=by rfl) (hs:Xy (e::es) X.env=(false,eval e X.env)::Xy es X.env:=by rfl) (V:(ZK cpos (Xy es X.env)).any (·.1)=false:=by rfl) :
  PE X (.Call (.Attribute o name apos) (e::es) [] cpos) (tBM X.K T r to t):=by
 intro pins s σ H Q I h;refine wpAny_Call_method_late a0 a2 a1 rfl (thn (N pins s σ H _ I h) λv B ⟨x,H1,O,r1,ty,F⟩=>?_);obtain⟨h1,h2⟩:=Ul O r1 ty;refine⟨T,id,pa,slot,a3,h1,h2,?_⟩;have hA:=Z cpos pins B σ H1 _ O F;rw[hs]at hA⊢;refine adt (by show(false||(ZK cpos (Xy es X.env)).any (·.1))=false;rw[V]<;>rfl) (Calls.evalArgs_plain ?_);exact thn hA λus Y ⟨vs,H2,U,r2,q⟩=>J pins Y σ H2 x vs v us Q U r1 r2 q
end
def MtM(X:Cx)(id:String)(r:V->List V->Hp->VK->Prop):Prop:=
 ∀(pins:List (Addr×Obj))(s:zb)(σ:St)(H:Hp)(x:V)(xs:List V)(v:Value)(us:List Value)(Q:VK),Inv X pins σ H s->RelV x v->Vals xs us->r x xs H Q->
  wpAny 1.11 X.A (call (.builtin id) (v::us)) (EP X pins σ Q) X.xe s
theorem Vals.one:∀{x:V}{us:List Value},Vals [x] us->∃u,us=[u]/\RelV x u
 |_,_,.cons r .nil=>⟨_,rfl,r⟩
theorem Vals.eraseIdx:∀{xs:List V}{us:List Value}(i:Nat),Vals xs us->Vals (xs.eraseIdx i) (us.eraseIdx i)
 |_,_,_,.nil=>.nil
 |_,_,0,.cons _ t=>t
 |_,_,i+1,.cons r t=>.cons r (Vals.eraseIdx i t)
variable{xs:List V}
theorem Vals.reverse(h:Vals xs us):Vals xs.reverse us.reverse:=by
 induction h with
 |nil=>exact .nil
 |cons r t U=>rw[abt,abt];exact Vals.append U (.cons r .nil)
theorem wF:∀(l:List α)(i:Nat),(l.eraseIdx i).length<=l.length
 |[],_=>Xn _
 |_::_,0=>adu _
 |_::r,i+1=>Nat.succ_le_succ (wF r i)
variable{X:Cx}{σ:St}{H:Hp}{l:Addr}{ys:List V}
theorem Inv.lset{B its':List Value}{f:Array Value->Array Value}(I:Inv X pins σ H s)(F:H l=some (.lst xs))
  (e:s.heap.get? l=some {cls:=.type "list",data:=.seq B.toArray n}) (O:f B.toArray=its'.toArray) (J:Vals ys its') (Y:ys.length<=Xp) :
  Inv X pins σ (upd H l (.lst ys)) {s with heap:=s.heap.update l (Zi f),toks:=t'}:=by
 have q:=aaW e f;rw[O]at q;refine I.write (x:=l) (e:=l) (by rw[F];exact trivial) (.inl rfl) (λN u U V=>(Yd s.heap (Zi f) (Ne.symm U)).trans V) ⟨_,q⟩ ?_;exact⟨Y,its',_,J,q⟩
theorem Inv.lnew{B:List Value}(I:Inv X pins σ H s)(F:Vals ys B)(Y:ys.length<=Xp) :
  Inv X pins σ (upd H s.heap.objs.size (.lst ys)) {s with heap:=s.heap.push {cls:=.type "list",data:=.seq B.toArray},toks:=t'}:=
 I.laid (λ_ _ q=>za _ q) (Xn _) ⟨Y,B,0,F,Xr _ rfl⟩
theorem Inv.fresh(I:Inv X pins σ H s):H s.heap.objs.size=none:=I.hok.fresh (Xn _)
theorem Inv.lstM(I:Inv X pins σ H s)(U:H l=some (.lst xs)):xs.length<=Xp/\∃(B:List Value)(n:Nat),Vals xs B/\xs.length=B.length/\s.heap.get? l=some {cls:=.type "list",data:=.seq B.toArray n}:=by
 obtain⟨z,B,n,r,e⟩:=I.hok l _ U;exact⟨z,B,n,r,r.length,e⟩
def Gd:V->List V->Hp->VK->Prop:=λx vs H Q=>∃l xs y,x= .ref l/\vs=[y]/\H l=some (.lst xs)/\xs.length<Xp/\Q .non (upd H l (.lst (xs++[y])))
theorem Hd:MtM X "list.append" Gd:=by
 intro pins s σ H x vs v us Q I rx J h;obtain⟨l,xs,y,rfl,rfl,U,Y,q⟩:=h;cases rx;obtain⟨u,rfl,O⟩:=J.one;obtain⟨z,B,n,r,Z,e⟩:=I.lstM U;refine acI aeu ⟨_,e,rfl⟩ aed (adU _ _) (aeJ l B.toArray n u (by rw[List.size_toArray];omega)) ⟨e,?_⟩;refine⟨.non,_,I.lset (its':=B++[u]) U e (by simp) (r.append (.cons O .nil)) ?_,rfl,q⟩;rw[YB,adE];omega
def Je:V->List V->Hp->VK->Prop:=λx vs H Q=>∃l xs i k y,x= .ref l/\vs=[.int i]/\H l=some (.lst xs)/\-(2 ^ 63)<=i/\i<2 ^ 63/\aes i xs.length=some k/\xs[k]? =some y/\Q y (upd H l (.lst (xs.eraseIdx k)))
theorem Nh:MtM X "list.pop" Je:=by
 intro pins s σ H x vs v us Q I rx J h;obtain⟨l,xs,i,k,y,rfl,rfl,U,h1,h2,Y,V,q⟩:=h;cases rx;obtain⟨u,rfl,O⟩:=J.one;obtain⟨t,rfl⟩:=O;obtain⟨z,B,n,r,Z,e⟩:=I.lstM U;obtain⟨w,hw,N⟩:=r.get V;refine acI F.slot_list_pop ⟨_,e,rfl⟩ F.entry_list_pop (F.args_list_pop_2 _ _)
  (MeetsSeq.list_pop_at l B.toArray n i t k w (fitsIndex_both h1 h2) (by rw[List.size_toArray,←Z];exact Y) (by rw[←Array.getElem?_toList];exact hw) (by rw[List.size_toArray];omega)) ⟨e,?_⟩
 refine⟨y,_,I.lset (its':=B.eraseIdx k) U e ?_ (r.eraseIdx k) ?_,N,q⟩
 .show B.toArray.eraseIdxIfInBounds k=(B.eraseIdx k).toArray
  rw[List.eraseIdxIfInBounds_toArray]
 .have:=wF xs k
  omega
def Vc:R2:=λx y H Q=>∃l b xs zs,x= .ref l/\y= .ref b/\H l=some (.lst xs)/\H b=some (.lst zs)/\xs.length+zs.length<=Xp/\∀p,H p=none->Q (.ref p) (upd H p (.lst (xs++zs)))
theorem Us:OpR X (Zh .Add) Vc:=by
 intro pins s σ H x y v u Q I rx J h;obtain⟨l,b,xs,zs,rfl,rfl,U,V,Y,q⟩:=h;cases rx;cases J;obtain⟨z,B,n,r,Z,e⟩:=I.lstM U;obtain⟨N,F,n2,O,a0,e2⟩:=I.lstM V;refine PySem.P.add_list e e2 ?_ (by rw[List.size_toArray,List.size_toArray];omega);have ea:B.toArray++F.toArray=(B++F).toArray:=by simp
 rw[ea];exact⟨.ref _,_,I.lnew (t':=s.toks) (r.append O) (by rw[YB];omega),rfl,q _ I.fresh⟩
section
variable{κ:Type}[DecidableEq κ]
def lV(kvs:List (κ×V))(k:κ):Option V:=(kvs.find? λN=>decide (N.1=k)).map (·.2)
def putK(kvs:List (κ×V))(k:κ)(v:V):List (κ×V):=
 if(kvs.any λN=>decide (N.1=k))=true then kvs.map (λN=>if N.1=k then(N.1,v)else N)else kvs++[(k,v)]
theorem uq{p:κ×V}{r:List (κ×V)}{k:κ}(e:p.1=k):lV (p::r) k=some p.2:=by simp[lV,Y5,e]
theorem uB{p:κ×V}{r:List (κ×V)}{k:κ}(e:¬p.1=k):lV (p::r) k=lV r k:=by simp[lV,Y5,e]
theorem uv(k:κ):∀kvs:List (κ×V),(kvs.any λN=>decide (N.1=k))=(lV kvs k).isSome
 |[]=>rfl
 |p::r=>by
  rw[abJ];by_cases e:p.1=k
  .simp![uq e,YL e,Bool.true_or,Option.isSome_some]
  .rw[uB e,X8 e,Bool.false_or];exact uv k r
theorem g8(kvs:List (κ×V))(k:κ)(v:V):(putK kvs k v).length<=kvs.length+1:=by
 unfold putK;split
 .rw[Xq];omega
 .rw[YB,XN,Yl];omega
theorem mV{kvs:List (κ×V)}{k:κ}(v:V)(h:lV kvs k=none):putK kvs k v=kvs++[(k,v)]:=by
 unfold putK;rw[uv,h];exact Xz 1.27
theorem ud.isSome_eq{o:Option V}{u:Option Value}(r:ud o u):o.isSome=u.isSome:=by
 cases o with
 |none=>cases u with
  |none=>rfl
  |some _=>exact(show False from r).elim
 |some _=>cases u with
  |none=>exact(show False from r).elim
  |some _=>rfl
theorem KV.val{kvs:List (κ×V)}{vs:List (κ×Value)}(r:KV kvs vs)(k:κ):ud (lV kvs k) (acM vs k):=by
 unfold KV at r
 induction r with
 |nil=>exact YT
 |@cons p q ps J h t U=>
  obtain⟨h1,h2⟩:=h;by_cases e:p.1=k
  .have e':q.1=k:=h1.symm.trans e
   have b:acM (q::J) k=some q.2:=by simp[acM,Y5,e']
   rw[uq e,b];exact h2
  .have e':¬q.1=k:=λz=>e (h1.trans z)
   have b:acM (q::J) k=acM J k:=by simp[acM,Y5,e']
   rw[uB e,b];exact U
theorem KV.any{kvs:List (κ×V)}{vs:List (κ×Value)}(r:KV kvs vs)(k:κ):(kvs.any λN=>decide (N.1=k))=vs.any λN=>decide (N.1=k):=by
 unfold KV at r
 induction r with
 |nil=>rfl
 |cons h t U=>rw[abJ,abJ,U,h.1]
theorem KV.repl{kvs:List (κ×V)}{vs:List (κ×Value)}(r:KV kvs vs)(k:κ){y:V}{u:Value}(J:RelV y u) :
  KV (kvs.map λN=>if N.1=k then(N.1,y)else N) (vs.map λN=>if N.1=k then(N.1,u)else N):=by
 unfold KV at r⊢
 induction r with
 |nil=>exact .nil
 |@cons p q ps B h t U=>
  rw[Xi,Xi];refine .cons ?_ U;obtain⟨h1,h2⟩:=h;by_cases e:p.1=k
  .rw[Xu e,Xu (h1.symm.trans e)];exact⟨h1,J⟩
  .rw[Xz e,Xz (λz=>e (h1.trans z))];exact⟨h1,h2⟩
theorem KV.put{kvs:List (κ×V)}{vs:List (κ×Value)}(r:KV kvs vs)(k:κ){y:V}{u:Value}(J:RelV y u):KV (putK kvs k y) (stored vs k u):=by
 unfold putK stored;rw[r.any k];by_cases e:(vs.any λN=>decide (N.1=k))=true
 .rw[Xu e,Xu e];exact r.repl k J
 .rw[Xz e,Xz e];exact Paired.snoc r ⟨rfl,J⟩
theorem KV.length{kvs:List (κ×V)}{vs:List (κ×Value)}(r:KV kvs vs):kvs.length=vs.length:=acr r
end
theorem sr{k:Key}(r:RelV (kV k) u):(bA P w).is k u=true:=by
 cases k with
 |inl i=>obtain⟨t,e⟩:=(show ∃t,u=abS i t from r);subst e;exact Br P w i t
 |inr x=>obtain⟨t,e⟩:=(show ∃t,u=abe x t from r);subst e;exact Ab P w x t
theorem xq:∀{ks:List Key}{us:List Value},Vals (ks.map kV) us->ItemsAre (bA P w) ks us
 |[],_,r=>by rw[Yq]at r;cases r;exact .nil
 |k::ks,_,r=>by
  rw[Xi]at r;cases r with
  |cons h t=>exact .cons (sr h) (xq t)
noncomputable abbrev KT(H:Hp):List (List Key×V)->List (List Key×Addr×Value)->Prop:=acQ λp q=>p.1=q.1/\H q.2.1=some (.tup (p.1.map kV))/\RelV p.2 q.2.2
variable{xs:List (List Key×Addr×Value)}{kvs:List (List Key×V)}
theorem KT.val(r:KT H kvs xs)(k:List Key):ud (lV kvs k) ((atKey xs k).map (·.2)):=by
 induction r with
 |nil=>exact YT
 |@cons p q ps J h t U=>
  obtain⟨h1,_,h2⟩:=h;by_cases e:p.1=k
  .have e':q.1=k:=h1.symm.trans e
   have b:atKey (q::J) k=some q.2:=by simp[atKey,Y5,e']
   rw[uq e,b];exact h2
  .have e':¬q.1=k:=λz=>e (h1.trans z)
   have b:atKey (q::J) k=atKey J k:=by simp[atKey,Y5,e']
   rw[uB e,b];exact U
variable{y:V}
theorem KT.repl(r:KT H kvs xs)(k:List Key)(J:RelV y u) :
  KT H (kvs.map λN=>if N.1=k then(N.1,y)else N) (xs.map (putAt k u)):=by
 induction r with
 |nil=>exact .nil
 |@cons p q ps B h t U=>
  rw[Xi,Xi];refine .cons ?_ U;obtain⟨h1,h2,O⟩:=h;unfold putAt;by_cases e:p.1=k
  .rw[Xu e,Xu (h1.symm.trans e)];exact⟨h1,h2,J⟩
  .rw[Xz e,Xz (λz=>e (h1.trans z))];exact⟨h1,h2,O⟩
theorem KT.put(r:KT H kvs xs)(k:List Key){b:Addr}(U:H b=some (.tup (k.map kV)))(J:RelV y u) :
  KT H (putK kvs k y) (storedH xs k b u):=by
 have e:(kvs.any λN=>decide (N.1=k))=(atKey xs k).isSome:=by
  rw[uv,(r.val k).isSome_eq,acD]
 unfold putK storedH;rw[e];by_cases q:(atKey xs k).isSome=true
 .rw[Xu q,Xu q];exact r.repl k J
 .rw[Xz q,Xz q];exact Paired.snoc r ⟨rfl,U,J⟩
variable{H':Hp}
theorem KT.keeps(r:KT H kvs xs)(U:∀b ys,H b=some (.tup ys)->H' b=some (.tup ys)):KT H' kvs xs:=
 Paired.mapP r λ_ _ z=>⟨z.1,U _ _ z.2.1,z.2.2⟩
variable{P:Program}
theorem Q6{u:HO}(ok:HOk P w H h)(e:Rd H a u):bZ P w H h a u:=e.ok ok
theorem uw{kvs:List (Key×V)}(ok:HOk P w H h)(e:Rd H a (.dK kvs)):kvs.length<=Xp/\(a==aap)=false/\∃vs,KV kvs vs/\h.DictOf (bA P w) a vs:=
 show bZ P w H h a (.dK kvs)from Q6 ok e
theorem xn{kvs:List (Key×V)}(ok:HOk P w H h)(e:H a=some (.dK kvs)):kvs.length<=Xp/\(a==aap)=false/\∃vs,KV kvs vs/\h.DictOf (bA P w) a vs:=uw ok (.inl e)
theorem uh{ks:List Key}(ok:HOk P w H h)(e:H a=some (.tup (ks.map kV))):(ac9 (bA P w)).is h ks a:=by
 obtain⟨_,B,r,o,h1,h2,n,O⟩:=(show bZ P w H h a (.tup (ks.map kV))from ok a _ e);exact⟨o,B.toArray,n,h1,h2,O.1,by simpa using xq r⟩
theorem zM(ok:HOk P w H h)(e:Rd H a (.dT kvs)):kvs.length<=Xp/\(a==aap)=false/\
  ∃xs,KT H kvs xs/\h.DictOfH (ac9 (bA P w)) a xs:=by
 obtain⟨z,y,xs,r,o,es,ep,h1,h2,O,F,Z⟩:=(show bZ P w H h a (.dT kvs)from Q6 ok e);refine⟨z,y,xs,r,o,es,ep,h1,h2,O,F,λx J=>?_,Z⟩;have all:∀{l:List (List Key×V)}{m:List (List Key×Addr×Value)},KT H l m->∀x∈m,(ac9 (bA P w)).is h x.1 x.2.1:=by
  intro l m q
  induction q with
  |nil=>intro x J;exact nomatch J
  |@cons p q ps B N t U=>
   intro x J;rcases Xj.mp J with e|J
   .subst e
    exact uh ok (by rw[←N.1];exact N.2.1)
   .exact U x J
 exact all r x J
theorem WK(ok:HOk P w H h)(e:H a=some (.dT kvs)):kvs.length<=Xp/\(a==aap)=false/\
 ∃xs,KT H kvs xs/\h.DictOfH (ac9 (bA P w)) a xs:=zM ok (.inl e)
def rN(H:Hp)(a:Addr)(y:V)(r:Option V):Prop:=
 (∃kvs k,Rd H a (.dK kvs)/\y=kV k/\r=lV kvs k)∨∃kvs k b,Rd H a (.dT kvs)/\y= .ref b/\H b=some (.tup (k.map kV))/\r=lV kvs k
def Im(H:Hp)(a:Addr)(y v:V)(H':Hp):Prop:=
 (∃kvs k,H a=some (.dK kvs)/\y=kV k/\kvs.length<Xp/\H'=upd H a (.dK (putK kvs k v)))∨
 ∃kvs k b,H a=some (.dT kvs)/\y= .ref b/\H b=some (.tup (k.map kV))/\kvs.length<Xp/\H'=upd H a (.dT (putK kvs k v))
variable{kvs:List (Key×V)}
theorem rN.k{k:Key}(e:H a=some (.dK kvs)):rN H a (kV k) (lV kvs k):=.inl ⟨kvs,k,.inl e,rfl,rfl⟩
variable{v:V}
theorem Im.k{k:Key}(e:H a=some (.dK kvs))(Z:kvs.length<Xp):Im H a (kV k) v (upd H a (.dK (putK kvs k v))):=.inl ⟨kvs,k,e,rfl,Z,rfl⟩
theorem Inv.big(I:Inv X pins σ H s):aap<s.heap.objs.size:=by
 have h:XH<s.heap.objs.size:=(I.mod.glob.keeps I.bk).lt;exact Nat.lt_trans 1.27 h
theorem G9(V:A.units+1<cLine)(I:Inv X pins σ H s)(g:rN H a y (some v))(J:RelV y u)(h:∀B s',Inv X pins σ H s'->RelV v B->Q B s') :
  wpAny 1.11 A (aca (.ref a) u) Q E s:=by
 rcases g with⟨kvs,k,e,O,l⟩|⟨kvs,k,b,e,O,U,l⟩
 .subst O
  obtain⟨z,hd,vs,rel,dd⟩:=uw I.hok e;obtain⟨B,q,N⟩:=ud.some_of (v:=v) (o:=acM vs k) (by rw[l];exact rel.val k);exact wpAny_getItem_of (sr J) dd.mapOf q (h B _ (I.tok _) N)
 .subst O
  cases (show u=X5 b from J);obtain⟨z,hd,xs,rel,dd⟩:=zM I.hok e;obtain⟨B,q,N⟩:=ud.some_of (v:=v) (o:=(atKey xs k).map (·.2)) (by rw[l];exact rel.val k);obtain⟨p,F,Y⟩:=aaL.mp q;refine wpAny_getItem_heap (abj V) (uh I.hok U) dd F ?_;rw[Y];exact h B _ (I.tok _) N
variable{o:Option V}
theorem WX(V:A.units+1<cLine)(I:Inv X pins σ H s)(g:rN H a y o)(J:RelV y u)(h:∀s',Inv X pins σ H s'->Q (.bool o.isSome) s') :
  wpAny 1.11 A (Yp .In u (.ref a)) Q E s:=by
 rcases g with⟨kvs,k,e,O,l⟩|⟨kvs,k,b,e,O,U,l⟩
 .subst O
  obtain⟨z,hd,vs,rel,dd⟩:=uw I.hok e;refine wpAny_in_of (sr J) hd dd.mapOf ?_;rw[←(rel.val k).isSome_eq,←l];exact h _ (I.tok _)
 .subst O
  cases (show u=X5 b from J);obtain⟨z,hd,xs,rel,dd⟩:=zM I.hok e;refine wpAny_in_heap (abj V) (uh I.hok U) hd dd ?_;have q:=(rel.val k).isSome_eq;rw[acD]at q;rw[←q,←l];exact h _ (I.tok _)
theorem Qy(V:A.units+1<cLine)(I:Inv X pins σ H s)(g:rN H a y o)(J:RelV y u)(h:∀s',Inv X pins σ H s'->Q (.bool (!o.isSome)) s') :
  wpAny 1.11 A (Yp .NotIn u (.ref a)) Q E s:=by
 rcases g with⟨kvs,k,e,O,l⟩|⟨kvs,k,b,e,O,U,l⟩
 .subst O
  obtain⟨z,hd,vs,rel,dd⟩:=uw I.hok e;refine wpAny_notIn_of (sr J) hd dd.mapOf ?_;rw[←(rel.val k).isSome_eq,←l];exact h _ (I.tok _)
 .subst O
  cases (show u=X5 b from J);obtain⟨z,hd,xs,rel,dd⟩:=zM I.hok e;refine wpAny_notIn_heap (abj V) (uh I.hok U) hd dd ?_;have q:=(rel.val k).isSome_eq;rw[acD]at q;rw[←q,←l];exact h _ (I.tok _)
theorem m7{ob:HO}(I:Inv X pins σ H s)(mu:Mut (H a))(hs:aaR a s.heap h')(V:∃q,h'.get? a=some q)(new:bZ X.prog X.w (upd H a ob) h' a ob) :
  Inv X pins σ (upd H a ob) {s with heap:=h',toks:=t'}:=
 I.write (x:=a) (e:=a) mu (.inl rfl) (λb q U z=>(hs.2 b U).trans z) V new
variable{P:X7}
theorem xO{vs:List (Key×Value)}(z:kvs.length<=Xp)(hd:(a==aap)=false)(rel:KV kvs vs)(dd:h'.DictOf (bA P w) a vs) :
 bZ P w H' h' a (.dK kvs):=⟨z,hd,vs,rel,dd⟩
variable{r:Value}
theorem Ii{Q:Unit->zb->Prop}(hu:A.units+1<cLine)(I:Inv X pins σ H s)(g:Im H a y v H')(J:RelV y u)(rv:RelV v r)(h:∀s',Inv X pins σ H' s'->Q () s') :
  wpAny 1.11 A (setItem (.ref a) u r) Q E s:=by
 rcases g with⟨kvs,k,e,ey,l,eH⟩|⟨kvs,k,b,e,ey,U,l,eH⟩
 .subst ey eH
  obtain⟨z,hd,vs,rel,dd⟩:=xn I.hok e;have Y:vs.length<=Xp:=by rw[←rel.length];exact z
  have Z:(putK kvs k v).length<=Xp:=by have:=g8 kvs k v;omega
  refine wpAny_setItem_pairs (hsz:=Y) (sr J) dd λh' B hs=>h _ ?_;have V:∃q,h'.get? a=some q:=let⟨q,_,_,N,_⟩:=B;⟨q,N⟩;exact m7 I (by rw[e];exact YT) hs V (xO Z hd (rel.put k rv) B)
 .subst ey eH
  cases (show u=X5 b from J);obtain⟨z,hd,xs,rel,dd⟩:=WK I.hok e;have Y:xs.length<=Xp:=by rw[←acr rel];exact z
  have Z:(putK kvs k v).length<=Xp:=by have:=g8 kvs k v;omega
  refine wpAny_setItem_heap (hsz:=Y) (abj hu) (uh I.hok U) dd λh' B hs=>h _ ?_;obtain⟨q,es,ep,N,h2,O,F,_,h5⟩:=B;refine m7 I (by rw[e];exact YT) hs ⟨q,N⟩ ⟨Z,hd,_,(rel.put k U rv).keeps λc ys ec=>?_,q,es,ep,N,h2,O,F,h5⟩;rw[aJ (jN ec e (λz=>nomatch z))];exact ec
section
variable{X:Cx}{pins:List (Addr×Obj)}{σ:St}{H:Hp}{s:Shared}{a:Addr}{kvs:List (Key×V)}{k:Key}{u:Value}{A:Around}{E:Value->Shared->Prop}
theorem U6{Q:Value->zb->Prop}(I:Inv X pins σ H s)(e:Rd H a (.dK kvs))(h:∀t s',Inv X pins σ H s'->Q (.int kvs.length t) s'):wpAny 1.11 A (call (.builtin "len") [.ref a]) Q E s:=by
 obtain⟨z,hd,vs,rel,dd⟩:=uw I.hok e;refine call_len_dict hd dd (by rw[←rel.length];rw[abz]at z;omega) ?_;rw[←rel.length];exact h _ _ (I.tok _)
end
theorem Bt{s:zb}(I:Inv X pins σ H s)(g:rN H a y o):s.TypeIs (.ref a) "dict":=by
 rcases g with⟨kvs,k,e,_,_⟩|⟨kvs,k,b,e,_,_,_⟩
 .obtain⟨_,_,vs,_,dd⟩:=uw I.hok e
  exact dd.typeIs
 .obtain⟨_,_,xs,_,dd⟩:=zM I.hok e
  exact dd.typeIs
theorem vK(h:Heap)(U:aap<h.objs.size):bZ P w H (h.push {cls:=.type "dict",data:=.dict #[]}) h.objs.size (.dK []):=
 ⟨ZP _,beq_eq_false_iff_ne.mpr (Ne.symm (XS U)),[],.nil,ade h⟩
def Ug:TE:=λ_ H Q=>∀p,H p=none->Q (.ref p) (upd H p (.dK []))
theorem Jy:PE X (.Dict [] [] pos) Ug:=λpins s σ H Q I h=>
 wpAny_Dict_empty ⟨.ref s.heap.objs.size,_,I.laid (a:=s.heap.objs.size) (o:=.dK []) (t':=s.toks) (λ_ _ q=>za _ q) (Xn _) (vK s.heap I.big),rfl,h _ (I.hok.fresh (Xn _))⟩
def ym:List (TE×TE)->St->Hp->(List (V×V)->Hp->Prop)->Prop
 |[],_,H,Q=>Q [] H
 |(tk,tv)::r,σ,H,Q=>tk σ H λx H1=>tv σ H1 λy H2=>ym r σ H2 λps I=>Q ((x,y)::ps) I
noncomputable abbrev VV:List (V×V)->List (Value×Value)->Prop:=acQ λp q=>RelV p.1 q.1/\RelV p.2 q.2
def PPs(X:Cx)(pos:Pos)(J:List (Option Expr))(F:List Expr)(N:List (TE×TE)):Prop:=
 ∀(pins:List (Addr×Obj))(s:zb)(σ:St)(H:Hp)(Q:List (V×V)->Hp->Prop),Inv X pins σ H s->ym N σ H Q->
  wpAny 1.11 X.A (evalPairs (pairTrees J F X.env pos)) (λvs s'=>∃ps H',Inv X pins σ H' s'/\VV ps vs/\Q ps H') X.xe s
theorem O4:PPs X pos [] [] []:=λpins s σ H Q I h=>pairTrees_nil_walk ⟨[],H,I,.nil,h⟩
variable{N:List (TE×TE)}
theorem Nk{k v:Expr}{ks:List (Option Expr)}{vs:List Expr}{tk tv:TE}(hk:PE X k tk)(hv:PE X v tv)(O:PPs X pos ks vs N) :
  PPs X pos (some k::ks) (v::vs) ((tk,tv)::N):=λpins s σ H Q I h=>
 pairTrees_cons_walk (thn (hk pins s σ H _ I h) λu B ⟨x,H1,I1,rx,F⟩=>thn (hv pins B σ H1 _ I1 F) λV Y ⟨y,H2,U,J,q⟩=>
  thn (O pins Y σ H2 _ U q) λws s3 ⟨ps,H3,Z,rel,q3⟩=>⟨(x,y)::ps,H3,Z,.cons ⟨rx,J⟩ rel,q3⟩)
def mX(kvs more:List (Key×V)):List (Key×V):=more.foldl (λacc N=>putK acc N.1 N.2) kvs
theorem KV.merge:∀{more:List (Key×V)}{B:List (Key×Value)}{kvs:List (Key×V)}{vs:List (Key×Value)},KV more B->KV kvs vs->KV (mX kvs more) (merged vs B):=by
 intro more B kvs vs r;unfold KV at r
 induction r generalizing kvs vs with
 |nil=>intro q;exact q
 |@cons p q ps J h t U=>
  intro F;have e:KV (putK kvs p.1 p.2) (stored vs q.1 q.2):=by
   have:=F.put p.1 h.2;rw[←h.1];exact this
  exact U e
theorem oh:∀(more kvs:List (Key×V)),(mX kvs more).length<=kvs.length+more.length
 |[],kvs=>by show kvs.length<=kvs.length+0;omega
 |p::r,kvs=>by
  have h1:=oh r (putK kvs p.1 p.2);have h2:=g8 kvs p.1 p.2;show(mX (putK kvs p.1 p.2) r).length<=_;rw[XN];omega
theorem vf{P:X7}{w:World}:∀{kvs:List (Key×V)}{Z:List (Value×Value)},VV (kvs.map λN=>(kV N.1,N.2)) Z->∃B,Carries (bA P w) Z B/\KV kvs B
 |[],_,r=>by rw[Yq]at r;cases r;exact⟨[],YT,.nil⟩
 |p::kvs,_,r=>by
  rw[Xi]at r;cases r with
  |@cons a b J bs h t=>
   obtain⟨B,c,q⟩:=vf (P:=P) (w:=w) t;obtain⟨F,I⟩:=b;exact⟨(p.1,I)::B,⟨sr h.1,rfl,c⟩,.cons ⟨rfl,h.2⟩ q⟩
def Ri(q:List (TE×TE)):TE:=λσ H Q=>∀p,H p=none->ym q σ (upd H p (.dK [])) λps H2=>H2 p=some (.dK [])/\∃kvs:List (Key×V),ps=kvs.map (λN=>(kV N.1,N.2))/\kvs.length<=15/\Q (.ref p) (upd H2 p (.dK (mX [] kvs)))
theorem Pj{F:List Expr}(h:PPs X pos J F N)(a1:J.all (·.isSome)=true)(Z:J.length=F.length)(h0:J≠[])
  (a2:J.length<=15):PE X (.Dict J F pos) (Ri N):=by
 intro pins s σ H Q I q;have hn:=I.hok.fresh (Xn s.heap.objs.size);have O:=I.laid (a:=s.heap.objs.size) (o:=.dK []) (h':=s.heap.push {cls:=.type "dict",data:=.dict #[]}) (t':=s.toks) (λ_ _ q=>za _ q) (Xn _) (vK s.heap I.big);refine wpAny_Dict_walk (knd:=bA X.prog X.w) a1 Z h0 a2 (thn (h pins _ σ _ _ O (q _ hn)) λws Y ⟨ps,H2,U,rel,e,kvs,ep,lk,q2⟩=>?_);subst ep;obtain⟨B,c,rk⟩:=vf (P:=X.prog) (w:=X.w) rel;obtain⟨z,hd,a3,r0,dd⟩:=xn U.hok e;cases r0;refine⟨B,c,dd,λh' a0 hs=>⟨.ref s.heap.objs.size,_,?_,rfl,q2⟩⟩;have hz:(mX [] kvs).length<=Xp:=by
  have h1:=oh kvs [];rw[Yl]at h1;rw[abz];omega
 have V:∃q,h'.get? s.heap.objs.size=some q:=let⟨q,_,_,hq,_⟩:=a0;⟨q,hq⟩;exact m7 U (by rw[e];exact YT) hs V (xO hz hd (rk.merge .nil) a0)
end L2
namespace Att
open PySem PySem.W PySem.Calls PyProof.Rows
variable{P:Params}
theorem tL:∀(ns:List Int)(vs:List Value),WellAll P h vs (ns.map WData.int)->aeE vs ns:=by
 intro ns
 induction ns with
 |nil=>
  intro vs w;rw[Yq]at w;cases w;exact .nil
 |cons n ns U=>
  intro vs w;rw[Xi]at w;cases w with
  |cons a b=>
   cases a;exact .cons _ _ (U _ b)
theorem Hr(hn:l.most=some n){args:List WData}{U:List Value}
  (B:l.row.toRowW.claim.pre args=true) (J:WellAll P h U args) :
  ∃a vs ns,U=[X5 a]/\args=[WData.list (ns.map WData.int)]/\h.get? a=some {cls:=.type "list",data:=.seq vs.toArray}/\aeE vs ns/\ns.length<=n:=by
 have a2:WShape.hasAll [] args [.list .int]=true:=(pre_splitW B).1;have Y:l.pre.holds [] {args:=args}=true:=(pre_splitW B).2;obtain⟨d,r,rfl,h1,h2⟩:=hasAllW_cons a2;obtain rfl:=hasAllW_nil h2;obtain⟨xs,rfl,O⟩:=hasW_list h1;obtain⟨ns,rfl⟩:=items_int O;have a1:ns.length<=n:=by
  unfold OpenLaw.pre at Y;have F:(WTm.not (.lt (.lit (.int (n:Int))) (.len (.arg 0)))).holds [] {args:=[.list (ns.map .int)]}=true:=by
   have F:=(holds_andW Y).1;rw[hn]at F;exact F
  have Z:=condW_of F (w_not (w_lt w_lit (w_len_list (w_arg rfl))));rw[Xq]at Z;refine Nat.le_of_not_lt λq=>?_;have V:(n:Int)<((ns.length:Nat):Int):=by omega
  first
   |(rw[YL V]at Z;exact absurd Z 1.27)
   |(simp at Z;omega)
 cases J with
 |cons I w2=>
  cases w2;cases I with
  |list N a0=>exact⟨_,_,ns,rfl,rfl,N,tL ns _ a0,a1⟩
theorem Gy(l:OpenLaw)(args:List WData):l.row.toRowW.claim.post args (.bool true) args=true:=
 postW_of (r:=l.row.toRowW) (X:=(true==true))
  (show WShape.has [] (.bool true) .bool=true by first|rfl|decide|simp[WShape.has,WShape.arms,WShape.armsAll])
  (show(WTm.eq .res (.lit (.bool true))).value [] {args:=args,res:=some (.bool true),after:=args}=some (.bool (true==true))from w_eq_bool (w_res rfl) w_lit) rfl
theorem attach_call{q:X7}{V:List Str}{d:DefRec}
  (hn:l.most=some n) (a6:d.params.defaults=[])
  (call:∀(w:World)(s₀ a0:zb)(mg mb:Str->Option Value)(fa:Addr)(o:Obj)(pm Z B:Value)(a:Addr)(vs:List Value)(ns:List Int),
   Ground q V [] XP w s₀ mg mb a0.heap->YP w a0.heap->
   a0.heap.get? fa=some o->o.data= .func (docDef d.name d.params d.body d.scope pm Z B)->a0.heap.CodeRec Z d.name->mg d.name=some (.ref fa)->
   a0.heap.get? a=some {cls:=.type "list",data:=.seq vs.toArray}->aeE vs ns->ns.length<=n->a0.gens= #[]->
   aaH (model l.prog w) acN (.call (.ref fa) ⟨[.ref a],[]⟩) (λr s'=>r= .ok (.ret (.bool true))/\OldK a0.heap s'.heap/\s'.os=a0.os/\abT s'.gens) a0) :
  WalkO q V XP YP l.row.toRowW d [] (λf vs=>ae7 f vs):=by
 intro w s₀ a0 mg mb G Y fa o pm Z B dV kV N hd U I a7 F args a9 as a3 a8 b0 a5 b1;obtain rfl:dV= .none:=Dflts.none I a6;obtain rfl:kV= .none:=Dflts.noKw I;obtain⟨a,vs,ns,rfl,rfl,a4,a1,a2⟩:=Hr hn a3 a5;refine enter_call (aeq (call w s₀ a0 mg mb fa o pm Z B a vs ns G Y N (fd_plain hd) U a7 a4 a1 a2 F) λr s' hq=>?_);obtain⟨rfl,h2,O,h4⟩:=hq;exact⟨.inl ⟨.bool true,.bool true,[],rfl,λ_=>rfl,.bool true,Gy l _,λ_=>⟨aeK,λ_ J=>(nomatch J)⟩⟩,h2,O,h4⟩
end Att
namespace L2
open PySem PySem.Spec PyProof.Rows
theorem wX:∀{vs:List Value}{ns:List Int},aeE vs ns->Vals (ns.map V.int) vs
 |_,_,.nil=>.nil
 |_,_,.cons n t h=>.cons ⟨t,rfl⟩ (wX h)
def Only(H:Hp):Prop:=∀b,H b=none∨∃o xs,H b=some (.frz o (.lst xs))
theorem KQ{K:Xl}{mb:Str->Option Value}{CX:CXT}{k:Nat}{fa:Addr}{sp:Sp}{J:zb}{vs:List Value}{ns:List Int}
  (KX:K.In J.heap) (Y:J.heap.Ns XH mg) (U:J.heap.Ns builtinsNs mb) (b0:∀x:Str,x≠"__name__"->mb x=Zu x) (a5:J.heap.NoLimit) (hg:J.gens= #[])
  (Z:J.heap.get? a=some {cls:=.type "list",data:=.seq vs.toArray}) (hi:aeE vs ns) (hl:ns.length<=Xp) (O:jq k acN)
  (F:∀base:Heap,K.In base->base.Ns XH mg->gw P w K mg base CX k fa fd [x] sp) (a3:∀(s:zb)(u:Value),adC s fd ⟨[u],[]⟩ [(x,u)])
  (b1:∀H:Hp,Only H->SqL K H a (ns.map V.int)->sp [.ref a] H (λv _=>v= .bl true) λ_ _ _=>False)
  (a9:∀H e s',CX [] H J (λ_ _ _=>False) e s'->False) :
  aaH (model P w) acN (.call (.ref fa) ⟨[.ref a],[]⟩) (λr s'=>r= .ok (.ret (.bool true))/\OldK J.heap s'.heap/\s'.os=J.os/\abT s'.gens) J:=by
 have rv:=wX hi;have a6:=hi.length;have a2:∀H:Hp,Only H->SqL K H a (ns.map V.int)->HOk P w H J.heap->(∀b,H b≠none->b=a)->(H a≠none->K.lookup a=none)->
   aaH (model P w) acN (.call (.ref fa) ⟨[.ref a],[]⟩) (λr s'=>r= .ok (.ret (.bool true))/\OldK J.heap s'.heap/\s'.os=J.os/\abT s'.gens) J:=by
  intro H hO hS hok hA I;have a0:∀{b:Addr}{o:Obj},J.heap.get? b=some o->H b=none->(xU J.heap H).get? b=some o:=λe n=>J6 e n;have a8:∀{b:Addr}{o:Obj}{es:Array DictEntry}{ep:Nat},J.heap.get? b=some o->o.data= .dict es ep->H b=none:=λ{b o es ep} e d=>by
   cases q:H b with
   |none=>rfl
   |some u=>
    have N:b=a:=hA b (by rw[q];simp);subst N;rw[Z]at e;cases e;have d':Data.seq vs.toArray _=Data.dict es ep:=d;cases d'
  have a1:∀{b:Addr}{m:Str->Option Value},J.heap.Ns b m->(xU J.heap H).Ns b m:=λ{b m}⟨o,es,ep,e,d,r⟩=>⟨o,es,ep,a0 e (a8 e d),d,r⟩;have a7:K.In (xU J.heap H):=λb o e=>a0 (KX b o e) (by
   cases q:H b with
   |none=>rfl
   |some u=>
    have N:b=a:=hA b (by rw[q];simp);subst N;rw[I (by rw[q];simp)]at e;cases e)
  have hM:Mod K mg (xU J.heap H):=⟨a7,a1 Y,⟨mb,a1 U,b0⟩,let⟨mc,h1,h2⟩:=a5;⟨mc,a1 h1,h2⟩⟩;have e0:O6 P w K mg (xU J.heap H) acN [] J H:=⟨rfl,hM,λb o e=>Og e,Nat.le_of_eq (Ia _ _),trivial,λb U=>absurd (show b∈([]:List Addr)from U) (by simp),hok,.of_eq hg⟩;refine aeq ((F _ a7 (a1 Y)).run acN [] J H ⟨[.ref a],[]⟩ [.ref a] [.ref a] _ _ O e0 (a3 J (.ref a)) (.cons rfl .nil) (b1 H hO hS)) λr s' h=>?_;cases r with
  |error e=>exact(a9 H e s' h).elim
  |ok fl=>
   cases fl with
   |next=>exact aaq h
   |brk=>exact aaq h
   |cont=>exact aaq h
   |ret u=>
    obtain⟨v,H',os,bare,un,a4,r',q⟩:=h;have q':v= .bl true:=q;subst q';obtain rfl:u=abZ true:=r';refine⟨rfl,OldK.of_keep λb o e=>?_,os,bare⟩;cases q:H b with
    |none=>exact un.keep b o e q (by intro z;exact absurd (show b∈([]:List Addr)from z) (by simp)) (by simp)
    |some u=>
     rcases hO b with z|⟨ob,xs,z⟩
     .rw[q]at z;cases z
     .have z2:=un.frzs b ob _ z
      obtain⟨e1,_⟩:=hok b _ z;obtain⟨e2,_⟩:=a4 b _ z2;rw[e]at e1;cases e1;exact e2
 cases B:K.lookup a with
 |some o=>
  have e:=KX a o B;rw[Z]at e;cases e;refine a2 (λ_=>none) (λ_=>.inl rfl) (.inr ⟨_,vs.toArray,_,B,rfl,rfl,rfl,by rw[List.size_toArray,a6];exact hl,by simpa using rv⟩) (λb u z=>by have z':(none:Option HO)=some u:=z;cases z') (λb z=>absurd rfl z) λz=>absurd rfl z
 |none=>
  refine a2 (λb=>if b=a then some (.frz {cls:=.type "list",data:=.seq vs.toArray} (.lst (ns.map V.int)))else none) (λb=>?_) (.inl (.inr ⟨{cls:=.type "list",data:=.seq vs.toArray},Xu rfl⟩)) (λb u z=>?_) (λb z=>?_) λ_=>B
  .by_cases U:b=a
   .exact .inr ⟨_,_,Xu U⟩
   .exact .inl (Xz U)
  .by_cases U:b=a
   .have z':=(Xu U).symm.trans z
    cases z';subst U;exact⟨Z,by rw[Xq];exact hl,vs,_,rv,Z⟩
   .have z':=(Xz U).symm.trans z
    cases z'
  .by_cases U:b=a
   .exact U
   .exact absurd (Xz U) z
theorem walk_of{l:adf}{k:Nat}{q:X7}{a1:List Str}{d:DefRec}{K:Params->Xl}{CX:World->CXT}{sp:World->Sp}
  (hn:l.most=some n) (I:n<=Xp) (a5:d.params.defaults=[]) (O:jq k acN)
  (hY:∀(w:World)(h:Heap),YP w h->(K w.params).In h)
  (F:∀(w:World)(mg:Str->Option Value)(fa:Addr)(h:Heap),(K w.params).In h->h.Ns XH mg->mg d.name=some (.ref fa)->
   ∃fd:Yu,(∀(s:zb)(u:Value),adC s fd ⟨[u],[]⟩ [(x,u)])/\
    ∀base:Heap,(K w.params).In base->base.Ns XH mg->gw l.prog w (K w.params) mg base (CX w) k fa fd [x] (sp w))
  (Z:∀(w:World)(H:Hp)(a:Addr)(ns:List Int),ns.length<=n->Only H->SqL (K w.params) H a (ns.map V.int)->sp w [.ref a] H (λv _=>v= .bl true) λ_ _ _=>False)
  (a4:∀(w:World)(H:Hp)(s:zb)(e:Value)(s':zb),CX w [] H s (λ_ _ _=>False) e s'->False) :
  afn q a1 XP YP l.row.toRowW d [] (λf vs=>ae7 f vs):=by
 refine Att.attach_call hn a5 λw s₀ J mg mb fa o pm cd B a vs ns G Y N hd a7 a6 a3 a2 a0 hg=>?_;have KX:=hY w _ Y;obtain⟨fd,U,hF⟩:=F w mg fa _ KX G.T.g a6;exact KQ KX G.T.g G.T.b G.T.builtins G.T.nolimit hg a3 a2 (Yz a0 I) O hF U (λH hO hS=>Z w H a ns a0 hO hS) λH e s'=>a4 w H J e s'
def cH(s:Stmt):Arguments:=match s with
 |.FunctionDef _ a _ _ _ _ _ _ _ _=>a
 |_=>{posonlyargs:=[],args:=[],vararg:=none,kwonlyargs:=[],kw_defaults:=[],kwarg:=none,defaults:=[]}
def bT(s:Stmt):List Stmt:=match s with
 |.FunctionDef _ _ b _ _ _ _ _ _ _=>b
 |_=>[]
def aK(s:Stmt):Scope:=match s with
 |.FunctionDef _ _ _ _ _ _ I _ _ _=>I
 |_=>{kind:=.function,names:=[],isGenerator:=false,isCoroutine:=false}
abbrev CX0:CXT:=λ_ _ _ _ _ _=>False
abbrev E0:XK:=λ_ _ _=>False
variable{X:Cx}
theorem Vf:BL CX0 X E0:=λ_ _ _ _ _ _ _ h=>h.elim
structure Fun(K:PySem.W.Frag)(x qual:Str)(st:Stmt)(f:Addr)(fd:FuncData):Prop where
 ex:∃(oc:Value)(od:Option Addr)(kV doc pm:Value)(an:Option Addr)(cdv ct:Value)(osl:Array (Option Value)),
  fd=abh x qual (cH st) (bT st) (aK st) .none kV doc pm an cdv ct/\K.lookup f=some ⟨oc,od,.func fd,osl⟩/\adD K cdv qual=true
 kp:ab_ K (.ref f)=true
section
variable{P:Program}{w:World}{K:PySem.W.Frag}{mg:Str->Option Value}{base:Heap}
theorem Fun.ok{x Y:Str}{st:Stmt}{f:Addr}{fd:Yu}{N ps:List Str}{k:Nat}{sp:Sp}(F:Fun K x Y st f fd)(S:cD N ps (aK st))(len:∀vs H Q E,sp vs H Q E->vs.length=ps.length)
  (a0:∀(I:Value)(A:Yy)(outer:List Env)(s:zb)(H:Hp)(vs:List V)(Q:VK)(E:XK),jq k (A.deeper (abA Y (aK st) s.heap.objs.size f I))->sp vs H Q E->
   ∃t,PSs (Bp CX0 P w K mg base N Y (aK st) f I A outer s H E).nox (bT st) t/\t {nx:=λ_ H'=>Q .non H',rt:=Q} (start N vs) H):gw P w K mg base CX0 (k+1) f fd ps sp:=by
 obtain⟨J,od,kV,B,pm,an,I,ct,a1,rfl,lk,U⟩:=F.ex;refine Vi lk U S len λA outer s H vs Q E O Z=>?_;obtain⟨t,h,q⟩:=a0 I A outer s H vs Q E O Z;exact⟨t,h.nox,q⟩
theorem Fun.binds{x Y:Str}{st:Stmt}{f:Addr}{fd:Yu}{ps:List Str}(F:Fun K x Y st f fd)
  (h:∀(kV B pm:Value)(N:Option Addr)(I ct:Value)(us:List Value),us.length=ps.length->bindArgs (abh x Y (cH st) (bT st) (aK st) .none kV B pm N I ct) ⟨us,[]⟩=pure (ps.zip us)):Binds K fd ps []:=by
 obtain⟨J,O,kV,B,pm,N,I,ct,q,rfl,V,U⟩:=F.ex;exact .all (h kV B pm N I ct)
theorem fO{x Y:Str}{st:Stmt}{f:Addr}{J:Value}{O N:Option Addr}{q:Array (Option Value)}{kV B pm I ct:Value}(l:K.lookup f=some ⟨J,O,.func (abh x Y (cH st) (bT st) (aK st) .none kV B pm N I ct),q⟩)
 (c:adD K I Y=true) (k:ab_ K (.ref f)=true):Fun K x Y st f (abh x Y (cH st) (bT st) (aK st) .none kV B pm N I ct):=⟨⟨J,O,kV,B,pm,N,I,ct,q,rfl,l,c⟩,k⟩
end
theorem pv(i:Nat)(Y:X.N[i]? =some x:=by rfl)(B:Vis X.env.scope x:=by first|exact ZZ rfl|exact Ze (ZZ rfl)|exact Ze (Ze rfl))(hd:1.23=false:=by decide)
 (U:(x==("__classdict__":Str))=false:=by decide):PE X (.Name x pos) (Jm i):=IK Y B hd U
theorem v4{A B:Prop}(h:B):if false=true then A else B:=by
 rw[Xz X6];exact h
theorem qU{A B:Prop}(h:A):if true=true then A else B:=by
 rw[Xu rfl];exact h
def Same(H H':Hp):Prop:=∀b o,H b=some o->H' b=some o
theorem Same.refl(H:Hp):Same H H:=λ_ _ h=>h
theorem Same.trans{H H1 H2:Hp}(a:Same H H1)(b:Same H1 H2):Same H H2:=λc o h=>b c o (a c o h)
theorem Same.free{H H':Hp}(e:Same H H'){l:Addr}(h:H' l=Option.none):H l=Option.none:=by
 cases q:H l with
 |none=>rfl
 |some o=>
  rw[e l o q]at h;cases h
theorem Hm:dO X (.builtin "len") (λxs H Q=>∃a kvs,xs=[V.ref a]/\H a=some (.dK kvs)/\Q (.int kvs.length) H):=by
 intro pins s σ H xs us Q I r h;obtain⟨a,kvs,rfl,Z,q⟩:=h;obtain⟨u,rfl,O⟩:=vals1 r;cases O;exact U6 I (.inl Z) λt s' B=>⟨.int kvs.length,H,B,⟨t,rfl⟩,q⟩
end L2
set_option maxHeartbeats 4000000
namespace Jb
open PySem PySem.Spec PyProof.Rows L2
structure Cal(P:Program)(w:World)(K:PySem.W.Frag)(mg:Str->Option Value)(base:Heap)(k:Nat)(x:Str)(ps:List Str)(sp:Sp):Prop where
 ex:∃f fd,gw P w K mg base CX0 k f fd ps sp/\mg x=some (.ref f)/\ab_ K (.ref f)=true/\Binds K fd ps []
variable{X:Cx}{t:TA}{p:Pos}{k:Nat}
theorem Nb{sp:Sp}(C:Cal X.prog X.w X.K X.mg X.base k x ps sp)(O:jq k X.A)(N:Gl X x)(Z:PA X (e::es) t)
  (q:1.23=false:=by decide) (V:Xy (e::es) X.env=(false,eval e X.env)::Xy es X.env:=by rfl) (I:(ZK pos (Xy es X.env)).any (·.1)=false:=by rfl) :
  PE X (.Call (.Name x p) (e::es) [] pos) (Rm sp [] E0 t):=by
 obtain⟨f,fd,F,J,B,U⟩:=C.ex;exact Px F O N J B U .nil Vf Z q V I
theorem Vl{n:String}(F:Gl X x)(J:X.mg x=none)(B:Zu x=some (.type n))(hn:x≠"__name__":=by decide)(hd:1.23=false:=by decide):PE X (.Name x pos) (tC (.ty n)):=
 Pn F J B rfl hn hd
def Vj(_ j:Int):Prop:=0<j/\j<18446744073709551616
theorem Ni:OpR X (Zh .FloorDiv) (rI Vj λi j=>.int (i / j)):=opI λi j _ _ _ _ _ Y q=>by
 have h1:(0:Int)<j:=Y.1;have h2:j<18446744073709551616:=Y.2;have O:j.natAbs<2 ^ 64:=by omega
 have F:j.natAbs≠0:=by omega
 have Z:j.natAbs.log2<64:=(Nat.log2_lt F).mpr O;exact floordiv_int 1.10 (by rw[Int.fdiv_eq_ediv_of_nonneg i 1.10];exact q) (.inl (PyProof.noPylong_of_log2 1.10))
variable{b:Expr}
theorem zu:dO X (.builtin "isinstance") (λxs H Q=>∃x n t b,xs=[x,.ty n]/\lW X.K H x t/\ab9 X.K t (.type n)=some b/\Q (.bl b) H):=by
 intro pins s σ H xs us Q I r h;obtain⟨x,n,t,b,rfl,U,e,q⟩:=h;obtain⟨u,B,rfl,N,O⟩:=vals2 r;cases O;exact GJ I N U e λtk=>⟨.bl b,H,I.tok tk,rfl,q⟩
variable{H:Hp}
theorem Same.new{q:Addr}{o:HO}(h:H q=none):Same H (L2.upd H q o):=λb u e=>by rw[aJ (aY e h)];exact e
theorem CT{l:List α}{f:α->β->Sem (ForInStep β)}(g:β->α->β):∀(q:β),(∀x∈l,∀c,f x c=pure (.yield (g c x)))->forIn l q f=pure (l.foldl g q):=by
 induction l with
 |nil=>intro q _;rfl
 |cons x r U=>
  intro q h;rw[adg,h x X_ q];show(pure (aag (g q x)) >>=_)=_;rw[pure_bind];exact U (g q x) λy V c=>h y (XQ _ V) c
def nW(env:Env)(q:List (Str×Addr))(y:Str×abM):List (Str×Addr):=if y.2== .free then(y.1,(env.cells.lookup y.1).getD 0)::q else q
def oY(scope:Scope)(env:Env):List (Str×Addr):=scope.names.foldl (nW env) []
theorem j7(h:∀y∈scope.names,y.2= .free->∃c,env.cells.lookup y.1=some c):closureFor scope env=pure (oY scope env):=by
 unfold closureFor;dsimp only;rw[CT (nW env) [] λy V c=>?_]
 .rw[pure_bind]
  rfl
 .obtain⟨n,k⟩:=y
  unfold nW;dsimp only;by_cases B:(k==ad8)=true
  .rw[Xu B,Xu B]
   obtain⟨a,Z⟩:=h (n,k) V (by simpa using B);have Z:env.cells.lookup n=some a:=Z;unfold cellOf;rw[Z];rfl
  .rw[Xz B,Xz B]
theorem wR(R:Str->Addr->Prop):∀(l:List (Str×abM))(acc:List (Str×Addr)),(∀x c,acc.lookup x=some c->R x c)->(∀y∈l,y.2= .free->R y.1 ((env.cells.lookup y.1).getD 0))->
  ∀x c,(l.foldl (nW env) acc).lookup x=some c->R x c
 |[],acc,h,_=>h
 |y::r,acc,h,hy=>by
  refine wR R r (nW env acc y) (λx c e=>?_) λz Y=>hy z (XQ _ Y);unfold nW at e;split at e
  .rename_i hk
   rw[acU]at e;cases J:(x==y.1)with
   |true=>
    rw[J]at e;have ex:x=y.1:=by simpa using J
    cases e;rw[ex];exact hy y X_ (by simpa using hk)
   |false=>
    rw[J]at e;exact h x c e
  .exact h x c e
theorem rm{env:Env}:∀(l:List (Str×abM))(acc:List (Str×Addr))(x:Str),((∃c,acc.lookup x=some c)∨(x,ad8)∈l)->∃c,(l.foldl (nW env) acc).lookup x=some c
 |[],acc,x,h=>by
  rcases h with h|h
  .exact h
  .cases h
 |y::r,acc,x,h=>by
  refine rm r (nW env acc y) x ?_;rcases h with⟨c,h⟩|h
  .left
   unfold nW;split
   .rw[acU]
    cases J:(x==y.1)with
    |true=>exact⟨_,rfl⟩
    |false=>exact⟨c,h⟩
   .exact⟨c,h⟩
  .rcases Xj.mp h with e|e
   .left
    unfold nW;subst e;rw[Xu (by rfl),acU,show(x==x)=true by simp];exact⟨_,rfl⟩
   .exact .inr e
def bD(X:Cx)(N':List Str)(scope:Scope)(C:Addr)(Z:zb)(q:Hp)(fp:List Addr):Cx:=
 {X with N:=N',s₀:=Z,H₀:=q,env:=compEnvC scope (oY scope X.env) C X.env,outer:=X.stack,stack:=X.stack,ex:=fp,fn:=λ_=>false,pn:=[],xe:=λ_ _=>False}
def fH(cap:List (Option Nat))(σ:L2.St):L2.St:=cap.map λo=>o.bind λj=>(σ[j]?).bind id
structure cN(sc:Scope)(N N':List Str)(scope:Scope)(cap:List (Option Nat)):Prop where
 kind:scope.kind= .function
 nocell:∀y∈scope.names,y.2≠.cell
 nm:∀y∈scope.names,y.2= .local->scope.names.lookup y.1=some .local
 free:∀y∈scope.names,y.2= .free->sc.names.lookup y.1=some .cell∨sc.names.lookup y.1=some .free
 len:cap.length=N'.length
 cap:∀i∈X3 cap.length,∀j∈X3 N.length,cap[i]? =some (some j)->N[j]? =N'[i]?/\∀x∈N'[i]?,scope.names.lookup x=some .free
theorem mJ{l:List (Str×α)}{k:α}(h:l.lookup x=some k):(x,k)∈l:=Z5 h
theorem qj{k:abM}(B:(relabel scope env).names.lookup x=some k)(I:k= .cell∨k= .free)(F:∀y∈scope.names,y.2≠.cell):(x,ad8)∈scope.names:=by
 have h:=mJ B;obtain⟨⟨n,q⟩,J,e⟩:=zc.mp h;dsimp only at e;split at e
 .rename_i hc
  cases e;have:q= .free:=by
   have:=(adV.mp (adV.mp hc).1).1;simpa using this
  subst this;exact J
 .cases e
  rcases I with z|z
  .subst z;exact absurd rfl (F _ J)
  .subst z;exact J
variable{σ:L2.St}{cap:List (Option Nat)}
theorem jg(I:Inv X pins σ H s)(O:cN X.env.scope X.N N' scope cap){c:Addr}(h:(oY scope X.env).lookup x=some c):X.env.cells.lookup x=some c:=by
 refine wR (λx c=>X.env.cells.lookup x=some c) scope.names [] (λx c e=>by simp at e) (λy V B=>?_) x c h;obtain⟨c,e⟩:=I.ok.has y.1 (O.free y V B);rw[e];rfl
variable{C:Addr}
theorem QK(I:Inv X pins σ H s)(O:cN X.env.scope X.N N' scope cap)(B:∀b∈fp,jG X pins H b)(Y:∀b∈fp,b<s.heap.objs.size)(F:s.heap.objs.size<=C):(bD X N' scope C s H fp).Ok where
 mod:=I.ok.mod
 kind:=O.kind
 glob:=I.ok.glob
 blt:=I.ok.blt
 above:=F
 inj:=λx y c h1 h2=>I.ok.inj x y c (jg I O h1) (jg I O h2)
 has:=λx h=>by
  refine rm scope.names [] x (.inr ?_);rcases h with h|h
  .exact qj h (.inl rfl) O.nocell
  .exact qj h (.inr rfl) O.nocell
 cab:=λx c h _=>by cases h
 hd:=I.ok.hd
 frames:=I.ok.frames
 stk:=.inl rfl
 exf:=λb U=>⟨XS (XC (Y b U) F),λx c e=>(B b U).2.2.2.2.1 x c (jg I O e)⟩
 bs:=I.bs
 bsz:=Yz I.ok.bsz I.sz
 noex:=λb o e U=>by
  rcases(B b U).2.2.2.1 with z|z
  .exact I.ok.noex b o e z
  .exact absurd (XC (Xm (I.ok.bs b o e).1) z) (YQ _)
 exfs:=λb U z=>by
  rcases Xj.mp (I.stkSub b z)with q|q
  .exact(B b U).2.1 q
  .exact(B b U).2.2.1 q
 funs:=I.stack
 frf:=I.stkFree
theorem zz{V:Heap}{D:Addr}(I:Inv X pins σ H s)(O:cN X.env.scope X.N N' scope cap)(hf:∀b∈fp,jG X pins H b)(b0:∀b∈fp,b<s.heap.objs.size)
  (hC:s.heap.objs.size<=C) (hD:s.heap.objs.size<=D) (a7:D≠C) (B:∀b u,s.heap.get? b=some u->V.get? b=some u) {m:Str->Option Value} (a9:V.Ns C m) (a8:V.get? D=some o) (b2:∀v,o.data≠.cell v) :
  Inv (bD X N' scope C s H fp) [(D,o)] (fH cap σ) H {s with heap:=V,toks:=tk}where
 ok:=QK I O hf b0 hC
 os:=rfl
 bare:=I.bare
 base:=Un.kept B
 loc:=by
  refine⟨m,a9,λi x v e1 e2 e3=>?_⟩;have e1:N'[i]? =some x:=e1;unfold fH at e2;rw[List.getElem?_map]at e2;cases Y:cap[i]? with
  |none=>rw[Y]at e2;cases e2
  |some q=>
   rw[Y]at e2;cases q with
   |none=>cases e2
   |some j=>
    have e2:(σ[j]?).bind id=some v:=Yn e2;have a3:σ[j]? =some (some v):=by
     cases z:σ[j]? with
     |none=>rw[z]at e2;cases e2
     |some y=>
      rw[z]at e2;have:y=some v:=e2;rw[this]
    have hi:i<cap.length:=(qb.mp Y).1;have hj:j<X.N.length:=by
     have:=(qb.mp a3).1;rw[I.len]at this;exact this
    obtain⟨c1,c2⟩:=O.cap i (YF.mpr hi) j (YF.mpr hj) Y;have a6:scope.names.lookup x=some .free:=c2 x (by rw[e1];rfl);have hN:X.N[j]? =some x:=c1.trans e1;have a0:=mJ a6;have a2:Vis X.env.scope x:=(O.free _ a0 rfl).elim (λz=>.inr (.inl z)) λz=>.inr (.inr z);obtain⟨m0,_,Z⟩:=I.loc;obtain⟨u,r,lk⟩:=Z j x v hN a3 a2;refine⟨u,r,?_⟩;rcases lk with⟨k,_⟩|⟨_,c,ec,a1⟩
    .have k:X.env.scope.names.lookup x=some .local:=k
     rcases O.free _ a0 rfl with z|z
     .rw[k]at z;cases z
     .rw[k]at z;cases z
    .right
     obtain⟨c',a5⟩:=rm (env:=X.env) scope.names [] x (.inr a0);have a4:=jg I O a5;rw[ec]at a4;cases a4;refine⟨?_,c,a5,?_⟩
     .have e3:Vis (relabel scope X.env) x:=e3
      rcases e3 with e3|e3|e3
      .exfalso
       have J:=mJ e3;obtain⟨⟨n,q⟩,b1,e⟩:=zc.mp J;dsimp only at e;split at e
       .cases e
       .cases e
        have:=O.nm _ b1 rfl;rw[a6]at this;cases this
      .exact .inl e3
      .exact .inr e3
     .obtain⟨oc,h1,h2⟩:=a1
      exact⟨oc,B _ _ h1,h2⟩
 cell:=λx c e=>by
  obtain⟨v,oc,h1,h2⟩:=I.cell x c (jg I O e);exact⟨v,oc,B _ _ h1,h2⟩
 free:=I.hok.fresh hC
 freeC:=λx c e=>I.freeC x c (jg I O e)
 pin:=λp F=>by
  have e:p=(D,o):=by simpa[bD]using F
  subst e;refine⟨a8,I.hok.fresh hD,a7,λz=>?_,b2⟩;obtain⟨b,U,e⟩:=aci.mp z;have hz:D∈X.env.locals::X.fs:=I.stkSub D z;rcases Xj.mp hz with q|q
  .exact absurd (XC (by rw[q];exact I.lt) hD) (YQ _)
  .exact I.nofs hD q
 hok:=I.hok.kept B
 len:=by
  unfold fH;rw[Xq];exact O.len
abbrev NoX:Value->zb->Prop:=λ_ _=>False
variable{R:Result->Shared->Prop}
theorem yM{iter:Expr}{it acc:Value}(I:Nat->zb->Prop)
  (turn:∀n s,I n s->wpAny 1.13 A (aaa it) (λr J=>match r with
   |none=>R (.ok .next) J
   |some v=>wpAny 1.13 A (aa9 target it v) (λ_ O=>wpAny 1.13 A (abf target env v) (λ_ Z=>
    wpAny 1.13 A (forIn ifs true λc r=>if r=true then do let ok ←adz c env (eval c env);pure (aag ok)else pure (aag r)) (λok q=>
     if ok=true then wpAny 1.13 A (eval elt env) (λx F=>wpAny 1.13 A (call (.builtin "list.append") [acc,x]) (λ_ Y=>∃m,m<n/\I m Y) NoX F) NoX q
     else ∃m,m<n/\I m q) NoX Z) NoX O) NoX J) NoX s)
  (n:Nat) (h:I n s):aaH 1.13 A (.compLoop 1.14 0 it acc env) R s:=by
 refine codeAny_loop rfl I (λn s B=>?_) n h;show wpAny _ A ((compTurn 1.14 0 it acc env).onRaise (λx=>do noteFrame x env;theTreesLotGoes x)) _ _ s;refine wpAny_noted ?_;rw[compTurn_list];refine gD (aaF (gD (Y9 (turn n s B) (λr J V=>?_) λ_ _ h'=>h'.elim)));cases r with
 |none=>exact Xg V
 |some v=>
  refine gD (Y9 V (λ_ O N=>?_) λ_ _ h'=>h'.elim);refine gD (Y9 N (λ_ Z a2=>gD (Y9 a2 (λok q U=>?_) λ_ _ h'=>h'.elim)) λ_ _ h'=>h'.elim);cases ok with
  |false=>exact Xg ⟨rfl,U⟩
  |true=>
   exact gD (gD (Y9 U (λx F a1=>gD (Y9 a1 (λ_ Y a0=>Xg (Xg ⟨rfl,a0⟩)) λ_ _ h'=>h'.elim)) λ_ _ h'=>h'.elim))
def PTs(X:Cx)(ifs:List Expr)(t:TT):Prop:=
 ∀(pins:List (Addr×Obj))(s:zb)(σ:L2.St)(H:Hp)(Q:Bool->Hp->Prop),Inv X pins σ H s->t σ H Q->
  wpAny 1.11 X.A (forIn ifs true λc r=>if r=true then do let ok ←adz c X.env (eval c X.env);pure (aag ok)else pure (aag r)) (TP X pins σ Q) X.xe s
def Vb:TT:=λ_ H Q=>Q true H
theorem O5:PTs X [] Vb:=λ_ _ _ H _ I h=>wpAny_tests_nil ⟨H,I,h⟩
theorem PX{t:TT}(h:PT X c t):PTs X [c] t:=λpins s σ H Q I q=>wpAny_tests_one (h pins s σ H Q I q)
def Kp(σ q:L2.St):Prop:=∀(i:Nat) v,σ[i]? =some (some v)->q[i]? =some (some v)
def Q3(J:It)(H:Hp)(g:TG)(tt:TT)(te:TE)(σ:L2.St)(Q:List V->Hp->Prop):Prop:=
 ∃W:Nat->Nat->List V->Hp->Prop,(∃m,W 0 m [] H)/\∀i m ys H,W i m ys H->
  (J.stop i H/\Q ys H)∨(J.go i H/\ys.length<Xp/\∃N:List V->Hp->Prop,(∀q H',N q H'->∃O,O<m/\W (i+1) O q H')/\
   ∀x H',J.yld i H x H'->g x σ H' λσ2 H2=>Kp σ σ2/\tt σ2 H2 λb I=>if b=true then te σ2 I λv B=>N (ys++[v]) B else N ys I)
def Fo(cap:List (Option Nat))(wi:TI)(g:TG)(tt:TT)(te:TE):TE:=λσ H Q=>wi σ H λJ H1=>
 Q3 J H1 g tt te (fH cap σ) λys H2=>ys.length<=Xp/\∀D,H2 D=none->Q (.ref D) (upd H2 D (.lst ys))
section
variable{X:Cx}{elt target iter:Expr}{ifs:List Expr}{scope:Scope}{pos:Pos}{N':List Str}{cap:List (Option Nat)}{wi:TI}{g:TG}{tt:TT}{te:TE}
def lobj(B:List Value)(n:Nat):Obj:={cls:=.type "list",data:=.seq B.toArray n}
theorem ut{pins:List (Addr×Obj)}{σ:L2.St}{H:Hp}{Z:zb}{it:Addr}{fp:List Addr}{tn:Nat->Heap->Prop}{J:It}{Q:List V->Hp->Prop}{RR:Value->Addr->Result->zb->Prop}{E:Value->zb->Prop}
  (Y:X.calm=true) (O:cN X.env.scope X.N N' scope cap) (I:Inv X pins σ H Z) (T:Turn X.prog X.w X.K target J fp it tn) (st:tn 0 Z.heap) (f2:∀b∈fp,jG X pins H b)
  (hg:∀C,PG 1.18 target g) (ht:∀C,PTs 1.18 ifs tt) (he:∀C,PE 1.18 elt te) (cw:Q3 J H g tt te (fH cap σ) Q)
  (c5:∀(D C:Addr)(s':zb)(H':Hp)(ys:List V)(B:List Value)(n:Nat)(b0:L2.St),Z.heap.objs.size<=D->Z.heap.objs.size<=C->D≠C->Inv 1.18 [(D,lobj B n)] b0 H' s'->Vals ys B->Q ys H'->
   RR (.ref D) C (.ok .next) s') :
  wpAny 1.11 X.A (acO []) (λacc b4=>wpAny 1.11 X.A (newFunctionEnv scope X.env.globals (oY scope X.env) [] X.env.qual none .none (some X.env)) (λb1 b7=>
   aaH 1.11 X.A (.compStart 1.14 0 (.ref it) acc {b1 with scope:=relabel scope X.env}) (RR acc b1.locals) b7) E b4) E Z:=by
 refine YX (adW O.nocell (by intro y hy;simp at hy) (λa2 a1 a0=>?_) O.kind);dsimp only at a1 a0⊢;generalize b3:Z.heap.push {cls:=.type "list",dict:=none,data:=.seq ([]:List Value).toArray}=H2 at a1 a0⊢;have hC:H2.objs.size=Z.heap.objs.size+1:=by rw[←b3,YM]
 have a4:Z.heap.objs.size≠H2.objs.size:=by rw[hC];exact XS (abN _)
 have a3:Z.heap.objs.size<=H2.objs.size:=by rw[hC];exact adu _
 have b8:∀b o,Z.heap.get? b=some o->a2.get? b=some o:=λb o e=>a0.extBut b o (by rw[hC];exact XS (abu (Xm e))) (za _ (b3▸za _ e));have c2:a2.get? Z.heap.objs.size=some (lobj [] 0):=a0.extBut _ _ a4 (za _ (b3▸Xr _ rfl));have a9:∀b∈fp,b<Z.heap.objs.size:=λb U=>by
  obtain⟨o,e,_⟩:=T.obj 0 _ st b U;exact Xm e
 have I1:=zz (tk:=Z.toks+([]:List (Str×Value)).length) I O f2 a9 a3 (Xn _) a4 b8 a1 c2 (λv z=>by cases z);have c0:tn 0 a2:=T.keep _ _ _ st λb _ o e=>b8 b o e;obtain⟨W,⟨m0,w0⟩,turn⟩:=cw;generalize hD:Z.heap.objs.size=D at *
 generalize c7:H2.objs.size=C at *
 have a6:∀{H':Hp}{o:Obj},(∀b∈fp,H' b=none)->∀b∈fp,jG 1.18 [(D,o)] H' b:=λ{H' o} hn b U=>by
  refine⟨hn b U,XS (XC (a9 b U) a3),I1.ok.exfs b U,.inl U,(I1.ok.exf b U).2,λp hp=>?_⟩;have e:p=(D,o):=by simpa[bD]using hp
  subst e;exact Y4 (a9 b U)
 have b2:aaH 1.11 X.A (.compLoop 1.14 0 (.ref it) (.ref D) (compEnvC scope (oY scope X.env) C X.env)) (RR (.ref D) C) {Z with heap:=a2,toks:=Z.toks+([]:List (Str×Value)).length}:=by
  refine yM (λn s'=>∃i ys B k H',Inv 1.18 [(D,lobj B k)] (fH cap σ) H' s'/\Vals ys B/\tn i s'.heap/\(∀b∈fp,H' b=none)/\W i n ys H') ?_ m0 ⟨0,[],[],0,H,I1,.nil,c0,λb U=>(f2 b U).1,w0⟩;rintro n s3 ⟨i,ys,B,k,H3,I3,rv,b9,b6,w3⟩;rcases turn i n ys H3 w3 with⟨stop,qn⟩|⟨go,hsz,N,hN,step⟩
  .refine thn (T.done 1.18 rfl rfl rfl Y i _ s3 _ H3 NoX I3 (a6 b6) b9 stop) λr s4 ⟨hr,I4⟩=>?_
   subst hr;exact c5 D C s4 H3 ys B k _ (Xn _) a3 a4 I4 rv qn
  .refine thn (T.item 1.18 rfl rfl rfl Y i _ s3 _ H3 NoX I3 (a6 b6) b9 go) λr s4 ⟨u,hr,h4⟩=>?_
   subst hr;refine thn h4 λ_ s5 ⟨x,H5,I5,r5,y5,a7,c3⟩=>?_;have c4:=I5.pinned (a6 c3) (T.obj _ _ a7);refine thn (hg C _ s5 _ H5 x u _ c4 r5 (step x H5 y5)) λ_ s6 ⟨a5,H6,I6,b5,q6⟩=>?_;refine thn (ht C _ s6 a5 H6 _ I6 q6) λok s7 ⟨H7,I7,q7⟩=>?_;have a8:∀{s':zb}{H':Hp}{b0:L2.St},Inv 1.18 ([(D,lobj B k)]++j6 fp s5.heap) b0 H' s'->tn (i+1) s'.heap/\∀b∈fp,H' b=none:=λ{s' H' b0} Ix=>by
    refine⟨T.keep _ _ _ a7 λb U o e=>(Ix.pin (b,o) (Xf _ (Xf _ (cW U e)))).1,λb U=>?_⟩;obtain⟨o,e,d⟩:=T.obj _ _ a7 b U;exact(Ix.pin (b,o) (Xf _ (Xf _ (cW U e)))).2.1
   have c1:(fH cap σ).length=a5.length:=by rw[I6.len,I1.len]
   cases ok with
   |false=>
    have n7:N ys H7:=by simpa using q7
    obtain⟨m',hm,w7⟩:=hN _ _ n7;exact⟨m',hm,i+1,ys,B,k,H7,I7.unpinned.weak c1 b5,rv,(a8 I7).1,(a8 I7).2,w7⟩
   |true=>
    have q7:te a5 H7 λv H4=>N (ys++[v]) H4:=by simpa using q7
    refine thn (he C _ s7 a5 H7 _ I7 q7) λu8 s8 ⟨v,H8,I8,r8,n8⟩=>?_;obtain⟨eD,nD,_,c6,_⟩:=I8.pin (D,lobj B k) (Xf _ (Xo _ X_));have lv:=rv.length;refine acI aeu ⟨_,eD,rfl⟩ aed (adU _ _) (aeJ D B.toArray k u8 (by rw[List.size_toArray];omega)) ⟨eD,?_⟩;obtain⟨m',hm,w8⟩:=hN _ _ n8;obtain⟨k',eN⟩:∃k',(s8.heap.update D (Zi (·.push u8))).get? D=some (lobj (B++[u8]) k'):=by
     have q:=aaW eD (·.push u8);dsimp only at q;rw[aeL]at q;exact⟨_,q⟩
    have I9:Inv 1.18 (j6 fp s5.heap) a5 H8 {s8 with heap:=s8.heap.update D (Zi (·.push u8))}:=by
     refine Inv.turned (it:=D) (t':=s8.toks) (I8.pins_of λp hp=>I8.pin p (Xf _ (Xf _ hp))) (λb o U e=>(Yd s8.heap (Zi _) (Ne.symm U)).trans e) nD a4 (.inr (by rw[←hD];exact Xn _)) (λx c e z=>?_) (λp hp z=>?_)
     .obtain⟨vc,oc,h1,_⟩:=I.cell x c (jg I O e)
      have hh:=Xm h1;rw[z,hD]at hh;exact YQ _ hh
     .have hp:p∈j6 fp s5.heap:=hp
      have hh:=a9 p.1 (qH hp).1;rw[z]at hh;exact YQ _ hh
    refine⟨m',hm,i+1,ys++[v],B++[u8],k',H8,(I9.weak c1 b5).pins_of (λp hp=>?_),rv.append (.cons r8 .nil),?_,λb U=>?_,w8⟩
    .have e:p=(D,lobj (B++[u8]) k'):=Xv.mp hp
     rw[e];exact⟨eN,nD,a4,c6,λv z=>by cases z⟩
    .exact T.keep _ _ _ a7 λb U o e=>(I9.pin (b,o) (Xf _ (cW U e))).1
    .obtain⟨o,e,d⟩:=T.obj _ _ a7 b U
     exact(I9.pin (b,o) (Xf _ (cW U e))).2.1
 exact codeAny_compStart_list b2 (T.self _ 0 _ _ _ c0 b2)
theorem DR(hx:X.xe=NoX)(Y:X.calm=true)(O:cN X.env.scope X.N N' scope cap)(hi:PI X target iter wi)
  (F:∀C Z H fp,PG 1.18 target g) (ht:∀C Z H fp,PTs 1.18 ifs tt) (V:∀C Z H fp,PE 1.18 elt te)
  (hs:∀x,YZ iter X.env x=pure x:=by intro _;rfl):PE X 1.14 (Fo cap wi g tt te):=by
 intro pins s σ H Q I h;rw[eval_ListComp];refine abk (use:=none) rfl hs (j7 λy hy hk=>I.ok.has y.1 (O.free y hy hk)) O.kind O.nm (thn (hi pins s σ H _ I h) λv s1 h1=>thn h1 λa5 s2 h2=>?_);obtain⟨it,fp,tn,J,H2,e,I2,T,a0,f2,cw⟩:=h2;subst e;refine ut (RR:=λacc C=>compPost 1.11 X.A X.xe none (EP X pins σ Q) acc C) Y O I2 T a0 f2 (λC=>F C _ _ _) (λC=>ht C _ _ _) (λC=>V C _ _ _) cw ?_;intro D C s' H' ys B n a4 hD hC a1 I' rv q;obtain⟨hz,q⟩:=q;obtain⟨m,a2,_⟩:=I'.loc;refine⟨m,a2,λh' sb=>?_⟩;obtain⟨eD,nD,_,a6,_⟩:=I'.pin (D,lobj B n) (Xf _ X_);have a3:Inv X pins σ (upd H' D (.lst ys)) {s' with heap:=h'}:=by
  refine I2.call' (ch:=fp) I'.os ?_ ?_ I'.bare (λb U=>⟨(f2 b U).2.2.2.1,(f2 b U).2.1,(f2 b U).2.2.2.2.1,(f2 b U).2.2.2.2.2⟩)
  .have ne:∀b o,s2.heap.get? b=some o->b≠C/\b≠D:=λb o e=>⟨XS (XC (Xm e) hC),XS (XC (Xm e) hD)⟩
   refine⟨λb o e n U V=>sb.extBut b o (ne b o e).1 (I'.base.keep b o e n U V),λb o e n U V=>?_,λb o e n V=>?_,λb o e V=>?_,λb xs e=>?_,λb o u e=>?_,λb ps e=>?_⟩
   .obtain⟨sl,e1⟩:=I'.base.slot b o e n U V
    exact⟨sl,sb.extBut b _ (ne b o e).1 e1⟩
   .rw[aJ (ne b o e).2]
    exact I'.base.free b o e n V
   .obtain⟨o',e1⟩:=I'.base.there b o e V
    exact⟨o',sb.extBut b _ (ne b o e).1 e1⟩
   .have e1:=I'.base.tups b xs e
    rw[aJ (aY e1 nD)];exact e1
   .have e1:=I'.base.frzs b o u e
    rw[aJ (aY e1 nD)];exact e1
   .obtain⟨more,e1⟩:=I'.base.tbls b ps e
    refine⟨more,?_⟩;rw[aJ (aY e1 nD)];exact e1
  .intro b u e
   by_cases U:b=D
   .subst U
    rw[aN]at e;cases e;exact⟨hz,B,n,rv,sb.extBut _ _ a1 eD⟩
   .rw[aJ U]at e
    have nC:∀b u,H' b=some u->b≠C:=λb u e z=>by
     have hf:H' C=none:=I'.free;rw[z,hf]at e;cases e
    refine(I'.hok b u e).stay (λc v Y q=>sb.extBut c v ?_ q) (λc q=>by rw[aJ (aY q nD)];exact q) λc xs q=>by rw[aJ (aY q nD)];exact q
    rcases Y with z|z
    .rw[z]
     exact nC b u e
    .exact nC c _ z
 exact⟨.ref D,_,a3,rfl,q D nD⟩
end
theorem S6{x:V}{t:Value}(I:Inv X pins σ H s)(rx:RelV x u)(U:lW X.K H x t):∃Hq,PySem.W.KitX X.K u t Hq/\Hq s.heap/\u≠.builtin "__main__.__loader__#opaque":=by
 cases U with
 |non=>cases (show u=Yg from rx);exact⟨_,aeG,YT,λz=>nomatch z⟩
 |bl y=>cases (show u=abZ y from rx);exact⟨_,aeH,YT,λz=>nomatch z⟩
 |int i=>obtain⟨t,q⟩:=(show ∃t,u=abS i t from rx);cases q;exact⟨_,aeX,YT,λz=>nomatch z⟩
 |str y=>obtain⟨t,q⟩:=(show ∃t,u=abe y t from rx);cases q;exact⟨_,aeY,YT,λz=>nomatch z⟩
 |flt y=>obtain⟨t,q⟩:=(show ∃t,u=aeT y t from rx);cases q;exact⟨_,aen,YT,λz=>nomatch z⟩
 |@lst a xs F=>
  cases (show u=X5 a from rx);obtain⟨_,_,n,_,h1⟩:=(show bZ X.prog X.w H s.heap a (.lst xs)from I.hok a _ F);exact⟨_,abq,⟨_,h1,rfl⟩,λz=>nomatch z⟩
 |@frz a ob xs F=>
  cases (show u=X5 a from rx);obtain⟨_,_,_,n,_,h1⟩:=(show bZ X.prog X.w H s.heap a (.frz ob (.lst xs))from I.hok a _ F);exact⟨_,abq,⟨_,h1,rfl⟩,λz=>nomatch z⟩
 |@tup a xs F=>
  cases (show u=X5 a from rx);obtain⟨_,_,_,p⟩:=(show bZ X.prog X.w H s.heap a (.tup xs)from I.hok a _ F);obtain⟨o,h1,h2,_⟩:=p;exact⟨_,aeo,⟨o,h1,h2⟩,λz=>nomatch z⟩
 |@dK a kvs F=>
  cases (show u=X5 a from rx);obtain⟨_,_,vs,_,p⟩:=(show bZ X.prog X.w H s.heap a (.dK kvs)from I.hok a _ F);obtain⟨o,es,ep,h1,h2,_⟩:=p;exact⟨_,abr,⟨o,h1,h2.1⟩,λz=>nomatch z⟩
 |@dT a kvs F=>
  cases (show u=X5 a from rx);obtain⟨_,_,xs,_,o,es,ep,h1,h2,_⟩:=(show bZ X.prog X.w H s.heap a (.dT kvs)from I.hok a _ F);exact⟨_,abr,⟨o,h1,h2.1⟩,λz=>nomatch z⟩
 |@ins a C dx fs F N Z hn B hm=>
  cases (show u=X5 a from rx);obtain⟨Y,O,_⟩:=DQ I.hok F;obtain⟨od,J,_⟩:=O.look;exact⟨_,aeZ (N.get _) N.hd Z hn B hm,J,λz=>nomatch z⟩
theorem DP:∀{F:List String}{us:List Value},Vals (F.map V.ty) us->us=F.map Y8
 |[],_,.nil=>rfl
 |t::r,_,.cons h q=>by cases (show _=Y8 t from h);rw[DP q];rfl
theorem yt:dO X (.builtin "isinstance") (λxs H Q=>∃x tp F t b,xs=[x,.ref tp]/\H tp=some (.tup (List.map V.ty F))/\lW X.K H x t/\acd X.K t (F.map Y8)=some b/\Q (.bl b) H):=by
 intro pins s σ H xs us Q I r h;obtain⟨x,tp,F,t,b,rfl,a0,U,e,q⟩:=h;obtain⟨u,w',rfl,N,r2⟩:=vals2 r;cases r2;obtain⟨Hq,Z,Y,hn⟩:=S6 I N U;obtain⟨_,B,J,o,h1,h2,n,O,_⟩:=(show bZ X.prog X.w H s.heap tp (.tup (F.map V.ty))from I.hok tp _ a0);rw[DP J]at O;obtain⟨cls,dd,data,sl⟩:=o;cases h2;cases O;exact PySem.W.kia_tup Z I.kIn Y h1 e hn λtk=>⟨.bl b,H,I.tok tk,rfl,q⟩
theorem wZ:∀(tk:Nat)(l:List Str),Vals (l.map V.str) (strsFrom tk l)
 |_,[]=>.nil
 |tk,x::r=>.cons ⟨_,rfl⟩ (wZ (tk+1) r)
def R5:V->List V->Hp->VK->Prop:=λx vs H Q=>∃(a b:Str)(l:List Str),x= .str a/\vs=[.str b]/\(decide (a.length<b.length)||decide (aa6 a<aa6 b))=false/\(b.length==0)=false/\
 (Yv a b 0 a.length (a.length+1)).isEmpty=false/\a.length<=Xp/\abl a (Yv a b 0 a.length (a.length+1)) b.length=l/\l.length<=Xp/\
 ∀p,H p=none->Q (.ref p) (upd H p (.lst (l.map V.str)))
theorem Nx:MtR X "str.split" R5:=by
 intro pins s σ H x vs v us Q I rx J h;obtain⟨a,b,l,rfl,rfl,B,V,N,U,rfl,O,q⟩:=h;obtain⟨t,rfl⟩:=rx;obtain⟨u,rfl,t',rfl⟩:=J.one;refine acI F.slot_str_split (typeIs_str s a t) F.entry_str_split (F.args_str_split_2 _ _) (meets_str_split_sep a b t t' B V N U O) ?_;exact⟨.ref s.heap.objs.size,_,I.lnew (wZ _ _) (by rw[Xq];exact O),rfl,q _ I.fresh⟩
inductive Dt where
 |non|bl (b:Bool)|int (i:Int)|str (x:Str)|lst (ds:List Dt)|tup (ds:List Dt)
mutual
noncomputable def eqD:Dt->Dt->Bool
 |.non,.non=>true
 |.bl a,.bl b=>a==b
 |.int a,.int b=>a==b
 |.bl a,.int b=>(if a then 1 else 0)==b
 |.int a,.bl b=>a==(if b then 1 else 0)
 |.str a,.str b=>a==b
 |.lst a,.lst b=>eqL a b
 |.tup a,.tup b=>eqL a b
 |_,_=>false
noncomputable def eqL:List Dt->List Dt->Bool
 |[],[]=>true
 |a::r,b::q=>eqD a b&&eqL r q
 |_,_=>false
end
mutual
noncomputable def Brs(K:Xl)(H:Hp):Dt->V->Prop
 |.non,v=>v= .non
 |.bl b,v=>v= .bl b
 |.int i,v=>v= .int i
 |.str x,v=>v= .str x
 |.lst ds,v=>∃a xs,v= .ref a/\SqL K H a xs/\kE K H ds xs
 |.tup ds,v=>∃a xs,v= .ref a/\SqT K H a xs/\kE K H ds xs
noncomputable def kE(K:Xl)(H:Hp):List Dt->List V->Prop
 |[],xs=>xs=[]
 |d::r,xs=>∃x ys,xs=x::ys/\Brs K H d x/\kE K H r ys
end
theorem kE.length{K:Xl}:∀{ds:List Dt}{xs:List V},kE K H ds xs->ds.length=xs.length
 |[],xs,h=>by
  have h:xs=[]:=by simpa[kE]using h
  rw[h];rfl
 |d::r,xs,h=>by
  obtain⟨x,ys,rfl,_,h⟩:=(by simpa[kE]using h:∃x ys,xs=x::ys/\Brs K H d x/\kE K H r ys);simp[kE.length h]
theorem xW:∀{ds es:List Dt},ds.length≠es.length->eqL ds es=false
 |[],[],h=>absurd rfl h
 |[],_::_,_=>by simp[eqL]
 |_::_,[],_=>by simp[eqL]
 |d::r,e::q,h=>by
  have:r.length≠q.length:=by simpa using h
  simp[eqL,xW this]
def eqJ(ds es:List Dt)(j:Nat):Bool:=eqD (ds.getD j .non) (es.getD j .non)
theorem yI:∀{ds es:List Dt},ds.length=es.length->(X3 ds.length).all (eqJ ds es)=eqL ds es
 |[],[],_=>by simp[eqL]
 |[],_::_,h=>by simp at h
 |_::_,[],h=>by simp at h
 |d::r,e::q,h=>by
  have h':r.length=q.length:=by simpa using h
  have U:=yI h';rw[XN,adv,aa0,aev,eqL];congr 1
theorem sZ{Z N vs:Value}{lo hi st:Option Int}{Q:Int×Int×Nat->zb->Prop}(hs:s.heap.IsSliceOf sl Z N vs)(U:aaT Z lo)(q:aaT N hi)(ps:aaT vs st)(V:st.getD 1≠0)
  (h:Q ((Yr lo hi (st.getD 1) (n:Int)).1,st.getD 1,Yk (Yr lo hi (st.getD 1) (n:Int)).1 (Yr lo hi (st.getD 1) (n:Int)).2 (st.getD 1)) s) :
  wpAny 1.13 A (aaj (.ref sl) (pure (n:Int))) Q E s:=by
 obtain⟨os,J,I,O⟩:=id hs;unfold aaj;refine gD (gD (ZL J O (x:=Z) rfl (gD (ZL J O (x:=N) rfl (gD (ZL J O (x:=vs) rfl (Xg ?_)))))));refine gD (HT.slicePart_ ps ?_);have h1:(st.getD 1==0)=false:=by simpa using V
 simp![h1,Ye,YJ,pure_bind];exact gD (HT.slicePart_ U (gD (HT.slicePart_ q (Xg h))))
def mQ(xs:List α)(l st:Int)(k:Nat):List α:=(X3 k).filterMap λ(m:Nat)=>xs[(l+(m:Int)*st).toNat]?
theorem iD{t:Addr}{items:List Value}{Z N vs:Value}{lo hi st:Option Int}(U:IsTup s.heap t items.toArray)(hs:s.heap.IsSliceOf sl Z N vs)(pl:aaT Z lo)(pu:aaT N hi)(ps:aaT vs st)(V:st.getD 1≠0)
  {l h':Int} (F:Yr lo hi (st.getD 1) (items.length:Int)=(l,h'))  (ek:Yk l h' (st.getD 1)=k)
  (q:(l=0/\st.getD 1=1/\k=items.length)->Q (.ref t) s)
  (hn:¬(l=0/\st.getD 1=1/\k=items.length)->Q (.ref s.heap.objs.size) {s with heap:=s.heap.push {cls:=.type "tuple",data:=.seq (mQ items l (st.getD 1) k).toArray}})
  (hsz:(mQ items l (st.getD 1) k).length<=Xp):wpAny 1.13 A (aca (.ref t) (.ref sl)) Q E s:=by
 have B:sizeOk (.seq (mQ items l (st.getD 1) k).toArray):=by
  show(mQ items l (st.getD 1) k).toArray.size<=Xp;rw[List.size_toArray];exact hsz
 obtain⟨os,J,I,O⟩:=id hs;have a0:s.TypeIs (.ref sl) "slice":=⟨os,J,I⟩;unfold aca
 try with_reducible refine Za ?_
 first|refine gD (Xg ?_)|skip
 refine gD (wpAny_sequenceKey U.typeIs 1.27 ?_);refine gD (Yw (name:=ZM "__getitem__") U.typeIs Ys
  (aav Ys U.typeIs aec ?_ (args_tuple_getitem _ _)))
 show wpAny _ _ (acu (.ref t) >>=_) _ _ s;refine gD (tupleItemsOf_ U ?_);refine gD (aab a0 ?_);rw[Xu 1.27];rw[List.size_toArray];refine gD (sZ hs pl pu ps V ?_);rw[F,ek];dsimp only;by_cases Y:(l=0/\st.getD 1=1/\k=items.length)
 .rw[Xu (by simp[Y])]
  refine gD ?_;unfold Builtin.Tuple.tupleIsExact;refine gD (aab U.typeIs (Xg ?_));rw[Xu 1.27];exact gD (abn (Xg ⟨_,rfl,Xg (q Y)⟩))
 .rw[Xz (by simpa using Y)]
  have e:(List.filterMap (λ(k:Nat)=>items.toArray[(l+(k:Int)*st.getD 1).toNat]?) (X3 k)).toArray=(mQ items l (st.getD 1) k).toArray:=by
   unfold mQ;simp
  rw[e];exact gD (m:=Z2 _) (YX (Xg ⟨_,rfl,Xg (hn Y)⟩) B)
theorem t7(xs:List α)(l st:Int)(k:Nat):(mQ xs l st k).length<=k:=by
 unfold mQ;have:=List.length_filterMap_le (λ(m:Nat)=>xs[(l+(m:Int)*st).toNat]?) (X3 k);rw[List.length_range]at this;exact this
theorem JP(xs:List α):mQ xs ((xs.length:Int)-1) (-1) xs.length=xs.reverse:=by
 unfold mQ;apply abv;intro j;have J:∀n,n<=xs.length->(X3 n).filterMap (λ(m:Nat)=>xs[((xs.length:Int)-1+(m:Int)* -1).toNat]?)=(xs.reverse).take n:=by
  intro n
  induction n with
  |zero=>intro _;simp
  |succ n U=>
   intro hn;rw[List.range_succ,List.filterMap_append,U 1.10,Y_];congr 1;have e1:((xs.length:Int)-1+(n:Int)* -1).toNat=xs.length-1-n:=by omega
   rw[adF 1.10];simp![aa5,List.filterMap_nil,e1];rw[Xk 1.10]
   try rfl
 rw[J xs.length (Xn _),aaM (by simp)]
def VD(K:Xl):V->Option Int->Option Int->Hp->VK->Prop:=λx lo hi H Q=>∃a xs,x= .ref a/\SqT K H a xs/\(uQ xs lo hi=xs->Q (.ref a) H)/\∀p,H p=none->Q (.ref p) (upd H p (.tup (uQ xs lo hi)))
theorem Tg:SlR X (VD X.K):=by
 intro pins s σ H x v Z N lo hi sl Q I rx hs pl V h;obtain⟨a,xs,rfl,J,F,q2⟩:=h;by_cases q:(HT.sIx xs.length 0 lo=0/\HT.sIx xs.length xs.length hi=xs.length)
 .have rx0:=rx
  cases rx;obtain⟨B,r,U,hz⟩:=I.tuple J;have O:=r.length;refine⟨"tuple",_,Ys.lookup,U.typeIs,?_⟩;have e1:Yr lo hi ((none:Option Int).getD 1) (B.length:Int)=(((0:Nat):Int),((xs.length:Nat):Int)):=by
   have e1:=HT.adjust_gen lo hi B.length;rw[←O,q.1,q.2]at e1;rw[←O];exact e1
  refine iD (items:=B) (st:=none) U hs pl V .none 1.27 e1 rfl (λ_=>?_) (λY=>?_) ?_
  .refine⟨.ref a,H,I,rfl,F ?_⟩
   unfold uQ;rw[q.1,q.2];simp
  .refine absurd ⟨rfl,rfl,?_⟩ Y
   show Yk ((0:Nat):Int) ((xs.length:Nat):Int) 1=B.length;rw[HT.places_gen];omega
  .refine Yz (t7 _ _ _ _) ?_
   show Yk ((0:Nat):Int) ((xs.length:Nat):Int) 1<=Xp;rw[HT.places_gen];omega
 .exact R4 pins s σ H _ v Z N lo hi sl Q I rx hs pl V ⟨a,xs,rfl,J,q,q2⟩
def Vw(K:Xl):R2:=λx y H Q=>∃a xs,x= .ref a/\SqT K H a xs/\((y= .int 1/\Q (.ref a) H)∨(y= .int (-1)/\∀p,H p=none->Q (.ref p) (upd H p (.tup xs.reverse))))
def JL(K:Xl):R2:=λx y H Q=>∃a b xs ys,x= .ref a/\y= .ref b/\SqT K H a xs/\SqT K H b ys/\xs.length+ys.length<=Xp/\
 (xs=[]->Q (.ref b) H)/\(xs≠[]->ys=[]->Q (.ref a) H)/\(xs≠[]->ys≠[]->∀p,H p=none->Q (.ref p) (upd H p (.tup (xs++ys))))
theorem KD:OpR X (Zh .Add) (JL X.K):=by
 intro pins s σ H x y v u Q I rx ry h;obtain⟨a,b,xs,ys,rfl,rfl,Z,U,hz,q0,q1,q⟩:=h;by_cases J:xs=[]
 .cases rx
  cases ry;obtain⟨B,r1,p1,_⟩:=I.tuple Z;obtain⟨a1,O,p2,_⟩:=I.tuple U;obtain⟨⟨cls,dd,data,sl⟩,N,Y,n,hd⟩:=id p1;obtain⟨⟨a6,a3,a4,a5⟩,a0,V,n2,a2⟩:=id p2;simp only at Y hd V a2;subst Y hd V a2;exact aer ⟨_,N,rfl⟩ ⟨_,a0,rfl⟩ acS ad6 abB abp (abi _ _)
   (tuple_addW0 a b B.toArray a1.toArray n n2 dd a3 sl a5 (by rw[r1.nil_iff.mpr J];rfl)) ⟨N,a0,⟨.ref b,H,I,rfl,q0 J⟩⟩
 .exact Qg pins s σ H _ _ v u Q I rx ry ⟨a,b,xs,ys,rfl,rfl,Z,U,J,hz,q1 J,q J⟩
theorem mH{p:Addr}{o:HO}(I:Inv X pins σ H s)(O:∀b∈fp,jG X pins H b)(keep:∀b u,b∉fp->s.heap.get? b=some u->h'.get? b=some u)(F:s.heap.objs.size<=p)
  (new:bZ X.prog X.w (upd H p o) h' p o):Inv X pins σ (upd H p o) {s with heap:=h',toks:=t'}:=by
 have hn:H p=none:=I.hok.fresh F;have B:∀b u,H b=some u->b∉fp:=λb u e U=>by rw[(O b U).1]at e;cases e
 have N:∀b u,s.heap.get? b=some u->b≠p:=λb u e=>XS (XC (Xm e) F);refine I.step (g':=s.gens) (d':=s.drawn) (ch:=fp) (λb U=>⟨(O b U).2.2.2.1,(O b U).2.1,(O b U).2.2.2.2.1,(O b U).2.2.2.2.2⟩) (λb u _ _ Y e _=>keep b u Y e) (λb u _ _ Y e _=>⟨u.slots,keep b u Y e⟩)
  (λb u _ e n=>by rw[aJ (N b u e)];exact n) (λb u Y e=>⟨u,keep b u Y e⟩) (λb xs e=>by rw[aJ (aY e hn)];exact e) (λb ob u e=>by rw[aJ (aY e hn)];exact e)
  (λb ps e=>⟨#[],by rw[aJ (aY e hn),e];simp⟩) (λm J=>?_) (λb u e=>?_) I.bare
 .obtain⟨ob,es,ep,ho,r⟩:=J
  exact⟨ob,es,ep,keep _ ob (λz=>(O _ z).2.1 rfl) ho,r⟩
 .by_cases U:b=p
  .subst U
   rw[aN]at e;cases e;exact new
  .rw[aJ U]at e
   refine(I.hok b u e).stay (λc v Y q=>keep c v ?_ q) (λc q=>by rw[aJ (aY q hn)];exact q) λc xs q=>by rw[aJ (aY q hn)];exact q
   rcases Y with z|z
   .rw[z]
    exact B b u e
   .exact B c _ z
theorem iQ(I:Inv X pins σ H s)(O:∀b∈fp,jG X pins H b)(keep:∀b u,b∉fp->s.heap.get? b=some u->h'.get? b=some u):Inv X pins σ H {s with heap:=h',toks:=t'}:=by
 have B:∀b u,H b=some u->b∉fp:=λb u e U=>by rw[(O b U).1]at e;cases e
 refine I.step (g':=s.gens) (d':=s.drawn) (ch:=fp) (λb U=>⟨(O b U).2.2.2.1,(O b U).2.1,(O b U).2.2.2.2.1,(O b U).2.2.2.2.2⟩) (λb u _ _ Y e _=>keep b u Y e) (λb u _ _ Y e _=>⟨u.slots,keep b u Y e⟩)
  (λb u _ e n=>n) (λb u Y e=>⟨u,keep b u Y e⟩) (λb xs e=>e) (λb ob u e=>e) (λb ps e=>⟨#[],by rw[e];simp⟩) (λm J=>?_) (λb u e=>?_) I.bare
 .obtain⟨ob,es,ep,ho,r⟩:=J
  exact⟨ob,es,ep,keep _ ob (λz=>(O _ z).2.1 rfl) ho,r⟩
 .refine(I.hok b u e).stay (λc v Y q=>keep c v ?_ q) (λc q=>q) λc xs q=>q
  rcases Y with z|z
  .rw[z]
   exact B b u e
  .exact B c _ z
def Ite(K:Xl)(a:Addr):It:=
 ⟨λi H=>∃xs x,SqL K H a xs/\xs[i]? =some x,λi H x H'=>∃p v,H p=none/\x= .ref p/\(∀xs,SqL K H a xs->xs[i]? =some v)/\H'=upd H p (.tup [.int i,v]),λi H=>∃xs,SqL K H a xs/\xs.length<=i⟩
theorem Hw{K:Xl}{x1}(a e it:Addr)(a3:e≠it) :
  Turn P w K (.Tuple elts x1 pos) (Ite K a) [e,it] e (λi h=>(∃a0,IsEnum h e it (i:Int) a0)/\h.IsListIter it a i)where
 mem:=by simp
 obj:=λi h st b U=>by
  obtain⟨⟨a0,V⟩,o,N,c,d⟩:=st;rcases Xj.mp U with z|z
  .subst z
   exact⟨_,V,λv z=>by cases z⟩
  .have z:b=it:=by simpa using z
   subst z;exact⟨o,N,λv z=>by rw[d]at z;cases z⟩
 keep:=λi h h' st k=>by
  obtain⟨⟨a0,V⟩,a1⟩:=st;exact⟨⟨a0,k e (by simp) _ V⟩,a1.at λo q=>k it (by simp) o q⟩
 item:=by
  intro X hP hw hK Y i pins s σ H E I O st F;subst hP hw hK;obtain⟨xs,x,hq,J⟩:=F;obtain⟨B,rv,p,hz⟩:=I.list hq;obtain⟨u,hu,ru⟩:=rv.get J;obtain⟨⟨a0,V⟩,a1⟩:=st;refine wpAny_pyNext_enum_item V a1 p.isList (x:=u) (by simpa using hu) a3 λh1 b0 a4 a8 b1 k1=>?_;refine⟨.ref s.heap.objs.size,rfl,acw b0 λh2 a6 a2=>?_⟩;have a9:e<s.heap.objs.size:=Xm V;have a5:s.heap.objs.size≠e:=Y4 a9;have a7:h2.get? s.heap.objs.size=some {cls:=.type "tuple",data:=.seq #[.int i s.toks,u]}:=a2.extBut _ _ a5 a8;have I2:Inv X pins σ (upd H s.heap.objs.size (.tup [.int i,x])) {s with heap:=h2,toks:=s.toks+1}:=by
   refine mH (fp:=[e,it]) (t':=s.toks+1) I O (λb o U q=>?_) (Xn _) ?_
   .have n1:b≠e:=λz=>U (by simp[z])
    have n2:b≠it:=λz=>U (by simp[z]);exact a2.extBut b o n1 (k1 b o n1 n2 q)
   .exact⟨by show 2<=Xp;decide,[.int i s.toks,u],.cons ⟨_,rfl⟩ (.cons ru .nil),_,a7,rfl,_,rfl,rfl⟩
  refine⟨.ref s.heap.objs.size,upd H s.heap.objs.size (.tup [.int i,x]),I2,rfl,⟨_,x,I.hok.fresh (Xn _),rfl,λys hy=>by rw[I.list_inj hy hq];exact J,rfl⟩,?_,λb U=>?_⟩
  .refine⟨⟨u,?_⟩,a4.extBut a2.extBut (Ne.symm a3)⟩
   have e1:(((i+1:Nat)):Int)=(i:Int)+1:=by omega
   rw[e1];exact a6
  .rw[aJ]
   .exact(O b U).1
   .intro z
    rw[z]at U;rcases Xj.mp U with q|q
    .exact a5 q
    .have q:s.heap.objs.size=it:=by simpa using q
     obtain⟨o,N,_⟩:=a1;exact absurd (Xm N) (by rw[q];exact YQ _)
 done:=by
  intro X hP hw hK Y i pins s σ H E I O st F;subst hP hw hK;obtain⟨xs,hq,J⟩:=F;obtain⟨B,rv,p,hz⟩:=I.list hq;obtain⟨⟨a0,V⟩,a1⟩:=st;have Z:=rv.length;refine wpAny_pyNext_enum_end (I.ok.hd Y) V a1 p.isList (by simp;omega) λh1 eb=>⟨rfl,?_⟩;exact iQ (fp:=[e,it]) (t':=s.toks) I O λb o U q=>eb b o (λz=>U (by simp[z])) q
 self:=λA i s Q E st h=>by
  obtain⟨⟨a0,V⟩,_⟩:=st;exact abw V h
end Jb
namespace PySem
theorem F.first_AttributeError:((afd "AttributeError").elim false λt=>t.mro.contains "StopIteration"||t.mro.contains "SystemExit")=false:=by decide +kernel
theorem F.sub_AttributeError:aew (.type "AttributeError") (.type "AttributeError")=pure true:=by rw[Z7];kernel_rfl
section
variable{prog:Program}{w:World}{A:Around}{E:Value->Shared->Prop}
theorem sX{α:Type}{o:Value}{name a0:Str}{Q:α->zb->Prop}{h:Heap}{g:Array adO}{d:Drawn}{t:Nat}{os:OsState}(q:A.handled=none)(J:a0.length<=Xp)
  (N:∀h' tk e,(∀b u,h.get? b=some u->h'.get? b=some u)->(∃Z,h'.get? e=some Z/\Z.cls= .type "AttributeError")->E (.ref e) ⟨h',g,d,tk,os⟩):wpAny 1.13 A (raiseAttrError o name a0:Sem α) Q E ⟨h,g,d,t,os⟩:=by
 unfold raiseAttrError;refine gD (wpAny_mkStr (gD ?_) J);unfold newExc newTuple;refine gD (YX ?_);refine gD (m:=firstArgMember _ _) (aa4 (a:=Yg) (by simp![firstArgMember,F.first_AttributeError];rfl) ?_);refine YX ?_;refine gD (wpAny_mkText (gD ?_));dsimp only;generalize a2:h.push {cls:=.type "tuple",dict:=none,data:=.seq [abe a0 t].toArray}=H1;generalize a1:({cls:=.type "AttributeError",dict:=none,data:=.fields (#[.ref h.objs.size,.none,.none,.none,.bool false,.none]++ownMembersOf (.type "AttributeError") [abe a0 t])}:Obj)=ob;have V:(H1.push ob).get? H1.objs.size=some ob:=Xr _ (by subst a1;rfl);have I:(⟨H1.push ob,g,d,t+1+1,os⟩:zb).TypeIs (.ref H1.objs.size) "AttributeError":=⟨_,V,by subst a1;rfl⟩;have f1:=F.sub_AttributeError;have B:∀b u,h.get? b=some u->(H1.push ob).get? b=some u:=λb u e=>za _ (a2▸za _ e);have U:ob.cls= .type "AttributeError":=by subst a1;rfl
 obtain⟨vs,O,a3,a4⟩:∃vs,ob.data= .fields vs/\vs[6]? =some unsetMember/\vs[7]? =some unsetMember:=by subst a1;exact⟨_,rfl,rfl,rfl⟩
 unfold noteAttr;dsimp only;refine gD ?_;unfold lacksNameAndObj;refine gD (ZV I f1 ?_);simp![acx,Ye,YJ];refine gD (adR V ?_);rw[O];dsimp only;rw[a3,a4];show wpAny 1.13 A (pure true) _ _ _;refine Xg ?_;rw[Xu rfl];refine gD (abn (gD (aab I ?_)));dsimp only;unfold layMembers;refine gD (adR V ?_);rw[O];dsimp only;refine wpAny_update V ?_;unfold raiseNew;refine gD (acy ?_);rw[q];dsimp only;have Y:h.objs.size<H1.objs.size:=by rw[←a2,YM];exact abN _
 refine abC (N _ _ _ (λb u e=>?_) ⟨_,ZX _ V (adG (ack O _)),(aeM ..).trans U⟩);exact(Yd (H1.push ob) _ (Ne.symm (XS (Nat.lt_trans (Xm e) Y)))).trans (B b u e)
theorem F.lk_list_keys:acH (.type "list") "keys"=pure none:=by rw[aah,Zt];kernel_rfl
theorem F.lk_list_getattr:acH (.type "list") "__getattr__"=pure none:=by rw[aah,Zt];kernel_rfl
variable{h:Heap}{g:Array GenState}{d:Drawn}{t:Nat}{os:OsState}{a:Addr}{items:Array Value}{n:Nat}
def Ca(E:Value->zb->Prop)(h:Heap)(g:Array adO)(d:Drawn)(os:OsState):Prop:=∀h' tk e,(∀b u,h.get? b=some u->h'.get? b=some u)->(∃Z,h'.get? e=some Z/\Z.cls= .type "AttributeError")->E (.ref e) ⟨h',g,d,tk,os⟩
theorem tK{tk:Tok}{Q:Fin->zb->Prop}(q:A.handled=none)(J:h.get? a=some {cls:=.type "list",data:=.seq items n})(N:Ca E h g d os) :
  wpAny 1.13 A (Builtin.«object.__getattribute__» ⟨[.ref a,.str "keys" tk],[]⟩) Q E ⟨h,g,d,t,os⟩:=by
 have I:(⟨h,g,d,t,os⟩:zb).TypeIs (.ref a) "list":=⟨_,J,rfl⟩;have O:=F.lk_list_keys
 show 1
 exact sX q (by decide +kernel) N
theorem vP{tk:Tok}{R:Result->zb->Prop}(q:A.handled=none)(J:h.get? a=some {cls:=.type "list",data:=.seq items n})(N:Ca (λe s=>R (.error e) s) h g d os) :
  aaH 1.13 A (.call (.builtin "list.__getattribute__") ⟨[.ref a,.str "keys" tk],[]⟩) R ⟨h,g,d,t,os⟩:=
 ZD aaw.plain F.entry_list_ga (aaw.check _ _ _ _ _ _ _ _ (show(⟨h,g,d,t,os⟩:zb).TypeIs (.ref a) "list" from⟨_,J,rfl⟩) (F.args_list_getattribute_2 _ _) (tK q J N))
theorem yP{tk:Tok}{Q:Value->zb->Prop}(q:A.handled=none)(J:h.get? a=some {cls:=.type "list",data:=.seq items n})(N:Ca E h g d os):wpAny 1.13 A (getAttrBy (.ref a) (.str "keys" tk) false) Q E ⟨h,g,d,t,os⟩:=by
 have I:(⟨h,g,d,t,os⟩:zb).TypeIs (.ref a) "list":=⟨_,J,rfl⟩;have f2:=aaw.lookup;have f3:=aaw.bind (.ref a)
 show 1
 refine vP q J λh' O e B V=>?_;obtain⟨Z,a0,U⟩:=id V;have Y:(⟨h',g,d,O,os⟩:zb).TypeIs (.ref e) "AttributeError":=⟨Z,a0,U⟩;dsimp only;unfold getattributeRaised;refine gD (ZV Y F.sub_AttributeError ?_);rw[Xu rfl];refine gD (aa4 (show hookBehind (.type "list") none=pure none from F.lk_list_getattr) ?_);show wpAny 1.13 A (adX (.ref a) (.str "keys" tk) (.ref e) false false) Q E ⟨h',g,d,O,os⟩;unfold adX;dsimp only;rw[Xu (show(!false)=true from rfl)]
 first|exact abC (N h' O e B V)|exact gD (abC (N h' O e B V))
theorem mC{Q:Option Value->zb->Prop}(q:A.handled=none)(J:h.get? a=some {cls:=.type "list",data:=.seq items n})
  (N:∀h' tk,(∀b u,h.get? b=some u->h'.get? b=some u)->Q none ⟨h',g,d,tk,os⟩):wpAny 1.13 A (getAttr? (.ref a) "keys") Q E ⟨h,g,d,t,os⟩:=by
 unfold getAttr? getAttrBy?;refine gD (wpAny_mkText (gD (aak (yP q J λh' O e B V=>?_))));obtain⟨Z,I,U⟩:=id V;have Y:(⟨h',g,d,O,os⟩:zb).TypeIs (.ref e) "AttributeError":=⟨Z,I,U⟩;dsimp only;refine gD (ZV Y F.sub_AttributeError ?_);rw[Xu rfl];exact Xg (N h' O B)
end
namespace F
theorem entry_dict_update_loop:adY table "dict.update.loop"=some Builtin.«dict.update.loop»:=acV (by kernel_rfl)
theorem plain_dict_update_loop:plainId "dict.update.loop"=true:=by decide +kernel
end F
end PySem
namespace Jb
open PySem PySem.Spec PyProof.Rows L2
def putAll(kvs:List (Key×V))(prs:List (Key×V)):List (Key×V):=prs.foldl (λacc N=>putK acc N.1 N.2) kvs
theorem ue:∀(prs kvs:List (Key×V)),(putAll kvs prs).length<=kvs.length+prs.length
 |[],kvs=>by simp[putAll]
 |p::r,kvs=>by
  have h1:=ue r (putK kvs p.1 p.2);have h2:=g8 kvs p.1 p.2;have e:putAll kvs (p::r)=putAll (putK kvs p.1 p.2) r:=rfl;rw[e,XN];omega
variable{X:Cx}{σ:L2.St}
theorem wC{D l:Addr}{xs:List V}{prs:List (Key×V)}{R:Result->zb->Prop}(hh:A.handled=none)(a2:prs.length=xs.length):∀(m i:Nat)(kvs:List (Key×V))(H:Hp)(s:zb),xs.length-i=m->i<=xs.length->
  Inv X pins σ H s->H D=some (.dK kvs)->SqL X.K H l xs->jG X pins H it->s.heap.IsListIter it l i->(∀(j:Nat)(k:Key)(v:V),prs[j]? =some (k,v)->∃p:Addr,xs[j]? =some (V.ref p)/\H p=some (.tup [kV k,v]))->kvs.length+m<=100000->
  (∀s',Inv X pins σ (upd H D (.dK (putAll kvs (prs.drop i)))) s'->R (.ok (.ret .none)) s')->aaH 1.11 A (.builtin "dict.update.loop" ⟨[.ref D,.ref it,Zv i,.none],[]⟩) R s:=by
 intro m
 induction m with
 |zero=>
  intro i kvs H s J hi I hD N O a0 hp Y k;have e:i=xs.length:=by omega
  subst e;obtain⟨B,rv,p,_⟩:=I.list N;have Z:=rv.length;refine Z3 F.entry_dict_update_loop ?_;rw[Zj F.plain_dict_update_loop _];unfold Builtin.«dict.update.loop»;dsimp only;refine gD (adA (show A.in1.handled=none from hh) a0 p.isList (by simp;omega) λh' eb=>?_);dsimp only;have I1:Inv X pins σ H {s with heap:=h'}:=iQ (fp:=[it]) (t':=s.toks) I (λb U=>by rw[Xv.mp U];exact O) λb o U q=>eb b o (λz=>U (by simp[z])) q;have e1:prs.drop xs.length=[]:=by rw[←a2,Z8]
  have k1:=k _ (by
   rw[e1];show Inv X pins σ (upd H D (.dK kvs)) {s with heap:=h'};have:upd H D (.dK kvs)=H:=by
    funext b;unfold upd;split
    .rename_i z
     rw[z,hD]
    .rfl
   rw[this];exact I1)
  show wpAny 1.11 A.in1 (Builtin.Dict.addKeywords D [] >>=λ_=>ret .none) _ _ _;exact gD (Xg (Xg k1))
 |succ m ih=>
  intro i kvs H s J hi I hD N O a0 hp Y k;have b2:i<xs.length:=by omega
  obtain⟨B,rv,p,_⟩:=I.list N;have Z:=rv.length;have a5:i<prs.length:=by omega
  obtain⟨t,ht,hT⟩:=hp i prs[i].1 prs[i].2 (by rw[Xk a5]);obtain⟨u,hu,ru⟩:=rv.get ht;cases ru;refine Z3 F.entry_dict_update_loop ?_;rw[Zj F.plain_dict_update_loop _];unfold Builtin.«dict.update.loop»;dsimp only;refine gD (adm a0 p.isList (x:=.ref t) (by simpa using hu) λh1 a3 a9=>?_);dsimp only;have I1:Inv X pins σ H {s with heap:=h1}:=iQ (fp:=[it]) (t':=s.toks) I (λb U=>by rw[Xv.mp U];exact O) λb o U q=>(a9.2 b (λz=>U (by simp[z]))).trans q;obtain⟨_,b5,rj,oj,ej,cj,nj,dj,_⟩:=(show bZ X.prog X.w H h1 t (.tup [kV prs[i].1,prs[i].2])from I1.hok t _ hT);obtain⟨ku,vu,rfl,rk,b3⟩:=vals2 rj;have a8:(({s with heap:=h1}:zb)).TypeIs (.ref t) "tuple":=⟨oj,ej,cj⟩;refine gD (Za (gD (wpAny_tryCatch ?_)));unfold Builtin.Dict.pairItems;refine gD (aab a8 ?_);rw[Xu 1.27];refine gD (aat ej dj (Xg ?_));show wpAny 1.11 A.in1 (aaS [ku,vu] (dictSet D ku vu)) _ _ _;obtain⟨z,hd,vs,rel,dd⟩:=xn I1.hok hD;have b1:vs.length<=Xp:=by rw[←rel.length];exact z
  have b4:200000<=Xp:=by decide
  have a7:(putK kvs prs[i].1 prs[i].2).length<=Xp:=by have:=g8 kvs prs[i].1 prs[i].2;omega
  refine Za (aee (hsz:=b1) (sr rk) dd λh2 a1 a4=>?_);have I2:Inv X pins σ (upd H D (.dK (putK kvs prs[i].1 prs[i].2))) {s with heap:=h2,toks:=s.toks+1}:=by
   have he:∃q,h2.get? D=some q:=let⟨q,_,_,N,_⟩:=a1;⟨q,N⟩;exact m7 (s:=({s with heap:=h1}:zb)) (t':=s.toks+1) I1 (by rw[hD];exact YT) a4 he (xO a7 hd (rel.put prs[i].1 b3) a1)
  have b0:∀p ys,H p=some (.tup ys)->p≠D:=λp ys e=>jN e hD (by intro z;cases z);have a6:it≠D:=λz=>by have:=O.1;rw[z,hD]at this;cases this
  show wpAny 1.11 A.in1 (again (.builtin "dict.update.loop" ⟨[.ref D,.ref it,Zv ((i:Int)+1),.none],[]⟩)) _ _ _;refine Xg ⟨aal F.plain_dict_update_loop _,?_⟩;have ei:((i:Int)+1)=((i+1:Nat):Int):=by omega
  rw[ei];have b6:=g8 kvs prs[i].1 prs[i].2;refine ih (i+1) (putK kvs prs[i].1 prs[i].2) _ _ 1.10 b2 I2 aN ?_ ?_ (a3.extBut a4.extBut a6) ?_ 1.10 (λs' I'=>k s' ?_)
  .rcases N with(N|⟨o,N⟩)|N
   .exact .inl (.inl (by rw[aJ (jN N hD (by intro z;cases z))];exact N))
   .exact .inl (.inr ⟨o,by rw[aJ (jN N hD (by intro z;cases z))];exact N⟩)
   .exact .inr N
  .exact⟨by rw[aJ a6];exact O.1,O.2⟩
  .intro j kk vv e
   obtain⟨p,h1,h2⟩:=hp j kk vv e;exact⟨p,h1,by rw[aJ (b0 p _ h2)];exact h2⟩
  .rw[Ff]at I'
   rw[aar a5];exact I'
theorem tE(Y:X.calm=true):dO X (.type "dict") (λxs H Q=>∃l ys prs,xs=[.ref l]/\H l=some (.lst ys)/\Zz prs=Zz ys/\Zz prs<=50000/\
  (∀(j:Nat)(k:Key)(v:V),prs[j]? =some (k,v)->∃p:Addr,ys[j]? =some (V.ref p)/\H p=some (.tup [kV k,v]))/\∀D,H D=none->Q (.ref D) (upd H D (.dK (putAll [] prs)))):=by
 intro pins s σ H xs us Q I r h;obtain⟨l,ys,prs,rfl,Z,O,hsz,hp,q⟩:=h;obtain⟨u,rfl,ru⟩:=vals1 r;cases ru;have hh:X.A.handled=none:=I.ok.hd Y;refine callType_codes (Q₁:=λobj J=>obj= .ref s.heap.objs.size/\J={s with heap:=s.heap.push {cls:=.type "dict",data:=.dict #[]}}) F.kt_called_dict (F.kt_typeCall_dict_1 _) F.entry_dict_init (kt_code_dict_new _ ⟨rfl,rfl⟩) ?_;rintro obj J ⟨rfl,rfl⟩;have a2:H s.heap.objs.size=none:=I.fresh;have I1:Inv X pins σ (upd H s.heap.objs.size (.dK [])) {s with heap:=s.heap.push {cls:=.type "dict",data:=.dict #[]}}:=I.laid (t':=s.toks) (λ_ _ z=>za _ z) (Xn _) (vK s.heap I.big);have N:(s.heap.push {cls:=.type "dict",data:=.dict #[]}).DictOf (bA X.prog X.w) s.heap.objs.size []:=ade s.heap;have nl:l≠s.heap.objs.size:=aY Z a2;have a1:(upd H s.heap.objs.size (.dK [])) l=some (.lst ys):=by rw[aJ nl];exact Z
 obtain⟨_,B,n,rv,el⟩:=(show bZ X.prog X.w _ _ l (.lst ys)from I1.hok l _ a1);have a5:({s with heap:=s.heap.push {cls:=.type "dict",data:=.dict #[]}}:zb).TypeIs (.ref l) "list":=⟨_,el,rfl⟩;refine⟨N.typeIs,F.args_dict_init_2 _ _,?_⟩;unfold Builtin.«dict.__init__»;refine gD ?_;unfold acW;refine gD (adH N.typeIs ?_);show wpAny _ _ (pure (s.heap.objs.size,[X5 l])) _ _ _;refine Xg ?_;show wpAny _ _ (aaE "dict.__init__" s.heap.objs.size (.ref l) [] .none) _ _ _;unfold aaE;refine gD (aab a5 ?_);rw[Xu 1.27];refine gD (mC (show X.A.in1.in1.handled=none from hh) el λh2 a0 a3=>?_);rw[Xu (by rfl)];have U:Inv X pins σ (upd H s.heap.objs.size (.dK [])) {s with heap:=h2,toks:=a0}:=I1.kept (t':=a0) a3;obtain⟨a6,a7,p2,_⟩:=U.list (SqL.of a1);refine gD (abn (gD (abx p2.isList ?_)));have I3:Inv X pins σ (upd H s.heap.objs.size (.dK [])) {s with heap:=h2.push {cls:=.type "list_iterator",data:=.fields #[.ref l,.int 0 0]},toks:=a0}:=U.kept (t':=a0) λb o e=>za _ e;have a4:jG X pins (upd H s.heap.objs.size (.dK [])) h2.objs.size:=U.fpOk (Xn _) (U.hok.fresh (Xn _));refine Xg ⟨aal F.plain_dict_update_loop _,?_⟩;refine wC (A:=X.A.in1) (l:=l) (xs:=ys) (prs:=prs) hh O ys.length 0 [] _ _ rfl (ZP _) I3 aN (SqL.of a1) a4 ⟨_,Xr _ rfl,rfl,rfl⟩ ?_ (by simp;omega) λs' I'=>?_
 .intro j k v e
  obtain⟨p,h1,h2⟩:=hp j k v e;exact⟨p,h1,by rw[aJ (aY h2 a2)];exact h2⟩
 .rw[Ff,afe]at I'
  exact⟨rfl,.ref _,_,I',rfl,q _ a2⟩
variable{R:Result->Shared->Prop}
theorem vX{iter:Expr}{it:Value}{D:Addr}(I:Nat->zb->Prop)
  (turn:∀n s,I n s->wpAny 1.13 A (aaa it) (λr J=>match r with
   |none=>R (.ok .next) J
   |some v=>wpAny 1.13 A (aa9 target it v) (λ_ O=>wpAny 1.13 A (abf target env v) (λ_ Z=>
    wpAny 1.13 A (forIn ifs true λc r=>if r=true then do let ok ←adz c env (eval c env);pure (aag ok)else pure (aag r)) (λok q=>
     if ok=true then wpAny 1.13 A (eval kx env) (λN F=>wpAny 1.13 A (eval vx env) (λvv Y=>wpAny 1.13 A (dictSet D N vv) (λ_ a0=>∃m,m<n/\I m a0) NoX Y) NoX F) NoX q
     else ∃m,m<n/\I m q) NoX Z) NoX O) NoX J) NoX s)
  (n:Nat) (h:I n s):aaH 1.13 A (.compLoop 1.21 0 it (.ref D) env) R s:=by
 refine codeAny_loop rfl I (λn s B=>?_) n h;show wpAny _ A ((compTurn 1.21 0 it (.ref D) env).onRaise (λx=>do noteFrame x env;theTreesLotGoes x)) _ _ s;refine wpAny_noted ?_;rw[compTurn_dict];refine gD (aaF (gD (Y9 (turn n s B) (λr J V=>?_) λ_ _ h'=>h'.elim)));cases r with
 |none=>exact Xg V
 |some v=>
  refine gD (Y9 V (λ_ O a1=>?_) λ_ _ h'=>h'.elim);refine gD (Y9 a1 (λ_ Z a5=>gD (Y9 a5 (λok q U=>?_) λ_ _ h'=>h'.elim)) λ_ _ h'=>h'.elim);cases ok with
  |false=>exact Xg ⟨rfl,U⟩
  |true=>
   exact gD (gD (Y9 U (λN F a4=>gD (Za (Y9 a4 (λvv Y a3=>gD (aaF (Za (Y9 a3 (λ_ a0 a2=>Xg ⟨rfl,a2⟩) λ_ _ h'=>h'.elim)))) λ_ _ h'=>h'.elim))) λ_ _ h'=>h'.elim))
def Kg(J:It)(H:Hp)(g:TG)(tt:TT)(tk tv:TE)(σ:L2.St)(Q:List (Key×V)->Hp->Prop):Prop:=
 ∃W:Nat->Nat->List (Key×V)->Hp->Prop,(∃m,W 0 m [] H)/\∀i m ys H,W i m ys H->
  (J.stop i H/\Q ys H)∨(J.go i H/\ys.length<Xp/\∃N:List (Key×V)->Hp->Prop,(∀q H',N q H'->∃O,O<m/\W (i+1) O q H')/\
   ∀x H',J.yld i H x H'->g x σ H' λσ2 H2=>Kp σ σ2/\tt σ2 H2 λb I=>if b=true then tk σ2 I λx B=>∃k,x=kV k/\tv σ2 B λv F=>N (putK ys k v) F else N ys I)
def CK(cap:List (Option Nat))(wi:TI)(g:TG)(tt:TT)(tk tv:TE):TE:=λσ H Q=>wi σ H λJ H1=>
 Kg J H1 g tt tk tv (fH cap σ) λys H2=>ys.length<=Xp/\∀D,H2 D=none->Q (.ref D) (upd H2 D (.dK ys))
section
variable{X:Cx}{kx vx target iter:Expr}{ifs:List Expr}{scope:Scope}{pos:Pos}{N':List Str}{cap:List (Option Nat)}{wi:TI}{g:TG}{tt:TT}{tk tv:TE}
structure DO(P:Program)(w:World)(vs:List (Key×Value))(o:Obj):Prop where
 ex:o.ExactDict
 es:∃es ep,o.data= .dict es ep/\KeysOf (bA P w) es/\Pairs (bA P w) es.toList vs/\(vs.map (·.1)).Nodup
theorem DO.at{P:X7}{w:World}{vs:List (Key×Value)}{o:Obj}(d:DO P w vs o){h:Heap}{a:Addr}(e:h.get? a=some o):h.DictOf (bA P w) a vs:=let⟨es,ep,h1,h2,h3,h4⟩:=d.es;⟨o,es,ep,e,d.ex,h1,h2,h3,h4⟩
theorem DO.of{P:X7}{w:World}{vs:List (Key×Value)}{h:Heap}{a:Addr}(d:h.DictOf (bA P w) a vs):∃o,h.get? a=some o/\DO P w vs o:=let⟨o,es,ep,e,x,h1,h2,h3,h4⟩:=d;⟨o,e,⟨x,es,ep,h1,h2,h3,h4⟩⟩
theorem DO.nc{P:X7}{w:World}{vs:List (Key×Value)}{o:Obj}(d:DO P w vs o):∀v,o.data≠.cell v:=λv z=>by
 obtain⟨es,ep,h1,_⟩:=d.es;rw[h1]at z;cases z
theorem Bv{pins:List (Addr×Obj)}{σ:L2.St}{H:Hp}{Z:zb}{it:Addr}{fp:List Addr}{tn:Nat->Heap->Prop}{J:It}{Q:List (Key×V)->Hp->Prop}{RR:Value->Addr->Result->zb->Prop}{E:Value->zb->Prop}
  (Y:X.calm=true) (O:cN X.env.scope X.N N' scope cap) (I:Inv X pins σ H Z) (T:Turn X.prog X.w X.K target J fp it tn) (st:tn 0 Z.heap) (f2:∀b∈fp,jG X pins H b)
  (hg:∀C,PG 1.18 target g) (ht:∀C,PTs 1.18 ifs tt) (hk:∀C,PE 1.18 kx tk) (he:∀C,PE 1.18 vx tv) (cw:Kg J H g tt tk tv (fH cap σ) Q)
  (d3:∀(D C:Addr)(s':zb)(H':Hp)(ys:List (Key×V))(B:List (Key×Value))(o:Obj)(b0:L2.St),Z.heap.objs.size<=D->Z.heap.objs.size<=C->D≠C->Inv 1.18 [(D,o)] b0 H' s'->KV ys B->DO X.prog X.w B o->Q ys H'->
   RR (.ref D) C (.ok .next) s') :
  wpAny 1.11 X.A newDict (λacc b4=>wpAny 1.11 X.A (newFunctionEnv scope X.env.globals (oY scope X.env) [] X.env.qual none .none (some X.env)) (λb1 b8=>
   aaH 1.11 X.A (.compStart 1.21 0 (.ref it) acc {b1 with scope:=relabel scope X.env}) (RR acc b1.locals) b8) E b4) E Z:=by
 refine YX (adW O.nocell (by intro y hy;simp at hy) (λa3 a1 a0=>?_) O.kind);dsimp only at a1 a0⊢;generalize b3:Z.heap.push {cls:=.type "dict",dict:=none,data:=.dict #[]}=H2 at a1 a0⊢;have hC:H2.objs.size=Z.heap.objs.size+1:=by rw[←b3,YM]
 have a5:Z.heap.objs.size≠H2.objs.size:=by rw[hC];exact XS (abN _)
 have a4:Z.heap.objs.size<=H2.objs.size:=by rw[hC];exact adu _
 have c0:∀b o,Z.heap.get? b=some o->a3.get? b=some o:=λb o e=>a0.extBut b o (by rw[hC];exact XS (abu (Xm e))) (za _ (b3▸za _ e));have b7:H2.DictOf (bA X.prog X.w) Z.heap.objs.size []:=b3▸ade Z.heap;obtain⟨o0,d2,c4⟩:=DO.of b7;have c5:a3.get? Z.heap.objs.size=some o0:=a0.extBut _ _ a5 (za _ d2);have a9:∀b∈fp,b<Z.heap.objs.size:=λb U=>by
  obtain⟨o,e,_⟩:=T.obj 0 _ st b U;exact Xm e
 have I1:=zz (tk:=Z.toks+([]:List (Str×Value)).length) I O f2 a9 a4 (Xn _) a5 c0 a1 c5 c4.nc;have c2:tn 0 a3:=T.keep _ _ _ st λb _ o e=>c0 b o e;obtain⟨W,⟨m0,w0⟩,turn⟩:=cw;generalize hD:Z.heap.objs.size=D at *
 generalize d8:H2.objs.size=C at *
 have a6:∀{H':Hp}{o:Obj},(∀b∈fp,H' b=none)->∀b∈fp,jG 1.18 [(D,o)] H' b:=λ{H' o} hn b U=>by
  refine⟨hn b U,XS (XC (a9 b U) a4),I1.ok.exfs b U,.inl U,(I1.ok.exf b U).2,λp F=>?_⟩;have e:p=(D,o):=by simpa[bD]using F
  subst e;exact Y4 (a9 b U)
 have b2:aaH 1.11 X.A (.compLoop 1.21 0 (.ref it) (.ref D) (compEnvC scope (oY scope X.env) C X.env)) (RR (.ref D) C) {Z with heap:=a3,toks:=Z.toks+([]:List (Str×Value)).length}:=by
  refine vX (λn s'=>∃i ys B k H',Inv 1.18 [(D,k)] (fH cap σ) H' s'/\(KV ys B/\DO X.prog X.w B k)/\tn i s'.heap/\(∀b∈fp,H' b=none)/\W i n ys H') ?_ m0 ⟨0,[],[],o0,H,I1,⟨.nil,c4⟩,c2,λb U=>(f2 b U).1,w0⟩;rintro n s3 ⟨i,ys,B,k,H3,I3,⟨rv,dk⟩,c1,b6,w3⟩;rcases turn i n ys H3 w3 with⟨stop,qn⟩|⟨go,hsz,N,hN,step⟩
  .refine thn (T.done 1.18 rfl rfl rfl Y i _ s3 _ H3 NoX I3 (a6 b6) c1 stop) λr s4 ⟨hr,I4⟩=>?_
   subst hr;exact d3 D C s4 H3 ys B k _ (Xn _) a4 a5 I4 rv dk qn
  .refine thn (T.item 1.18 rfl rfl rfl Y i _ s3 _ H3 NoX I3 (a6 b6) c1 go) λr s4 ⟨u,hr,h4⟩=>?_
   subst hr;refine thn h4 λ_ s5 ⟨x,H5,I5,r5,y5,a7,c7⟩=>?_;have d1:=I5.pinned (a6 c7) (T.obj _ _ a7);refine thn (hg C _ s5 _ H5 x u _ d1 r5 (step x H5 y5)) λ_ s6 ⟨a2,H6,I6,b5,q6⟩=>?_;refine thn (ht C _ s6 a2 H6 _ I6 q6) λok s7 ⟨H7,I7,q7⟩=>?_;have a8:∀{s':zb}{H':Hp}{b0:L2.St},Inv 1.18 ([(D,k)]++j6 fp s5.heap) b0 H' s'->tn (i+1) s'.heap/\∀b∈fp,H' b=none:=λ{s' H' b0} Ix=>by
    refine⟨T.keep _ _ _ a7 λb U o e=>(Ix.pin (b,o) (Xf _ (Xf _ (cW U e)))).1,λb U=>?_⟩;obtain⟨o,e,d⟩:=T.obj _ _ a7 b U;exact(Ix.pin (b,o) (Xf _ (Xf _ (cW U e)))).2.1
   have c3:(fH cap σ).length=a2.length:=by rw[I6.len,I1.len]
   cases ok with
   |false=>
    have n7:N ys H7:=by simpa using q7
    obtain⟨m',hm,w7⟩:=hN _ _ n7;exact⟨m',hm,i+1,ys,B,k,H7,I7.unpinned.weak c3 b5,⟨rv,dk⟩,(a8 I7).1,(a8 I7).2,w7⟩
   |true=>
    have q7:tk a2 H7 λx H4=>∃k',x=kV k'/\tv a2 H4 λv H5=>N (putK ys k' v) H5:=by simpa using q7
    refine thn (hk C _ s7 a2 H7 _ I7 q7) λuk c9 ⟨xk,c8,d5,d7,kk,ek,c6⟩=>?_;subst ek;refine thn (he C _ c9 a2 c8 _ d5 c6) λu8 s8 ⟨v,H8,I8,r8,n8⟩=>?_;obtain⟨eD,nD,_,d4,_⟩:=I8.pin (D,k) (Xf _ (Xo _ X_));have lv:=rv.length;refine aee (sr d7) (dk.at eD) (λh9 d0 d6=>?_) 1.10;obtain⟨m',hm,w8⟩:=hN _ _ n8;obtain⟨o9,eN,b9⟩:=DO.of d0;have I9:Inv 1.18 (j6 fp s5.heap) a2 H8 {s8 with heap:=h9,toks:=s8.toks+1}:=by
     refine Inv.turned (it:=D) (t':=s8.toks+1) (I8.pins_of λp F=>I8.pin p (Xf _ (Xf _ F))) (λb o U e=>d6.extBut b o U e) nD a5 (.inr (by rw[←hD];exact Xn _)) (λx c e z=>?_) (λp F z=>?_)
     .obtain⟨vc,oc,h1,_⟩:=I.cell x c (jg I O e)
      have q:=Xm h1;rw[z,hD]at q;exact YQ _ q
     .have F:p∈j6 fp s5.heap:=F
      have q:=a9 p.1 (qH F).1;rw[z]at q;exact YQ _ q
    refine⟨m',hm,i+1,putK ys kk v,stored B kk u8,o9,H8,(I9.weak c3 b5).pins_of (λp F=>?_),⟨rv.put kk r8,b9⟩,?_,λb U=>?_,w8⟩
    .have e:p=(D,o9):=Xv.mp F
     rw[e];exact⟨eN,nD,a5,d4,b9.nc⟩
    .exact T.keep _ _ _ a7 λb U o e=>(I9.pin (b,o) (Xf _ (cW U e))).1
    .obtain⟨o,e,d⟩:=T.obj _ _ a7 b U
     exact(I9.pin (b,o) (Xf _ (cW U e))).2.1
 exact codeAny_compStart_dict b2 (T.self _ 0 _ _ _ c2 b2)
end
def Itd(a:Addr)(ob:Obj)(kvs:List (Key×V)):It:=
 ⟨λi H=>H a=some (.frz ob (.dK kvs))/\i<kvs.length,λi H x H'=>H'=H/\∃p,kvs[i]? =some p/\x=kV p.1,λi H=>H a=some (.frz ob (.dK kvs))/\kvs.length<=i⟩
theorem Mq{k:Key}(h:(bA P w).is k u=true):RelV (kV k) u:=by
 have h:rW k u=true:=h;rcases cB h with⟨i,t,rfl,rfl⟩|⟨x,t,rfl,rfl⟩
 .exact⟨t,rfl⟩
 .exact⟨t,rfl⟩
theorem qC{F:α->β->Prop}:∀{xs:List α}{ys:List β},acQ F xs ys->∀{i:Nat}{a:α}{b:β},xs[i]? =some a->ys[i]? =some b->F a b
 |_,_,.nil,i,a,b,h,_=>by simp at h
 |_,_,.cons p r,0,a,b,h1,h2=>by cases h1;cases h2;exact p
 |_,_,.cons p r,i+1,a,b,h1,h2=>qC r (i:=i) (by simpa using h1) (by simpa using h2)
theorem Jw{H:Hp}{s:zb}{ob:Obj}{kvs:List (Key×V)}{es:Array DictEntry}(I:Inv X pins σ H s)(e:H a=some (.frz ob (.dK kvs)))(hd:ob.data= .dict es ep) :
  ∃vs,KV kvs vs/\s.heap.DictAt (bA X.prog X.w) a vs ep:=by
 obtain⟨h1,_,_,vs,rel,o,Z,Y,g,x,d,N,O,F⟩:=(show bZ X.prog X.w H s.heap a (.frz ob (.dK kvs))from I.hok a _ e);rw[h1]at g;cases g;rw[hd]at d;cases d;exact⟨vs,rel,ob,es,h1,x,hd,N,O,F⟩
theorem Gw{K:Xl}(a it:Addr)(ob:Obj)(kvs:List (Key×V)) :
  Turn P w K tg (Itd a ob kvs) [it] it (λi h=>∃es ep,ob.data= .dict es ep/\h.IsKeyIter it a i kvs.length ep)where
 mem:=by simp
 obj:=λi h st b U=>by
  have e:b=it:=by simpa using U
  subst e;obtain⟨_,_,_,o,e,c,d⟩:=st;exact⟨o,e,λv z=>by rw[d]at z;cases z⟩
 keep:=λi h h' st k=>let⟨es,ep,hd,st⟩:=st;⟨es,ep,hd,st.at λo e=>k it (by simp) o e⟩
 item:=by
  intro X hP q hK Y i pins s σ H E I O st F;subst hP q hK;obtain⟨e,hi⟩:=F;obtain⟨es,ep,hd,st⟩:=st;obtain⟨vs,rel,dd⟩:=Jw I e hd;have Z:=rel.length;obtain⟨f0,f1,N,f3,f4,f5⟩:=O it (by simp);have a0:i<vs.length:=by omega
  rw[Z]at st;refine wpAny_pyNext_dict_item (k:=vs[i].1) (v:=vs[i].2) st dd (by rw[Xk a0]) λJ h' B a1 sb=>?_;have I1:Inv X pins σ H {s with heap:=h'}:=I.turned (t':=s.toks) (λb o U e=>sb.extBut b o U e) f0 f1 f3 f4 f5;obtain⟨o,e2,c,d⟩:=id a1;have ek:kvs[i].1=vs[i].1:=(qC rel (Xk hi) (Xk a0)).1;refine⟨J,rfl,zJ (s:={s with heap:=h'}) e2 c d 1.27 ⟨kV kvs[i].1,H,I1,?_,⟨rfl,kvs[i],by rw[Xk hi],rfl⟩,⟨es,ep,hd,by rw[Z];exact a1⟩,λb U=>(O b U).1⟩⟩;rw[ek];exact Mq B
 done:=by
  intro X hP q hK Y i pins s σ H E I O st F;subst hP q hK;obtain⟨e,hi⟩:=F;obtain⟨es,ep,hd,st⟩:=st;obtain⟨vs,rel,dd⟩:=Jw I e hd;have Z:=rel.length;obtain⟨f0,f1,N,f3,f4,f5⟩:=O it (by simp);rw[Z]at st;exact wpAny_pyNext_dict_end (I.ok.hd Y) st dd (List.getElem?_eq_none 1.10) λh' eb=>⟨rfl,I.turned (t':=s.toks) (λb o U e=>eb b o U e) f0 f1 f3 f4 f5⟩
 self:=λ_ _ _ _ _ st h=>let⟨_,_,_,st⟩:=st;wpAny_pyIter_keyiter st h
theorem Kc{B:L2.St}{H2 H':Hp}{s2:zb}{D C:Addr}{ob:HO}(I2:Inv X pins σ H2 s2)(N:∀b∈fp,jG X pins H2 b)
  (I:s2.heap.objs.size<=D) (hC:s2.heap.objs.size<=C) (F:D≠C) (Z:Inv (bD X N' scope C s2 H2 fp) [(D,o)] B H' s') (new:∀h',h'.get? D=some o->bZ X.prog X.w (upd H' D ob) h' D ob)
  (h':Heap) (J:aaR C s'.heap h'):Inv X pins σ (upd H' D ob) {s' with heap:=h'}:=by
 obtain⟨eD,nD,_,a0,_⟩:=Z.pin (D,o) (Xf _ X_);refine I2.call' (ch:=fp) Z.os ?_ ?_ Z.bare (λb U=>⟨(N b U).2.2.2.1,(N b U).2.1,(N b U).2.2.2.2.1,(N b U).2.2.2.2.2⟩)
 .have ne:∀b o,s2.heap.get? b=some o->b≠C/\b≠D:=λb o e=>⟨XS (XC (Xm e) hC),XS (XC (Xm e) I)⟩
  refine⟨λb o e n U V=>J.extBut b o (ne b o e).1 (Z.base.keep b o e n U V),λb o e n U V=>?_,λb o e n V=>?_,λb o e V=>?_,λb xs e=>?_,λb o u e=>?_,λb ps e=>?_⟩
  .obtain⟨sl,e1⟩:=Z.base.slot b o e n U V
   exact⟨sl,J.extBut b _ (ne b o e).1 e1⟩
  .rw[aJ (ne b o e).2]
   exact Z.base.free b o e n V
  .obtain⟨o',e1⟩:=Z.base.there b o e V
   exact⟨o',J.extBut b _ (ne b o e).1 e1⟩
  .have e1:=Z.base.tups b xs e
   rw[aJ (aY e1 nD)];exact e1
  .have e1:=Z.base.frzs b o u e
   rw[aJ (aY e1 nD)];exact e1
  .obtain⟨more,e1⟩:=Z.base.tbls b ps e
   refine⟨more,?_⟩;rw[aJ (aY e1 nD)];exact e1
 .intro b u e
  by_cases U:b=D
  .subst U
   rw[aN]at e;cases e;exact new h' (J.extBut _ _ F eD)
  .rw[aJ U]at e
   have nC:∀b u,H' b=some u->b≠C:=λb u e z=>by
    have O:H' C=none:=Z.free;rw[z,O]at e;cases e
   refine(Z.hok b u e).stay (λc v Y q=>J.extBut c v ?_ q) (λc q=>by rw[aJ (aY q nD)];exact q) λc xs q=>by rw[aJ (aY q nD)];exact q
   rcases Y with z|z
   .rw[z]
    exact nC b u e
   .exact nC c _ z
section
variable{X:Cx}{elt kx vx target iter:Expr}{ifs:List Expr}{scope:Scope}{pos pos' pos2:Pos}{N':List Str}{cap:List (Option Nat)}{wi:TI}{g:TG}{tt:TT}{te tk tv:TE}
theorem DK{pins:List (Addr×Obj)}{σ B:L2.St}{H2 H':Hp}{Y s':zb}{fp:List Addr}{D C:Addr}{o:Obj}{ob:HO}{i:Nat}{x:Str}{Dn:Ends}(I2:Inv X pins σ H2 Y)(f2:∀b∈fp,jG X pins H2 b)
  (I:Y.heap.objs.size<=D) (hC:Y.heap.objs.size<=C) (a2:D≠C) (Z:Inv (bD X N' scope C Y H2 fp) [(D,o)] B H' s') (new:∀h',h'.get? D=some o->bZ X.prog X.w (upd H' D ob) h' D ob)
  (hN:X.N.Nodup) (hi:X.N[i]? =some x) (J:Loc X.env.scope x) (O:X.fn x=true∨X.env.scope.names.lookup x=some .local) (q:Dn.nx (σ.set i (some (.ref D))) (upd H' D ob)) :
  wpAny 1.11 X.A (assignAll (.ref D) ((YS [.Name x pos'] X.env).map (·.2))) (λ_ a0=>∃m,a0.heap.Ns C m/\∀h',aaR C a0.heap h'->SP X pins Dn .next {a0 with heap:=h'}) X.xe s':=by
 have I3:Inv X pins σ (upd H' D ob) s':=Kc I2 f2 I hC a2 Z new s'.heap ⟨rfl,λ_ _=>rfl⟩;obtain⟨m,a1,_⟩:=Z.loc;obtain⟨a5,nD,_,a6,_⟩:=Z.pin (D,o) (Xf _ X_);have a1:s'.heap.Ns C m:=a1;have a3:upd H' D ob C=none:=by
  rw[aJ (Ne.symm a2)];exact Z.free
 obtain⟨f0,V,a4,f3,f4,f5⟩:=I2.fpOk hC (I2.hok.fresh hC);have fC:jG X pins (upd H' D ob) C:=⟨a3,V,a4,f3,f4,f5⟩;obtain⟨oC,es,ep,gC,dC,F,k2⟩:=a1;have I4:=I3.pinned (fp:=[C]) (λb U=>by rw[Xv.mp U];exact fC) λb U=>⟨oC,by rw[Xv.mp U];exact gC,λv z=>by rw[dC]at z;cases z⟩;have ea:assignAll (.ref D) ((YS [.Name x pos'] X.env).map (·.2))=abf (.Name x pos') X.env (.ref D):=by
  unfold assignAll;simp[YS]
 rw[ea];refine wpAny_assign_Name (kZ I4 hN hi J (v:=.ref D) rfl (λa0 I5=>⟨m,?_,λh' sb=>?_⟩) O)
 .exact⟨oC,es,ep,(I5.pin (C,oC) (Xf _ (Xf _ (cW (Xv.mpr rfl) gC)))).1,dC,F,k2⟩
 .exact⟨_,_,I5.unpinned.turned (t':=a0.toks) (λb o U e=>sb.extBut b o U e) a3 V f3 f4 f5,q⟩
theorem QL{i:Nat}{x:Str}(hx:X.xe=NoX)(Y:X.calm=true)(hN:X.N.Nodup)(hi:X.N[i]? =some x)(Z:Loc X.env.scope x)(O:cN X.env.scope X.N N' scope cap)(a3:PI X target iter wi)
  (F:∀C a0 H fp,PG (bD X N' scope C a0 H fp) target g) (U:∀C a0 H fp,PTs (bD X N' scope C a0 H fp) ifs tt) (V:∀C a0 H fp,PE (bD X N' scope C a0 H fp) elt te)
  (hw:aaI 1.14 (some (.Name x pos')) pos2.line X.env=pure true:=by rfl) (hs:∀x,YZ iter X.env x=pure x:=by intro _;rfl)
  (hf:X.fn x=true∨X.env.scope.names.lookup x=some .local:=by first|exact .inl rfl|exact .inr rfl|assumption):PS X (.Assign [.Name x pos'] 1.14 pos2) (CZ (Fo cap wi g tt te) (pZ i)):=by
 intro pins s σ H Dn I h;rw[ada];refine gD (aaF ?_);rw[show aaG [.Name x pos'] 1.14 pos2.line X.env=pure true from hw];refine gD (Xg ?_);rw[Xu rfl,arm_evalThenUse_ListComp];refine gD (gD (abk (use:=some _) rfl hs (j7 λy hy hk=>I.ok.has y.1 (O.free y hy hk)) O.kind O.nm (thn (a3 pins s σ H _ I h) λv s1 h1=>thn h1 λa5 s2 h2=>?_)));obtain⟨it,fp,tn,J,H2,e,I2,T,a1,f2,cw⟩:=h2;subst e;refine ut (RR:=λacc C=>compPost 1.11 X.A X.xe (some _) _ acc C) Y O I2 T a1 f2 (λC=>F C _ _ _) (λC=>U C _ _ _) (λC=>V C _ _ _) cw ?_;intro D C s' H' ys B n a4 hD hC a2 I' rv q;obtain⟨hz,q⟩:=q;have nD:=(I'.pin (D,lobj B n) (Xf _ X_)).2.1;refine thn (DK (ob:=.lst ys) (Dn:=Dn) (pos':=pos') I2 f2 hD hC a2 I' (λh' e=>⟨hz,B,n,rv,e⟩) hN hi Z hf (q D nD)) λ_ a6 ⟨m,h1,h2⟩=>⟨m,h1,λh' sb=>Xg (Xg (h2 h' sb))⟩
theorem Fj{i:Nat}{x:Str}(hx:X.xe=NoX)(Y:X.calm=true)(hN:X.N.Nodup)(hi:X.N[i]? =some x)(Z:Loc X.env.scope x)(O:cN X.env.scope X.N N' scope cap)(a3:PI X target iter wi)
  (F:∀C a0 H fp,PG (bD X N' scope C a0 H fp) target g) (U:∀C a0 H fp,PTs (bD X N' scope C a0 H fp) ifs tt) (hk:∀C a0 H fp,PE (bD X N' scope C a0 H fp) kx tk) (V:∀C a0 H fp,PE (bD X N' scope C a0 H fp) vx tv)
  (hw:aaI 1.21 (some (.Name x pos')) pos2.line X.env=pure true:=by rfl) (hs:∀x,YZ iter X.env x=pure x:=by intro _;rfl)
  (hf:X.fn x=true∨X.env.scope.names.lookup x=some .local:=by first|exact .inl rfl|exact .inr rfl|assumption):PS X (.Assign [.Name x pos'] 1.21 pos2) (CZ (CK cap wi g tt tk tv) (pZ i)):=by
 intro pins s σ H Dn I h;rw[ada];refine gD (aaF ?_);rw[show aaG [.Name x pos'] 1.21 pos2.line X.env=pure true from hw];refine gD (Xg ?_);rw[Xu rfl,arm_evalThenUse_DictComp];refine gD (gD (abk (use:=some _) rfl hs (j7 λy hy hk=>I.ok.has y.1 (O.free y hy hk)) O.kind O.nm (thn (a3 pins s σ H _ I h) λv s1 h1=>thn h1 λa5 s2 h2=>?_)));obtain⟨it,fp,tn,J,H2,e,I2,T,a1,f2,cw⟩:=h2;subst e;refine Bv (RR:=λacc C=>compPost 1.11 X.A X.xe (some _) _ acc C) Y O I2 T a1 f2 (λC=>F C _ _ _) (λC=>U C _ _ _) (λC=>hk C _ _ _) (λC=>V C _ _ _) cw ?_;intro D C s' H' ys B o a4 hD hC a2 I' rv dk q;obtain⟨hz,q⟩:=q;have nD:=(I'.pin (D,o) (Xf _ X_)).2.1;refine thn (DK (ob:=.dK ys) (Dn:=Dn) (pos':=pos') I2 f2 hD hC a2 I' (λh' e=>⟨hz,beq_eq_false_iff_ne.mpr (Ne.symm (XS (XC I2.big hD))),B,rv,dk.at e⟩) hN hi Z hf (q D nD)) λ_ a6 ⟨m,h1,h2⟩=>⟨m,h1,λh' sb=>Xg (Xg (h2 h' sb))⟩
end
theorem xg:∀(more:List (Key×V)){kvs:List (Key×V)}{vs B:List (Key×Value)},KV kvs vs->KV more B->KV (putAll kvs more) (merged vs B)
 |[],kvs,vs,_,r,.nil=>r
 |p::m,kvs,vs,_::B,r,.cons h q=>by
  have e1:putAll kvs (p::m)=putAll (putK kvs p.1 p.2) m:=rfl;rw[e1];have:=xg m (r.put p.1 h.2) q;rw[h.1]at this;rw[h.1];exact this
def Fz:V->List V->Hp->VK->Prop:=λx vs H Q=>∃D kvs,x= .ref D/\H D=some (.dK kvs)/\
 ((∃l ys prs,vs=[.ref l]/\H l=some (.lst ys)/\Zz prs=Zz ys/\kvs.length+Zz prs<=50000/\(∀(j:Nat)(k:Key)(v:V),prs[j]? =some (k,v)->∃p:Addr,ys[j]? =some (V.ref p)/\H p=some (.tup [kV k,v]))/\Q .non (upd H D (.dK (putAll kvs prs))))∨
  (∃o more,vs=[.ref o]/\o≠D/\H o=some (.dK more)/\kvs.length+more.length<=50000/\Q .non (upd H D (.dK (putAll kvs more)))))
theorem GX(Y:X.calm=true):MtM X "dict.update" Fz:=by
 intro pins s σ H x vs v us Q I rx J h;obtain⟨D,kvs,rfl,hD,h⟩:=h;cases rx;have hh:X.A.handled=none:=I.ok.hd Y;have b1:200000<=Xp:=by decide
 obtain⟨z,a4,ds,rel,dd⟩:=xn I.hok hD;rcases h with⟨l,ys,prs,rfl,Z,O,hsz,hp,q⟩|⟨o,more,rfl,N,hO,hsz,q⟩
 .obtain⟨u,rfl,ru⟩:=J.one
  cases ru;obtain⟨_,B,n,a9,el⟩:=(show bZ X.prog X.w _ _ l (.lst ys)from I.hok l _ Z);have a6:s.TypeIs (.ref l) "list":=⟨_,el,rfl⟩;refine aex aey dd.typeIs aef (adZ _ _) (S:=λA R s'=>A=X.A/\s'=s/\∀s2,Inv X pins σ (upd H D (.dK (putAll kvs prs))) s2->R (.ok (.ret .none)) s2) ?_ ⟨rfl,rfl,λs2 U=>⟨.non,_,U,rfl,q⟩⟩;rintro A R s' ⟨rfl,rfl,k⟩;unfold Builtin.«dict.update»;refine gD ?_;unfold acW;refine gD (adH dd.typeIs ?_);show wpAny _ _ (pure (D,[X5 l])) _ _ _;refine Xg ?_;show wpAny _ _ (aaE "dict.update" D (.ref l) [] .none) _ _ _;unfold aaE;refine gD (aab a6 ?_);rw[Xu 1.27];refine gD (mC (show X.A.in1.handled=none from hh) el λh2 a0 a3=>?_);rw[Xu (by rfl)];have U:Inv X pins σ H {s' with heap:=h2,toks:=a0}:=I.kept (t':=a0) a3;obtain⟨a8,b0,p2,_⟩:=U.list (SqL.of Z);refine gD (abn (gD (abx p2.isList ?_)));have I3:Inv X pins σ H {s' with heap:=h2.push {cls:=.type "list_iterator",data:=.fields #[.ref l,.int 0 0]},toks:=a0}:=U.kept (t':=a0) λb o e=>za _ e;have a5:jG X pins H h2.objs.size:=U.fpOk (Xn _) (U.hok.fresh (Xn _));refine Xg ⟨aal F.plain_dict_update_loop _,?_⟩;refine wC (A:=X.A) (l:=l) (xs:=ys) (prs:=prs) hh O ys.length 0 kvs _ _ rfl (ZP _) I3 hD (SqL.of Z) a5 ⟨_,Xr _ rfl,rfl,rfl⟩ hp 1.10 λs2 I4=>?_;rw[afe]at I4;exact k s2 I4
 .obtain⟨u,rfl,ru⟩:=J.one
  cases ru;obtain⟨z2,a2,ms,a1,a7⟩:=xn I.hok hO;have l1:=rel.length;have l2:=a1.length;refine aex aey dd.typeIs aef (adZ _ _) (meets_dict_update (bA X.prog X.w) D o (Ne.symm N) a2) ⟨ds,ms,dd,a7,by omega,λh' d1 d2 sb=>?_⟩;have V:∃q,h'.get? D=some q:=let⟨q,_,_,hq,_⟩:=d1;⟨q,hq⟩;have b2:=ue more kvs;exact⟨.non,_,m7 (t':=s.toks) I (by rw[hD];exact YT) sb V (xO 1.10 a4 (xg more rel a1) d1),rfl,q⟩
mutual
noncomputable def pyD:Dt->PyData
 |.non=>.none
 |.bl b=>.bool b
 |.int i=>.int i
 |.str x=>.str x
 |.lst ds=>.list (pyL ds)
 |.tup ds=>.tuple (pyL ds)
noncomputable def pyL:List Dt->List PyData
 |[]=>[]
 |d::r=>pyD d::pyL r
end
mutual
theorem noDict:∀d:Dt,aau (pyD d)=false
 |.non=>by simp[pyD,aau]
 |.bl _=>by simp[pyD,aau]
 |.int _=>by simp[pyD,aau]
 |.str _=>by simp[pyD,aau]
 |.lst ds=>by simp[pyD,aau,yE ds]
 |.tup ds=>by simp[pyD,aau,yE ds]
theorem yE:∀ds:List Dt,acE (pyL ds)=false
 |[]=>by simp[pyL,acE]
 |d::r=>by simp[pyL,acE,noDict d,yE r]
end
mutual
theorem Bb{X:Cx}{pins:List (Addr×Obj)}{σ:L2.St}{H:Hp}{s:zb}(I:Inv X pins σ H s):∀(d:Dt)(x:V)(u:Value),Brs X.K H d x->RelV x u->∃q,Reads s.heap u (pyD d) q
 |.non,x,u,h,r=>by simp![Brs]at h;subst h;cases (show u=Yg from r);exact⟨_,.none⟩
 |.bl b,x,u,h,r=>by simp![Brs]at h;subst h;cases (show u=abZ b from r);exact⟨_,.bool b⟩
 |.int i,x,u,h,r=>by simp![Brs]at h;subst h;obtain⟨t,rfl⟩:=(show ∃t,u=abS i t from r);exact⟨_,.int i t⟩
 |.str y,x,u,h,r=>by simp![Brs]at h;subst h;obtain⟨t,rfl⟩:=(show ∃t,u=abe y t from r);exact⟨_,.str y t⟩
 |.lst ds,x,u,h,r=>by
  simp![Brs]at h;obtain⟨a,xs,rfl,N,U⟩:=h;cases (show u=X5 a from r);obtain⟨B,J,p,_⟩:=I.list N;obtain⟨q,Z⟩:=qy I ds xs B U J;obtain⟨o,h1,h2,n,O⟩:=p.isList;exact⟨_,.list h1 h2 O Z⟩
 |.tup ds,x,u,h,r=>by
  simp![Brs]at h;obtain⟨a,xs,rfl,N,U⟩:=h;cases (show u=X5 a from r);obtain⟨B,J,p,_⟩:=I.tuple N;obtain⟨q,Z⟩:=qy I ds xs B U J;obtain⟨o,h1,h2,n,O⟩:=p;exact⟨_,.tuple h1 h2 O Z⟩
theorem qy{X:Cx}{pins:List (Addr×Obj)}{σ:L2.St}{H:Hp}{s:zb}(I:Inv X pins σ H s):∀(ds:List Dt)(xs:List V)(us:List Value),kE X.K H ds xs->Vals xs us->∃J,ReadsAll s.heap us (pyL ds) J
 |[],xs,us,h,r=>by simp![kE]at h;subst h;cases r;exact⟨_,.nil⟩
 |d::ds,xs,us,h,r=>by
  simp![kE]at h;obtain⟨x,ys,rfl,h1,h2⟩:=h;cases r with
  |cons p q=>
   obtain⟨J,Z⟩:=Bb I d x _ h1 p;obtain⟨bs,U⟩:=qy I ds ys _ h2 q;exact⟨_,.cons Z U⟩
end
end Jb
namespace PySem
open PySem.Builtin PySem.Builtin.SmallTypes
def xM(id:String):Builtin:=λargs=>do
 let x ←slotArgs "__next__" 0 args
 match x with
 |(self,snd)=>do
  let seq ←field self 0
  let q:Unit->Sem acn:=λ_=>do
   let y ←field self 1
   match y with
   |abS i tok=>do
    let z ←seqItems? seq
    match z with
    |some xs=>
     match xs[i.toNat]? with
     |some v=>do
      setField self 1 (Zv (i+1))
      ret v
     |none=>do
      rule (toString id++toString ".end")
      setField self 0 Yg
      acz
    |_=>unsupported (toString "internal:"++toString id)
   |_=>unsupported (toString "internal:"++toString id)
  if(seq==Yg)=true then do
   rule (toString id++toString ".ended")
   let r ←acz
   q r
  else q ()
theorem sV:Builtin.«tuple_iterator.__next__»=xM "tuple_iterator.__next__":=rfl
section
variable{prog:Program}{w:World}{A:Around}{E:Value->Shared->Prop}{it t:Addr}{i:Nat}{items:Array Value}{h:Heap}{g:Array GenState}{d:Drawn}{tk:Nat}{os:OsState}
theorem fJ{x:Value}{Q:Value->zb->Prop}(st:h.IsTupleIter it t i)(p:h.IsTuple t items)(J:items[i]? =some x)
  (q:∀h',h'.IsTupleIter it t (i+1)->aaR it h h'->Q x ⟨h',g,d,tk,os⟩):wpAny 1.13 A (aas (.ref it)) Q E ⟨h,g,d,tk,os⟩:=by
 have I:(⟨h,g,d,tk,os⟩:zb).TypeIs (.ref it) "tuple_iterator":=st.typeIs;unfold aas;refine gD (Yw I Zm ?_);obtain⟨o,N,Y,hd⟩:=st;obtain⟨Z,h1,h2,n,O⟩:=p
 show 1
 refine ZD Zm.plain aco (Zm.check _ _ _ _ _ _ _ _ I (ace _) ?_);rw[sV];unfold xM
 show 1
 rw[hd];refine Xg (Xg ?_);show wpAny _ _ (if(X5 t==Yg)=true then _ else _) _ _ _;rw[show(X5 t==Yg)=false from rfl,Xz X6]
 show 1
 rw[hd];refine Xg (Xg ?_);show wpAny _ _ (seqItems? (X5 t) >>=_) _ _ _;refine gD (aat h1 O ?_);dsimp only;have hi:(i:Int).toNat=i:=YH i;rw[hi,J];dsimp only;refine gD (abo N hd (by show 1<2;decide) ?_);refine Xg ?_;dsimp only;refine Xg (q _ ?_ ⟨Z9 ..,λb U=>Yd h _ (Ne.symm U)⟩);refine⟨_,ZX _ N (adG (ack hd _)),(aeM ..).trans Y,?_⟩;rw[ack hd];have e1:(((i+1:Nat)):Int)=(i:Int)+1:=by omega
 rw[e1];rfl
theorem Li{α:Type}{Q:α->zb->Prop}(q:A.handled=none)
  (N:∀h' e,(∀b o,h.get? b=some o->h'.get? b=some o)->(∃o,h'.get? e=some o/\o.cls= .type "StopIteration")->E (.ref e) ⟨h',g,d,tk,os⟩):wpAny 1.13 A (acz:Sem α) Q E ⟨h,g,d,tk,os⟩:=by
 unfold acz
 show 1
 unfold raiseNew;refine gD (acy ?_);rw[q];dsimp only;exact abC (N _ _ (λb o e=>za _ (za _ e)) ⟨_,Xr _ rfl,rfl⟩)
theorem kh{Q:Value->zb->Prop}(q:A.handled=none)(st:h.IsTupleIter it t i)(p:h.IsTuple t items)(J:items[i]? =none)
  (hq:∀h' e,Heap.ExtBut it h h'->(∃o,h'.get? e=some o/\o.cls= .type "StopIteration")->E (.ref e) ⟨h',g,d,tk,os⟩):wpAny 1.13 A (aas (.ref it)) Q E ⟨h,g,d,tk,os⟩:=by
 have I:(⟨h,g,d,tk,os⟩:zb).TypeIs (.ref it) "tuple_iterator":=st.typeIs;unfold aas;refine gD (Yw I Zm ?_);obtain⟨o,N,Y,hd⟩:=st;obtain⟨Z,h1,h2,n,O⟩:=p
 show 1
 refine ZD Zm.plain aco (Zm.check _ _ _ _ _ _ _ _ I (ace _) ?_);rw[sV];unfold xM
 show 1
 rw[hd];refine Xg (Xg ?_);show wpAny _ _ (if(X5 t==Yg)=true then _ else _) _ _ _;rw[show(X5 t==Yg)=false from rfl,Xz X6]
 show 1
 rw[hd];refine Xg (Xg ?_);show wpAny _ _ (seqItems? (X5 t) >>=_) _ _ _;refine gD (aat h1 O ?_);dsimp only;have hi:(i:Int).toNat=i:=YH i;rw[hi,J];dsimp only;refine gD (abn ?_);refine gD (abo N hd (by show 0<2;decide) ?_);refine Li (show A.in1.handled=none from q) λh' e B V=>?_;exact hq h' e (λb ob U hg=>B b ob ((Yd h _ (Ne.symm U)).trans hg)) V
theorem Draws.tuple(q:A.handled=none)(it t:Addr)(Y:t≠it)(items:Array Value):Draws prog w A it [it,t] items.size (λi v=>items[i]? =some v) λi h=>h.IsTupleIter it t i/\h.IsTuple t items where
 live:=λi h st=>let⟨o,ho,_⟩:=st.1;⟨o,ho⟩
 frame:=λi h h' st k=>⟨st.1.at λo e=>k it (by simp) o e,let⟨o,h1,h2⟩:=st.2;⟨o,k t (by simp) o h1,h2⟩⟩
 item:=λi s Q E hi st k=>by
  obtain⟨h,g,d,tk,os⟩:=s;refine fJ st.1 st.2 (x:=items[i]) (by simp[hi]) λh' J B=>k _ h' tk (by simp[hi]) ⟨J,?_⟩ B;obtain⟨o,h1,h2⟩:=st.2;exact⟨o,(B.2 t Y).trans h1,h2⟩
 done:=λs Q E st k=>by
  obtain⟨h,g,d,tk,os⟩:=s;exact kh q st.1 st.2 (by simp) λh' e U V=>k h' e U V
theorem Draws.tupleEnd(q:A.handled=none)(it t:Addr)(i:Nat)(items:Array Value)(J:items[i]? =none):Draws prog w A it [it,t] i (λ_ _=>False) λj h=>j=i/\h.IsTupleIter it t i/\h.IsTuple t items where
 live:=λj h st=>let⟨o,ho,_⟩:=st.2.1;⟨o,ho⟩
 frame:=λj h h' st k=>⟨st.1,st.2.1.at λo e=>k it (by simp) o e,let⟨o,h1,h2⟩:=st.2.2;⟨o,k t (by simp) o h1,h2⟩⟩
 item:=λj s Q E I st k=>absurd st.1 (XS I)
 done:=λs Q E st k=>by
  obtain⟨h,g,d,tk,os⟩:=s;exact kh q st.2.1 st.2.2 J λh' e U V=>k h' e U V
theorem uH{Q:acn->zb->Prop}(F:h.IsTuple t items)
  (N:Q (.done (.ret (.ref (h.objs.size+1)))) ⟨(h.push {cls:=.type "tuple_iterator",data:=.fields #[.ref t,.int 0 0]}).push {cls:=.type "enumerate",data:=.fields #[.none,.bool false,.ref h.objs.size,Zv 0,.none,.none]},g,d,tk,os⟩) :
  wpAny 1.13 A (Builtin.«enumerate.__new__» ⟨[.type "enumerate",.ref t],[]⟩) Q E ⟨h,g,d,tk,os⟩:=by
 have V:=sub_enumerate
 show 1
 refine wpAny_stack λst _ _ _=>?_;refine Xg ?_;have J:wpAny 1.13 A (do let it ←pyIter (.ref t);let r ←afg (Y8 "enumerate") (aeF++[it,Zv 0,Yg,Yg]);ret r) Q E ⟨h,g,d,tk,os⟩:=by
  refine gD (wpAny_pyIter_tuple F ?_)
  show 1
  rw[YM];exact N
 dsimp only;split
 .split
  .refine gD (aa4 (a:=(X5 t,none)) (by rfl) ?_)
   exact J
  .refine gD (aa4 (a:=(X5 t,none)) (by rfl) ?_)
   exact J
 .rw[Xz 1.27]
  refine gD (aa4 (a:=(X5 t,none)) (by rfl) ?_);exact J
theorem mD{Q:Value->zb->Prop}(q:h.IsTuple t items)
  (N:∀h',IsEnum h' (h.objs.size+1) h.objs.size 0 .none->h'.IsTupleIter h.objs.size t 0->h'.objs.size=h.objs.size+2->(∀b o,h.get? b=some o->h'.get? b=some o)->Q (.ref (h.objs.size+1)) ⟨h',g,d,tk,os⟩) :
  wpAny 1.13 A (call (.type "enumerate") [.ref t]) Q E ⟨h,g,d,tk,os⟩:=by
 have e1:((h.push {cls:=.type "tuple_iterator",data:=.fields #[.ref t,.int 0 0]}).push {cls:=.type "enumerate",data:=.fields #[.none,.bool false,.ref h.objs.size,Zv 0,.none,.none]}).get? (h.objs.size+1)=some {cls:=.type "enumerate",data:=.fields #[.none,.bool false,.ref h.objs.size,Zv 0,.none,.none]}:=by
  rw[←YM h {cls:=.type "tuple_iterator",data:=.fields #[.ref t,.int 0 0]}];exact Xr _ rfl
 refine adI F.called_enumerate 1.27 (F.typeCall_enumerate_1 _) (F.newCall_enumerate_1 _) (λobj=>ad0 _ _) F.entry_enumerate_new (S:=λZ R s'=>s'=⟨h,g,d,tk,os⟩/\R (.ok (.ret (.ref (h.objs.size+1)))) ⟨(h.push {cls:=.type "tuple_iterator",data:=.fields #[.ref t,.int 0 0]}).push {cls:=.type "enumerate",data:=.fields #[.none,.bool false,.ref h.objs.size,Zv 0,.none,.none]},g,d,tk,os⟩) ?_ ⟨rfl,⟨⟨_,e1,rfl⟩,N _ e1 ⟨_,za _ (Xr _ rfl),rfl,rfl⟩ (by rw[YM,YM]) λb o e=>za _ (za _ e)⟩⟩;rintro Z R s' ⟨rfl,O⟩;exact uH q O
end
end PySem
namespace Jb
open PySem PySem.Spec PyProof.Rows L2
def Wh(K:Xl)(a:Addr):It:=
 ⟨λi H=>∃xs x,SqT K H a xs/\xs[i]? =some x,λi H x H'=>∃p v,H p=none/\x= .ref p/\(∀xs,SqT K H a xs->xs[i]? =some v)/\H'=upd H p (.tup [.int i,v]),λi H=>∃xs,SqT K H a xs/\xs.length<=i⟩
theorem CW{K:Xl}{x1}(a e it:Addr)(a2:e≠it)(a8:e≠a)(b3:it≠a) :
  Turn P w K (.Tuple elts x1 pos) (Wh K a) [e,it] e (λi h=>(∃a0,IsEnum h e it (i:Int) a0)/\h.IsTupleIter it a i)where
 mem:=by simp
 obj:=λi h st b U=>by
  obtain⟨⟨a0,V⟩,o,N,c,d⟩:=st;rcases Xj.mp U with z|z
  .subst z
   exact⟨_,V,λv z=>by cases z⟩
  .have z:b=it:=by simpa using z
   subst z;exact⟨o,N,λv z=>by rw[d]at z;cases z⟩
 keep:=λi h h' st k=>by
  obtain⟨⟨a0,V⟩,a1⟩:=st;exact⟨⟨a0,k e (by simp) _ V⟩,a1.at λo q=>k it (by simp) o q⟩
 item:=by
  intro X hP hw hK Y i pins s σ H E I O st F;subst hP hw hK;obtain⟨xs,x,hq,J⟩:=F;obtain⟨B,rv,p,hz⟩:=I.tuple hq;obtain⟨u,hu,ru⟩:=rv.get J;obtain⟨⟨a0,V⟩,a1⟩:=st;have b0:i<B.toArray.size:=by simp;exact(qb.mp hu).1
  have p':s.heap.IsTuple a B.toArray:=p;refine wpAny_pyNext_enum_itemD (Draws.tuple (show X.A.in1.handled=none from I.ok.hd Y) it a (Ne.symm b3) B.toArray) V ⟨a1,p'⟩ b0 a2 (λz=>by rcases Xj.mp z with q|q;exact a2 q;exact a8 (Xv.mp q)) λy h1 tk hy b2 a4 a9 b4 k1=>?_;have ey:y=u:=by
   have:B[i]? =some y:=by simpa using hy
   rw[hu]at this;exact(Yn this).symm
  subst ey;refine⟨.ref s.heap.objs.size,rfl,acw b2 λh2 a6 a3=>?_⟩;have b1:e<s.heap.objs.size:=Xm V;have a5:s.heap.objs.size≠e:=Y4 b1;have a7:h2.get? s.heap.objs.size=some {cls:=.type "tuple",data:=.seq #[.int i tk,y]}:=a3.extBut _ _ a5 a9;have I2:Inv X pins σ (upd H s.heap.objs.size (.tup [.int i,x])) {s with heap:=h2,toks:=tk+1}:=by
   refine mH (fp:=[e,it]) (t':=tk+1) I O (λb o U q=>?_) (Xn _) ?_
   .have n1:b≠e:=λz=>U (by simp[z])
    have n2:b≠it:=λz=>U (by simp[z]);exact a3.extBut b o n1 (k1 b o n1 n2 q)
   .exact⟨by show 2<=Xp;decide,[.int i tk,y],.cons ⟨_,rfl⟩ (.cons ru .nil),_,a7,rfl,_,rfl,rfl⟩
  refine⟨.ref s.heap.objs.size,upd H s.heap.objs.size (.tup [.int i,x]),I2,rfl,⟨_,x,I.hok.fresh (Xn _),rfl,λys hy=>by rw[I.tuple_inj hy hq];exact J,rfl⟩,?_,λb U=>?_⟩
  .refine⟨⟨y,?_⟩,a4.1.extBut a3.extBut (Ne.symm a2)⟩
   have e1:(((i+1:Nat)):Int)=(i:Int)+1:=by omega
   rw[e1];exact a6
  .rw[aJ]
   .exact(O b U).1
   .intro z
    rw[z]at U;rcases Xj.mp U with q|q
    .exact a5 q
    .have q:s.heap.objs.size=it:=by simpa using q
     obtain⟨o,N,_⟩:=a1;exact absurd (Xm N) (by rw[q];exact YQ _)
 done:=by
  intro X hP hw hK Y i pins s σ H E I O st F;subst hP hw hK;obtain⟨xs,hq,J⟩:=F;obtain⟨B,rv,p,hz⟩:=I.tuple hq;obtain⟨⟨a0,V⟩,a1⟩:=st;have Z:=rv.length;have p':s.heap.IsTuple a B.toArray:=p;refine wpAny_pyNext_enum_endD (Draws.tupleEnd (show X.A.in1.handled=none from I.ok.hd Y) it a i B.toArray (by simp;omega)) V ⟨rfl,a1,p'⟩ λh1 eb=>⟨rfl,?_⟩;exact iQ (fp:=[e,it]) (t':=s.toks) I O λb o U q=>eb b o (λz=>U (by simp[z])) q
 self:=λA i s Q E st h=>by
  obtain⟨⟨a0,V⟩,_⟩:=st;exact abw V h
def Jg(K:Xl)(ta:TA):TI:=λσ H R=>ta σ H λvs H1=>∃a,vs=[.ref a]/\(((∃xs,SqL K H1 a xs)/\R (Ite K a) H1)∨((∃xs,SqT K H1 a xs)/\R (Wh K a) H1))
variable{X:Cx}
theorem Kr{a:Expr}{ta:TA}{p:Pos}{x1}(hg:Gl X "enumerate")(J:X.mg "enumerate"=none)(Z:PA X [a] ta)(hs:Xy [a] X.env=[(false,eval a X.env)]:=by rfl):PI X (.Tuple elts x1 tpos) (.Call (.Name "enumerate" p) [a] [] pos) (Jg X.K ta):=by
 intro pins s σ H R I h;refine Call_ (mO I hg J boot_enumerate (ZJ (thn (Z pos pins s σ H _ I h) λus B ⟨vs,H1,O,r1,q1⟩=>?_) hs rfl));obtain⟨l,e,q⟩:=q1;subst e;obtain⟨u,rfl,ru⟩:=vals1 r1;cases ru;have fin:∀b∈[B.heap.objs.size+1,B.heap.objs.size],jG X pins H1 b:=λb U=>by
  have a2:B.heap.objs.size<=b:=by
   rcases Xj.mp U with z|z
   .rw[z];exact adu _
   .have z:b=B.heap.objs.size:=by simpa using z
    rw[z];exact Xn _
  exact O.fpOk a2 (O.hok.fresh a2)
 rcases q with⟨⟨xs,N⟩,q⟩|⟨⟨xs,N⟩,q⟩
 .obtain⟨its,rv,pl,hz⟩:=O.list N
  refine call_enumerate_list pl.isList λh1 V a0 hsz k1=>?_;have I2:Inv X pins σ H1 {B with heap:=h1}:=O.kept (t':=B.toks) k1;refine abw V ?_;exact⟨B.heap.objs.size+1,[B.heap.objs.size+1,B.heap.objs.size],_,_,H1,rfl,I2,Hw l _ _ (acX _),⟨⟨_,V⟩,a0⟩,fin,q⟩
 .obtain⟨its,rv,pl,hz⟩:=O.tuple N
  have a1:B.heap.IsTuple l its.toArray:=pl;have Y:l<B.heap.objs.size:=let⟨_,h1,_⟩:=a1;Xm h1;obtain⟨F,g,d,tk,os⟩:=B;refine mD a1 λh1 V a0 hsz k1=>?_;have I2:Inv X pins σ H1 {heap:=h1,gens:=g,drawn:=d,toks:=tk,os:=os}:=O.kept (t':=tk) k1;refine abw V ?_;exact⟨F.objs.size+1,[F.objs.size+1,F.objs.size],_,_,H1,rfl,I2,CW l _ _ (acX _) (Y4 (abu Y)) (Y4 Y),⟨⟨_,V⟩,a0⟩,fin,q⟩
def Wz(K:Xl)(te:TE):TI:=λσ H R=>te σ H λx H1=>∃a,x= .ref a/\(((∃xs,SqL K H1 a xs)/\R (Itl K a) H1)∨((∃xs,SqT K H1 a xs)/\R (Itt K a) H1))
variable{te:TE}
theorem Ui(Z:PE X e te):PI X tg e (Wz X.K te):=by
 intro pins s σ H R I h;refine thn (Z pins s σ H _ I h) λv B ⟨x,H1,O,J,F⟩=>?_;obtain⟨a,ex,q⟩:=F;subst ex;cases J;have fin:∀b∈[B.heap.objs.size],jG X pins H1 b:=λb U=>by
  rw[Xv.mp U];exact O.fpOk (Xn _) (O.hok.fresh (Xn _))
 rcases q with⟨⟨xs,N⟩,q⟩|⟨⟨xs,N⟩,q⟩
 .obtain⟨its,rv,p,hz⟩:=O.list N
  refine abx p.isList ?_;exact⟨B.heap.objs.size,[B.heap.objs.size],_,_,H1,rfl,O.kept (t':=B.toks) λb o e=>za _ e,Hs a _,⟨_,Xr _ rfl,rfl,rfl⟩,fin,q⟩
 .obtain⟨its,rv,p,hz⟩:=O.tuple N
  refine wpAny_pyIter_tuple (show B.heap.IsTuple a its.toArray from p) ?_;exact⟨B.heap.objs.size,[B.heap.objs.size],_,_,H1,rfl,O.kept (t':=B.toks) λb o e=>za _ e,BZ a _,⟨_,Xr _ rfl,rfl,rfl⟩,fin,q⟩
end Jb
namespace PySem
open PySem.Builtin PySem.Builtin.List
theorem F.jb_entry_ext:adY table "list.extend.loop"=some Builtin.«list.extend.loop»:=acV (by kernel_rfl)
theorem F.jb_plain_ext:plainId "list.extend.loop"=true:=by decide +kernel
section
variable{prog:Program}{w:World}{A:Around}{E:Value->Shared->Prop}{it l D:Addr}{items:Array Value}{g:Array GenState}{d:Drawn}{tk:Nat}{os:OsState}
def LO(xs:Array Value)(c:Nat):Obj:={cls:=.type "list",data:=.seq xs c}
end
end PySem
namespace Jb
open PySem PySem.Spec PyProof.Rows L2
def Rk(K:Xl)(A:Yy):List V->Hp->VK->Prop:=λxs H Q=>∃a d,xs=[.ref a]/\Brs K H d (.ref a)/\A.guards=some []/\A.units+((pyD d).depth+3)<cLine/\(pyD d).showable=true/\(pyD d).shown.length<=Xp/\Q (.str (pyD d).shown) H
variable{X:Cx}
theorem Ht:dO X (.type "str") (Rk X.K X.A):=by
 intro pins s σ H xs us Q I r h;obtain⟨a,d,rfl,U,F,V,N,Y,q⟩:=h;obtain⟨u,rfl,O⟩:=vals1 r;cases O;obtain⟨J,Z⟩:=Bb I d (.ref a) (.ref a) U rfl;exact str_of_reads Z N (λz=>by rw[noDict d]at z;cases z) F V (λ_ _ e=>e) (λh' u tk B=>⟨.str _,H,I.kept (t':=tk) B,⟨_,rfl⟩,q⟩) Y
inductive Mk where
 |own|frz|brw|bro|scr
 deriving DecidableEq
inductive D where
 |non|bl (b:Bool)|int (i:Int)|str (x:Str)|ty (n:String)
 |tup (ds:List D)
 |lst (m:Mk) (ds:List D)
 |dct (m:Mk) (ks:List Key) (ds:List D)
 |ins (m:Mk) (c:Str) (fs:List Str) (ds:List D)
structure Gc where
 K:Xl
 mg:Str->Option Value
structure Wn where
 n:Addr->Prop
 s:Addr->Prop
 o:Addr->Prop
def Wn.free(W:Wn)(a:Addr):Prop:=¬W.n a/\¬W.s a/\¬W.o a
def KO(K:Xl)(a:Addr)(o:HO):Prop:=∃xs,o= .lst xs/\∃(ob:Obj)(B:Array Value)(n:Nat),K.lookup a=some ob/\ob.cls= .type "list"/\ob.dict=none/\ob.data= .seq B n/\B.size<=Xp/\Vals xs B.toList
def cP(B:Addr->HO->Prop)(H:Hp)(W:Wn)(a:Addr)(o:HO):Mk->List Addr->List Addr->Prop
 |.own,L,M=>H a=some o/\L=a::M
 |.frz,L,M=>H a=some o/\W.free a/\M=[]/\L=[]
 |.brw,L,M=>H a=some o/\W.s a/\M=[]/\L=[]
 |.bro,L,M=>H a=some o/\M=[]/\L=[]
 |.scr,L,M=>((Rd H a o/\W.free a)∨B a o)/\M=[]/\L=[]
variable{B:Addr->HO->Prop}{H:Hp}{W:Wn}{o:HO}{m:Mk}
theorem cP.sub(h:cP B H W a o m L M):Zn M L:=by
 cases m with
 |own=>rw[h.2];exact List.sublist_cons_self a M
 |frz=>rw[h.2.2.1];exact abO L
 |brw=>rw[h.2.2.1];exact abO L
 |bro=>rw[h.2.1];exact abO L
 |scr=>rw[h.2.1];exact abO L
theorem cP.rx(h:cP B H W a o m L M):Rd H a o∨B a o:=by
 cases m with
 |own=>exact .inl (.inl h.1)
 |frz=>exact .inl (.inl h.1)
 |brw=>exact .inl (.inl h.1)
 |bro=>exact .inl (.inl h.1)
 |scr=>exact h.1.imp (λz=>z.1) id
variable{xs:List V}
theorem cP.sq{K:Xl}(h:cP (KO K) H W a (.lst xs) m L M):SqL K H a xs:=by
 rcases h.rx with z|⟨ys,e,z⟩
 .exact .inl z
 .cases e
  exact .inr z
variable{kvs:List (Key×V)}
theorem cP.rdD{K:Xl}(h:cP (KO K) H W a (.dK kvs) m L M):Rd H a (.dK kvs):=by
 rcases h.rx with z|⟨ys,e,z⟩
 .exact z
 .cases e
theorem cP.at(h:cP B H W a o m L M)(J:m≠.scr):H a=some o:=by
 cases m with
 |own=>exact h.1
 |frz=>exact h.1
 |brw=>exact h.1
 |bro=>exact h.1
 |scr=>exact absurd rfl J
mutual
noncomputable def Rep(G:Gc)(H:Hp)(W:Wn):D->V->List Addr->Prop
 |.non,v,L=>v= .non/\L=[]
 |.bl b,v,L=>v= .bl b/\L=[]
 |.int i,v,L=>v= .int i/\L=[]
 |.str x,v,L=>v= .str x/\L=[]
 |.ty n,v,L=>v= .ty n/\L=[]
 |.tup ds,v,L=>∃a xs,v= .ref a/\H a=some (.tup xs)/\aD G H W ds xs L
 |.lst m ds,v,L=>∃a xs M,v= .ref a/\aD G H W ds xs M/\cP (KO G.K) H W a (.lst xs) m L M
 |.dct m ks ds,v,L=>∃a kvs M,v= .ref a/\(List.map (·.1) kvs=ks/\ks.Nodup)/\aD G H W ds (List.map (·.2) kvs) M/\cP (KO G.K) H W a (.dK kvs) m L M
 |.ins m c fs ds,v,L=>∃a C dx kvs M,v= .ref a/\G.mg c=some (.ref C)/\List.map (·.1) kvs=fs/\aD G H W ds (List.map (·.2) kvs) M/\cP (KO G.K) H W a (.ins C dx kvs) m L M
noncomputable def aD(G:Gc)(H:Hp)(W:Wn):List D->List V->List Addr->Prop
 |[],xs,L=>xs=[]/\L=[]
 |d::r,xs,L=>∃x ys M M',xs=x::ys/\L=M++M'/\Rep G H W d x M/\aD G H W r ys M'
end
variable{G:Gc}
theorem aD.nil:aD G H W [] [] []:=by simp[aD]
theorem aD.cons{d:D}{r:List D}{x:V}{ys:List V}{M M':List Addr}(h:Rep G H W d x M)(t:aD G H W r ys M'):aD G H W (d::r) (x::ys) (M++M'):=by
 rw[aD];exact⟨x,ys,M,M',rfl,rfl,h,t⟩
variable{d:D}
theorem aD.one{x:V}(h:Rep G H W d x M):aD G H W [d] [x] M:=by
 have:=aD.cons h aD.nil;rwa[XJ]at this
theorem aD.inv{r:List D}(h:aD G H W (d::r) xs L):∃x ys M M',xs=x::ys/\L=M++M'/\Rep G H W d x M/\aD G H W r ys M':=by
 rw[aD]at h;exact h
theorem aD.inv0(h:aD G H W [] xs L):xs=[]/\L=[]:=by
 rw[aD]at h;exact h
theorem aD.length:∀{ds:List D}{xs:List V}{L:List Addr},aD G H W ds xs L->ds.length=xs.length
 |[],xs,L,h=>by rw[h.inv0.1];rfl
 |d::r,xs,L,h=>by
  obtain⟨x,ys,M,M',rfl,_,_,h⟩:=h.inv;simp[aD.length h]
theorem aD.append:∀{ds es:List D}{xs ys:List V}{L M:List Addr},aD G H W ds xs L->aD G H W es ys M->aD G H W (ds++es) (xs++ys) (L++M)
 |[],es,xs,ys,L,M,h,h'=>by obtain⟨rfl,rfl⟩:=h.inv0;exact h'
 |d::r,es,xs,ys,L,M,h,h'=>by
  obtain⟨x,zs,A,B,rfl,rfl,h1,h2⟩:=h.inv;rw[aan];exact .cons h1 (aD.append h2 h')
theorem aD.split:∀{ds es:List D}{xs:List V}{L:List Addr},aD G H W (ds++es) xs L->∃ys zs A B,xs=ys++zs/\L=A++B/\aD G H W ds ys A/\aD G H W es zs B
 |[],es,xs,L,h=>⟨[],xs,[],L,rfl,rfl,.nil,h⟩
 |d::r,es,xs,L,h=>by
  obtain⟨x,zs,A,B,rfl,rfl,h1,h2⟩:=aD.inv (r:=r++es) h;obtain⟨ys,Z,q,N,rfl,rfl,O,F⟩:=aD.split h2;exact⟨x::ys,Z,A++q,N,rfl,by rw[aan],.cons h1 O,F⟩
variable{ds:List D}
theorem aD.at(h:aD G H W ds xs L)(e:ds[j]? =some d) :
  ∃A B x ys zs J M Y,ds=A++d::B/\A.length=j/\xs=ys++x::zs/\ys.length=j/\L=J++(M++Y)/\aD G H W A ys J/\Rep G H W d x M/\aD G H W B zs Y:=by
 have I:j<ds.length:=(qb.mp e).1;have hd:ds=ds.take j++d::ds.drop (j+1):=by
  have:ds[j]=d:=(qb.mp e).2;rw[←this,ZQ,abU]
 rw[hd]at h;obtain⟨ys,zs,A,B,rfl,rfl,h1,h2⟩:=aD.split h;obtain⟨x,q,M,M',rfl,rfl,O,F⟩:=h2.inv;have Z:(ds.take j).length=j:=by rw[aaU];omega
 exact⟨_,_,x,ys,q,A,M,M',hd,Z,rfl,by rw[←h1.length];exact Z,rfl,h1,O,F⟩
theorem aD.get(h:aD G H W ds xs L)(e:ds[j]? =some d):∃x M,xs[j]? =some x/\Rep G H W d x M/\Zn M L:=by
 obtain⟨A,B,x,ys,zs,J,M,Y,_,_,rfl,Z,rfl,_,h,_⟩:=h.at e;exact⟨x,M,by rw[Y0 1.10,Z,aax];rfl,h,(aay M Y).trans (Zq J _)⟩
def muO:HO->Bool
 |.lst _=>true
 |.dK _=>true
 |.ins _ _ _=>true
 |_=>false
def Mu(H:Hp)(a:Addr):Prop:=∃o,H a=some o/\muO o=true
mutual
noncomputable def aA:D->Bool
 |.tup ds=>az ds
 |.lst m ds=>m != .brw&&az ds
 |.dct m _ ds=>m != .brw&&az ds
 |.ins m _ _ ds=>m != .brw&&az ds
 |_=>true
noncomputable def az:List D->Bool
 |[]=>true
 |d::r=>aA d&&az r
end
mutual
noncomputable def au:D->Bool
 |.tup ds=>aB ds
 |.lst m ds=>m != .bro&&aB ds
 |.dct m _ ds=>m != .bro&&aB ds
 |.ins m _ _ ds=>m != .bro&&aB ds
 |_=>true
noncomputable def aB:List D->Bool
 |[]=>true
 |d::r=>au d&&aB r
end
def clean(d:D):Bool:=aA d&&au d
structure Evo(H H':Hp)(W W':Wn):Prop where
 k:∀b u,H b=some u->W.free b->H' b=some u/\W'.free b
 t:∀b xs,H b=some (.tup xs)->H' b=some (.tup xs)
def Lf(H H':Hp)(W W':Wn):Prop:=∀b u,H b=some u->W.s b->H' b=some u/\W'.s b
variable{H':Hp}{W':Wn}
theorem Evo.rd(e:Evo H H' W W')(h:Rd H a o)(f:W.free a):Rd H' a o/\W'.free a:=by
 rcases h with h|⟨u,h⟩
 .exact⟨.inl (e.k a _ h f).1,(e.k a _ h f).2⟩
 .exact⟨.inr ⟨u,(e.k a _ h f).1⟩,(e.k a _ h f).2⟩
theorem cP.mono(e:Evo H H' W W')(h:cP B H W a o m L M)(U:m≠.brw∨Lf H H' W W')(N:m≠.bro∨Same H H')(F:∀c∈L,∀u,H c=some u->H' c=some u):cP B H' W' a o m L M:=by
 cases m with
 |own=>exact⟨F a (by rw[h.2];simp) o h.1,h.2⟩
 |frz=>exact⟨(e.k a o h.1 h.2.1).1,(e.k a o h.1 h.2.1).2,h.2.2⟩
 |brw=>
  have q:=(U.resolve_left λz=>z rfl) a o h.1 h.2.1;exact⟨q.1,q.2,h.2.2⟩
 |bro=>exact⟨(N.resolve_left λz=>z rfl) a o h.1,h.2⟩
 |scr=>exact⟨h.1.imp (λz=>e.rd z.1 z.2) id,h.2⟩
theorem Same.rd(s:Same H H')(h:Rd H a o):Rd H' a o:=h.imp (s _ _) λ⟨u,z⟩=>⟨u,s _ _ z⟩
mutual
theorem Rep.mono(e:Evo H H' W W'):∀{d:D}{v:V}{L:List Addr},Rep G H W d v L->(aA d=true∨Lf H H' W W')->(au d=true∨Same H H')->(∀c∈L,∀u,H c=some u->H' c=some u)->Rep G H' W' d v L
 |.non,v,L,h,_,_,_=>by rw[Rep]at h⊢;exact h
 |.bl _,v,L,h,_,_,_=>by rw[Rep]at h⊢;exact h
 |.int _,v,L,h,_,_,_=>by rw[Rep]at h⊢;exact h
 |.str _,v,L,h,_,_,_=>by rw[Rep]at h⊢;exact h
 |.ty _,v,L,h,_,_,_=>by rw[Rep]at h⊢;exact h
 |.tup ds,v,L,h,b,o,hl=>by
  rw[Rep]at h⊢;obtain⟨a,xs,rfl,U,O⟩:=h;exact⟨a,xs,rfl,e.t a xs U,aD.mono e O (by simpa[aA]using b) (by simpa[au]using o) hl⟩
 |.lst m ds,v,L,h,b,o,hl=>by
  rw[Rep]at h⊢;obtain⟨a,xs,M,rfl,O,hs⟩:=h;exact⟨a,xs,M,rfl,aD.mono e O (b.imp (λz=>by simp[aA]at z;exact z.2) id) (o.imp (λz=>by simp[au]at z;exact z.2) id) λc Y=>hl c (hs.sub.subset Y),hs.mono e (b.imp (λz=>by simp[aA]at z;exact z.1) id) (o.imp (λz=>by simp[au]at z;exact z.1) id) hl⟩
 |.dct m ks ds,v,L,h,b,o,hl=>by
  rw[Rep]at h⊢;obtain⟨a,xs,M,rfl,B,O,hs⟩:=h;exact⟨a,xs,M,rfl,B,aD.mono e O (b.imp (λz=>by simp[aA]at z;exact z.2) id) (o.imp (λz=>by simp[au]at z;exact z.2) id) λc Y=>hl c (hs.sub.subset Y),hs.mono e (b.imp (λz=>by simp[aA]at z;exact z.1) id) (o.imp (λz=>by simp[au]at z;exact z.1) id) hl⟩
 |.ins m c fs ds,v,L,h,b,o,hl=>by
  rw[Rep]at h⊢;obtain⟨a,C,dx,xs,M,rfl,F,B,O,hs⟩:=h;exact⟨a,C,dx,xs,M,rfl,F,B,aD.mono e O (b.imp (λz=>by simp[aA]at z;exact z.2) id) (o.imp (λz=>by simp[au]at z;exact z.2) id) λc Y=>hl c (hs.sub.subset Y),hs.mono e (b.imp (λz=>by simp[aA]at z;exact z.1) id) (o.imp (λz=>by simp[au]at z;exact z.1) id) hl⟩
theorem aD.mono(e:Evo H H' W W'):∀{ds:List D}{vs:List V}{L:List Addr},aD G H W ds vs L->(az ds=true∨Lf H H' W W')->(aB ds=true∨Same H H')->(∀c∈L,∀u,H c=some u->H' c=some u)->aD G H' W' ds vs L
 |[],vs,L,h,_,_,_=>by rw[aD]at h⊢;exact h
 |d::r,vs,L,h,b,o,hl=>by
  obtain⟨x,ys,M,M',rfl,rfl,h1,h2⟩:=h.inv;exact .cons (Rep.mono e h1 (b.imp (λz=>by simp[az]at z;exact z.1) id) (o.imp (λz=>by simp[aB]at z;exact z.1) id) λb U=>hl b (Xo _ U))
   (aD.mono e h2 (b.imp (λz=>by simp[az]at z;exact z.2) id) (o.imp (λz=>by simp[aB]at z;exact z.2) id) λb U=>hl b (Xf _ U))
end
structure Up(H H':Hp)(W W':Wn):Prop where
 s:Same H H'
 f:∀b u,H b=some u->W.free b->W'.free b
 n:∀b u,H b=some u->W.s b->W'.s b
theorem Up.evo(u:Up H H' W W'):Evo H H' W W':=⟨λb o h f=>⟨u.s b o h,u.f b o h f⟩,λb xs h=>u.s b _ h⟩
theorem Up.evoN(u:Up H H' W W'):Lf H H' W W':=λb o h f=>⟨u.s b o h,u.n b o h f⟩
theorem Up.refl:Up H H W W:=⟨Same.refl H,λ_ _ _ f=>f,λ_ _ _ f=>f⟩
variable{H2:Hp}{I:Wn}
theorem Up.trans(a:Up H H' W W')(b:Up H' H2 W' I):Up H H2 W I:=⟨a.s.trans b.s,λc u h f=>b.f c u (a.s c u h) (a.f c u h f),λc u h f=>b.n c u (a.s c u h) (a.n c u h f)⟩
variable{v:V}
theorem Rep.up(h:Rep G H W d v L)(u:Up H H' W W'):Rep G H' W' d v L:=h.mono u.evo (.inr u.evoN) (.inr u.s) λc _ o e=>u.s c o e
theorem aD.up{d:List D}{v:List V}(h:aD G H W d v L)(u:Up H H' W W'):aD G H' W' d v L:=h.mono u.evo (.inr u.evoN) (.inr u.s) λc _ o e=>u.s c o e
def Wn.add(W:Wn)(L:List Addr):Wn:=⟨λa=>a∈L∨W.n a,W.s,W.o⟩
theorem Up.add(s:Same H H')(q:∀a∈L,H a=none):Up H H' W (W.add L):=⟨s,λb u h f=>⟨λz=>z.elim (λz=>by rw[q b z]at h;cases h) f.1,f.2⟩,λb u h f=>f⟩
theorem Up.same(s:Same H H'):Up H H' W W:=⟨s,λ_ _ _ f=>f,λ_ _ _ f=>f⟩
def mkV(ob:Bool):Mk->Mk
 |.own=>if ob then .bro else .brw
 |m=>m
def mkF:Mk->Mk
 |.scr=>.scr
 |_=>.frz
mutual
noncomputable def view(ob:Bool):D->D
 |.tup ds=>.tup (dW ob ds)
 |.lst m ds=>.lst (mkV ob m) (dW ob ds)
 |.dct m ks ds=>.dct (mkV ob m) ks (dW ob ds)
 |.ins m c fs ds=>.ins (mkV ob m) c fs (dW ob ds)
 |d=>d
noncomputable def dW(ob:Bool):List D->List D
 |[]=>[]
 |d::r=>view ob d::dW ob r
end
mutual
noncomputable def fz:D->D
 |.tup ds=>.tup (fzL ds)
 |.lst m ds=>.lst (mkF m) (fzL ds)
 |.dct m ks ds=>.dct (mkF m) ks (fzL ds)
 |.ins m c fs ds=>.ins (mkF m) c fs (fzL ds)
 |d=>d
noncomputable def fzL:List D->List D
 |[]=>[]
 |d::r=>fz d::fzL r
end
theorem bK(ob:Bool):∀ds:List D,dW ob ds=ds.map (view ob)
 |[]=>rfl
 |d::r=>by rw[dW,bK ob r];rfl
theorem fY:∀ds:List D,fzL ds=ds.map fz
 |[]=>rfl
 |d::r=>by rw[fzL,fY r];rfl
theorem cP.view{ob:Bool}(hn:ob=false->∀c∈L,W.s c)(h:cP B H W a o m L M):cP B H W a o (mkV ob m) [] []:=by
 cases m with
 |own=>
  cases ob with
  |false=>exact⟨h.1,hn rfl a (by rw[h.2];simp),rfl,rfl⟩
  |true=>exact⟨h.1,rfl,rfl⟩
 |frz=>exact⟨h.1,h.2.1,rfl,rfl⟩
 |brw=>exact⟨h.1,h.2.1,rfl,rfl⟩
 |bro=>exact⟨h.1,rfl,rfl⟩
 |scr=>exact⟨h.1,rfl,rfl⟩
mutual
theorem Rep.view{ob:Bool}:∀{d:D}{v:V}{L:List Addr},Rep G H W d v L->(ob=false->∀c∈L,W.s c)->Rep G H W (view ob d) v []
 |.non,v,L,h,_=>by rw[Rep]at h;simp[Jb.view,Rep,h]
 |.bl _,v,L,h,_=>by rw[Rep]at h;simp[Jb.view,Rep,h]
 |.int _,v,L,h,_=>by rw[Rep]at h;simp[Jb.view,Rep,h]
 |.str _,v,L,h,_=>by rw[Rep]at h;simp[Jb.view,Rep,h]
 |.ty _,v,L,h,_=>by rw[Rep]at h;simp[Jb.view,Rep,h]
 |.tup ds,v,L,h,hn=>by
  rw[Rep]at h;rw[Jb.view,Rep];obtain⟨a,xs,rfl,U,O⟩:=h;exact⟨a,xs,rfl,U,aD.view O hn⟩
 |.lst m ds,v,L,h,hn=>by
  rw[Rep]at h;rw[Jb.view,Rep];obtain⟨a,xs,M,rfl,O,hs⟩:=h;exact⟨a,xs,[],rfl,aD.view O λz c Y=>hn z c (hs.sub.subset Y),hs.view hn⟩
 |.dct m ks ds,v,L,h,hn=>by
  rw[Rep]at h;rw[Jb.view,Rep];obtain⟨a,xs,M,rfl,B,O,hs⟩:=h;exact⟨a,xs,[],rfl,B,aD.view O λz c Y=>hn z c (hs.sub.subset Y),hs.view hn⟩
 |.ins m c fs ds,v,L,h,hn=>by
  rw[Rep]at h;rw[Jb.view,Rep];obtain⟨a,C,dx,xs,M,rfl,F,B,O,hs⟩:=h;exact⟨a,C,dx,xs,[],rfl,F,B,aD.view O λz c Y=>hn z c (hs.sub.subset Y),hs.view hn⟩
theorem aD.view{ob:Bool}:∀{ds:List D}{vs:List V}{L:List Addr},aD G H W ds vs L->(ob=false->∀c∈L,W.s c)->aD G H W (dW ob ds) vs []
 |[],vs,L,h,_=>by obtain⟨rfl,_⟩:=h.inv0;rw[dW];exact .nil
 |d::r,vs,L,h,hn=>by
  obtain⟨x,ys,M,M',rfl,rfl,h1,h2⟩:=h.inv;rw[dW];exact .cons (M:=[]) (M':=[]) (Rep.view h1 λz c Y=>hn z c (Xo _ Y)) (aD.view h2 λz c Y=>hn z c (Xf _ Y))
end
structure Les(H:Hp)(W W':Wn)(L:List Addr):Prop where
 f:∀a,W.free a->W'.free a
 l:∀a∈L,W'.free a
theorem Les.sub(h:Les H W W' L)(s:∀a∈M,a∈L):Les H W W' M:=⟨h.f,λa Z=>h.l a (s a Z)⟩
def nH(W:Wn):Prop:=∀a,W.free a
theorem cP.fz(hs:Les H W W' L)(hn:(m≠.brw/\m≠.bro)∨nH W')(h:cP B H W a o m L M):cP B H W' a o (mkF m) [] []:=by
 cases m with
 |own=>exact⟨h.1,hs.l a (by rw[h.2];simp),rfl,rfl⟩
 |frz=>exact⟨h.1,hs.f a h.2.1,rfl,rfl⟩
 |brw=>exact⟨h.1,hn.elim (λz=>absurd rfl z.1) λz=>z a,rfl,rfl⟩
 |bro=>exact⟨h.1,hn.elim (λz=>absurd rfl z.2) λz=>z a,rfl,rfl⟩
 |scr=>exact⟨h.1.imp (λz=>⟨z.1,hs.f a z.2⟩) id,rfl,rfl⟩
mutual
theorem Rep.fz:∀{d:D}{v:V}{L:List Addr},Rep G H W d v L->Les H W W' L->(clean d=true∨nH W')->Rep G H W' (fz d) v []
 |.non,v,L,h,_,_=>by rw[Rep]at h;simp[Jb.fz,Rep,h]
 |.bl _,v,L,h,_,_=>by rw[Rep]at h;simp[Jb.fz,Rep,h]
 |.int _,v,L,h,_,_=>by rw[Rep]at h;simp[Jb.fz,Rep,h]
 |.str _,v,L,h,_,_=>by rw[Rep]at h;simp[Jb.fz,Rep,h]
 |.ty _,v,L,h,_,_=>by rw[Rep]at h;simp[Jb.fz,Rep,h]
 |.tup ds,v,L,h,hs,c=>by
  rw[Rep]at h;rw[Jb.fz,Rep];obtain⟨a,xs,rfl,U,O⟩:=h;exact⟨a,xs,rfl,U,aD.fz O hs (c.imp (λz=>by simpa[clean,aA,au]using z) id)⟩
 |.lst m ds,v,L,h,he,c=>by
  rw[Rep]at h;rw[Jb.fz,Rep];obtain⟨a,xs,M,rfl,O,hs⟩:=h;exact⟨a,xs,[],rfl,aD.fz O (he.sub λc Y=>hs.sub.subset Y) (c.imp (λz=>by simp[clean,aA,au]at z;exact⟨z.1.2,z.2.2⟩) id),hs.fz he (c.imp (λz=>by simp[clean,aA,au]at z;exact⟨z.1.1,z.2.1⟩) id)⟩
 |.dct m ks ds,v,L,h,he,c=>by
  rw[Rep]at h;rw[Jb.fz,Rep];obtain⟨a,xs,M,rfl,B,O,hs⟩:=h;exact⟨a,xs,[],rfl,B,aD.fz O (he.sub λc Y=>hs.sub.subset Y) (c.imp (λz=>by simp[clean,aA,au]at z;exact⟨z.1.2,z.2.2⟩) id),hs.fz he (c.imp (λz=>by simp[clean,aA,au]at z;exact⟨z.1.1,z.2.1⟩) id)⟩
 |.ins m c' fs ds,v,L,h,he,c=>by
  rw[Rep]at h;rw[Jb.fz,Rep];obtain⟨a,C,dx,xs,M,rfl,F,B,O,hs⟩:=h;exact⟨a,C,dx,xs,[],rfl,F,B,aD.fz O (he.sub λc Y=>hs.sub.subset Y) (c.imp (λz=>by simp[clean,aA,au]at z;exact⟨z.1.2,z.2.2⟩) id),hs.fz he (c.imp (λz=>by simp[clean,aA,au]at z;exact⟨z.1.1,z.2.1⟩) id)⟩
theorem aD.fz:∀{ds:List D}{vs:List V}{L:List Addr},aD G H W ds vs L->Les H W W' L->((az ds=true/\aB ds=true)∨nH W')->aD G H W' (fzL ds) vs []
 |[],vs,L,h,_,_=>by obtain⟨rfl,_⟩:=h.inv0;rw[fzL];exact .nil
 |d::r,vs,L,h,he,c=>by
  obtain⟨x,ys,M,M',rfl,rfl,h1,h2⟩:=h.inv;rw[fzL];exact .cons (M:=[]) (M':=[]) (Rep.fz h1 (he.sub λc Y=>Xo _ Y) (c.imp (λz=>by simp[clean,az,aB]at z⊢;exact⟨z.1.1,z.2.1⟩) id))
   (aD.fz h2 (he.sub λc Y=>Xf _ Y) (c.imp (λz=>by simp[clean,az,aB]at z⊢;exact⟨z.1.2,z.2.2⟩) id))
end
mutual
theorem zK:∀d:D,aA (Jb.fz d)=true
 |.non=>rfl|.bl _=>rfl|.int _=>rfl|.str _=>rfl|.ty _=>rfl
 |.tup ds=>by simp[Jb.fz,aA,gV ds]
 |.lst m ds=>by cases m<;>simp[Jb.fz,aA,gV ds,mkF]
 |.dct m _ ds=>by cases m<;>simp[Jb.fz,aA,gV ds,mkF]
 |.ins m _ _ ds=>by cases m<;>simp[Jb.fz,aA,gV ds,mkF]
theorem gV:∀ds:List D,az (fzL ds)=true
 |[]=>rfl
 |d::r=>by simp[fzL,az,zK d,gV r]
end
mutual
theorem zF:∀d:D,au (Jb.fz d)=true
 |.non=>rfl|.bl _=>rfl|.int _=>rfl|.str _=>rfl|.ty _=>rfl
 |.tup ds=>by simp[Jb.fz,au,gW ds]
 |.lst m ds=>by cases m<;>simp[Jb.fz,au,gW ds,mkF]
 |.dct m _ ds=>by cases m<;>simp[Jb.fz,au,gW ds,mkF]
 |.ins m _ _ ds=>by cases m<;>simp[Jb.fz,au,gW ds,mkF]
theorem gW:∀ds:List D,aB (fzL ds)=true
 |[]=>rfl
 |d::r=>by simp[fzL,aB,zF d,gW r]
end
theorem Mw(d:D):clean (Jb.fz d)=true:=by simp[clean,zK,zF]
mutual
theorem Rep.dom:∀{d:D}{v:V}{L:List Addr},Rep G H W d v L->∀a∈L,Mu H a
 |.non,v,L,h=>by rw[Rep]at h;rw[h.2];simp
 |.bl _,v,L,h=>by rw[Rep]at h;rw[h.2];simp
 |.int _,v,L,h=>by rw[Rep]at h;rw[h.2];simp
 |.str _,v,L,h=>by rw[Rep]at h;rw[h.2];simp
 |.ty _,v,L,h=>by rw[Rep]at h;rw[h.2];simp
 |.tup ds,v,L,h=>by
  rw[Rep]at h;obtain⟨a,xs,rfl,q,O⟩:=h;exact aD.dom O
 |.lst m ds,v,L,h=>by
  rw[Rep]at h;obtain⟨a,xs,M,rfl,O,hs⟩:=h;intro b U;cases m with
  |own=>
   rw[hs.2]at U;rcases Xj.mp U with z|z
   .rw[z];exact⟨_,hs.1,rfl⟩
   .exact aD.dom O b z
  |frz=>rw[hs.2.2.2]at U;cases U
  |brw=>rw[hs.2.2.2]at U;cases U
  |bro=>rw[hs.2.2]at U;cases U
  |scr=>rw[hs.2.2]at U;cases U
 |.dct m ks ds,v,L,h=>by
  rw[Rep]at h;obtain⟨a,xs,M,rfl,B,O,hs⟩:=h;intro b U;cases m with
  |own=>
   rw[hs.2]at U;rcases Xj.mp U with z|z
   .rw[z];exact⟨_,hs.1,rfl⟩
   .exact aD.dom O b z
  |frz=>rw[hs.2.2.2]at U;cases U
  |brw=>rw[hs.2.2.2]at U;cases U
  |bro=>rw[hs.2.2]at U;cases U
  |scr=>rw[hs.2.2]at U;cases U
 |.ins m c fs ds,v,L,h=>by
  rw[Rep]at h;obtain⟨a,C,dx,xs,M,rfl,F,B,O,hs⟩:=h;intro b U;cases m with
  |own=>
   rw[hs.2]at U;rcases Xj.mp U with z|z
   .rw[z];exact⟨_,hs.1,rfl⟩
   .exact aD.dom O b z
  |frz=>rw[hs.2.2.2]at U;cases U
  |brw=>rw[hs.2.2.2]at U;cases U
  |bro=>rw[hs.2.2]at U;cases U
  |scr=>rw[hs.2.2]at U;cases U
theorem aD.dom:∀{ds:List D}{vs:List V}{L:List Addr},aD G H W ds vs L->∀a∈L,Mu H a
 |[],vs,L,h=>by rw[h.inv0.2];simp
 |d::r,vs,L,h=>by
  obtain⟨x,ys,M,M',rfl,rfl,h1,h2⟩:=h.inv;intro a Z;rcases W2.mp Z with z|z
  .exact Rep.dom h1 a z
  .exact aD.dom h2 a z
end
abbrev En:=List (Option D)
abbrev Ad:=Nat->List Addr
def Rel(G:Gc)(H:Hp)(W:Wn)(ob:Nat->Bool)(ρ:En)(σ:L2.St):Prop:=∀(i:Nat)(d:D),ρ[i]? =some (some d)->∃v L,σ[i]? =some (some v)/\Rep G H W d v L/\(ob i=false->∀c∈L,W.s c)
def WOk(H:Hp)(W:Wn):Prop:=∀a,W.n a∨W.s a∨W.o a->Mu H a
variable{ρ:En}{σ:L2.St}
theorem Rel.up(r:Rel G H W ob ρ σ)(u:Up H H' W W'):Rel G H' W' ob ρ σ:=λi d e=>let⟨v,L,h1,h2,h3⟩:=r i d e;⟨v,L,h1,h2.up u,λz c Y=>let⟨o,ho,_⟩:=h2.dom c Y;u.n c o ho (h3 z c Y)⟩
theorem WOk.add(h:WOk H W)(s:Same H H')(q:∀a∈L,Mu H' a):WOk H' (W.add L):=λa Z=>by
 rcases Z with(z|z)|z
 .exact q a z
 .obtain⟨o,h1,h2⟩:=h a (.inl z);exact⟨o,s a o h1,h2⟩
 .obtain⟨o,h1,h2⟩:=h a (.inr z);exact⟨o,s a o h1,h2⟩
def wn(ob:Nat->Bool)(S:Ad)(Fr:Addr->Prop):Wn:=⟨Fr,λa=>∃i,ob i=false/\a∈S i,λa=>∃i,ob i=true/\a∈S i⟩
def inS(S:Ad)(a:Addr):Prop:=∃i,a∈S i
def inO(ob:Nat->Bool)(S:Ad)(a:Addr):Prop:=∃i,ob i=true/\a∈S i
def plus(M:List Addr)(Fr:Addr->Prop):Addr->Prop:=λa=>a∈M∨Fr a
structure Sta(G:Gc)(H:Hp)(ob:Nat->Bool)(ρ:En)(σ:L2.St)(S:Ad)(Fr:Addr->Prop):Prop where
 len:ρ.length=σ.length
 sl:∀(i:Nat)(d:D),ρ[i]? =some (some d)->∃v,σ[i]? =some (some v)/\Rep G H (wn ob S Fr) d v (S i)/\clean d=true
 em:∀i,(∀d,ρ[i]?≠some (some d))->S i=[]
 nd:∀i,(S i).Nodup
 dj:∀i j a,a∈S i->a∈S j->i=j
 fdj:∀i a,Fr a->a∉S i
 fdm:∀a,Fr a->Mu H a
section
variable{G:Gc}{H H':Hp}{ob:Nat->Bool}{ρ:En}{σ:L2.St}{S S':Ad}{Fr Fr':Addr->Prop}
theorem Sta.mu(s:Sta G H ob ρ σ S Fr){i:Nat}{a:Addr}(h:a∈S i):Mu H a:=by
 by_cases e:∃d,ρ[i]? =some (some d)
 .obtain⟨d,e⟩:=e
  obtain⟨v,_,r,_⟩:=s.sl i d e;exact r.dom a h
 .rw[s.em i λd z=>e ⟨d,z⟩]at h
  cases h
theorem Sta.wok(s:Sta G H ob ρ σ S Fr):WOk H (wn ob S Fr):=λa Z=>by
 rcases Z with z|⟨i,_,z⟩|⟨i,_,z⟩
 .exact s.fdm a z
 .exact s.mu z
 .exact s.mu z
theorem Sta.rel(s:Sta G H ob ρ σ S Fr):Rel G H (wn ob S Fr) ob ρ σ:=λi d e=>by
 obtain⟨v,h1,h2,_⟩:=s.sl i d e;exact⟨v,S i,h1,h2,λz c Y=>⟨i,z,Y⟩⟩
theorem Sta.grow(s:Sta G H ob ρ σ S Fr)(B:Same H H')(h1:∀a,Fr' a->Fr a∨(H a=none/\Mu H' a)):Sta G H' ob ρ σ S Fr' where
 len:=s.len
 sl:=λi d e=>by
  obtain⟨v,F,N,J⟩:=s.sl i d e;have Y:aA d=true/\au d=true:=by simpa[clean]using J
  have I:Evo H H' (wn ob S Fr) (wn ob S Fr'):=⟨λb u h f=>⟨B b u h,⟨λz=>(h1 b z).elim f.1 (λz=>by rw[z.1]at h;cases h),f.2⟩⟩,λb xs h=>B b _ h⟩;exact⟨v,F,N.mono I (.inl Y.1) (.inl Y.2) λc _ u e=>B c u e,J⟩
 em:=s.em
 nd:=s.nd
 dj:=s.dj
 fdj:=λi a h z=>by
  rcases h1 a h with q|q
  .exact s.fdj i a q z
  .obtain⟨o,ho,_⟩:=s.mu z
   rw[q.1]at ho;cases ho
 fdm:=λa h=>by
  rcases h1 a h with q|q
  .obtain⟨o,ho,hm⟩:=s.fdm a q
   exact⟨o,B a o ho,hm⟩
  .exact q.2
theorem Sta.lessF(s:Sta G H ob ρ σ S Fr)(h1:∀a,Fr' a->Fr a):Sta G H ob ρ σ S Fr':=s.grow (Same.refl H) λa h=>.inl (h1 a h)
end
def RfE(G:Gc)(ob:Nat->Bool)(t:TE)(f:En->Option D):Prop:=∀(ρ:En)(d:D),f ρ=some d->∀(σ:L2.St)(H:Hp)(W:Wn),Rel G H W ob ρ σ->WOk H W->∀Q:VK,
 (∀v H' L,Same H H'->Rep G H' (W.add L) d v L->(∀a∈L,H a=none)->L.Nodup->Q v H')->t σ H Q
def RfT(G:Gc)(ob:Nat->Bool)(t:TT)(f:En->Option Bool):Prop:=∀(ρ:En)(b:Bool),f ρ=some b->∀(σ:L2.St)(H:Hp)(W:Wn),Rel G H W ob ρ σ->WOk H W->∀Q:Bool->Hp->Prop,
 (∀H',Same H H'->Q b H')->t σ H Q
def RfA(G:Gc)(ob:Nat->Bool)(t:TA)(f:En->Option (List D)):Prop:=∀(ρ:En)(ds:List D),f ρ=some ds->∀(σ:L2.St)(H:Hp)(W:Wn),Rel G H W ob ρ σ->WOk H W->∀Q:List V->Hp->Prop,
 (∀vs H' L,Same H H'->aD G H' (W.add L) ds vs L->(∀a∈L,H a=none)->L.Nodup->Q vs H')->t σ H Q
structure Eff(ob:Nat->Bool)(H H':Hp)(S S':Ad)(M:List Addr):Prop where
 kp:∀b u,H b=some u->¬inO ob S b->H' b=some u
 sn:∀i,ob i=false->S' i=S i
 gr:∀i a,ob i=true->a∈S' i->inO ob S a∨H a=none
 fm:∀a∈M,inO ob S a∨H a=none
def kj(G:Gc)(ob:Nat->Bool)(t:TE)(f:En->Option (D×En)):Prop:=∀(ρ:En)(d:D)(F:En),f ρ=some (d,F)->∀(σ:L2.St)(H:Hp)(S:Ad)(Fr:Addr->Prop),Sta G H ob ρ σ S Fr->∀Q:VK,
 (∀v H' M S',Sta G H' ob F σ S' (plus M Fr)->Rep G H' (wn ob S' (plus M Fr)) d v M->M.Nodup->Eff ob H H' S S' M->Q v H')->t σ H Q
def yF(G:Gc)(ob:Nat->Bool)(t:TT)(f:En->Option (Bool×En)):Prop:=∀(ρ:En)(b:Bool)(F:En),f ρ=some (b,F)->∀(σ:L2.St)(H:Hp)(S:Ad)(Fr:Addr->Prop),Sta G H ob ρ σ S Fr->∀Q:Bool->Hp->Prop,
 (∀H' S',Sta G H' ob F σ S' Fr->Eff ob H H' S S' []->Q b H')->t σ H Q
def By(G:Gc)(ob:Nat->Bool)(t:TA)(f:En->Option (List D×En)):Prop:=∀(ρ:En)(ds:List D)(F:En),f ρ=some (ds,F)->∀(σ:L2.St)(H:Hp)(S:Ad)(Fr:Addr->Prop),Sta G H ob ρ σ S Fr->∀Q:List V->Hp->Prop,
 (∀vs H' M S',Sta G H' ob F σ S' (plus M Fr)->aD G H' (wn ob S' (plus M Fr)) ds vs M->M.Nodup->Eff ob H H' S S' M->Q vs H')->t σ H Q
inductive Fl where
 |nx (ρ:En)|ret (d:D) (ρ:En)|brk (ρ:En)|cnt (ρ:En)
def Bw(P:Nat->Bool)(σ B:L2.St):Prop:=∀i,P i=true->B[i]? =σ[i]?
variable{P:Nat->Bool}
theorem Bw.refl:Bw P σ σ:=λ_ _=>rfl
theorem Bw.trans{N σ2:L2.St}(a:Bw P σ N)(b:Bw P N σ2):Bw P σ σ2:=λi h=>(b i h).trans (a i h)
structure Mv(P:Nat->Bool)(H H':Hp)(σ σ':L2.St)(S S':Ad)(M:List Addr):Prop where
 kp:∀b u,H b=some u->¬inS S b->b∉M->H' b=some u
 gr:∀i a,a∈S' i->inS S a∨a∈M∨H a=none
 pr:Bw P σ σ'
variable{S:Ad}
theorem Mv.trans{H1:Hp}{N σ2:L2.St}{S1 S2:Ad}(a:Mv P H H1 σ N S S1 M)(b:Mv P H1 H2 N σ2 S1 S2 []):Mv P H H2 σ σ2 S S2 M where
 kp:=λc u h n m=>b.kp c u (a.kp c u h n m) (λ⟨i,z⟩=>(a.gr i c z).elim n λz=>z.elim m λe=>by rw[h]at e;cases e) (by simp)
 gr:=λi c z=>by
  rcases b.gr i c z with⟨j,q⟩|q|q
  .exact a.gr j c q
  .cases q
  .by_cases h:inS S c
   .exact .inl h
   .by_cases hm:c∈M
    .exact .inr (.inl hm)
    .refine .inr (.inr ?_)
     cases e:H c with
     |none=>rfl
     |some u=>rw[a.kp c u e h hm]at q;cases q
 pr:=a.pr.trans b.pr
theorem Eff.mv{S':Ad}(e:Eff ob H H' S S' M):Mv P H H' σ σ S S' []where
 kp:=λb u h n _=>e.kp b u h λ⟨i,_,z⟩=>n ⟨i,z⟩
 gr:=λi a z=>by
  cases h:ob i with
  |false=>rw[e.sn i h]at z;exact .inl ⟨i,z⟩
  |true=>exact(e.gr i a h z).imp (λ⟨j,_,q⟩=>⟨j,q⟩) .inr
 pr:=.refl
def Aft(G:Gc)(ob P:Nat->Bool)(H:Hp)(σ:L2.St)(S:Ad)(Fr:Addr->Prop)(E:Ends):Fl->Prop
 |.nx F=>∀B H' S',Sta G H' ob F B S' Fr->Mv P H H' σ B S S' []->E.nx B H'
 |.brk F=>∀B H' S',Sta G H' ob F B S' Fr->Mv P H H' σ B S S' []->E.bk B H'
 |.cnt F=>∀B H' S',Sta G H' ob F B S' Fr->Mv P H H' σ B S S' []->E.ct B H'
 |.ret d F=>∀v B H' M S',Sta G H' ob F B S' (plus M Fr)->Rep G H' (wn ob S' (plus M Fr)) d v M->clean d=true->M.Nodup->(∀a∈M,inS S a∨H a=none)->Mv P H H' σ B S S' []->E.rt v H'
def RfS(G:Gc)(ob P:Nat->Bool)(t:TS)(f:En->Option Fl):Prop:=∀(ρ:En)(r:Fl),f ρ=some r->∀(σ:L2.St)(H:Hp)(S:Ad)(Fr:Addr->Prop),Sta G H ob ρ σ S Fr->∀E:Ends,Aft G ob P H σ S Fr E r->t E σ H
def RfG(G:Gc)(ob P:Nat->Bool)(g:TG)(f:D->En->Option En):Prop:=∀(d:D)(ρ F:En),f d ρ=some F->∀(v:V)(σ:L2.St)(H:Hp)(S:Ad)(M:List Addr)(Fr:Addr->Prop),Sta G H ob ρ σ S (plus M Fr)->Rep G H (wn ob S (plus M Fr)) d v M->M.Nodup->(∀a∈M,¬Fr a)->
 ∀Q:L2.St->Hp->Prop,(∀B H' S',Sta G H' ob F B S' Fr->Mv P H H' σ B S S' M->Q B H')->g v σ H Q
def W8(G:Gc)(ob P:Nat->Bool)(g:TGs)(f:List D->En->Option En):Prop:=∀(ds:List D)(ρ F:En),f ds ρ=some F->∀(vs:List V)(σ:L2.St)(H:Hp)(S:Ad)(M:List Addr)(Fr:Addr->Prop),Sta G H ob ρ σ S (plus M Fr)->aD G H (wn ob S (plus M Fr)) ds vs M->M.Nodup->(∀a∈M,¬Fr a)->
 ∀Q:L2.St->Hp->Prop,(∀B H' S',Sta G H' ob F B S' Fr->Mv P H H' σ B S S' M->Q B H')->g vs σ H Q
structure PV{ι:Type}(X:ι->Cx)(G:Gc)(ob:Nat->Bool)(e:Expr)(f:En->Option D):Prop where
 mk::(ex:∃t,(∀c,PE (X c) e t)/\RfE G ob t f)
structure PVT{ι:Type}(X:ι->Cx)(G:Gc)(ob:Nat->Bool)(e:Expr)(f:En->Option Bool):Prop where
 mk::(ex:∃t,(∀c,PT (X c) e t)/\RfT G ob t f)
structure PVW{ι:Type}(X:ι->Cx)(G:Gc)(ob:Nat->Bool)(e:Expr)(f:En->Option Bool):Prop where
 mk::(ex:∃t,(∀c,PW (X c) e t)/\RfT G ob t f)
structure PVA{ι:Type}(X:ι->Cx)(G:Gc)(ob:Nat->Bool)(es:List Expr)(f:En->Option (List D)):Prop where
 mk::(ex:∃t,(∀c,PA (X c) es t)/\RfA G ob t f)
structure PVe{ι:Type}(X:ι->Cx)(G:Gc)(ob:Nat->Bool)(e:Expr)(f:En->Option (D×En)):Prop where
 mk::(ex:∃t,(∀c,PE (X c) e t)/\kj G ob t f)
structure Cg{ι:Type}(X:ι->Cx)(G:Gc)(ob:Nat->Bool)(e:Expr)(f:En->Option (Bool×En)):Prop where
 mk::(ex:∃t,(∀c,PT (X c) e t)/\yF G ob t f)
structure Oe{ι:Type}(X:ι->Cx)(G:Gc)(ob:Nat->Bool)(e:Expr)(f:En->Option (Bool×En)):Prop where
 mk::(ex:∃t,(∀c,PW (X c) e t)/\yF G ob t f)
structure v5{ι:Type}(X:ι->Cx)(G:Gc)(ob:Nat->Bool)(es:List Expr)(f:En->Option (List D×En)):Prop where
 mk::(ex:∃t,(∀c,PA (X c) es t)/\By G ob t f)
structure PVS{ι:Type}(X:ι->Cx)(G:Gc)(ob P:Nat->Bool)(st:Stmt)(f:En->Option Fl):Prop where
 mk::(ex:∃t,(∀c,PS (X c) st t)/\RfS G ob P t f)
structure rC{ι:Type}(X:ι->Cx)(G:Gc)(ob P:Nat->Bool)(st:List Stmt)(f:En->Option Fl):Prop where
 mk::(ex:∃t,(∀c,PSs (X c) st t)/\RfS G ob P t f)
structure PVG{ι:Type}(X:ι->Cx)(G:Gc)(ob P:Nat->Bool)(tg:Expr)(f:D->En->Option En):Prop where
 mk::(ex:∃t,(∀c,PG (X c) tg t)/\RfG G ob P t f)
theorem dm(h1:L.Nodup)(h2:M.Nodup)(O:∀a∈L,a∉M):(L++M).Nodup:=Xx.mpr ⟨h1,h2,λa Z b U e=>O a Z (e▸U)⟩
def Wn.drop(W:Wn)(L:List Addr):Wn:=⟨λa=>W.n a/\a∉L,W.s,W.o⟩
def Wn.tmp(W:Wn)(a:Addr):Prop:=W.n a/\¬W.s a/\¬W.o a
theorem WOk.tmp(w:WOk H W)(fr:∀a∈L,H a=none):∀a∈L,(W.add L).tmp a:=λa Z=>by
 refine⟨.inl Z,λz=>?_,λz=>?_⟩
 .obtain⟨o,ho,_⟩:=w a (.inr (.inl z));rw[fr a Z]at ho;cases ho
 .obtain⟨o,ho,_⟩:=w a (.inr (.inr z));rw[fr a Z]at ho;cases ho
def Done(G:Gc)(H:Hp)(W:Wn)(Y:List Addr)(d:D)(Q:VK):Prop:=∀v H' L,Same H H'->Rep G H' ((W.drop Y).add L) d v L->(∀a∈L,a∈Y∨H a=none)->L.Nodup->Q v H'
def OpV(G:Gc)(r:R2)(g:D->D->Option D):Prop:=∀(dx F d:D),g dx F=some d->∀(x y:V)(H:Hp)(W:Wn)(B Y:List Addr),Rep G H W dx x B->Rep G H W F y Y->(B++Y).Nodup->(∀a∈B++Y,W.tmp a)->WOk H W->∀Q:VK,Done G H W (B++Y) d Q->r x y H Q
def UnV(G:Gc)(r:V->Hp->VK->Prop)(g:D->Option D):Prop:=∀(dx d:D),g dx=some d->∀(x:V)(H:Hp)(W:Wn)(B:List Addr),Rep G H W dx x B->B.Nodup->(∀a∈B,W.tmp a)->WOk H W->∀Q:VK,Done G H W B d Q->r x H Q
def CaV(G:Gc)(r:List V->Hp->VK->Prop)(g:List D->Option D):Prop:=∀(ds:List D)(d:D),g ds=some d->∀(xs:List V)(H:Hp)(W:Wn)(Y:List Addr),aD G H W ds xs Y->Y.Nodup->(∀a∈Y,W.tmp a)->WOk H W->∀Q:VK,Done G H W Y d Q->r xs H Q
def MtV(G:Gc)(r:V->List V->Hp->VK->Prop)(g:D->List D->Option D):Prop:=∀(dx:D)(ds:List D)(d:D),g dx ds=some d->∀(x:V)(xs:List V)(H:Hp)(W:Wn)(B Y:List Addr),Rep G H W dx x B->aD G H W ds xs Y->(B++Y).Nodup->(∀a∈B++Y,W.tmp a)->WOk H W->∀Q:VK,Done G H W (B++Y) d Q->r x xs H Q
theorem WOk.new(w:WOk H W)(fr:∀a∈L,H a=none)(h:W.n a):a∉L:=λz=>by
 obtain⟨o,N,_⟩:=w a (.inl h);rw[fr a z]at N;cases N
variable{Q:VK}
theorem Done.scal{Y:List Addr}(h:Done G H W Y d Q)(r:∀W,Rep G H W d v []):Q v H:=h v H [] (Same.refl H) (r _) (by simp) List.nodup_nil
theorem _root_.L2.Same.none'(s:Same H H')(h:H' a=none):H a=none:=Same.free s h
variable{ta tb:TE}{fa fb:En->Option D}{R:V->V->Hp->Prop}
theorem RfE.two(Z:RfE G ob ta fa)(U:RfE G ob tb fb){dx F:D}(e1:fa ρ=some dx)(e2:fb ρ=some F)(r:Rel G H W ob ρ σ)(w:WOk H W)
  (h:∀x y H' L M,Same H H'->Rep G H' (W.add (L++M)) dx x L->Rep G H' (W.add (L++M)) F y M->(∀a∈L++M,H a=none)->(L++M).Nodup->WOk H' (W.add (L++M))->R x y H'):ta σ H λx H1=>tb σ H1 λy H2=>R x y H2:=by
 refine Z ρ dx e1 σ H W r w _ λx H1 L B rx fx nx=>?_;have q:Up H H1 W (W.add L):=.add B fx;have I:WOk H1 (W.add L):=w.add B rx.dom;refine U ρ F e2 σ H1 (W.add L) (r.up q) I _ λy H2 M Y J O ny=>?_;have a1:∀a∈L,a∉M:=λa h1 h2=>by
  obtain⟨o,N,_⟩:=rx.dom a h1;rw[O a h2]at N;cases N
 have eW:∀a,((W.add L).add M).n a↔(W.add (L++M)).n a:=λa=>by
  show(a∈M∨a∈L∨W.n a)↔(a∈L++M∨W.n a);rw[W2];constructor
  .rintro(z|z|z)
   .exact .inl (.inr z)
   .exact .inl (.inl z)
   .exact .inr z
  .rintro((z|z)|z)
   .exact .inr (.inl z)
   .exact .inl z
   .exact .inr (.inr z)
 have a0:(W.add L).add M=W.add (L++M):=by
  show Wn.mk _ _ _=Wn.mk _ _ _;congr 1;funext a;exact propext (eW a)
 have u2:Up H1 H2 (W.add L) (W.add (L++M)):=by rw[←a0];exact .add Y O
 rw[a0]at J;refine h x y H2 L M (B.trans Y) (rx.up u2) J (λa Z=>?_) (dm nx ny a1) ?_
 .rcases W2.mp Z with z|z
  .exact fx a z
  .exact B.none' (O a z)
 .rw[←a0]
  exact I.add Y J.dom
def ao(b:Bool)(i:Nat):En->Option D:=λρ=>match ρ[i]? with
 |some (some d)=>some (view b d)
 |_=>none
def eC(d:D):En->Option D:=λ_=>some d
theorem qN(W:Wn):W.add []=W:=by
 cases W;simp[Wn.add]
theorem Tq:RfE G ob (Jm i) (ao (ob i) i):=λρ d e σ H W r w Q q=>by
 unfold ao at e;split at e
 .rename_i d0 e0
  cases e;obtain⟨v,L,h1,h2,O⟩:=r i d0 e0;refine⟨v,h1,q v H [] (Same.refl H) ?_ (by simp) List.nodup_nil⟩;rw[qN];exact h2.view O
 .cases e
variable{X:ι->Cx}
theorem aj(b:Bool)(i:Nat)(U:ob i=b:=by rfl)(Y:∀c,(X c).N[i]? =some x:=by intro _;rfl)(B:∀c,Vis (X c).env.scope x:=by intro _;first|exact ZZ rfl|exact Ze (ZZ rfl)|exact Ze (Ze rfl))(hd:1.23=false:=by decide)(q:(x==("__classdict__":Str))=false:=by decide):PV X G ob (.Name x pos) (ao b i):=⟨_,λc=>pv i (Y c) (B c) hd q,by rw[←U];exact Tq⟩
theorem LQ(h:∀H W,Rep G H W d v []):RfE G ob (tC v) (eC d):=λρ d' e σ H W r w Q q=>by
 cases e;exact q v H [] (Same.refl H) (h _ _) (by simp) List.nodup_nil
theorem aH{i j pos}:PV X G ob (.Constant (.int i) j pos) (eC (.int i)):=⟨_,λc=>RJ,LQ λ_ _=>by simp[Rep]⟩
theorem zG{b j pos}:PV X G ob (.Constant (.bool b) j pos) (eC (.bl b)):=⟨_,λc=>U0,LQ λ_ _=>by simp[Rep]⟩
theorem CV{j pos}:PV X G ob (.Constant .none j pos) (eC .non):=⟨_,λc=>Tf,LQ λ_ _=>by simp[Rep]⟩
theorem mq{x j pos}:PV X G ob (.Constant (.str x) j pos) (eC (.str x)):=⟨_,λc=>Ss,LQ λ_ _=>by simp[Rep]⟩
theorem j9{n:String}(F:∀c,Gl (X c) x)(J:∀c,(X c).mg x=none)(B:Zu x=some (.type n))(hn:x≠"__name__":=by decide)(hd:1.23=false:=by decide):PV X G ob (.Name x pos) (eC (.ty n)):=⟨_,λc=>Vl (F c) (J c) B hn hd,LQ λ_ _=>by simp[Rep]⟩
structure OpB{ι:Type}(X:ι->Cx)(G:Gc)(f:Value->Value->Sem Value)(g:D->D->Option D):Prop where
 ex:∃r,(∀c,OpR (X c) f r)/\OpV G r g
structure UnB{ι:Type}(X:ι->Cx)(G:Gc)(f:Value->Sem Value)(g:D->Option D):Prop where
 ex:∃r,(∀c,UnR (X c) f r)/\UnV G r g
structure IxB{ι:Type}(X:ι->Cx)(G:Gc)(g:D->D->Option D):Prop where
 ex:∃r,(∀c,IxR (X c) r)/\OpV G r g
structure CaB{ι:Type}(X:ι->Cx)(G:Gc)(f:Value)(g:List D->Option D):Prop where
 ex:∃r,(∀c,dO (X c) f r)/\CaV G r g
structure MtB{ι:Type}(X:ι->Cx)(G:Gc)(T id:String)(g:D->List D->Option D):Prop where
 ex:∃r,(∀c,MtR (X c) id r)/\MtV G r g/\∀dx ds d,g dx ds=some d->∀(x:V)(H:Hp)(W:Wn)(Lx:List Addr),Rep G H W dx x Lx->tyV G.K T x H
def e2(g:D->D->Option D)(fa fb:En->Option D):En->Option D:=λρ=>(fa ρ).bind λx=>(fb ρ).bind λy=>g x y
def e1(g:D->Option D)(fa:En->Option D):En->Option D:=λρ=>(fa ρ).bind g
variable{g:D->D->Option D}
theorem Al{r:R2}(N:OpV G r g)(Z:RfE G ob ta fa)(U:RfE G ob tb fb):RfE G ob (tOp r ta tb) (e2 g fa fb):=λρ d e σ H W I w Q q=>by
 unfold e2 at e;cases h1:fa ρ with
 |none=>rw[h1]at e;cases e
 |some dx=>
  rw[h1]at e;cases h2:fb ρ with
  |none=>simp[h2]at e
  |some F=>
   have e:g dx F=some d:=by simpa[h2]using e
   refine RfE.two Z U h1 h2 I w λx y H' L M s rx J fr nd B=>?_;refine N dx F d e x y H' _ L M rx J nd (w.tmp fr) B Q λv H2 L2 Y O f2 V=>?_;refine q v H2 L2 (s.trans Y) ?_ (λa Z=>(f2 a Z).elim (fr a) λz=>s.none' z) V;exact O.up ⟨Same.refl _,λb u U f=>⟨λz=>z.elim (λz=>f.1 (.inl z)) λz=>f.1 (.inr ⟨.inr z,WOk.new w fr z⟩),f.2⟩,λ_ _ _ f=>f⟩
theorem UL{r:V->Hp->VK->Prop}{g:D->Option D}(N:UnV G r g)(Z:RfE G ob ta fa):RfE G ob (tUn r ta) (e1 g fa):=λρ d e σ H W I w Q q=>by
 unfold e1 at e;cases h1:fa ρ with
 |none=>rw[h1]at e;cases e
 |some dx=>
  rw[h1]at e;have e:g dx=some d:=by simpa using e
  refine Z ρ dx h1 σ H W I w _ λx H' L s rx fr nd=>?_;refine N dx d e x H' _ L rx nd (w.tmp fr) (w.add s rx.dom) Q λv H2 L2 Y O F B=>?_;refine q v H2 L2 (s.trans Y) ?_ (λa Z=>(F a Z).elim (fr a) λz=>s.none' z) B;exact O.up ⟨Same.refl _,λb u U f=>⟨λz=>z.elim (λz=>f.1 (.inl z)) λz=>f.1 (.inr ⟨.inr z,WOk.new w fr z⟩),f.2⟩,λ_ _ _ f=>f⟩
def aG:En->Option (List D):=λ_=>some []
def ak(fa:En->Option D)(fr:En->Option (List D)):En->Option (List D):=λρ=>(fa ρ).bind λx=>(fr ρ).bind λxs=>some (x::xs)
theorem Mh:RfA G ob Vh aG:=λρ ds e σ H W I w Q q=>by
 cases e;exact q [] H [] (Same.refl H) .nil (by simp) List.nodup_nil
variable{t:TA}
theorem Pq{fr:En->Option (List D)}(Z:RfE G ob ta fa)(O:RfA G ob t fr):RfA G ob (K1 ta t) (ak fa fr):=λρ ds e σ H W I w Q q=>by
 unfold ak at e;cases h1:fa ρ with
 |none=>rw[h1]at e;cases e
 |some dx=>
  rw[h1]at e;cases h2:fr ρ with
  |none=>simp[h2]at e
  |some es=>
   have e:dx::es=ds:=by simpa[h2]using e
   subst e;refine Z ρ dx h1 σ H W I w _ λx H1 L B rx F nx=>?_;have u1:Up H H1 W (W.add L):=.add B F;have w1:WOk H1 (W.add L):=w.add B rx.dom;refine O ρ es h2 σ H1 (W.add L) (I.up u1) w1 _ λys H2 M Y J fy ny=>?_;have V:∀a∈L,a∉M:=λa h1 h2=>by
    obtain⟨o,N,_⟩:=rx.dom a h1;rw[fy a h2]at N;cases N
   have u2:Up H1 H2 (W.add L) (W.add (L++M)):=⟨Y,λb u U f=>⟨λz=>z.elim (λz=>(W2.mp z).elim (λz=>f.1 (.inl z)) λz=>by rw[fy b z]at U;cases U) λz=>f.1 (.inr z),f.2⟩,λ_ _ _ f=>f⟩;refine q (x::ys) H2 (L++M) (B.trans Y) (.cons (rx.up u2) (J.up ⟨Same.refl _,λb u U f=>⟨λz=>?_,f.2⟩,λ_ _ _ f=>f⟩)) (λa Z=>?_) (dm nx ny V)
   .rcases z with z|z
    .exact(W2.mp z).elim (λz=>f.1 (.inr (.inl z))) λz=>f.1 (.inl z)
    .exact f.1 (.inr (.inr z))
   .rcases W2.mp Z with z|z
    .exact F a z
    .exact B.none' (fy a z)
variable{r:List V->Hp->VK->Prop}{f:En->Option (List D)}
theorem xf{g:List D->Option D}(N:CaV G r g)(h:RfA G ob t f):RfE G ob (λσ H Q=>t σ H λvs H1=>r vs H1 Q) (λρ=>(f ρ).bind g):=λρ d e σ H W I w Q q=>by
 cases h1:f ρ with
 |none=>simp[h1]at e
 |some ds=>
  have e:g ds=some d:=by simpa[h1]using e
  refine h ρ ds h1 σ H W I w _ λxs H' L s rx fr nd=>?_;refine N ds d e xs H' _ L rx nd (w.tmp fr) (w.add s rx.dom) Q λv H2 L2 Y O F B=>?_;refine q v H2 L2 (s.trans Y) ?_ (λa Z=>(F a Z).elim (fr a) λz=>s.none' z) B;exact O.up ⟨Same.refl _,λb u U f=>⟨λz=>z.elim (λz=>f.1 (.inl z)) λz=>f.1 (.inr ⟨.inr z,WOk.new w fr z⟩),f.2⟩,λ_ _ _ f=>f⟩
def eAp(g:List D->Option D)(f:En->Option (List D)):En->Option D:=λρ=>(f ρ).bind g
theorem Vr{r:V->List V->Hp->VK->Prop}{g:D->List D->Option D}{to:TE}{fo:En->Option D}(N:MtV G r g)(a1:∀dx ds d,g dx ds=some d->∀(x:V)(H:Hp)(W:Wn)(Lx:List Addr),Rep G H W dx x Lx->tyV G.K T x H)
  (h0:RfE G ob to fo) (h:RfA G ob t f):RfE G ob (tBM G.K T r to t) (λρ=>(fo ρ).bind λx=>(f ρ).bind λds=>g x ds):=λρ d e σ H W rl w Q q=>by
 cases h1:fo ρ with
 |none=>simp[h1]at e
 |some dx=>
  cases h2:f ρ with
  |none=>simp[h1,h2]at e
  |some ds=>
   have e:g dx ds=some d:=by simpa[h1,h2]using e
   refine h0 ρ dx h1 σ H W rl w _ λx H1 L B rx fx nx=>⟨a1 dx ds d e x H1 _ L rx,?_⟩;have u1:Up H H1 W (W.add L):=.add B fx;have w1:WOk H1 (W.add L):=w.add B rx.dom;refine h ρ ds h2 σ H1 (W.add L) (rl.up u1) w1 _ λys H2 M Y J O ny=>?_;have a0:∀a∈L,a∉M:=λa h1 h2=>by
    obtain⟨o,N,_⟩:=rx.dom a h1;rw[O a h2]at N;cases N
   have u2:Up H1 H2 (W.add L) (W.add (L++M)):=⟨Y,λb u U f=>⟨λz=>z.elim (λz=>(W2.mp z).elim (λz=>f.1 (.inl z)) λz=>by rw[O b z]at U;cases U) λz=>f.1 (.inr z),f.2⟩,λ_ _ _ f=>f⟩;have u3:Up H2 H2 ((W.add L).add M) (W.add (L++M)):=⟨Same.refl _,λb u U f=>⟨λz=>by
    rcases z with z|z
    .exact(W2.mp z).elim (λz=>f.1 (.inr (.inl z))) λz=>f.1 (.inl z)
    .exact f.1 (.inr (.inr z)),f.2⟩,λ_ _ _ f=>f⟩
   have w2:WOk H2 (W.add (L++M)):=w.add (B.trans Y) λa Z=>(W2.mp Z).elim (λz=>let⟨o,h,m⟩:=rx.dom a z;⟨o,Y a o h,m⟩) (J.dom a);refine N dx ds d e x ys H2 (W.add (L++M)) L M (rx.up u2) (J.up u3) (dm nx ny a0) (w.tmp λa Z=>(W2.mp Z).elim (fx a) λz=>B.none' (O a z)) w2 Q λv I L3 s3 F f3 n3=>?_;refine q v I L3 ((B.trans Y).trans s3) ?_ (λa Z=>(f3 a Z).elim (λz=>?_) λz=>(B.trans Y).none' z) n3
   .exact F.up ⟨Same.refl _,λb u U f=>⟨λz=>z.elim (λz=>f.1 (.inl z)) λz=>f.1 (.inr ⟨.inr z,WOk.new w (λa Z=>(W2.mp Z).elim (fx a) λz=>B.none' (O a z)) z⟩),f.2⟩,λ_ _ _ f=>f⟩
   .rcases W2.mp z with z|z
    .exact fx a z
    .exact B.none' (O a z)
variable{a b:Expr}
theorem bJ{op:adQ}(o:OpB X G (Zh op) g)(Z:PV X G ob a fa)(U:PV X G ob b fb):PV X G ob (.BinOp a op b pos) (e2 g fa fb):=let⟨r,o1,o2⟩:=o.ex;let⟨t,a1,a2⟩:=Z.ex;let⟨u,b1,b2⟩:=U.ex;⟨_,λc=>Rc (o1 c) (a1 c) (b1 c),Al o2 a2 b2⟩
theorem rP(o:OpB X G (Yp op) g)(Z:PV X G ob a fa)(U:PV X G ob b fb)(J:abI op b=false:=by with_unfolding_all rfl):PV X G ob (.Compare a [op] [b] pos) (e2 g fa fb):=let⟨r,o1,o2⟩:=o.ex;let⟨t,a1,a2⟩:=Z.ex;let⟨u,b1,b2⟩:=U.ex;⟨_,λc=>Qu (o1 c) (a1 c) (b1 c) J,Al o2 a2 b2⟩
theorem zA{op:UnaryOp}{g:D->Option D}(o:UnB X G (unaryOp op) g)(Z:PV X G ob a fa):PV X G ob (.UnaryOp op a pos) (e1 g fa):=let⟨r,o1,o2⟩:=o.ex;let⟨t,a1,a2⟩:=Z.ex;⟨_,λc=>VR (o1 c) (a1 c),UL o2 a2⟩
theorem dM(o:IxB X G g)(Z:PV X G ob a fa)(U:PV X G ob b fb)(hs:tW b:=by exact λ_ _=>rfl):PV X G ob (.Subscript a b pos) (e2 g fa fb):=let⟨r,o1,o2⟩:=o.ex;let⟨t,a1,a2⟩:=Z.ex;let⟨u,b1,b2⟩:=U.ex;⟨_,λc=>Iz (o1 c) (a1 c) (b1 c) hs,Al o2 a2 b2⟩
theorem aq:PVA X G ob [] aG:=⟨_,λc=>UJ,Mh⟩
theorem aa{f:En->Option D}{fr:En->Option (List D)}(Z:PV X G ob e f)(O:PVA X G ob es fr)(hs:∀c,Xy (e::es) (X c).env=(false,eval e (X c).env)::Xy es (X c).env:=by intro _;rfl):PVA X G ob (e::es) (ak f fr):=let⟨t,a1,a2⟩:=Z.ex;let⟨u,b1,b2⟩:=O.ex;⟨_,λc=>yQ (a1 c) (b1 c) (hs c),Pq a2 b2⟩
variable{g:List D->Option D}{p:Pos}
theorem bc{id:String}(o:CaB X G (.builtin id) g)(F:∀c,Gl (X c) x)(J:∀c,(X c).mg x=none)(B:Zu x=some (.builtin id))(Z:PVA X G ob (e::es) f)(hn:x≠"__name__":=by decide)(q:1.23=false:=by decide)(V:∀c,Xy (e::es) (X c).env=(false,eval e (X c).env)::Xy es (X c).env:=by intro _;rfl)(U:∀c,(ZK pos (Xy es (X c).env)).any (·.1)=false:=by intro _;rfl):PV X G ob (.Call (.Name x p) (e::es) [] pos) (eAp g f):=let⟨r,o1,o2⟩:=o.ex;let⟨t,a1,a2⟩:=Z.ex;⟨_,λc=>Az (o1 c) (F c) (J c) B (a1 c) hn q (V c) (U c),xf o2 a2⟩
theorem jw(o:CaB X G (.type T) g)(F:∀c,Gl (X c) x)(J:∀c,(X c).mg x=none)(B:Zu x=some (.type T))(Z:PVA X G ob (e::es) f)(hn:x≠"__name__":=by decide)(q:1.23=false:=by decide)(V:∀c,Xy (e::es) (X c).env=(false,eval e (X c).env)::Xy es (X c).env:=by intro _;rfl)(U:∀c,(ZK pos (Xy es (X c).env)).any (·.1)=false:=by intro _;rfl):PV X G ob (.Call (.Name x p) (e::es) [] pos) (eAp g f):=let⟨r,o1,o2⟩:=o.ex;let⟨t,a1,a2⟩:=Z.ex;⟨_,λc=>xG (o1 c) (F c) (J c) B (a1 c) hn q (V c) (U c),xf o2 a2⟩
def bC(ds:List D):Option D:=if ds.length<=1000 then some (.tup ds)else none
def bI(ds:List D):Option D:=if ds.length<=1000 then some (.lst .own ds)else none
theorem Af(h:n<=1000):n<=Xp:=Yz h 1.27
theorem Fe:CaV G (λxs H Q=>xs.length<=Xp/\∀p,H p=none->Q (.ref p) (upd H p (.tup xs))) bC:=λds d e xs H W Y r nd hn w Q q=>by
 unfold bC at e;split at e
 .rename_i hl
  cases e;refine⟨Af (by rw[←r.length];exact hl),λp F=>?_⟩;have B:Same H (upd H p (.tup xs)):=Same.new F;refine q (.ref p) _ Y B ?_ (λa Z=>.inl Z) nd;rw[Rep];exact⟨p,xs,rfl,aN,r.up ⟨B,λb u U f=>⟨λz=>z.elim (λz=>f.1 (hn b z).1) λz=>f.1 z.1,f.2⟩,λ_ _ _ f=>f⟩⟩
 .cases e
theorem FT:CaV G (λxs H Q=>xs.length<=Xp/\∀p,H p=none->Q (.ref p) (upd H p (.lst xs))) bI:=λds d e xs H W Y r nd hn w Q q=>by
 unfold bI at e;split at e
 .rename_i hl
  cases e;refine⟨Af (by rw[←r.length];exact hl),λp F=>?_⟩;have B:Same H (upd H p (.lst xs)):=Same.new F;refine q (.ref p) _ (p::Y) B ?_ (λa Z=>(Xj.mp Z).elim (λz=>.inr (by rw[z];exact F)) .inl) (List.nodup_cons.mpr ⟨λz=>?_,nd⟩)
  .rw[Rep]
   exact⟨p,xs,Y,rfl,r.up ⟨B,λb u U f=>⟨λz=>z.elim (λz=>(Xj.mp z).elim (λz=>by rw[z,F]at U;cases U) λz=>f.1 (hn b z).1) λz=>f.1 z.1,f.2⟩,λ_ _ _ f=>f⟩,aN,rfl⟩
  .obtain⟨o,ho,_⟩:=r.dom p z
   rw[F]at ho;cases ho
 .cases e
variable{k:Nat}
theorem fj(h:PVA X G ob es f):PV X G ob (.Tuple es k pos) (eAp bC f):=let⟨t,a1,a2⟩:=h.ex;⟨_,λc=>Kf (a1 c),xf Fe a2⟩
theorem fG(h:PVA X G ob es f):PV X G ob (.List es pos) (eAp bI f):=let⟨t,a1,a2⟩:=h.ex;⟨_,λc=>KZ (a1 c),xf FT a2⟩
section
variable{G:Gc}{ob:Nat->Bool}{H H1 H2:Hp}{S S1 S2:Ad}{L M:List Addr}{ρ ρ1:En}{σ:L2.St}{Fr:Addr->Prop}
theorem Eff.refl:Eff ob H H S S []:=⟨λ_ _ h _=>h,λ_ _=>rfl,λi a h z=>.inl ⟨i,h,z⟩,by simp⟩
theorem Eff.back(e:Eff ob H H1 S S1 L){a:Addr}(h:H1 a=none):inO ob S a∨H a=none:=by
 by_cases z:inO ob S a
 .exact .inl z
 .refine .inr ?_
  cases q:H a with
  |none=>rfl
  |some u=>rw[e.kp a u q z]at h;cases h
theorem Eff.inO(e:Eff ob H H1 S S1 L){a:Addr}(h:inO ob S1 a):inO ob S a∨H a=none:=let⟨i,h1,h2⟩:=h;e.gr i a h1 h2
theorem Eff.notO(e:Eff ob H H1 S S1 L){a:Addr}{u:HO}(h:H a=some u)(n:¬Jb.inO ob S a):¬Jb.inO ob S1 a:=λz=>(e.inO z).elim n λz=>by rw[h]at z;cases z
theorem Eff.trans(a:Eff ob H H1 S S1 L)(b:Eff ob H1 H2 S1 S2 M):Eff ob H H2 S S2 (L++M)where
 kp:=λc u h n=>b.kp c u (a.kp c u h n) (a.notO h n)
 sn:=λi h=>(b.sn i h).trans (a.sn i h)
 gr:=λi c h z=>(b.gr i c h z).elim a.inO a.back
 fm:=λc Y=>(W2.mp Y).elim (a.fm c) λz=>(b.fm c z).elim a.inO a.back
theorem Eff.same(a:Eff ob H H1 S S1 L)(s:Same H1 H2)(h:∀c∈M,c∈L∨H1 c=none):Eff ob H H2 S S1 M where
 kp:=λc u Y n=>s c u (a.kp c u Y n)
 sn:=a.sn
 gr:=a.gr
 fm:=λc Y=>(h c Y).elim (a.fm c) a.back
theorem Sta.notO(s:Sta G H ob ρ σ S Fr){a:Addr}(h:Fr a):¬inO ob S a:=λ⟨i,_,z⟩=>s.fdj i a h z
theorem Sta.tmp(s:Sta G H ob ρ σ S Fr){a:Addr}(h:Fr a):(wn ob S Fr).tmp a:=⟨h,λ⟨i,_,z⟩=>s.fdj i a h z,λ⟨i,_,z⟩=>s.fdj i a h z⟩
theorem Eff.evo(s:Sta G H ob ρ σ S Fr)(e:Eff ob H H1 S S1 M):Evo H H1 (wn ob S Fr) (wn ob S1 (plus M Fr))where
 k:=λb u h f=>⟨e.kp b u h f.2.2,λz=>z.elim (λz=>(e.fm b z).elim f.2.2 λq=>by rw[h]at q;cases q) f.1,λ⟨i,h1,h2⟩=>f.2.1 ⟨i,h1,by rw[←e.sn i h1];exact h2⟩,e.notO h f.2.2⟩
 t:=λb xs h=>by
  have B:∀u,H b=some u->muO u=false->H1 b=some u:=λu V m=>e.kp b u V λ⟨i,_,z⟩=>by
   obtain⟨o,N,J⟩:=s.mu z;rw[V]at N;cases N;rw[m]at J;cases J
  exact B _ h rfl
theorem Eff.evoN(s:Sta G H ob ρ σ S Fr)(e:Eff ob H H1 S S1 M):Lf H H1 (wn ob S Fr) (wn ob S1 (plus M Fr)):=λb u h ⟨i,h1,h2⟩=>
 ⟨e.kp b u h (λ⟨j,F,q⟩=>by rw[s.dj i j b h2 q,F]at h1;cases h1),⟨i,h1,by rw[e.sn i h1];exact h2⟩⟩
theorem Eff.keepsF(s:Sta G H ob ρ σ S Fr)(e:Eff ob H H1 S S1 M){a:Addr}(h:Fr a):∀u,H a=some u->H1 a=some u:=λu V=>e.kp a u V (s.notO h)
theorem nu{L M:List Addr}:plus M (plus L Fr)=plus (L++M) Fr:=by
 funext a;simp![plus,W2,eq_iff_iff];constructor
 .rintro(z|z|z)
  .exact .inl (.inr z)
  .exact .inl (.inl z)
  .exact .inr z
 .rintro((z|z)|z)
  .exact .inr (.inl z)
  .exact .inl z
  .exact .inr (.inr z)
theorem M7{I:List Addr}{d:D}{v:V}(s:Sta G H1 ob ρ1 σ S1 (plus L Fr))(e:Eff ob H H1 S S1 L)(B:Same H1 H2)(r:Rep G H2 (((wn ob S1 (plus L Fr)).drop L).add I) d v I)(f:∀a∈I,a∈L∨H1 a=none)(F:Sta G H ob ρ σ S Fr) :
  Sta G H2 ob ρ1 σ S1 (plus I Fr)/\Rep G H2 (wn ob S1 (plus I Fr)) d v I/\Eff ob H H2 S S1 I:=by
 refine⟨s.grow B λa h=>?_,r.up ⟨Same.refl _,λb u U q=>⟨λz=>?_,q.2⟩,λ_ _ _ q=>q⟩,e.same B f⟩
 .rcases h with h|h
  .exact(f a h).imp .inl λz=>⟨z,r.dom a h⟩
  .exact .inl (.inr h)
 .rcases z with z|z
  .exact q.1 (.inl z)
  .refine q.1 (.inr ⟨.inr z,λh=>?_⟩)
   rcases e.fm b h with y|y
   .exact F.notO z y
   .obtain⟨o,ho,_⟩:=F.fdm b z
    rw[y]at ho;cases ho
end
def eUp(f:En->Option D):En->Option (D×En):=λρ=>(f ρ).map λd=>(d,ρ)
theorem uU{f:En->Option D}(h:RfE G ob ta f):kj G ob ta (eUp f):=λρ d F e σ H S Fr s Q q=>by
 unfold eUp at e;cases h1:f ρ with
 |none=>rw[h1]at e;cases e
 |some d0=>
  rw[h1]at e;cases e;refine h ρ d h1 σ H _ s.rel s.wok Q λv H' L B r fr nd=>?_;exact q v H' L S (s.grow B λa z=>z.elim (λz=>.inr ⟨fr a z,r.dom a z⟩) .inl) r nd ⟨λb u U _=>B b u U,λ_ _=>rfl,λi a h z=>.inl ⟨i,h,z⟩,λa Z=>.inr (fr a Z)⟩
def oO(f:En->Option Bool):En->Option (Bool×En):=λρ=>(f ρ).map λd=>(d,ρ)
theorem Nr{t:TT}{f:En->Option Bool}(h:RfT G ob t f):yF G ob t (oO f):=λρ d F e σ H S Fr s Q q=>by
 unfold oO at e;cases h1:f ρ with
 |none=>rw[h1]at e;cases e
 |some d0=>
  rw[h1]at e;cases e;refine h ρ d h1 σ H _ s.rel s.wok Q λH' B=>?_;exact q H' S (s.grow B λa z=>.inl z) ⟨λb u U _=>B b u U,λ_ _=>rfl,λi a h z=>.inl ⟨i,h,z⟩,by simp⟩
def gA(f:En->Option (List D)):En->Option (List D×En):=λρ=>(f ρ).map λd=>(d,ρ)
theorem Te(h:RfA G ob t f):By G ob t (gA f):=λρ d F e σ H S Fr s Q q=>by
 unfold gA at e;cases h1:f ρ with
 |none=>rw[h1]at e;cases e
 |some d0=>
  rw[h1]at e;cases e;refine h ρ d h1 σ H _ s.rel s.wok Q λv H' L B r fr nd=>?_;exact q v H' L S (s.grow B λa z=>z.elim (λz=>.inr ⟨fr a z,r.dom a z⟩) .inl) r nd ⟨λb u U _=>B b u U,λ_ _=>rfl,λi a h z=>.inl ⟨i,h,z⟩,λa Z=>.inr (fr a Z)⟩
theorem fu{f:En->Option D}(h:PV X G ob e f):PVe X G ob e (eUp f):=let⟨t,a1,a2⟩:=h.ex;⟨t,a1,uU a2⟩
theorem xV{f:En->Option Bool}(h:PVT X G ob e f):Cg X G ob e (oO f):=let⟨t,a1,a2⟩:=h.ex;⟨t,a1,Nr a2⟩
theorem bM{e:List Expr}(h:PVA X G ob e f):v5 X G ob e (gA f):=let⟨t,a1,a2⟩:=h.ex;⟨t,a1,Te a2⟩
variable{fa fb:En->Option (D×En)}
theorem kj.two(Z:kj G ob ta fa)(U:kj G ob tb fb){ρ1 ρ2:En}{dx F:D}(e1:fa ρ=some (dx,ρ1))(e2:fb ρ1=some (F,ρ2))(J:au dx=true){Fr:Addr->Prop}(s:Sta G H ob ρ σ S Fr)
  (h:∀x y H' L M S',Sta G H' ob ρ2 σ S' (plus (L++M) Fr)->Rep G H' (wn ob S' (plus (L++M) Fr)) dx x L->Rep G H' (wn ob S' (plus (L++M) Fr)) F y M->(L++M).Nodup->Eff ob H H' S S' (L++M)->R x y H'):ta σ H λx H1=>tb σ H1 λy H2=>R x y H2:=by
 refine Z ρ dx ρ1 e1 σ H S Fr s _ λx H1 L S1 B rx nx f1=>?_;refine U ρ1 F ρ2 e2 σ H1 S1 (plus L Fr) B _ λy H2 M S2 O ry I N=>?_;have q:=rx.mono (N.evo B) (.inr (N.evoN B)) (.inl J) λc Y u hu=>N.keepsF B (.inl Y) u hu;rw[nu]at O ry q;refine h x y H2 L M S2 O q ry (dm nx I λa h1 h2=>?_) (f1.trans N);rcases N.fm a h2 with z|z
 .exact B.notO (.inl h1) z
 .obtain⟨o,ho,_⟩:=rx.dom a h1
  rw[z]at ho;cases ho
def ee2(g:D->D->Option D)(fa fb:En->Option (D×En)):En->Option (D×En):=λρ=>(fa ρ).bind λp=>(fb p.2).bind λq=>if au p.1 then(g p.1 q.1).map λd=>(d,q.2)else none
theorem CG{r:R2}{g:D->D->Option D}(N:OpV G r g)(Z:kj G ob ta fa)(U:kj G ob tb fb):kj G ob (tOp r ta tb) (ee2 g fa fb):=λρ d F e σ H S Fr s Q q=>by
 unfold ee2 at e;cases h1:fa ρ with
 |none=>simp[h1]at e
 |some p=>
  obtain⟨dx,ρ1⟩:=p;cases h2:fb ρ1 with
  |none=>simp[h1,h2]at e
  |some p=>
   obtain⟨V,ρ2⟩:=p;cases J:au dx with
   |false=>simp[h1,h2,J]at e
   |true=>
    cases O:g dx V with
    |none=>simp[h1,h2,J,O]at e
    |some d'=>
     obtain⟨rfl,rfl⟩:d'=d/\ρ2=F:=by simpa[h1,h2,J,O]using e
     refine kj.two Z U h1 h2 J s λx y H' L M S' s' rx ry nd ef=>?_;refine N dx V _ O x y H' _ L M rx ry nd (λa Z=>s'.tmp (.inl Z)) s'.wok Q λv I L3 s3 r3 B n3=>?_;obtain⟨q1,q2,Y⟩:=M7 s' ef s3 r3 B s;exact q v I L3 S' q1 q2 n3 Y
def gQ(fa:En->Option (D×En))(fr:En->Option (List D×En)):En->Option (List D×En):=λρ=>(fa ρ).bind λp=>(fr p.2).bind λq=>if au p.1 then some (p.1::q.1,q.2)else none
theorem Lg{fr:En->Option (List D×En)}(Z:kj G ob ta fa)(O:By G ob t fr):By G ob (K1 ta t) (gQ fa fr):=λρ ds F e σ H S Fr s Q q=>by
 unfold gQ at e;cases h1:fa ρ with
 |none=>simp[h1]at e
 |some p=>
  obtain⟨dx,ρ1⟩:=p;cases h2:fr ρ1 with
  |none=>simp[h1,h2]at e
  |some p=>
   obtain⟨es,ρ2⟩:=p;cases J:au dx with
   |false=>simp[h1,h2,J]at e
   |true=>
    obtain⟨rfl,rfl⟩:dx::es=ds/\ρ2=F:=by simpa[h1,h2,J]using e
    refine Z ρ dx ρ1 h1 σ H S Fr s _ λx H1 L S1 B rx nx f1=>?_;refine O ρ1 es _ h2 σ H1 S1 (plus L Fr) B _ λys H2 M S2 s2 ry I N=>?_;have U:=rx.mono (N.evo B) (.inr (N.evoN B)) (.inl J) λc Y u V=>N.keepsF B (.inl Y) u V;rw[nu]at s2 ry U;refine q (x::ys) H2 (L++M) S2 s2 (.cons U ry) (dm nx I λa h1 h2=>?_) (f1.trans N);rcases N.fm a h2 with z|z
    .exact B.notO (.inl h1) z
    .obtain⟨o,ho,_⟩:=rx.dom a h1
     rw[z]at ho;cases ho
def vB(g:List D->Option D)(f:En->Option (List D×En)):En->Option (D×En):=λρ=>(f ρ).bind λp=>(g p.1).map λd=>(d,p.2)
variable{f:En->Option (List D×En)}
theorem xJ(N:CaV G r g)(h:By G ob t f):kj G ob (λσ H Q=>t σ H λvs H1=>r vs H1 Q) (vB g f):=λρ d F e σ H S Fr s Q q=>by
 unfold vB at e;cases h1:f ρ with
 |none=>simp[h1]at e
 |some p=>
  obtain⟨ds,ρ1⟩:=p;cases O:g ds with
  |none=>simp[h1,O]at e
  |some d'=>
   obtain⟨rfl,rfl⟩:d'=d/\ρ1=F:=by simpa[h1,O]using e
   refine h ρ ds _ h1 σ H S Fr s _ λxs H' L S' s' rx nd ef=>?_;refine N ds _ O xs H' _ L rx nd (λa Z=>s'.tmp (.inl Z)) s'.wok Q λv I L3 J r3 B U=>?_;obtain⟨q1,q2,Y⟩:=M7 s' ef J r3 B s;exact q v I L3 S' q1 q2 U Y
theorem oV{op:adQ}{g:D->D->Option D}(o:OpB X G (Zh op) g)(Z:PVe X G ob a fa)(U:PVe X G ob b fb):PVe X G ob (.BinOp a op b pos) (ee2 g fa fb):=let⟨r,o1,o2⟩:=o.ex;let⟨t,a1,a2⟩:=Z.ex;let⟨u,b1,b2⟩:=U.ex;⟨_,λc=>Rc (o1 c) (a1 c) (b1 c),CG o2 a2 b2⟩
theorem lG{g:D->D->Option D}(o:IxB X G g)(Z:PVe X G ob a fa)(U:PVe X G ob b fb)(hs:tW b:=by exact λ_ _=>rfl):PVe X G ob (.Subscript a b pos) (ee2 g fa fb):=let⟨r,o1,o2⟩:=o.ex;let⟨t,a1,a2⟩:=Z.ex;let⟨u,b1,b2⟩:=U.ex;⟨_,λc=>Iz (o1 c) (a1 c) (b1 c) hs,CG o2 a2 b2⟩
theorem dX{f:En->Option (D×En)}{fr:En->Option (List D×En)}(Z:PVe X G ob e f)(O:v5 X G ob es fr)(hs:∀c,Xy (e::es) (X c).env=(false,eval e (X c).env)::Xy es (X c).env:=by intro _;rfl):v5 X G ob (e::es) (gQ f fr):=let⟨t,a1,a2⟩:=Z.ex;let⟨u,b1,b2⟩:=O.ex;⟨_,λc=>yQ (a1 c) (b1 c) (hs c),Lg a2 b2⟩
theorem HN{id:String}(o:CaB X G (.builtin id) g)(F:∀c,Gl (X c) x)(J:∀c,(X c).mg x=none)(B:Zu x=some (.builtin id))(Z:v5 X G ob (e::es) f)(hn:x≠"__name__":=by decide)(q:1.23=false:=by decide)(V:∀c,Xy (e::es) (X c).env=(false,eval e (X c).env)::Xy es (X c).env:=by intro _;rfl)(U:∀c,(ZK pos (Xy es (X c).env)).any (·.1)=false:=by intro _;rfl):PVe X G ob (.Call (.Name x p) (e::es) [] pos) (vB g f):=let⟨r,o1,o2⟩:=o.ex;let⟨t,a1,a2⟩:=Z.ex;⟨_,λc=>Az (o1 c) (F c) (J c) B (a1 c) hn q (V c) (U c),xJ o2 a2⟩
theorem Dd(o:CaB X G (.type T) g)(F:∀c,Gl (X c) x)(J:∀c,(X c).mg x=none)(B:Zu x=some (.type T))(Z:v5 X G ob (e::es) f)(hn:x≠"__name__":=by decide)(q:1.23=false:=by decide)(V:∀c,Xy (e::es) (X c).env=(false,eval e (X c).env)::Xy es (X c).env:=by intro _;rfl)(U:∀c,(ZK pos (Xy es (X c).env)).any (·.1)=false:=by intro _;rfl):PVe X G ob (.Call (.Name x p) (e::es) [] pos) (vB g f):=let⟨r,o1,o2⟩:=o.ex;let⟨t,a1,a2⟩:=Z.ex;⟨_,λc=>xG (o1 c) (F c) (J c) B (a1 c) hn q (V c) (U c),xJ o2 a2⟩
theorem OJ(h:v5 X G ob es f):PVe X G ob (.Tuple es k pos) (vB bC f):=let⟨t,a1,a2⟩:=h.ex;⟨_,λc=>Kf (a1 c),xJ Fe a2⟩
theorem Oj(h:v5 X G ob es f):PVe X G ob (.List es pos) (vB bI f):=let⟨t,a1,a2⟩:=h.ex;⟨_,λc=>KZ (a1 c),xJ FT a2⟩
def truth:D->Option Bool
 |.non=>some false
 |.bl b=>some b
 |.int i=>some (i !=0)
 |.str y=>if y.length<=Xp then some ((y.length:Int)!=0)else none
 |.lst _ ds=>some (!ds.isEmpty)
 |.tup ds=>some (!ds.isEmpty)
 |.dct m _ ds=>if m= .scr then none else some (!ds.isEmpty)
 |_=>none
theorem rK(r:aD G H W ds xs L):ds.isEmpty=xs.isEmpty:=by
 have:=r.length;cases ds<;>cases xs<;>simp_all
theorem KC{k:Bool}(r:Rep G H W d v L)(h:truth d=some k):Qe G.K v H k:=by
 cases d with
 |non=>rw[Rep]at r;obtain⟨rfl,_⟩:=r;cases h;rfl
 |bl b=>rw[Rep]at r;obtain⟨rfl,_⟩:=r;cases h;rfl
 |int i=>rw[Rep]at r;obtain⟨rfl,_⟩:=r;cases h;rfl
 |str y=>
  rw[Rep]at r;obtain⟨rfl,_⟩:=r;simp![truth]at h;split at h
  .cases h;exact⟨‹_›,rfl⟩
  .cases h
 |ty n=>cases h
 |tup ds=>
  rw[Rep]at r;obtain⟨a,xs,rfl,U,O⟩:=r;cases h;exact .inr (.inl ⟨xs,SqT.of U,by rw[rK O]⟩)
 |lst m ds=>
  rw[Rep]at r;obtain⟨a,xs,M,rfl,O,hs⟩:=r;cases h;exact .inl ⟨xs,hs.sq,by rw[rK O]⟩
 |dct m ks ds=>
  rw[Rep]at r;obtain⟨a,kvs,M,rfl,B,O,hs⟩:=r;simp![truth]at h;split at h
  .cases h
  .cases h
   refine .inr (.inr ⟨kvs,hs.at ‹_›,?_⟩);rw[rK O];cases kvs<;>rfl
 |ins m c fs ds=>cases h
section
variable{ι:Type}{X:ι->Cx}{G:Gc}{ob:Nat->Bool}{a b:Expr}{pos:Pos}
def nT(f:En->Option D):En->Option Bool:=λρ=>(f ρ).bind truth
theorem Sy{ta:TE}{f:En->Option D}(h:RfE G ob ta f):RfT G ob (λσ H Q=>ta σ H λx H'=>∃k,Qe G.K x H' k/\Q k H') (nT f):=λρ k e σ H W I w Q q=>by
 unfold nT at e;cases h1:f ρ with
 |none=>simp[h1]at e
 |some d=>
  have e:truth d=some k:=by simpa[h1]using e
  exact h ρ d h1 σ H W I w _ λx H' L s r fr nd=>⟨k,KC r e,q H' s⟩
theorem lz{f:En->Option D}(h:PV X G ob a f)(V:∀c,∀q,adz a (X c).env q=(do let v ←q;standAt a.pos;aaS [v] (truthy v)):=by intro _;intro _;rfl)(I:∀c,(X c).K=G.K:=by intro _;rfl):PVT X G ob a (nT f):=let⟨t,a1,a2⟩:=h.ex;⟨_,λc=>(by have h:=JV (a1 c) (V c);rw[I c]at h;exact h),Sy a2⟩
def isB:D->Option Bool
 |.bl b=>some b
 |_=>none
def eB(f:En->Option D):En->Option Bool:=λρ=>(f ρ).bind isB
def eeB(f:En->Option (D×En)):En->Option (Bool×En):=λρ=>(f ρ).bind λp=>(isB p.1).map λb=>(b,p.2)
theorem vm{d:D}{k:Bool}(h:isB d=some k):d= .bl k:=by
 cases d<;>simp[isB]at h;rw[h]
theorem W5{ta:TE}{f:En->Option D}(h:RfE G ob ta f):RfT G ob (Lq ta) (eB f):=λρ k e σ H W I w Q q=>by
 unfold eB at e;cases h1:f ρ with
 |none=>simp[h1]at e
 |some d=>
  have e:isB d=some k:=by simpa[h1]using e
  have:=vm e;subst this;refine h ρ _ h1 σ H W I w _ λx H' L s r fr nd=>⟨k,?_,q H' s⟩;rw[Rep]at r;exact r.1
theorem UV{ta:TE}{f:En->Option (D×En)}(h:kj G ob ta f):yF G ob (Lq ta) (eeB f):=λρ k F e σ H S Fr s Q q=>by
 unfold eeB at e;cases h1:f ρ with
 |none=>simp[h1]at e
 |some p=>
  obtain⟨d,ρ1⟩:=p;cases h2:isB d with
  |none=>simp[h1,h2]at e
  |some O=>
   obtain⟨rfl,rfl⟩:O=k/\ρ1=F:=by simpa[h1,h2]using e
   have:=vm h2;subst this;refine h ρ _ _ h1 σ H S Fr s _ λx H' M S' s' r nd I=>⟨O,?_,q H' S' (s'.lessF λa z=>.inr z) (I.same (Same.refl _) (by simp))⟩;rw[Rep]at r;exact r.1
theorem bF{fa fb:En->Option D}{op:CmpOp}{g:D->D->Option D}(o:OpB X G (Yp op) g)(Z:PV X G ob a fa)(U:PV X G ob b fb)(J:abI op b=false:=by with_unfolding_all rfl):PVT X G ob (.Compare a [op] [b] pos) (eB (e2 g fa fb)):=let⟨r,o1,o2⟩:=o.ex;let⟨t,a1,a2⟩:=Z.ex;let⟨u,b1,b2⟩:=U.ex;⟨_,λc=>Eh (o1 c) (a1 c) (b1 c) J,W5 (Al o2 a2 b2)⟩
theorem Mm{fa fb:En->Option (D×En)}{op:CmpOp}{g:D->D->Option D}(o:OpB X G (Yp op) g)(Z:PVe X G ob a fa)(U:PVe X G ob b fb)(J:abI op b=false:=by with_unfolding_all rfl):Cg X G ob (.Compare a [op] [b] pos) (eeB (ee2 g fa fb)):=let⟨r,o1,o2⟩:=o.ex;let⟨t,a1,a2⟩:=Z.ex;let⟨u,b1,b2⟩:=U.ex;⟨_,λc=>Eh (o1 c) (a1 c) (b1 c) J,UV (CG o2 a2 b2)⟩
def j_(f g:En->Option Bool):En->Option Bool:=λρ=>(f ρ).bind λc=>if c then g ρ else some false
def eOr(f g:En->Option Bool):En->Option Bool:=λρ=>(f ρ).bind λc=>if c then some true else g ρ
def uE(f:En->Option Bool):En->Option Bool:=λρ=>(f ρ).map λc=>!c
def Bm(f g:En->Option (Bool×En)):En->Option (Bool×En):=λρ=>(f ρ).bind λp=>if p.1 then g p.2 else some (false,p.2)
theorem Th{t u:TT}{f g:En->Option Bool}(h:RfT G ob t f)(h':RfT G ob u g):RfT G ob (Tv t u) (j_ f g):=λρ k e σ H W I w Q q=>by
 unfold j_ at e;cases h1:f ρ with
 |none=>simp[h1]at e
 |some c=>
  refine h ρ c h1 σ H W I w _ λH1 B=>?_;cases c with
  |false=>
   have:false=k:=by simpa[h1]using e
   subst this;exact v4 (q H1 B)
  |true=>
   have e:g ρ=some k:=by simpa[h1]using e
   exact qU (h' ρ k e σ H1 W (I.up (Up.same B)) (λa Z=>let⟨o,z,m⟩:=w a Z;⟨o,B a o z,m⟩) Q λH2 Y=>q H2 (B.trans Y))
theorem V8{t u:TT}{f g:En->Option Bool}(h:RfT G ob t f)(h':RfT G ob u g):RfT G ob (tOr t u) (eOr f g):=λρ k e σ H W I w Q q=>by
 unfold eOr at e;cases h1:f ρ with
 |none=>simp[h1]at e
 |some c=>
  refine h ρ c h1 σ H W I w _ λH1 B=>?_;cases c with
  |true=>
   have:true=k:=by simpa[h1]using e
   subst this;exact qU (q H1 B)
  |false=>
   have e:g ρ=some k:=by simpa[h1]using e
   exact v4 (h' ρ k e σ H1 W (I.up (Up.same B)) (λa Z=>let⟨o,z,m⟩:=w a Z;⟨o,B a o z,m⟩) Q λH2 Y=>q H2 (B.trans Y))
theorem RX{t:TT}{f:En->Option Bool}(h:RfT G ob t f):RfT G ob (VJ t) (uE f):=λρ k e σ H W I w Q q=>by
 unfold uE at e;cases h1:f ρ with
 |none=>simp[h1]at e
 |some c=>
  have:(!c)=k:=by simpa[h1]using e
  subst this;exact h ρ c h1 σ H W I w _ λH1 B=>q H1 B
theorem PP{t u:TT}{f g:En->Option (Bool×En)}(h:yF G ob t f)(h':yF G ob u g):yF G ob (Tv t u) (Bm f g):=λρ k F e σ H S Fr s Q q=>by
 unfold Bm at e;cases h1:f ρ with
 |none=>simp[h1]at e
 |some p=>
  obtain⟨c,ρ1⟩:=p;refine h ρ c ρ1 h1 σ H S Fr s _ λH1 S1 B V=>?_;cases c with
  |false=>
   obtain⟨rfl,rfl⟩:false=k/\ρ1=F:=by simpa[h1]using e
   exact v4 (q H1 S1 B V)
  |true=>
   have e:g ρ1=some (k,F):=by simpa[h1]using e
   exact qU (h' ρ1 k F e σ H1 S1 Fr B Q λH2 S2 Y N=>q H2 S2 Y (V.trans N))
variable{rest:List Expr}{fa fb:En->Option Bool}{ga gb:En->Option (Bool×En)}
theorem lD(Z:PVT X G ob a fa)(U:PVW X G ob (.BoolOp .And (b::rest) pos) fb):PVW X G ob (.BoolOp .And (a::b::rest) pos) (j_ fa fb):=let⟨t,a1,a2⟩:=Z.ex;let⟨u,b1,b2⟩:=U.ex;⟨_,λc=>Ls (a1 c) (b1 c),Th a2 b2⟩
theorem Ds(Z:PVT X G ob a fa)(U:PVW X G ob (.BoolOp .Or (b::rest) pos) fb):PVW X G ob (.BoolOp .Or (a::b::rest) pos) (eOr fa fb):=let⟨t,a1,a2⟩:=Z.ex;let⟨u,b1,b2⟩:=U.ex;⟨_,λc=>WM (a1 c) (b1 c),V8 a2 b2⟩
theorem kJ(Z:PVT X G ob a fa):PVW X G ob (.BoolOp .And [a] pos) fa:=let⟨t,a1,a2⟩:=Z.ex;⟨_,λc=>Fg (a1 c),a2⟩
theorem xQ(Z:PVT X G ob a fa):PVW X G ob (.BoolOp .Or [a] pos) fa:=let⟨t,a1,a2⟩:=Z.ex;⟨_,λc=>Uy (a1 c),a2⟩
theorem pY(h:PVW X G ob a fa):PVT X G ob a fa:=let⟨t,a1,a2⟩:=h.ex;⟨_,λc=>PW.pt (a1 c),a2⟩
theorem tX(Z:PVT X G ob a fa):PVT X G ob (.UnaryOp .Not a pos) (uE fa):=let⟨t,a1,a2⟩:=Z.ex;⟨_,λc=>R3 (a1 c),RX a2⟩
theorem Ky(Z:Cg X G ob a ga)(U:Oe X G ob (.BoolOp .And (b::rest) pos) gb):Oe X G ob (.BoolOp .And (a::b::rest) pos) (Bm ga gb):=let⟨t,a1,a2⟩:=Z.ex;let⟨u,b1,b2⟩:=U.ex;⟨_,λc=>Ls (a1 c) (b1 c),PP a2 b2⟩
theorem GR(Z:Cg X G ob a ga):Oe X G ob (.BoolOp .And [a] pos) ga:=let⟨t,a1,a2⟩:=Z.ex;⟨_,λc=>Fg (a1 c),a2⟩
theorem T8(h:Oe X G ob a ga):Cg X G ob a ga:=let⟨t,a1,a2⟩:=h.ex;⟨_,λc=>PW.pt (a1 c),a2⟩
def Bo(f g:En->Option D):En->Option D:=λρ=>(f ρ).bind λx=>(isB x).bind λc=>if c then g ρ else some (.bl false)
theorem WOk.up{H H':Hp}{W:Wn}(w:WOk H W)(s:Same H H'):WOk H' W:=λa Z=>let⟨o,z,m⟩:=w a Z;⟨o,s a o z,m⟩
theorem RV{G:Gc}{H:Hp}{W:Wn}{b:Bool}:Rep G H W (.bl b) (.bl b) []:=by rw[Rep];exact⟨rfl,rfl⟩
theorem PN{ta tb:TE}{f g:En->Option D}(h:RfE G ob ta f)(h':RfE G ob tb g):RfE G ob (Ru ta tb) (Bo f g):=λρ d e σ H W I w Q q=>by
 unfold Bo at e;cases h1:f ρ with
 |none=>simp[h1]at e
 |some x=>
  cases h2:isB x with
  |none=>simp[h1,h2]at e
  |some c=>
   have:=vm h2;subst this;refine h ρ _ h1 σ H W I w _ λv H1 L B r fr nd=>?_;rw[Rep]at r;refine⟨c,r.1,?_⟩;cases c with
   |false=>
    have:D.bl false=d:=by simpa[h1,isB]using e
    subst this;exact v4 (q _ H1 [] B RV (by simp) List.nodup_nil)
   |true=>
    have e:g ρ=some d:=by simpa[h1,isB]using e
    exact qU (h' ρ d e σ H1 W (I.up (Up.same B)) (w.up B) Q λv H2 L Y r fr nd=>q v H2 L (B.trans Y) r (λa Z=>B.none' (fr a Z)) nd)
section
variable{c:Expr}{fa fb:En->Option D}{fc:En->Option Bool}
theorem yq(Z:PV X G ob a fa)(U:PV X G ob (.BoolOp .And (b::rest) pos) fb):PV X G ob (.BoolOp .And (a::b::rest) pos) (Bo fa fb):=let⟨t,a1,a2⟩:=Z.ex;let⟨u,b1,b2⟩:=U.ex;⟨_,λc=>R6 (a1 c) (b1 c),PN a2 b2⟩
theorem Dh{op}(Z:PV X G ob a fa):PV X G ob (.BoolOp op [a] pos) fa:=let⟨t,a1,a2⟩:=Z.ex;⟨_,λc=>RZ (a1 c),a2⟩
end
end
section
variable{G:Gc}{ob P:Nat->Bool}{H H1 H2:Hp}{S S1 S2:Ad}{L M:List Addr}{ρ ρ1:En}{σ:L2.St}{Fr:Addr->Prop}
def ie(S:Ad)(i:Nat)(M:List Addr):Ad:=λj=>if j=i then M else S j
theorem dG{i:Nat}:ie S i M i=M:=Xu rfl
theorem dI{i j:Nat}(h:j≠i):ie S i M j=S j:=Xz h
theorem cZ{i j:Nat}{a:Addr}(h:a∈ie S i M j):(j=i/\a∈M)∨(j≠i/\a∈S j):=by
 by_cases e:j=i
 .rw[e,dG]at h;exact .inl ⟨e,h⟩
 .rw[dI e]at h;exact .inr ⟨e,h⟩
theorem Mv.refl:Mv P H H σ σ S S M:=⟨λ_ _ h _ _=>h,λi a z=>.inl ⟨i,z⟩,.refl⟩
theorem Sta.store{i:Nat}{d:D}{v:V}(s:Sta G H ob ρ σ S (plus M Fr))(r:Rep G H (wn ob S (plus M Fr)) d v M)(Y:clean d=true)(nd:M.Nodup)(F:∀a∈M,¬Fr a) :
  ∃S',Sta G H ob (ρ.set i (some d)) (σ.set i (some v)) S' Fr/\∀j a,a∈S' j->inS S a∨a∈M:=by
 by_cases hi:i<ρ.length
 .refine⟨ie S i M,⟨by simp[s.len],λj e q=>?_,λj I=>?_,λj=>?_,λj k a h1 h2=>?_,λj a h1 h2=>?_,λa h=>s.fdm a (.inr h)⟩,λj a h=>?_⟩
  .have ev:Evo H H (wn ob S (plus M Fr)) (wn ob (ie S i M) Fr):=⟨λb u h f=>⟨h,⟨λz=>f.1 (.inr z),λ⟨k,h1,h2⟩=>?_,λ⟨k,h1,h2⟩=>?_⟩⟩,λ_ _ h=>h⟩
   .by_cases e:j=i
    .subst e
     have:d=e:=by simpa[hi]using q
     have:d=e:=this;subst this;have Z:j<σ.length:=by rw[←s.len];exact hi
     refine⟨v,by simp[Z],?_,Y⟩;rw[dG];have J:aA d=true/\au d=true:=by simpa[clean]using Y
     exact r.mono ev (.inl J.1) (.inl J.2) λ_ _ _ h=>h
    .rw[List.getElem?_set_ne (Ne.symm e)]at q
     obtain⟨B,h1,h2,O⟩:=s.sl j _ q;refine⟨B,by rw[List.getElem?_set_ne (Ne.symm e)];exact h1,?_,O⟩;rw[dI e];have J:=(by simpa[clean]using O:aA _=true/\au _=true);exact h2.mono ev (.inl J.1) (.inl J.2) λ_ _ _ h=>h
   .rcases cZ h2 with⟨_,z⟩|⟨_,z⟩
    .exact f.1 (.inl z)
    .exact f.2.1 ⟨k,h1,z⟩
   .rcases cZ h2 with⟨_,z⟩|⟨_,z⟩
    .exact f.1 (.inl z)
    .exact f.2.2 ⟨k,h1,z⟩
  .by_cases e:j=i
   .subst e
    exact absurd (by simp[hi]) (I d)
   .rw[dI e]
    exact s.em j λd'=>by have:=I d';rwa[List.getElem?_set_ne (Ne.symm e)]at this
  .by_cases e:j=i
   .rw[e,dG];exact nd
   .rw[dI e];exact s.nd j
  .rcases cZ h1 with⟨e1,z1⟩|⟨e1,z1⟩<;>rcases cZ h2 with⟨e2,N⟩|⟨e2,N⟩
   .rw[e1,e2]
   .exact absurd N (s.fdj k a (.inl z1))
   .exact absurd z1 (s.fdj j a (.inl N))
   .exact s.dj j k a z1 N
  .rcases cZ h2 with⟨_,z⟩|⟨_,z⟩
   .exact F a z h1
   .exact s.fdj j a (.inr h1) z
  .rcases cZ h with⟨_,z⟩|⟨_,z⟩
   .exact .inr z
   .exact .inl ⟨j,z⟩
 .have h1:ρ.set i (some d)=ρ:=acY 1.10
  have h2:σ.set i (some v)=σ:=acY (by rw[←s.len];omega);rw[h1,h2];exact⟨S,s.lessF λa z=>.inr z,λj a h=>.inl ⟨j,h⟩⟩
end
section
variable{ι:Type}{X:ι->Cx}{G:Gc}{ob P:Nat->Bool}
def fB:En->Option Fl:=λρ=>some (.nx ρ)
def bu(f g:En->Option Fl):En->Option Fl:=λρ=>match f ρ with
 |some (.nx ρ')=>g ρ'
 |r=>r
theorem Aft.from{G:Gc}{H H1:Hp}{σ N:L2.St}{S S1:Ad}{Fr:Addr->Prop}{E:Ends}(m:Mv P H H1 σ N S S1 []):∀{r:Fl},Aft G ob P H σ S Fr E r->Aft G ob P H1 N S1 Fr E r
 |.nx ρ',h=>λB H' S' s O=>h B H' S' s (m.trans O)
 |.brk ρ',h=>λB H' S' s O=>h B H' S' s (m.trans O)
 |.cnt ρ',h=>λB H' S' s O=>h B H' S' s (m.trans O)
 |.ret d ρ',h=>λv B H' M S' s r c n f O=>h v B H' M S' s r c n (λa Z=>by
  rcases f a Z with⟨i,z⟩|z
  .exact(m.gr i a z).elim .inl λz=>z.elim (λz=>by cases z) .inr
  .by_cases q:inS S a
   .exact .inl q
   .refine .inr ?_
    cases e:H a with
    |none=>rfl
    |some u=>rw[m.kp a u e q (by simp)]at z;cases z) (m.trans O)
theorem PQ:RfS G ob P Rn fB:=λρ r e σ H S Fr s E h=>by
 cases e;exact h σ H S s .refl
theorem QM{t u:TS}{f g:En->Option Fl}(h1:RfS G ob P t f)(h2:RfS G ob P u g):RfS G ob P (WF t u) (bu f g):=λρ r e σ H S Fr s E h=>by
 unfold bu at e;cases O:f ρ with
 |none=>rw[O]at e;cases e
 |some q=>
  rw[O]at e;refine h1 ρ q O σ H S Fr s _ ?_;cases q with
  |nx F=>exact λB H' S' s' m=>h2 F r e B H' S' Fr s' E (h.from m)
  |brk F=>cases e;exact h
  |cnt F=>cases e;exact h
  |ret d F=>cases e;exact h
theorem cF:rC X G ob P [] fB:=⟨_,λc=>PB,PQ⟩
theorem aF{st:Stmt}{rest:List Stmt}{f g:En->Option Fl}(h1:PVS X G ob P st f)(h2:rC X G ob P rest g):rC X G ob P (st::rest) (bu f g):=let⟨t,a1,a2⟩:=h1.ex;let⟨u,b1,b2⟩:=h2.ex;⟨_,λc=>Ip (a1 c) (b1 c),QM a2 b2⟩
theorem aO{st:Stmt}{f:En->Option Fl}(h1:PVS X G ob P st f):rC X G ob P [st] f:=let⟨t,a1,a2⟩:=h1.ex;⟨_,λc=>PK (a1 c),a2⟩
def tgN(i:Nat):D->En->Option En:=λd ρ=>if clean d then some (ρ.set i (some d))else none
theorem jb{i:Nat}(Z:P i=false):RfG G ob P (pZ i) (tgN i):=λd ρ F e v σ H S M Fr s r nd J Q q=>by
 unfold tgN at e;split at e
 .rename_i hc
  cases e;obtain⟨S',s',h⟩:=s.store r hc nd J (i:=i);refine q _ H S' s' ⟨λb u h _ _=>h,λj a z=>(h j a z).imp id .inl,λj I=>?_⟩;have:j≠i:=λz=>by rw[z,Z]at I;cases I
  rw[List.getElem?_set_ne (Ne.symm this)]
 .cases e
def bO:List D->En->Option En:=λds ρ=>match ds with
 |[]=>some ρ
 |_=>none
def aM(f:D->En->Option En)(g:List D->En->Option En):List D->En->Option En:=λds ρ=>match ds with
 |d::r=>(f d ρ).bind λρ1=>g r ρ1
 |[]=>none
def tgT(n:Nat)(g:List D->En->Option En):D->En->Option En:=λd ρ=>match d with
 |.tup ds=>if ds.length=n/\aB ds=true/\az ds=true then g ds ρ else none
 |_=>none
theorem NB:W8 G ob P O3 bO:=λds ρ F e vs σ H S M Fr s r nd J Q q=>by
 cases ds with
 |nil=>
  cases e;obtain⟨rfl,rfl⟩:=r.inv0;exact⟨rfl,q σ H S (s.lessF λa z=>.inr z) .refl⟩
 |cons d r=>cases e
def Kl(G:Gc)(ob P:Nat->Bool)(g:TGs)(f:List D->En->Option En):Prop:=∀(ds:List D)(ρ F:En),az ds=true->aB ds=true->f ds ρ=some F->∀(vs:List V)(σ:L2.St)(H:Hp)(S:Ad)(M:List Addr)(Fr:Addr->Prop),Sta G H ob ρ σ S (plus M Fr)->aD G H (wn ob S (plus M Fr)) ds vs M->M.Nodup->(∀a∈M,¬Fr a)->
 ∀Q:L2.St->Hp->Prop,(∀B H' S',Sta G H' ob F B S' Fr->Mv P H H' σ B S S' M->Q B H')->g vs σ H Q
theorem zO:Kl G ob P O3 bO:=λds ρ F _ _ e=>NB ds ρ F e
theorem rn{t:TG}{u:TGs}{f:D->En->Option En}{g:List D->En->Option En}(h1:RfG G ob P t f)(h2:Kl G ob P u g):Kl G ob P (MF t u) (aM f g):=λds ρ F c1 I e vs σ H S M Fr s r nd hF Q q=>by
 cases ds with
 |nil=>cases e
 |cons d ds=>
  obtain⟨x,ys,M1,M2,rfl,rfl,J,O⟩:=r.inv;simp![az,aB,XR]at c1 I;simp![aM]at e;cases h3:f d ρ with
  |none=>rw[h3]at e;cases e
  |some ρ1=>
   have e:g ds ρ1=some F:=by simpa[h3]using e
   have a0:=Xx.mp nd;have a2:plus (M1++M2) Fr=plus M1 (plus M2 Fr):=by
    funext a;simp![plus,W2,or_assoc]
   rw[a2]at s J O;refine⟨x,ys,rfl,h1 d ρ ρ1 h3 x σ H S M1 (plus M2 Fr) s J a0.1 (λa Z z=>?_) _ λa1 H1 S1 B m1=>?_⟩
   .rcases z with z|z
    .exact a0.2.2 a Z a z rfl
    .exact hF a (Xo _ Z) z
   .have ev:Evo H H1 (wn ob S (plus M1 (plus M2 Fr))) (wn ob S1 (plus M2 Fr)):=⟨λb u U f=>?_,λb xs h=>?_⟩
    .have hr1:aD G H1 (wn ob S1 (plus M2 Fr)) ds ys M2:=O.mono ev (.inl c1.2) (.inl I.2) λc Y u V=>m1.kp c u V (λ⟨i,z⟩=>s.fdj i c (.inr (.inl Y)) z) λz=>a0.2.2 c z c Y rfl
     refine h2 ds ρ1 F c1.2 I.2 e ys a1 H1 S1 M2 Fr B hr1 a0.2.1 (λa Z=>hF a (Xf _ Z)) Q λσ2 H2 S2 s2 m2=>q σ2 H2 S2 s2 ⟨λb u U n1 n2=>?_,λi a z=>?_,m1.pr.trans m2.pr⟩
     .have n3:b∉M1:=λz=>n2 (Xo _ z)
      exact m2.kp b u (m1.kp b u U n1 n3) (λ⟨i,z⟩=>(m1.gr i b z).elim n1 λz=>z.elim n3 λz=>by rw[U]at z;cases z) λz=>n2 (Xf _ z)
     .rcases m2.gr i a z with⟨j,z⟩|z|z
      .exact(m1.gr j a z).imp id λz=>z.imp (Xo _) id
      .exact .inr (.inl (Xf _ z))
      .by_cases q1:inS S a
       .exact .inl q1
       .by_cases q2:a∈M1
        .exact .inr (.inl (Xo _ q2))
        .refine .inr (.inr ?_)
         cases e:H a with
         |none=>rfl
         |some u=>rw[m1.kp a u e q1 q2]at z;cases z
    .have n1:¬inS S b:=λ⟨i,z⟩=>by
      cases N:ob i with
      |false=>exact f.2.1 ⟨i,N,z⟩
      |true=>exact f.2.2 ⟨i,N,z⟩
     have n2:b∉M1:=λz=>f.1 (.inl z);refine⟨m1.kp b u U n1 n2,λz=>f.1 (.inr z),λ⟨i,_,z⟩=>?_,λ⟨i,_,z⟩=>?_⟩
     .exact(m1.gr i b z).elim n1 λz=>z.elim n2 λz=>by rw[U]at z;cases z
     .exact(m1.gr i b z).elim n1 λz=>z.elim n2 λz=>by rw[U]at z;cases z
    .have no:∀u,H b=some u->muO u=false->H1 b=some u:=λu V m=>m1.kp b u V (λ⟨i,z⟩=>by
       obtain⟨o,N,hm⟩:=s.mu z;rw[V]at N;cases N;rw[m]at hm;cases hm) λz=>by
       obtain⟨o,N,hm⟩:=J.dom b z;rw[V]at N;cases N;rw[m]at hm;cases hm
     exact no _ h rfl
theorem Qc{n:Nat}{t:TGs}{g:List D->En->Option En}(h:Kl G ob P t g):RfG G ob P (T7 G.K n t) (tgT n g):=λd ρ F e v σ H S M Fr s r nd J Q q=>by
 cases d with
 |tup ds=>
  simp![tgT]at e;split at e
  .rename_i hl
   rw[Rep]at r;obtain⟨a,xs,rfl,U,O⟩:=r;exact⟨a,xs,rfl,SqT.of U,by rw[←O.length];exact hl.1,h ds ρ F hl.2.2 hl.2.1 e xs σ H S M Fr s O nd J Q q⟩
  .cases e
 |_=>cases e
structure QB{ι:Type}(X:ι->Cx)(G:Gc)(ob P:Nat->Bool)(tg:List Expr)(f:List D->En->Option En):Prop where
 mk::(ex:∃t,(∀c,PGs (X c) tg t)/\Kl G ob P t f)
theorem aX(i:Nat){x:Str}{pos:Pos}(Y:∀c,(X c).N.Nodup)(Z:P i=false:=by rfl)(hi:∀c,(X c).N[i]? =some x:=by intro _;rfl)(J:∀c,Loc (X c).env.scope x:=by intro _;first|exact ZZ rfl|exact Ze rfl)(O:∀c,(X c).fn x=true∨(X c).env.scope.names.lookup x=some .local:=by intro _;first|exact .inl rfl|exact .inr rfl):PVG X G ob P (.Name x pos) (tgN i):=⟨_,λc=>yV (Y c) (hi c) (J c) (O c),jb Z⟩
theorem eU:QB X G ob P [] bO:=⟨_,λc=>Ea,zO⟩
theorem aW{e:Expr}{es:List Expr}{f:D->En->Option En}{g:List D->En->Option En}(h1:PVG X G ob P e f)(h2:QB X G ob P es g)(hs:∀c,(YS (e::es) (X c).env).map (·.2)=abf e (X c).env::(YS es (X c).env).map (·.2):=by intro _;rfl):QB X G ob P (e::es) (aM f g):=let⟨t,a1,a2⟩:=h1.ex;let⟨u,b1,b2⟩:=h2.ex;⟨_,λc=>A_ (a1 c) (b1 c) (hs c),rn a2 b2⟩
theorem gJ{es:List Expr}{k n:Nat}{pos:Pos}{g:List D->En->Option En}(Y:∀c,(X c).calm=true)(h:QB X G ob P es g)(hn:∀c,(YS es (X c).env).length=n:=by intro _;rfl)(V:∀c,(YS es (X c).env).findIdx? (·.1)=none:=by intro _;rfl)(I:∀c,(X c).K=G.K:=by intro _;rfl):PVG X G ob P (.Tuple es k pos) (tgT n g):=let⟨t,a1,a2⟩:=h.ex;⟨_,λc=>(by rw[←I c];exact Km (Y c) (a1 c) (hn c) (V c)),Qc a2⟩
def bV(f:En->Option D)(g:D->En->Option En):En->Option Fl:=λρ=>(f ρ).bind λd=>(g d ρ).map .nx
def fQ(f:En->Option (D×En))(g:D->En->Option En):En->Option Fl:=λρ=>(f ρ).bind λp=>(g p.1 p.2).map .nx
theorem iZ{Fr:Addr->Prop}:plus [] Fr=Fr:=by funext a;simp[plus]
theorem jH{te:TE}{t:TG}{f:En->Option (D×En)}{g:D->En->Option En}(h:kj G ob te f)(F:RfG G ob P t g):RfS G ob P (CZ te t) (fQ f g):=λρ r e σ H S Fr s E q=>by
 unfold fQ at e;cases h1:f ρ with
 |none=>simp[h1]at e
 |some p=>
  obtain⟨d,ρ1⟩:=p;cases h2:g d ρ1 with
  |none=>simp[h1,h2]at e
  |some ρ2=>
   have:Fl.nx ρ2=r:=by simpa[h1,h2]using e
   subst this;refine h ρ d ρ1 h1 σ H S Fr s _ λv H1 M S1 s1 I nd V=>?_;have J:∀a∈M,¬Fr a:=λa Z z=>by
    rcases V.fm a Z with q|q
    .exact s.notO z q
    .obtain⟨o,N,_⟩:=s.fdm a z
     rw[q]at N;cases N
   refine F d ρ1 ρ2 h2 v σ H1 S1 M Fr s1 I nd J _ λB H' S' s' m=>q B H' S' s' ⟨λb u U Y O=>?_,λi a z=>?_,m.pr⟩
   .have hno:¬inO ob S b:=λ⟨i,_,z⟩=>Y ⟨i,z⟩
    refine m.kp b u (V.kp b u U hno) (λ⟨i,z⟩=>?_) λz=>(V.fm b z).elim hno λz=>by rw[U]at z;cases z
    cases N:ob i with
    |false=>rw[V.sn i N]at z;exact Y ⟨i,z⟩
    |true=>exact(V.gr i b N z).elim hno λz=>by rw[U]at z;cases z
   .rcases m.gr i a z with⟨j,z⟩|z|z
    .cases N:ob j with
     |false=>rw[V.sn j N]at z;exact .inl ⟨j,z⟩
     |true=>exact(V.gr j a N z).imp (λ⟨k,_,z⟩=>⟨k,z⟩) .inr
    .exact(V.fm a z).imp (λ⟨k,_,z⟩=>⟨k,z⟩) .inr
    .exact(V.back z).imp (λ⟨k,_,z⟩=>⟨k,z⟩) .inr
theorem vC{f:En->Option D}{g:D->En->Option En}:fQ (eUp f) g=bV f g:=by
 funext ρ;unfold fQ bV eUp;cases f ρ<;>rfl
section
variable{tg e:Expr}{pos:Pos}{g:D->En->Option En}
theorem lF{f:En->Option D}(V:PV X G ob e f)(F:PVG X G ob P tg g)(hs:∀c,aaG [tg] e pos.line (X c).env=pure false:=by intro _;rfl)(q:∀c,abH [tg] e (X c).env=pure none:=by intro _;rfl)(h1:∀c,(YS [tg] (X c).env).map (·.2)=[abf tg (X c).env]:=by intro _;rfl):PVS X G ob P (.Assign [tg] e pos) (bV f g):=let⟨t,a1,a2⟩:=V.ex;let⟨u,b1,b2⟩:=F.ex;⟨_,λc=>Jx (a1 c) (b1 c) (hs c) (q c) (h1 c),by rw[←vC];exact jH (uU a2) b2⟩
theorem Ak{f:En->Option (D×En)}(V:PVe X G ob e f)(F:PVG X G ob P tg g)(hs:∀c,aaG [tg] e pos.line (X c).env=pure false:=by intro _;rfl)(q:∀c,abH [tg] e (X c).env=pure none:=by intro _;rfl)(h1:∀c,(YS [tg] (X c).env).map (·.2)=[abf tg (X c).env]:=by intro _;rfl):PVS X G ob P (.Assign [tg] e pos) (fQ f g):=let⟨t,a1,a2⟩:=V.ex;let⟨u,b1,b2⟩:=F.ex;⟨_,λc=>Jx (a1 c) (b1 c) (hs c) (q c) (h1 c),jH a2 b2⟩
theorem bL(i:Nat){x:Str}{pos':Pos}{f:En->Option D}(Y:∀c,(X c).N.Nodup)(V:PV X G ob e f)(Z:P i=false:=by rfl)(hi:∀c,(X c).N[i]? =some x:=by intro _;rfl)(J:∀c,Loc (X c).env.scope x:=by intro _;first|exact ZZ rfl|exact Ze rfl)(hs:∀c,aaI e (some (.Name x pos')) pos.line (X c).env=pure false:=by intro _;rfl)(O:∀c,(X c).fn x=true∨(X c).env.scope.names.lookup x=some .local:=by intro _;first|exact .inl rfl|exact .inr rfl):PVS X G ob P (.Assign [.Name x pos'] e pos) (bV f (tgN i)):=let⟨t,a1,a2⟩:=V.ex;⟨_,λc=>JH (Y c) (hi c) (J c) (a1 c) (hs c) (O c),by rw[←vC];exact jH (uU a2) (jb Z)⟩
theorem eX(i:Nat){x:Str}{pos':Pos}{f:En->Option (D×En)}(Y:∀c,(X c).N.Nodup)(V:PVe X G ob e f)(Z:P i=false:=by rfl)(hi:∀c,(X c).N[i]? =some x:=by intro _;rfl)(J:∀c,Loc (X c).env.scope x:=by intro _;first|exact ZZ rfl|exact Ze rfl)(hs:∀c,aaI e (some (.Name x pos')) pos.line (X c).env=pure false:=by intro _;rfl)(O:∀c,(X c).fn x=true∨(X c).env.scope.names.lookup x=some .local:=by intro _;first|exact .inl rfl|exact .inr rfl):PVS X G ob P (.Assign [.Name x pos'] e pos) (fQ f (tgN i)):=let⟨t,a1,a2⟩:=V.ex;⟨_,λc=>JH (Y c) (hi c) (J c) (a1 c) (hs c) (O c),jH a2 (jb Z)⟩
end
def vo(f:En->Option (List D×En))(g:List D->En->Option En):En->Option Fl:=λρ=>(f ρ).bind λp=>if az p.1/\aB p.1 then(g p.1 p.2).map .nx else none
theorem Lw{ta:TA}{i j:Nat}(hi:P i=false)(I:P j=false){f:En->Option (List D×En)}(h:By G ob ta f):RfS G ob P (VG i j ta) (vo f (aM (tgN i) (aM (tgN j) bO))):=λρ r e σ H S Fr s E q=>by
 unfold vo at e;cases h1:f ρ with
 |none=>simp[h1]at e
 |some p=>
  obtain⟨ds,ρ1⟩:=p;by_cases Y:az ds/\aB ds
  .cases h2:(aM (tgN i) (aM (tgN j) bO)) ds ρ1 with
   |none=>simp[h1,h2,Y]at e
   |some ρ2=>
    have:Fl.nx ρ2=r:=by simpa[h1,h2,Y]using e
    subst this;refine h ρ ds ρ1 h1 σ H S Fr s _ λvs H1 M S1 s1 r1 nd V=>?_;have hF:∀a∈M,¬Fr a:=λa Z z=>by
     rcases V.fm a Z with q|q
     .exact s.notO z q
     .obtain⟨o,N,_⟩:=s.fdm a z
      rw[q]at N;cases N
    have J:=rn (jb (G:=G) (ob:=ob) hi) (rn (jb I) zO) ds ρ1 ρ2 Y.1 Y.2 h2 vs σ H1 S1 M Fr s1 r1 nd hF (λB H'=>E.nx B H') λB H' S' s' m=>q B H' S' s' ⟨λb u U F O=>?_,λi a z=>?_,m.pr⟩
    .obtain⟨v,rr,e1,v2,r2,e2,e3,k⟩:=J
     subst e3;exact⟨v,v2,by rw[e1,e2],k⟩
    .have hno:¬inO ob S b:=λ⟨i,_,z⟩=>F ⟨i,z⟩
     refine m.kp b u (V.kp b u U hno) (λ⟨i,z⟩=>?_) λz=>(V.fm b z).elim hno λz=>by rw[U]at z;cases z
     cases N:ob i with
     |false=>rw[V.sn i N]at z;exact F ⟨i,z⟩
     |true=>exact(V.gr i b N z).elim hno λz=>by rw[U]at z;cases z
    .rcases m.gr i a z with⟨j,z⟩|z|z
     .cases N:ob j with
      |false=>rw[V.sn j N]at z;exact .inl ⟨j,z⟩
      |true=>exact(V.gr j a N z).imp (λ⟨k,_,z⟩=>⟨k,z⟩) .inr
     .exact(V.fm a z).imp (λ⟨k,_,z⟩=>⟨k,z⟩) .inr
     .exact(V.back z).imp (λ⟨k,_,z⟩=>⟨k,z⟩) .inr
  .simp[h1,Y]at e
section
variable{x y:Str}{a b:Expr}{px py pt pos:Pos}{kt k2 pt2}
theorem KJ(i j:Nat){f:En->Option (List D×En)}(Y:∀c,(X c).calm=true)(U:∀c,(X c).N.Nodup)(Z:v5 X G ob [a,b] f)(B:P i=false:=by rfl)(F:P j=false:=by rfl)(hi:∀c,(X c).N[i]? =some x:=by intro _;rfl)(I:∀c,(X c).N[j]? =some y:=by intro _;rfl)(O:i≠j:=by decide)(J:∀c,(X c).env.scope.names.lookup x=some .local:=by intro _;rfl)(V:∀c,(X c).env.scope.names.lookup y=some .local:=by intro _;rfl)(q:∀c,abH [.Tuple [.Name x px,.Name y py] kt pt] (.Tuple [a,b] k2 pt2) (X c).env=pure (some [x,y]):=by intro _;rfl)(hs:∀c,aaG [.Tuple [.Name x px,.Name y py] kt pt] (.Tuple [a,b] k2 pt2) pos.line (X c).env=pure false:=by intro _;rfl) :
 PVS X G ob P (.Assign [.Tuple [.Name x px,.Name y py] kt pt] (.Tuple [a,b] k2 pt2) pos) (vo f (aM (tgN i) (aM (tgN j) bO))):=let⟨t,a1,a2⟩:=Z.ex;⟨_,λc=>Uu (Y c) (U c) (hi c) (I c) O (J c) (V c) (a1 c) (q c) (hs c),Lw B F a2⟩
end
def sIf(c:En->Option Bool)(f g:En->Option Fl):En->Option Fl:=λρ=>(c ρ).bind λb=>if b then f ρ else g ρ
def C_(c:En->Option (Bool×En))(f g:En->Option Fl):En->Option Fl:=λρ=>(c ρ).bind λp=>if p.1 then f p.2 else g p.2
theorem We{c:En->Option Bool}{f g:En->Option Fl}:C_ (oO c) f g=sIf c f g:=by
 funext ρ;unfold C_ sIf oO;cases c ρ<;>rfl
theorem Fp{tc:TT}{t u:TS}{c:En->Option (Bool×En)}{f g:En->Option Fl}(Y:yF G ob tc c)(h1:RfS G ob P t f)(h2:RfS G ob P u g):RfS G ob P (Ws tc t u) (C_ c f g):=λρ r e σ H S Fr s E q=>by
 unfold C_ at e;cases O:c ρ with
 |none=>simp[O]at e
 |some p=>
  obtain⟨b,ρ1⟩:=p;refine Y ρ b ρ1 O σ H S Fr s _ λH1 S1 B V=>?_;have m:Mv P H H1 σ σ S S1 []:=V.mv;cases b with
  |true=>exact qU (h1 ρ1 r (by simpa[O]using e) σ H1 S1 Fr B E (q.from m))
  |false=>exact v4 (h2 ρ1 r (by simpa[O]using e) σ H1 S1 Fr B E (q.from m))
theorem dq{c:Expr}{a b:List Stmt}{pos:Pos}{fc:En->Option Bool}{f g:En->Option Fl}(Y:PVT X G ob c fc)(Z:rC X G ob P a f)(U:rC X G ob P b g):PVS X G ob P (.If c a b pos) (sIf fc f g):=let⟨v,c1,c2⟩:=Y.ex;let⟨t,a1,a2⟩:=Z.ex;let⟨u,b1,b2⟩:=U.ex;⟨_,λc=>Q9 (c1 c) (a1 c) (b1 c),by rw[←We];exact Fp (Nr c2) a2 b2⟩
theorem QR{c:Expr}{a b:List Stmt}{pos:Pos}{fc:En->Option (Bool×En)}{f g:En->Option Fl}(Y:Cg X G ob c fc)(Z:rC X G ob P a f)(U:rC X G ob P b g):PVS X G ob P (.If c a b pos) (C_ fc f g):=let⟨v,c1,c2⟩:=Y.ex;let⟨t,a1,a2⟩:=Z.ex;let⟨u,b1,b2⟩:=U.ex;⟨_,λc=>Q9 (c1 c) (a1 c) (b1 c),Fp c2 a2 b2⟩
def vz(f:En->Option (D×En)):En->Option Fl:=λρ=>(f ρ).bind λp=>if clean p.1 then some (.ret p.1 p.2)else none
def gO(f:En->Option D):En->Option Fl:=λρ=>(f ρ).bind λd=>if clean d then some (.ret d ρ)else none
theorem Uk{f:En->Option D}:vz (eUp f)=gO f:=by
 funext ρ;unfold vz gO eUp;cases f ρ<;>rfl
theorem Av{te:TE}{f:En->Option (D×En)}(h:kj G ob te f):RfS G ob P (Uv te) (vz f):=λρ r e σ H S Fr s E q=>by
 unfold vz at e;cases h1:f ρ with
 |none=>simp[h1]at e
 |some p=>
  obtain⟨d,ρ1⟩:=p;cases Y:clean d with
  |false=>simp[h1,Y]at e
  |true=>
   have:Fl.ret d ρ1=r:=by simpa[h1,Y]using e
   subst this;exact h ρ d ρ1 h1 σ H S Fr s _ λv H1 M S1 B N nd V=>q v σ H1 M S1 B N Y nd (λa Z=>(V.fm a Z).imp (λ⟨i,_,z⟩=>⟨i,z⟩) id) V.mv
theorem cO{e:Expr}{pos:Pos}{f:En->Option D}(V:PV X G ob e f):PVS X G ob P (.Return (some e) pos) (gO f):=let⟨t,a1,a2⟩:=V.ex;⟨_,λc=>Dp (a1 c),by rw[←Uk];exact Av (uU a2)⟩
theorem J_{e:Expr}{pos:Pos}{f:En->Option (D×En)}(V:PVe X G ob e f):PVS X G ob P (.Return (some e) pos) (vz f):=let⟨t,a1,a2⟩:=V.ex;⟨_,λc=>Dp (a1 c),Av a2⟩
theorem Sta.move{G:Gc}{H:Hp}{ρ:En}{σ:L2.St}{S:Ad}{Fr:Addr->Prop}{i:Nat}{d:D}(s:Sta G H ob ρ σ S Fr)(e:ρ[i]? =some (some d)) :
  ∃v,σ[i]? =some (some v)/\clean d=true/\Sta G H ob (ρ.set i none) σ (ie S i []) (plus (S i) Fr)/\Rep G H (wn ob (ie S i []) (plus (S i) Fr)) d v (S i):=by
 obtain⟨v,h1,h2,O⟩:=s.sl i d e;have N:Evo H H (wn ob S Fr) (wn ob (ie S i []) (plus (S i) Fr)):=⟨λb u h f=>⟨h,⟨λz=>z.elim (λz=>?_) f.1,λ⟨k,F,q⟩=>?_,λ⟨k,F,q⟩=>?_⟩⟩,λ_ _ h=>h⟩
 .have J:=(by simpa[clean]using O:aA d=true/\au d=true)
  refine⟨v,h1,O,⟨by simp[s.len],λj d' V=>?_,λj I=>?_,λj=>?_,λj k a F q=>?_,λj a F q=>?_,λa h=>?_⟩,h2.mono N (.inl J.1) (.inl J.2) λ_ _ _ h=>h⟩
  .by_cases e':j=i
   .subst e'
    rw[aby]at V;split at V
    .split at V
     .simp at V
     .cases V
    .exact absurd rfl ‹_›
   .rw[List.getElem?_set_ne (Ne.symm e')]at V
    obtain⟨B,F,q,Y⟩:=s.sl j _ V;refine⟨B,F,?_,Y⟩;rw[dI e'];have J:=(by simpa[clean]using Y:aA d'=true/\au d'=true);exact q.mono N (.inl J.1) (.inl J.2) λ_ _ _ h=>h
  .by_cases e':j=i
   .rw[e',dG]
   .rw[dI e']
    exact s.em j λd'=>by have:=I d';rwa[List.getElem?_set_ne (Ne.symm e')]at this
  .by_cases e':j=i
   .rw[e',dG];exact List.nodup_nil
   .rw[dI e'];exact s.nd j
  .rcases cZ F with⟨_,z⟩|⟨_,z⟩
   .cases z
   .rcases cZ q with⟨_,z'⟩|⟨_,z'⟩
    .cases z'
    .exact s.dj j k a z z'
  .rcases cZ q with⟨_,z⟩|⟨n,z⟩
   .cases z
   .rcases F with F|F
    .exact n (s.dj j i a z F)
    .exact s.fdj j a F z
  .rcases h with h|h
   .exact s.mu h
   .exact s.fdm a h
 .cases ho:ob i with
  |false=>exact f.2.1 ⟨i,ho,z⟩
  |true=>exact f.2.2 ⟨i,ho,z⟩
 .rcases cZ q with⟨_,z⟩|⟨_,z⟩
  .cases z
  .exact f.2.1 ⟨k,F,z⟩
 .rcases cZ q with⟨_,z⟩|⟨_,z⟩
  .cases z
  .exact f.2.2 ⟨k,F,z⟩
def jk(i:Nat):En->Option Fl:=λρ=>match ρ[i]? with
 |some (some d)=>some (.ret d (ρ.set i none))
 |_=>none
theorem Iu{i:Nat}:RfS G ob P (Uv (Jm i)) (jk i):=λρ r e σ H S Fr s E q=>by
 unfold jk at e;split at e
 .rename_i d h1
  cases e;obtain⟨v,h2,O,F,B⟩:=s.move h1;exact⟨v,h2,q v σ H (S i) (ie S i []) F B O (s.nd i) (λa Z=>.inl ⟨i,Z⟩) ⟨λ_ _ h _ _=>h,λj a z=>(cZ z).elim (λz=>by cases z.2) λz=>.inl ⟨j,z.2⟩,.refl⟩⟩
 .cases e
theorem i_(i:Nat){x:Str}{pos pos':Pos}(Y:∀c,(X c).N[i]? =some x:=by intro _;rfl)(B:∀c,Vis (X c).env.scope x:=by intro _;first|exact ZZ rfl|exact Ze (ZZ rfl)|exact Ze (Ze rfl))(hd:1.23=false:=by decide)(U:(x==("__classdict__":Str))=false:=by decide):PVS X G ob P (.Return (some (.Name x pos)) pos') (jk i):=⟨_,λc=>Dp (pv i (Y c) (B c) hd U),Iu⟩
end
def mkO:Mk->Mk
 |.own=>.frz
 |m=>m
mutual
noncomputable def fzo:D->D
 |.tup ds=>.tup (gn ds)
 |.lst m ds=>.lst (mkO m) (gn ds)
 |.dct m ks ds=>.dct (mkO m) ks (gn ds)
 |.ins m c fs ds=>.ins (mkO m) c fs (gn ds)
 |d=>d
noncomputable def gn:List D->List D
 |[]=>[]
 |d::r=>fzo d::gn r
end
theorem dH:∀ds:List D,gn ds=ds.map fzo
 |[]=>rfl
 |d::r=>by rw[gn,dH r];rfl
variable{a:Addr}
theorem cP.fzo(hs:Les H W W' L)(hn:∀a,W.s a->W'.s a)(h:cP B H W a o m L M):cP B H W' a o (mkO m) [] []:=by
 cases m with
 |own=>exact⟨h.1,hs.l a (by rw[h.2];simp),rfl,rfl⟩
 |frz=>exact⟨h.1,hs.f a h.2.1,rfl,rfl⟩
 |brw=>exact⟨h.1,hn a h.2.1,rfl,rfl⟩
 |bro=>exact⟨h.1,rfl,rfl⟩
 |scr=>exact⟨h.1.imp (λz=>⟨z.1,hs.f a z.2⟩) id,rfl,rfl⟩
mutual
theorem Rep.fzo(hn:∀a,W.s a->W'.s a):∀{d:D}{v:V}{L:List Addr},Rep G H W d v L->Les H W W' L->Rep G H W' (fzo d) v []
 |.non,v,L,h,_=>by rw[Rep]at h;simp[Jb.fzo,Rep,h]
 |.bl _,v,L,h,_=>by rw[Rep]at h;simp[Jb.fzo,Rep,h]
 |.int _,v,L,h,_=>by rw[Rep]at h;simp[Jb.fzo,Rep,h]
 |.str _,v,L,h,_=>by rw[Rep]at h;simp[Jb.fzo,Rep,h]
 |.ty _,v,L,h,_=>by rw[Rep]at h;simp[Jb.fzo,Rep,h]
 |.tup ds,v,L,h,hs=>by
  rw[Rep]at h;rw[Jb.fzo,Rep];obtain⟨a,xs,rfl,U,O⟩:=h;exact⟨a,xs,rfl,U,aD.fzo hn O hs⟩
 |.lst m ds,v,L,h,he=>by
  rw[Rep]at h;rw[Jb.fzo,Rep];obtain⟨a,xs,M,rfl,O,hs⟩:=h;exact⟨a,xs,[],rfl,aD.fzo hn O (he.sub λc Y=>hs.sub.subset Y),hs.fzo he hn⟩
 |.dct m ks ds,v,L,h,he=>by
  rw[Rep]at h;rw[Jb.fzo,Rep];obtain⟨a,xs,M,rfl,B,O,hs⟩:=h;exact⟨a,xs,[],rfl,B,aD.fzo hn O (he.sub λc Y=>hs.sub.subset Y),hs.fzo he hn⟩
 |.ins m c' fs ds,v,L,h,he=>by
  rw[Rep]at h;rw[Jb.fzo,Rep];obtain⟨a,C,dx,xs,M,rfl,F,B,O,hs⟩:=h;exact⟨a,C,dx,xs,[],rfl,F,B,aD.fzo hn O (he.sub λc Y=>hs.sub.subset Y),hs.fzo he hn⟩
theorem aD.fzo(hn:∀a,W.s a->W'.s a):∀{ds:List D}{vs:List V}{L:List Addr},aD G H W ds vs L->Les H W W' L->aD G H W' (gn ds) vs []
 |[],vs,L,h,_=>by obtain⟨rfl,_⟩:=h.inv0;rw[gn];exact .nil
 |d::r,vs,L,h,he=>by
  obtain⟨x,ys,M,M',rfl,rfl,h1,h2⟩:=h.inv;rw[gn];exact .cons (M:=[]) (M':=[]) (Rep.fzo hn h1 (he.sub λc Y=>Xo _ Y)) (aD.fzo hn h2 (he.sub λc Y=>Xf _ Y))
end
mutual
theorem Gk:∀{d:D},aA d=true->aA (Jb.fzo d)=true
 |.non,_=>rfl|.bl _,_=>rfl|.int _,_=>rfl|.str _,_=>rfl|.ty _,_=>rfl
 |.tup ds,h=>by simp[aA]at h;simp[Jb.fzo,aA,eG h]
 |.lst m ds,h=>by simp[aA]at h;cases m<;>simp[Jb.fzo,aA,eG h.2,mkO]<;>simp at h
 |.dct m _ ds,h=>by simp[aA]at h;cases m<;>simp[Jb.fzo,aA,eG h.2,mkO]<;>simp at h
 |.ins m _ _ ds,h=>by simp[aA]at h;cases m<;>simp[Jb.fzo,aA,eG h.2,mkO]<;>simp at h
theorem eG:∀{ds:List D},az ds=true->az (gn ds)=true
 |[],_=>rfl
 |d::r,h=>by simp[az]at h;simp[gn,az,Gk h.1,eG h.2]
end
mutual
theorem GP:∀{d:D},au d=true->au (Jb.fzo d)=true
 |.non,_=>rfl|.bl _,_=>rfl|.int _,_=>rfl|.str _,_=>rfl|.ty _,_=>rfl
 |.tup ds,h=>by simp[au]at h;simp[Jb.fzo,au,d8 h]
 |.lst m ds,h=>by simp[au]at h;cases m<;>simp[Jb.fzo,au,d8 h.2,mkO]<;>simp at h
 |.dct m _ ds,h=>by simp[au]at h;cases m<;>simp[Jb.fzo,au,d8 h.2,mkO]<;>simp at h
 |.ins m _ _ ds,h=>by simp[au]at h;cases m<;>simp[Jb.fzo,au,d8 h.2,mkO]<;>simp at h
theorem d8:∀{ds:List D},aB ds=true->aB (gn ds)=true
 |[],_=>rfl
 |d::r,h=>by simp[aB]at h;simp[gn,aB,GP h.1,d8 h.2]
end
structure Wk(G:Gc)(J:It)(Lt:Hp->Wn->Prop)(items:List D):Prop where
 go:∀(i:Nat)(d:D),items[i]? =some d->∀H W,Lt H W->J.go i H
 yld:∀(i:Nat)(d:D),items[i]? =some d->∀H W,Lt H W->∀x H',J.yld i H x H'->Same H H'/\Rep G H' W d x []
 stop:∀H W,Lt H W->J.stop items.length H
def LtB(b:Bool)(H:Hp)(W:Wn):Hp->Wn->Prop:=λH2 I=>if b=true then Evo H H2 W I else Up H H2 W I
variable{b:Bool}
theorem LtB.up(u:Up H H2 W I):LtB b H W H2 I:=by
 cases b with
 |true=>exact qU u.evo
 |false=>exact v4 u
def RfI(G:Gc)(ob:Nat->Bool)(wi:TI)(f:En->Option (Bool×List D)):Prop:=∀(ρ:En)(b:Bool)(items:List D),f ρ=some (b,items)->∀(σ:L2.St)(H:Hp)(W:Wn),Rel G H W ob ρ σ->WOk H W->∀R:It->Hp->Prop,
 (∀J H',Same H H'->Wk G J (LtB b H' W) items->R J H')->wi σ H R
structure PVI{ι:Type}(X:ι->Cx)(G:Gc)(ob:Nat->Bool)(tg it:Expr)(f:En->Option (Bool×List D)):Prop where
 mk::(ex:∃t,(∀c,PI (X c) tg it t)/\RfI G ob t f)
def jF(lo:Int)(n:Nat):List D:=(X3 n).map λ(k:Nat)=>D.int (lo+(k:Int))
def wg(f:En->Option (List D)):En->Option (Bool×List D):=λρ=>(f ρ).bind λds=>match ds with
 |[.int j]=>if -(2 ^ 62)<=j/\j<2 ^ 62 then some (true,jF 0 j.toNat)else none
 |_=>none
theorem NP{q:Hp->Wn->Prop}{lo:Int}:Wk G (Itr lo n) q (jF lo n)where
 go:=λi d e H W _=>by
  have:=(qb.mp e).1;show i<n;simpa[jF]using this
 yld:=λi d e H W _ x H' h=>by
  obtain⟨rfl,rfl⟩:=h;have:d= .int (lo+(i:Int)):=by
   unfold jF at e;rw[List.getElem?_map]at e;have hi:i<n:=by
    have:=(qb.mp (show(jF lo n)[i]? =some d by unfold jF;rw[List.getElem?_map];exact e)).1;simpa[jF]using this
   rw[ab8 hi]at e;simpa using e.symm
  subst this;exact⟨Same.refl _,by rw[Rep];exact⟨rfl,rfl⟩⟩
 stop:=λH W _=>by
  show n<=(jF lo n).length;simp[jF]
variable{f:En->Option (List D)}
theorem TF(h:RfA G ob t f):RfI G ob (Nu t) (wg f):=λρ b items e σ H W I w R q=>by
 unfold wg at e;cases h1:f ρ with
 |none=>simp[h1]at e
 |some ds=>
  rw[h1]at e;simp![Mx]at e;split at e
  .rename_i j
   split at e
   .rename_i hj
    cases e;refine h ρ _ h1 σ H W I w _ λvs H' L s r fr nd=>?_;obtain⟨x,ys,M,M',rfl,_,J,V⟩:=r.inv;obtain⟨rfl,_⟩:=V.inv0;rw[Rep]at J;obtain⟨rfl,_⟩:=J;exact⟨j,rfl,hj.1,hj.2,q _ H' s NP⟩
   .cases e
  .cases e
def cC:D->Option (Bool×List D)
 |.lst m ds=>some (clean (.lst m ds),gn ds)
 |.tup ds=>some (clean (.tup ds),gn ds)
 |_=>none
def itS(f:En->Option D):En->Option (Bool×List D):=λρ=>(f ρ).bind cC
theorem wD{W1:Wn}(h:cP B H W1 a o m L M)(V:Les H W1 W L)(hn:W1.s a->W.s a)(U:b=true->m≠.brw/\m≠.bro)(l:LtB b H W H2 I):Rd H2 a o∨B a o:=by
 cases b with
 |false=>
  have u:Up H H2 W I:=(Xz X6).mp l;exact h.rx.imp (Same.rd u.s) id
 |true=>
  have e:Evo H H2 W I:=(Xu rfl).mp l;cases m with
  |own=>exact .inl (.inl (e.k a o h.1 (V.l a (by rw[h.2];simp))).1)
  |frz=>exact .inl (.inl (e.k a o h.1 (V.f a h.2.1)).1)
  |brw=>exact absurd rfl (U rfl).1
  |bro=>exact absurd rfl (U rfl).2
  |scr=>exact h.1.imp (λz=>(e.rd z.1 (V.f a z.2)).1) id
theorem Rf{K:Xl}(h:Rd H a (.lst xs)∨KO K a (.lst xs)):SqL K H a xs:=by
 rcases h with z|⟨ys,e,z⟩
 .exact .inl z
 .cases e
  exact .inr z
theorem LtB.rep(l:LtB b H W H2 I)(U:b=true->aA d=true/\au d=true)(r:Rep G H W d v []):Rep G H2 I d v []:=by
 cases b with
 |false=>exact r.up ((Xz X6).mp l)
 |true=>exact r.mono ((Xu rfl).mp l) (.inl (U rfl).1) (.inl (U rfl).2) (by simp)
theorem LtB.tup{H H2:Hp}{W I:Wn}{b:Bool}{K:Xl}{a:Addr}{xs:List V}(l:LtB b H W H2 I)(h:H a=some (.tup xs)):SqT K H2 a xs:=by
 cases b with
 |false=>exact SqT.of (((Xz X6).mp l).s a _ h)
 |true=>exact SqT.of (((Xu rfl).mp l).t a xs h)
theorem iT(h:az ds=true)(e:ds[i]? =some d):aA d=true:=by
 induction ds generalizing i with
 |nil=>simp at e
 |cons a r U=>
  simp![az,XR]at h;cases i with
  |zero=>
   have:a=d:=by simpa using e
   rw[←this];exact h.1
  |succ i=>exact U h.2 (by simpa using e)
theorem iU(h:aB ds=true)(e:ds[i]? =some d):au d=true:=by
 induction ds generalizing i with
 |nil=>simp at e
 |cons a r U=>
  simp![aB,XR]at h;cases i with
  |zero=>
   have:a=d:=by simpa using e
   rw[←this];exact h.1
  |succ i=>exact U h.2 (by simpa using e)
structure Parts(G:Gc)(H:Hp)(W:Wn)(b:Bool)(es:List D)(xs:List V):Prop where
 r:aD G H W es xs []
 c:b=true->az es=true/\aB es=true
theorem Parts.at{G:Gc}{H H2:Hp}{W I:Wn}{b:Bool}{es:List D}{xs:List V}(p:Parts G H W b es xs)(l:LtB b H W H2 I){i:Nat}{d:D}{x:V}(e:es[i]? =some d)(J:xs[i]? =some x):Rep G H2 I d x []:=by
 obtain⟨y,M,h1,h2,O⟩:=p.r.get e;rw[J]at h1;cases h1;have:M=[]:=by simpa using O
 subst this;exact l.rep (λz=>⟨iT (p.c z).1 e,iU (p.c z).2 e⟩) h2
theorem Ek{es:List D}(w:WOk H W)(s:Same H H')(r:Rep G H' (W.add L) d v L)(fr:∀a∈L,H a=none)(e:cC d=some (b,es)) :
  ∃a xs,v= .ref a/\Parts G H' W b es xs/\((∀H2 I,LtB b H' W H2 I->SqL G.K H2 a xs)∨(∀H2 I,LtB b H' W H2 I->SqT G.K H2 a xs)):=by
 have free:∀a∈L,W.free a:=λa Z=>⟨λz=>?_,λz=>?_,λz=>?_⟩
 .have les:Les H' (W.add L) W L:=⟨λa f=>⟨λz=>f.1 (.inr z),f.2⟩,free⟩
  cases d with
  |lst m ds=>
   simp![cC,aaP,ad9]at e;obtain⟨rfl,rfl⟩:=e;rw[Rep]at r;obtain⟨a,xs,M,rfl,O,hs⟩:=r;refine⟨a,xs,rfl,⟨aD.fzo (W:=W.add L) (W':=W) (λ_ z=>z) O (les.sub λc Y=>hs.sub.subset Y),λz=>?_⟩,.inl λH2 I l=>Rf (wD hs les (λz=>z) (λz=>?_) l)⟩
   .simp[clean,aA,au]at z
    exact⟨eG z.1.2,d8 z.2.2⟩
   .simp[clean,aA,au]at z
    exact⟨z.1.1,z.2.1⟩
  |tup ds=>
   simp![cC,aaP,ad9]at e;obtain⟨rfl,rfl⟩:=e;rw[Rep]at r;obtain⟨a,xs,rfl,U,O⟩:=r;refine⟨a,xs,rfl,⟨aD.fzo (W:=W.add L) (W':=W) (λ_ z=>z) O les,λz=>?_⟩,.inr λH2 I l=>l.tup U⟩;simp[clean,aA,au]at z;exact⟨eG z.1,d8 z.2⟩
  |_=>simp[cC]at e
 .obtain⟨o,ho,_⟩:=w a (.inl z);rw[fr a Z]at ho;cases ho
 .obtain⟨o,ho,_⟩:=w a (.inr (.inl z));rw[fr a Z]at ho;cases ho
 .obtain⟨o,ho,_⟩:=w a (.inr (.inr z));rw[fr a Z]at ho;cases ho
theorem aD.getV(h:aD G H W ds xs L)(e:ds[i]? =some d):∃x,xs[i]? =some x:=let⟨x,_,h,_⟩:=h.get e;⟨x,h⟩
variable{te:TE}
theorem Qo{f:En->Option D}(h:RfE G ob te f):RfI G ob (Wz G.K te) (itS f):=λρ b items e σ H W B w R q=>by
 unfold itS at e;cases h1:f ρ with
 |none=>simp[h1]at e
 |some d=>
  have e:cC d=some (b,items):=by simpa[h1]using e
  refine h ρ d h1 σ H W B w _ λv H' L s r fr nd=>?_;obtain⟨a,xs,rfl,p,hs⟩:=Ek w s r fr e;refine⟨a,rfl,?_⟩;rcases hs with hs|hs
  .refine .inl ⟨⟨xs,hs H' W (LtB.up Up.refl)⟩,q _ H' s ⟨λi d e H2 I l=>?_,λi d e H2 I l x F y=>?_,λH2 I l=>?_⟩⟩
   .obtain⟨x,hx⟩:=p.r.getV e
    exact⟨xs,x,hs H2 I l,hx⟩
   .obtain⟨rfl,y⟩:=y
    exact⟨Same.refl _,p.at l e (y xs (hs _ I l))⟩
   .exact⟨xs,hs H2 I l,by rw[p.r.length];exact Xn _⟩
  .refine .inr ⟨⟨xs,hs H' W (LtB.up Up.refl)⟩,q _ H' s ⟨λi d e H2 I l=>?_,λi d e H2 I l x F y=>?_,λH2 I l=>?_⟩⟩
   .obtain⟨x,hx⟩:=p.r.getV e
    exact⟨xs,x,hs H2 I l,hx⟩
   .obtain⟨rfl,y⟩:=y
    exact⟨Same.refl _,p.at l e (y xs (hs _ I l))⟩
   .exact⟨xs,hs H2 I l,by rw[p.r.length];exact Xn _⟩
def jm:Nat->List D->List D
 |_,[]=>[]
 |i,d::r=>.tup [.int (i:Int),d]::jm (i+1) r
theorem kY:∀(ds:List D)(k i:Nat),(jm k ds)[i]? =(ds[i]?).map λd=>.tup [.int ((k+i:Nat):Int),d]
 |[],k,i=>by simp[jm]
 |d::r,k,i=>by
  cases i with
  |zero=>simp[jm]
  |succ i=>
   simp![jm,Yh];rw[kY r (k+1) i,show k+1+i=k+(i+1)by omega]
theorem m8:∀(ds:List D)(k:Nat),(jm k ds).length=ds.length
 |[],k=>rfl
 |d::r,k=>by simp[jm,m8 r (k+1)]
def itE(f:En->Option (List D)):En->Option (Bool×List D):=λρ=>(f ρ).bind λds=>match ds with
 |[d]=>(cC d).map λp=>(p.1,jm 0 p.2)
 |_=>none
theorem Nv(h:RfA G ob t f):RfI G ob (Jg G.K t) (itE f):=λρ b items e σ H W rl w R q=>by
 unfold itE at e;cases h1:f ρ with
 |none=>simp[h1]at e
 |some ds=>
  rw[h1]at e;simp![Mx]at e;split at e
  .rename_i d
   cases h2:cC d with
   |none=>simp[h2]at e
   |some p=>
    obtain⟨N,es⟩:=p;obtain⟨rfl,rfl⟩:N=b/\jm 0 es=items:=by simpa[h2]using e
    refine h ρ _ h1 σ H W rl w _ λvs H' L s r fr nd=>?_;obtain⟨v,ys,M,M',rfl,rfl,B,hy⟩:=r.inv;obtain⟨rfl,rfl⟩:=hy.inv0;rw[XJ]at B fr;obtain⟨a,xs,rfl,p,hs⟩:=Ek w s B fr h2;have Z:∀(i:Nat)(d':D)(Y:Addr)(x:V)(H2:Hp)(I:Wn),(jm 0 es)[i]? =some d'->LtB N H' W H2 I->H2 Y=none->xs[i]? =some x->Same H2 (upd H2 Y (.tup [.int i,x]))/\Rep G (upd H2 Y (.tup [.int i,x])) I d' (.ref Y) []:=λi d' Y x H2 I e l F J=>by
     rw[kY]at e;cases O:es[i]? with
     |none=>rw[O]at e;cases e
     |some d0=>
      rw[O]at e;have e:D.tup [.int (i:Int),d0]=d':=by simpa using e
      subst e;have sm:Same H2 (upd H2 Y (.tup [.int i,x])):=Same.new F;refine⟨sm,?_⟩;rw[Rep];refine⟨Y,_,rfl,aN,.cons (M:=[]) (M':=[]) (by rw[Rep];exact⟨rfl,rfl⟩) (.one ((p.at l O J).up (Up.same sm)))⟩
    refine⟨a,rfl,?_⟩;have U:∀(i:Nat)(d':D),(jm 0 es)[i]? =some d'->∃x,xs[i]? =some x:=λi d' e=>by
     rw[kY]at e;cases O:es[i]? with
     |none=>rw[O]at e;cases e
     |some d0=>exact p.r.getV O
    rcases hs with hs|hs
    .refine .inl ⟨⟨xs,hs H' W (LtB.up Up.refl)⟩,q _ H' s ⟨λi d e H2 I l=>?_,λi d e H2 I l x H3 y=>?_,λH2 I l=>?_⟩⟩
     .obtain⟨x,J⟩:=U i d e
      exact⟨xs,x,hs H2 I l,J⟩
     .obtain⟨Y,v,F,rfl,B,rfl⟩:=y
      exact Z i d Y v H2 I e l F (B xs (hs _ I l))
     .exact⟨xs,hs H2 I l,by rw[m8,p.r.length];exact Xn _⟩
    .refine .inr ⟨⟨xs,hs H' W (LtB.up Up.refl)⟩,q _ H' s ⟨λi d e H2 I l=>?_,λi d e H2 I l x H3 y=>?_,λH2 I l=>?_⟩⟩
     .obtain⟨x,J⟩:=U i d e
      exact⟨xs,x,hs H2 I l,J⟩
     .obtain⟨Y,v,F,rfl,B,rfl⟩:=y
      exact Z i d Y v H2 I e l F (B xs (hs _ I l))
     .exact⟨xs,hs H2 I l,by rw[m8,p.r.length];exact Xn _⟩
  .cases e
variable{a:Expr}
theorem Lb(F:∀c,Gl (X c) "range")(J:∀c,(X c).mg "range"=none)(Z:PVA X G ob [a] f)(hs:∀c,Xy [a] (X c).env=[(false,eval a (X c).env)]:=by intro _;rfl):PVI X G ob tg (.Call (.Name "range" p) [a] [] pos) (wg f):=let⟨t,a1,a2⟩:=Z.ex;⟨_,λc=>wI (F c) (J c) (a1 c) (hs c),TF a2⟩
theorem di{f:En->Option D}(Z:PV X G ob a f)(I:∀c,(X c).K=G.K:=by intro _;rfl):PVI X G ob tg a (itS f):=let⟨t,a1,a2⟩:=Z.ex;⟨_,λc=>(by rw[←I c];exact Ui (a1 c)),Qo a2⟩
theorem zQ(F:∀c,Gl (X c) "enumerate")(J:∀c,(X c).mg "enumerate"=none)(Z:PVA X G ob [a] f)(hs:∀c,Xy [a] (X c).env=[(false,eval a (X c).env)]:=by intro _;rfl)(I:∀c,(X c).K=G.K:=by intro _;rfl):PVI X G ob (.Tuple elts x1 tpos) (.Call (.Name "enumerate" p) [a] [] pos) (itE f):=let⟨t,a1,a2⟩:=Z.ex;⟨_,λc=>(by rw[←I c];exact Kr (F c) (J c) (a1 c) (hs c)),Nv a2⟩
def forL(tg:D->En->Option En)(V:En->Option Fl):List D->En->Option Fl
 |[],ρ=>some (.nx ρ)
 |d::r,ρ=>(tg d ρ).bind λρ1=>match V ρ1 with
  |some (.nx ρ2)=>forL tg V r ρ2
  |some (.cnt ρ2)=>forL tg V r ρ2
  |some (.brk ρ2)=>some (.nx ρ2)
  |o=>o
def gj(it:En->Option (Bool×List D))(tg:D->En->Option En)(V:En->Option Fl):En->Option Fl:=λρ=>(it ρ).bind λp=>if p.1=true then forL tg V p.2 ρ else none
theorem Cd{σ2:L2.St}{S2:Ad}{Fr:Addr->Prop}(s:Sta G H ob ρ σ S Fr)(m:Mv P H H2 σ σ2 S S2 []):Evo H H2 (wn ob S Fr) (wn ob S2 Fr)where
 k:=λb u U f=>by
  have Y:¬inS S b:=λ⟨i,z⟩=>by
   cases N:ob i with
   |false=>exact f.2.1 ⟨i,N,z⟩
   |true=>exact f.2.2 ⟨i,N,z⟩
  have O:¬inS S2 b:=λ⟨i,z⟩=>(m.gr i b z).elim Y λz=>z.elim (λz=>by cases z) λz=>by rw[U]at z;cases z
  exact⟨m.kp b u U Y (by simp),f.1,λ⟨i,_,z⟩=>O ⟨i,z⟩,λ⟨i,_,z⟩=>O ⟨i,z⟩⟩
 t:=λb xs h=>by
  have B:∀u,H b=some u->muO u=false->H2 b=some u:=λu V mu=>m.kp b u V (λ⟨i,z⟩=>by
   obtain⟨o,N,J⟩:=s.mu z;rw[V]at N;cases N;rw[mu]at J;cases J) (by simp)
  exact B _ h rfl
variable{tb:TS}{tg:D->En->Option En}{wi:TI}{it:En->Option (Bool×List D)}
theorem Ph{g:TG}{V:En->Option Fl}(hi:RfI G ob wi it)(F:RfG G ob P g tg)(U:RfS G ob P tb V):RfS G ob P (Ua wi g tb) (gj it tg V):=λρ r e σ H S Fr s E q=>by
 unfold gj at e;cases h1:it ρ with
 |none=>simp[h1]at e
 |some p=>
  obtain⟨b,items⟩:=p;cases b with
  |false=>simp[h1]at e
  |true=>
   have e:forL tg V items ρ=some r:=by simpa[h1]using e
   refine hi ρ true items h1 σ H _ s.rel s.wok _ λJ H1 sm wk=>?_;have s1:Sta G H1 ob ρ σ S Fr:=s.grow sm λa z=>.inl z;have m1:Mv P H H1 σ σ S S []:=⟨λb u h _ _=>sm b u h,λi a z=>.inl ⟨i,z⟩,.refl⟩;show 3
   .refine .inr ⟨wk.go i items[i] (by simp[N]) H2 _ (a0 (ρ2:=ρ2) m2),λB H'=>(i+1)+(m-1)=items.length/\∃ρ2 S2,Sta G H' ob ρ2 B S2 Fr/\Mv P H1 H' σ B S S2 []/\forL tg V (items.drop (i+1)) ρ2=some r,λB H' h=>⟨m-1,by omega,h⟩,λx I hy=>?_⟩
    obtain⟨s3,rx⟩:=wk.yld i items[i] (by simp[N]) H2 _ (a0 (ρ2:=ρ2) m2) x I hy;rw[←ZQ N,forL]at e2;cases O:tg items[i] ρ2 with
    |none=>simp[O]at e2
    |some a3=>
     rw[O]at e2;simp![Mx]at e2;have a5:Sta G I ob ρ2 σ2 S2 Fr:=Y.grow s3 λa z=>.inl z;refine F items[i] ρ2 a3 O x σ2 I S2 [] Fr (by rw[iZ];exact a5) (by rw[iZ];exact rx) List.nodup_nil (by simp) _ λa4 H4 S4 s4 m4=>?_;have a2:Mv P H1 H4 σ a4 S S4 []:=(m2.trans (S2:=S2) ⟨λb u h _ _=>s3 b u h,λi a z=>.inl ⟨i,z⟩,.refl⟩).trans m4;cases Z:V a3 with
     |none=>rw[Z]at e2;cases e2
     |some fl=>
      rw[Z]at e2;refine U a3 fl Z a4 H4 S4 Fr s4 _ ?_;cases fl with
      |nx a1=>exact λB H' S' s' m'=>⟨by omega,a1,S',s',a2.trans m',e2⟩
      |cnt a1=>exact λB H' S' s' m'=>⟨by omega,a1,S',s',a2.trans m',e2⟩
      |brk a1=>cases e2;exact λB H' S' s' m'=>q1 B H' S' s' (a2.trans m')
      |ret d a1=>cases e2;exact q1.from a2
   .have hl:i=items.length:=by omega
    rw[hl,Z8,forL]at e2;cases e2;subst hl;exact .inl ⟨wk.stop H2 _ (a0 (ρ2:=ρ2) m2),q1 σ2 H2 S2 Y m2⟩
variable{f:En->Option Fl}
theorem gK{tg iter:Expr}{V:List Stmt}{g:D->En->Option En}(F:∀c,adb (model (X c).prog (X c).w) (X c).A (X c).env (X c).xe)(Y:∀c,(X c).calm=true)(hi:PVI X G ob tg iter it)(q:PVG X G ob P tg g)(U:rC X G ob P V f)(hs:∀c,∀x,YZ iter (X c).env x=pure x:=by intro _;intro _;rfl):PVS X G ob P (.For tg iter V [] pos) (gj it g f):=let⟨v,c1,c2⟩:=hi.ex;let⟨t,a1,a2⟩:=q.ex;let⟨u,b1,b2⟩:=U.ex;⟨_,λc=>Jl (F c) (Y c) (c1 c) (a1 c) (b1 c) (hs c),Ph c2 a2 b2⟩
def jC(c:En->Option (Bool×En))(V:En->Option Fl):Nat->En->Option Fl
 |0,_=>none
 |n+1,ρ=>(c ρ).bind λp=>if p.1=true then(match V p.2 with
  |some (.nx ρ2)=>jC c V n ρ2
  |some (.cnt ρ2)=>jC c V n ρ2
  |some (.brk ρ2)=>some (.nx ρ2)
  |o=>o)else some (.nx p.2)
theorem GZ{tc:TT}{c:En->Option (Bool×En)}{V:En->Option Fl}(n:Nat)(Y:yF G ob tc c)(U:RfS G ob P tb V):RfS G ob P (K4 tc tb) (jC c V n):=λρ r e σ H S Fr s E q=>by
 refine⟨λm σ2 H2=>∃ρ2 S2,Sta G H2 ob ρ2 σ2 S2 Fr/\Mv P H H2 σ σ2 S S2 []/\jC c V m ρ2=some r,⟨n,ρ,S,s,.refl,e⟩,?_⟩;rintro m σ2 H2 ⟨ρ2,S2,s2,m2,e2⟩;cases m with
 |zero=>cases e2
 |succ m=>
  rw[jC]at e2;cases h1:c ρ2 with
  |none=>simp[h1]at e2
  |some p=>
   obtain⟨b,a0⟩:=p;rw[h1]at e2;simp![Mx]at e2;refine Y ρ2 b a0 h1 σ2 H2 S2 Fr s2 _ λI S3 J f3=>?_;have m3:Mv P H I σ σ2 S S3 []:=m2.trans f3.mv;cases b with
   |false=>
    simp![Ye,YJ]at e2;cases e2;exact v4 (q σ2 I S3 J m3)
   |true=>
    simp![XX]at e2;refine qU ⟨λB H'=>∃ρ2 S2,Sta G H' ob ρ2 B S2 Fr/\Mv P H H' σ B S S2 []/\jC c V m ρ2=some r,λB H' h=>⟨m,abN m,h⟩,?_⟩;cases Z:V a0 with
    |none=>rw[Z]at e2;cases e2
    |some F=>
     rw[Z]at e2;refine U a0 F Z σ2 I S3 Fr J _ ?_;cases F with
     |nx N=>exact λB H' S' s' O=>⟨N,S',s',m3.trans O,e2⟩
     |cnt N=>exact λB H' S' s' O=>⟨N,S',s',m3.trans O,e2⟩
     |brk N=>cases e2;exact λB H' S' s' O=>q B H' S' s' (m3.trans O)
     |ret d N=>cases e2;exact q.from m3
theorem wO(n:Nat){V:List Stmt}{fc:En->Option (Bool×En)}(F:∀c,adb (model (X c).prog (X c).w) (X c).A (X c).env (X c).xe)(Y:Cg X G ob c fc)(U:rC X G ob P V f):PVS X G ob P (.While c V [] pos) (jC fc f n):=let⟨v,c1,c2⟩:=Y.ex;let⟨u,b1,b2⟩:=U.ex;⟨_,λc=>Nt (F c) (c1 c) (b1 c),GZ n c2 b2⟩
def pX(i:Nat)(ρ:En):Option En:=match ρ[i]? with
 |some (some d)=>some (ρ.set i (some (fz d)))
 |_=>none
theorem Sta.freeze{F:En}{Fr:Addr->Prop}(s:Sta G H ob ρ σ S Fr)(e:pX i ρ=some F):Sta G H ob F σ (ie S i []) Fr:=by
 unfold pX at e;split at e
 .rename_i d h1
  cases e;obtain⟨v,h2,O,Y,U⟩:=s.move h1;have J:Sta G H ob (ρ.set i none) σ (ie S i []) Fr:=Y.lessF λa z=>.inr z;have N:i<ρ.length:=(qb.mp h1).1;have B:Rep G H (wn ob (ie S i []) Fr) (fz d) v []:=by
   refine U.fz ⟨λa f=>⟨λz=>f.1 (.inr z),f.2⟩,λa Z=>⟨λz=>s.fdj i a z Z,λ⟨j,q1,q⟩=>?_,λ⟨j,q1,q⟩=>?_⟩⟩ (.inl O)
   .rcases cZ q with⟨_,z⟩|⟨n,z⟩
    .cases z
    .exact n (s.dj j i a z Z)
   .rcases cZ q with⟨_,z⟩|⟨n,z⟩
    .cases z
    .exact n (s.dj j i a z Z)
  refine⟨by simp[s.len],λj d' V=>?_,λj I=>?_,J.nd,J.dj,J.fdj,J.fdm⟩
  .by_cases e':j=i
   .subst e'
    have:fz d=d':=by simpa[N]using V
    subst this;exact⟨v,h2,by rw[dG];exact B,Mw d⟩
   .rw[List.getElem?_set_ne (Ne.symm e')]at V
    exact J.sl j d' (by rw[List.getElem?_set_ne (Ne.symm e')];exact V)
  .by_cases e':j=i
   .rw[e',dG]
   .exact J.em j λd'=>by have:=I d';rw[List.getElem?_set_ne (Ne.symm e')]at this⊢;exact this
 .cases e
def sFz(i:Nat)(f:En->Option Fl):En->Option Fl:=λρ=>(pX i ρ).bind f
theorem Ti{t:TS}(h:RfS G ob P t f):RfS G ob P t (sFz i f):=λρ r e σ H S Fr s E q=>by
 unfold sFz at e;cases h1:pX i ρ with
 |none=>simp[h1]at e
 |some ρ1=>
  have e:f ρ1=some r:=by simpa[h1]using e
  have m:Mv P H H σ σ S (ie S i []) []:=⟨λ_ _ h _ _=>h,λj a z=>(cZ z).elim (λz=>by cases z.2) λz=>.inl ⟨j,z.2⟩,.refl⟩;exact h ρ1 r e σ H (ie S i []) Fr (s.freeze h1) E (q.from m)
theorem xK(i:Nat){st:Stmt}(h:PVS X G ob P st f):PVS X G ob P st (sFz i f):=let⟨t,a1,a2⟩:=h.ex;⟨t,a1,Ti a2⟩
mutual
noncomputable def cz:D->Bool
 |.tup ds=>bG ds
 |.lst m ds=>m== .own&&bG ds
 |.dct m _ ds=>m== .own&&bG ds
 |.ins m _ _ ds=>m== .own&&bG ds
 |_=>true
noncomputable def bG:List D->Bool
 |[]=>true
 |d::r=>cz d&&bG r
end
mutual
theorem Rep.own:∀{d:D}{v:V}{L:List Addr},Rep G H W d v L->cz d=true->Rep G H W' d v L
 |.non,v,L,h,_=>by rw[Rep]at h⊢;exact h
 |.bl _,v,L,h,_=>by rw[Rep]at h⊢;exact h
 |.int _,v,L,h,_=>by rw[Rep]at h⊢;exact h
 |.str _,v,L,h,_=>by rw[Rep]at h⊢;exact h
 |.ty _,v,L,h,_=>by rw[Rep]at h⊢;exact h
 |.tup ds,v,L,h,o=>by
  rw[Rep]at h⊢;obtain⟨a,xs,rfl,U,O⟩:=h;exact⟨a,xs,rfl,U,aD.own O (by simpa[cz]using o)⟩
 |.lst m ds,v,L,h,o=>by
  rw[Rep]at h⊢;obtain⟨a,xs,M,rfl,O,hs⟩:=h;simp[cz]at o;obtain⟨rfl,o⟩:=o;exact⟨a,xs,M,rfl,aD.own O o,hs⟩
 |.dct m ks ds,v,L,h,o=>by
  rw[Rep]at h⊢;obtain⟨a,xs,M,rfl,B,O,hs⟩:=h;simp[cz]at o;obtain⟨rfl,o⟩:=o;exact⟨a,xs,M,rfl,B,aD.own O o,hs⟩
 |.ins m c fs ds,v,L,h,o=>by
  rw[Rep]at h⊢;obtain⟨a,C,dx,xs,M,rfl,F,B,O,hs⟩:=h;simp[cz]at o;obtain⟨rfl,o⟩:=o;exact⟨a,C,dx,xs,M,rfl,F,B,aD.own O o,hs⟩
theorem aD.own:∀{ds:List D}{vs:List V}{L:List Addr},aD G H W ds vs L->bG ds=true->aD G H W' ds vs L
 |[],vs,L,h,_=>by rw[aD]at h⊢;exact h
 |d::r,vs,L,h,o=>by
  obtain⟨x,ys,M,M',rfl,rfl,h1,h2⟩:=h.inv;simp[bG]at o;exact .cons (Rep.own h1 o.1) (aD.own h2 o.2)
end
def W1(Fr:Addr->Prop):Wn:=⟨Fr,λ_=>False,λ_=>False⟩
def spP(G:Gc)(F:List D->Option D):Sp:=λvs H Q _=>∃(ds:List D)(Fr:Addr->Prop),aD G H (W1 Fr) ds vs []/\az ds=true/\aB ds=true/\(∀a,Fr a->Mu H a)/\∃d,F ds=some d/\
 ∀v H' L,Same H H'->Rep G H' (W1 (plus L Fr)) d v L->(∀a∈L,H a=none)->L.Nodup->clean d=true->Q v H'
def en0(n:Nat)(ds:List D):En:=ds.map some++YK (n-ds.length) none
def fnP(I n:Nat)(V:En->Option Fl):List D->Option D:=λds=>if ds.length=I then(V (en0 n ds)).bind λr=>match r with
 |.ret d _=>some d
 |.nx _=>some .non
 |_=>none else none
theorem Gg(h:(en0 n ds)[i]? =some (some d)):ds[i]? =some d:=by
 unfold en0 at h;by_cases hi:i<ds.length
 .rw[XD (by simpa using hi)]at h
  simpa using h
 .rw[Y0 (by simpa using Nat.le_of_not_lt hi)]at h
  rw[ac6]at h;split at h
  .simp at h
  .cases h
variable{vs:List V}
theorem Xa{Fr:Addr->Prop}(r:aD G H (W1 Fr) ds vs [])(B:az ds=true)(I:aB ds=true)(fm:∀a,Fr a->Mu H a):Sta G H ob (en0 N.length ds) (L2.start N vs) (λ_=>[]) Fr where
 len:=by simp[en0,L2.start,r.length]
 sl:=λi d e=>by
  have e:=Gg e;obtain⟨x,M,h1,h2,O⟩:=r.get e;have:M=[]:=by simpa using O
  subst this;refine⟨x,?_,h2.up ⟨Same.refl _,λb u U f=>⟨f.1,λ⟨j,_,z⟩=>(by cases z),λ⟨j,_,z⟩=>(by cases z)⟩,λb u U f=>f.elim⟩,by simp[clean,iT B e,iU I e]⟩;unfold L2.start;have hi:i<vs.length:=(qb.mp h1).1;rw[XD (by simpa using hi)];simp[h1]
 em:=λ_ _=>rfl
 nd:=λ_=>List.nodup_nil
 dj:=λi j a h=>by cases h
 fdj:=λi a _ h=>by cases h
 fdm:=fm
section
variable{P:Program}{w:World}{K:PySem.W.Frag}{mg:Str->Option Value}{base:Heap}
theorem S9{a:Addr}:¬inS (λ_=>[]) a:=λ⟨_,z⟩=>by cases z
theorem okP{x Y:Str}{st:Stmt}{f:Addr}{fd:Yu}{N ps:List Str}{k:Nat}{ob Pr:Nat->Bool}{V:En->Option Fl}(F:Fun K x Y st f fd)(S:cD N ps (aK st))
  (U:∀(I:Value)(A:Yy)(outer:List Env)(s:zb)(H:Hp)(E:XK),jq k (A.deeper (abA Y (aK st) s.heap.objs.size f I))->rC (λ_:Unit=>(Bp CX0 P w K mg base N Y (aK st) f I A outer s H E).nox) ⟨K,mg⟩ ob Pr (bT st) V) :
  gw P w K mg base CX0 (k+1) f fd ps (spP ⟨K,mg⟩ (fnP ps.length N.length V)):=by
 refine F.ok S (λvs H Q E h=>?_) (λI A outer s H vs Q E O h=>?_)
 .obtain⟨ds,Fr,r,_,_,_,d,e,_⟩:=h
  unfold fnP at e;split at e
  .rename_i hl
   rw[←r.length];exact hl
  .cases e
 .obtain⟨ds,Fr,r,c1,c2,fm,d,e,q⟩:=h
  obtain⟨t,a1,a2⟩:=(U I A outer s H E O).ex;refine⟨t,a1 (),?_⟩;unfold fnP at e;split at e
  .cases h1:V (en0 N.length ds)with
   |none=>simp[h1]at e
   |some fl=>
    rw[h1]at e;simp![Mx]at e;refine a2 _ fl h1 (L2.start N vs) H (λ_=>[]) Fr (Xa (ob:=ob) r c1 c2 fm) _ ?_;have a3:∀{S':Ad}{M:List Addr}{b:Addr},(wn ob S' (plus M Fr)).free b->(W1 (plus M Fr)).free b:=λz=>⟨z.1,id,id⟩;cases fl with
    |nx a0=>
     cases e;exact λB H' S' s' m=>q .non H' [] (λb o h=>m.kp b o h S9 (by simp)) (by rw[Rep];exact⟨rfl,rfl⟩) (by simp) List.nodup_nil rfl
    |ret d' a0=>
     cases e;exact λv B H' M S' s' r' c n f m=>q v H' M (λb o h=>m.kp b o h S9 (by simp)) (by
      have J:=(by simpa[clean]using c:aA d=true/\au d=true);have ev:Evo H' H' (wn ob S' (plus M Fr)) (W1 (plus M Fr)):=⟨λb u h z=>⟨h,a3 z⟩,λ_ _ h=>h⟩;exact r'.mono ev (.inl J.1) (.inl J.2) λ_ _ _ h=>h) (λa Z=>(f a Z).resolve_left S9) n c
    |brk a0=>cases e
    |cnt a0=>cases e
  .cases e
end
def bz(F:List D->Option D)(ds:List D):Option D:=(F (fzL ds)).bind λd=>if(az ds&&aB ds)||cz d then some d else none
theorem Jp{F:List D->Option D}{E:XK}:CaV G (λvs H Q=>spP G F (vs++[]) H Q E) (bz F):=λds d e xs H W Y r nd hn w Q q=>by
 unfold bz at e;cases h1:F (fzL ds)with
 |none=>simp[h1]at e
 |some d'=>
  rw[h1]at e;simp![Mx]at e;split at e
  .rename_i hc
   cases e;rw[XJ];by_cases O:az ds=true/\aB ds=true
   .refine⟨fzL ds,λa=>(W.n a∨W.s a∨W.o a)/\a∉Y,r.fz ⟨λa f=>⟨λz=>z.1.elim f.1 λz=>z.elim f.2.1 f.2.2,id,id⟩,λa Z=>⟨λz=>z.2 Z,id,id⟩⟩ (.inl O),gV ds,gW ds,λa h=>w a h.1,d,h1,λv H' L s B fr n c=>?_⟩
    refine q v H' L s ?_ (λa Z=>.inr (fr a Z)) n;have J:=(by simpa[clean]using c:aA d=true/\au d=true);have U:∀a∈L,a∉Y:=λa Z z=>by
     obtain⟨o,N,_⟩:=r.dom a z;rw[fr a Z]at N;cases N
    have I:Evo H' H' (W1 (plus L λa=>(W.n a∨W.s a∨W.o a)/\a∉Y)) ((W.drop Y).add L):=⟨λb u h f=>⟨h,⟨λz=>z.elim (λz=>f.1 (.inl z)) λz=>f.1 (.inr ⟨.inl z.1,z.2⟩),λz=>f.1 (.inr ⟨.inr (.inl z),λy=>?_⟩),λz=>f.1 (.inr ⟨.inr (.inr z),λy=>?_⟩)⟩⟩,λ_ _ h=>h⟩
    .exact B.mono I (.inl J.1) (.inl J.2) λ_ _ _ h=>h
    .exact(hn b y).2.1 z
    .exact(hn b y).2.2 z
   .have N:cz d=true:=by
     simp![Bool.or_eq_true,XR]at hc;exact hc.resolve_left O
    refine⟨fzL ds,λ_=>False,r.fz ⟨λa f=>⟨id,id,id⟩,λa Z=>⟨id,id,id⟩⟩ (.inr λa=>⟨id,id,id⟩),gV ds,gW ds,λa h=>h.elim,d,h1,λv H' L s B fr n c=>?_⟩;exact q v H' L s (B.own N) (λa Z=>.inr (fr a Z)) n
  .cases e
theorem eO{F:List D->Option D}{f:En->Option (List D)}(C:∀c,Cal (X c).prog (X c).w (X c).K (X c).mg (X c).base k x ps (spP G F))(O:∀c,jq k (X c).A)(Z:PVA X G ob (e::es) f)(B:∀c,Gl (X c) x:=by intro _;rfl)(q:1.23=false:=by decide)(V:∀c,Xy (e::es) (X c).env=(false,eval e (X c).env)::Xy es (X c).env:=by intro _;rfl)(U:∀c,(ZK pos (Xy es (X c).env)).any (·.1)=false:=by intro _;rfl) :
 PV X G ob (.Call (.Name x p) (e::es) [] pos) (eAp (bz F) f):=let⟨t,a1,a2⟩:=Z.ex;⟨_,λc=>Nb (C c) (O c) (B c) (a1 c) q (V c) (U c),xf Jp a2⟩
variable{a:Addr}
theorem cP.fz2(hs:Les H W W' L)(U:m≠.brw∨∀a,W.s a->W'.free a)(N:m≠.bro∨nH W')(h:cP B H W a o m L M):cP B H W' a o (mkF m) [] []:=by
 cases m with
 |own=>exact⟨h.1,hs.l a (by rw[h.2];simp),rfl,rfl⟩
 |frz=>exact⟨h.1,hs.f a h.2.1,rfl,rfl⟩
 |brw=>exact⟨h.1,U.elim (λz=>absurd rfl z) λz=>z a h.2.1,rfl,rfl⟩
 |bro=>exact⟨h.1,N.elim (λz=>absurd rfl z) λz=>z a,rfl,rfl⟩
 |scr=>exact⟨h.1.imp (λz=>⟨z.1,hs.f a z.2⟩) id,rfl,rfl⟩
mutual
theorem Rep.fz2:∀{d:D}{v:V}{L:List Addr},Rep G H W d v L->Les H W W' L->(aA d=true∨∀a,W.s a->W'.free a)->(au d=true∨nH W')->Rep G H W' (fz d) v []
 |.non,v,L,h,_,_,_=>by rw[Rep]at h;simp[Jb.fz,Rep,h]
 |.bl _,v,L,h,_,_,_=>by rw[Rep]at h;simp[Jb.fz,Rep,h]
 |.int _,v,L,h,_,_,_=>by rw[Rep]at h;simp[Jb.fz,Rep,h]
 |.str _,v,L,h,_,_,_=>by rw[Rep]at h;simp[Jb.fz,Rep,h]
 |.ty _,v,L,h,_,_,_=>by rw[Rep]at h;simp[Jb.fz,Rep,h]
 |.tup ds,v,L,h,hs,c,o=>by
  rw[Rep]at h;rw[Jb.fz,Rep];obtain⟨a,xs,rfl,U,O⟩:=h;exact⟨a,xs,rfl,U,aD.fz2 O hs (by simpa[aA]using c) (by simpa[au]using o)⟩
 |.lst m ds,v,L,h,he,c,o=>by
  rw[Rep]at h;rw[Jb.fz,Rep];obtain⟨a,xs,M,rfl,O,hs⟩:=h;exact⟨a,xs,[],rfl,aD.fz2 O (he.sub λc Y=>hs.sub.subset Y) (c.imp (λz=>by simp[aA]at z;exact z.2) id) (o.imp (λz=>by simp[au]at z;exact z.2) id),hs.fz2 he (c.imp (λz=>by simp[aA]at z;exact z.1) id) (o.imp (λz=>by simp[au]at z;exact z.1) id)⟩
 |.dct m ks ds,v,L,h,he,c,o=>by
  rw[Rep]at h;rw[Jb.fz,Rep];obtain⟨a,xs,M,rfl,B,O,hs⟩:=h;exact⟨a,xs,[],rfl,B,aD.fz2 O (he.sub λc Y=>hs.sub.subset Y) (c.imp (λz=>by simp[aA]at z;exact z.2) id) (o.imp (λz=>by simp[au]at z;exact z.2) id),hs.fz2 he (c.imp (λz=>by simp[aA]at z;exact z.1) id) (o.imp (λz=>by simp[au]at z;exact z.1) id)⟩
 |.ins m c' fs ds,v,L,h,he,c,o=>by
  rw[Rep]at h;rw[Jb.fz,Rep];obtain⟨a,C,dx,xs,M,rfl,F,B,O,hs⟩:=h;exact⟨a,C,dx,xs,[],rfl,F,B,aD.fz2 O (he.sub λc Y=>hs.sub.subset Y) (c.imp (λz=>by simp[aA]at z;exact z.2) id) (o.imp (λz=>by simp[au]at z;exact z.2) id),hs.fz2 he (c.imp (λz=>by simp[aA]at z;exact z.1) id) (o.imp (λz=>by simp[au]at z;exact z.1) id)⟩
theorem aD.fz2:∀{ds:List D}{vs:List V}{L:List Addr},aD G H W ds vs L->Les H W W' L->(az ds=true∨∀a,W.s a->W'.free a)->(aB ds=true∨nH W')->aD G H W' (fzL ds) vs []
 |[],vs,L,h,_,_,_=>by obtain⟨rfl,_⟩:=h.inv0;rw[fzL];exact .nil
 |d::r,vs,L,h,he,c,o=>by
  obtain⟨x,ys,M,M',rfl,rfl,h1,h2⟩:=h.inv;rw[fzL];exact .cons (M:=[]) (M':=[]) (Rep.fz2 h1 (he.sub λc Y=>Xo _ Y) (c.imp (λz=>by simp[az]at z;exact z.1) id) (o.imp (λz=>by simp[aB]at z;exact z.1) id))
   (aD.fz2 h2 (he.sub λc Y=>Xf _ Y) (c.imp (λz=>by simp[az]at z;exact z.2) id) (o.imp (λz=>by simp[aB]at z;exact z.2) id))
end
def spI(G:Gc)(ob pr:Nat->Bool)(F:List D->Option (D×List D)):Sp:=λvs H Q _=>∃(ds:List D)(S:Ad)(Fr:Addr->Prop),Sta G H ob (ds.map some) (vs.map some) S Fr/\(∀i,pr i=false->S i=[])/\∃d q,F ds=some (d,q)/\
 ∀v H' M S',Sta G H' ob (q.map some) (vs.map some) S' (plus M Fr)->Rep G H' (wn ob S' (plus M Fr)) d v M->clean d=true->M.Nodup->(∀a∈M,inS S a∨H a=none)->Mv (λ_=>false) H H' [] [] S S' []->Q v H'
def outs(pr:Nat->Bool)(ρ:En):Nat->List D->Option (List D)
 |_,[]=>some []
 |i,d::r=>(if pr i=true then(match ρ[i]? with
  |some (some e)=>some e
  |_=>none)else some d).bind λe=>(outs pr ρ (i+1) r).map λt=>e::t
def fnI(pr:Nat->Bool)(I n:Nat)(V:En->Option Fl):List D->Option (D×List D):=λds=>if ds.length=I then(V (en0 n ds)).bind λr=>match r with
 |.ret d ρ=>(outs pr ρ 0 ds).map λo=>(d,o)
 |.nx ρ=>(outs pr ρ 0 ds).map λo=>(.non,o)
 |_=>none else none
theorem Ei{pr:Nat->Bool}{ρ:En}:∀{ds q:List D}{k:Nat},outs pr ρ k ds=some q->q.length=ds.length/\∀i d,q[i]? =some d->(pr (k+i)=true/\ρ[k+i]? =some (some d))∨(pr (k+i)=false/\ds[i]? =some d)
 |[],q,k,e=>by
  cases e;exact⟨rfl,λi d h=>by simp at h⟩
 |d0::r,q,k,e=>by
  rw[outs]at e;cases h2:outs pr ρ (k+1) r with
  |none=>
   rw[h2]at e;simp at e
  |some t=>
   rw[h2]at e;obtain⟨l1,l2⟩:=Ei h2;have J:∃I,q=I::t/\((pr k=true/\ρ[k]? =some (some I))∨(pr k=false/\d0=I)):=by
    split at e
    .rename_i hp
     split at e
     .rename_i I h0
      exact⟨I,by simpa using e.symm,.inl ⟨hp,h0⟩⟩
     .simp at e
    .rename_i hp
     exact⟨d0,by simpa using e.symm,.inr ⟨by simpa using hp,rfl⟩⟩
   obtain⟨I,rfl,B⟩:=J;refine⟨by simp[l1],λi d h=>?_⟩;cases i with
   |zero=>
    have:I=d:=by simpa using h
    subst this;exact B.imp id λz=>⟨z.1,by simp[z.2]⟩
   |succ i=>
    have:=l2 i d (by simpa using h);rw[show k+1+i=k+(i+1)by omega]at this;simpa using this
theorem lr{xs:List α}{x:α}(h:(xs.map some)[i]? =some (some x)):xs[i]? =some x:=by
 rw[List.getElem?_map]at h;cases e:xs[i]? with
 |none=>rw[e]at h;cases h
 |some y=>rw[e]at h;simpa using h
theorem eE{xs:List α}{x:α}(h:xs[i]? =some x):(xs.map some)[i]? =some (some x):=by rw[List.getElem?_map,h];rfl
theorem WW{Fr:Addr->Prop}(s:Sta G H ob (ds.map some) (vs.map some) S Fr):Sta G H ob (en0 N.length ds) (L2.start N vs) S Fr where
 len:=by have:=s.len;simp at this;simp[en0,L2.start,this]
 sl:=λi d e=>by
  obtain⟨v,h1,h2,O⟩:=s.sl i d (eE (Gg e));refine⟨v,?_,h2,O⟩;unfold L2.start;have hi:i<(vs.map some).length:=(qb.mp h1).1;rw[XD hi];exact h1
 em:=λi h=>s.em i λd e=>h d (by
  unfold en0;have hi:i<(ds.map some).length:=(qb.mp e).1;rw[XD hi];exact e)
 nd:=s.nd
 dj:=s.dj
 fdj:=s.fdj
 fdm:=s.fdm
section
variable{P:Program}{w:World}{K:PySem.W.Frag}{mg:Str->Option Value}{base:Heap}
theorem An{G:Gc}{H H':Hp}{ob pr:Nat->Bool}{ds a0:List D}{vs:List V}{N:List Str}{S S1:Ad}{Fr:Addr->Prop}{ρ:En}{σ:L2.St}{M:List Addr}(s:Sta G H ob (ds.map some) (vs.map some) S Fr)(F:∀i,pr i=false->S i=[])(B:Sta G H' ob ρ σ S1 (plus M Fr))
  (m:Mv pr H H' (L2.start N vs) σ S S1 []) (hM:∀a∈M,inS S a∨H a=none) (e:outs pr ρ 0 ds=some a0) :
  Sta G H' ob (a0.map some) (vs.map some) (λi=>if pr i=true/\i<ds.length then S1 i else[]) (plus M Fr):=by
 obtain⟨Z,hg⟩:=Ei e;have lv:ds.length=vs.length:=by have:=s.len;simpa using this
 have sub:∀{i a},a∈(if pr i=true/\i<ds.length then S1 i else[])->a∈S1 i:=λ{i a} z=>by
  split at z
  .exact z
  .cases z
 refine⟨by simp[Z,lv],λi d h=>?_,λi h=>?_,λi=>?_,λi j a h1 h2=>B.dj i j a (sub h1) (sub h2),λi a h z=>B.fdj i a h (sub z),B.fdm⟩
 .have h:=lr h
  have hi:i<ds.length:=by rw[←Z];exact(qb.mp h).1
  rcases hg i d h with⟨h1,h2⟩|⟨h1,h2⟩
  .rw[Z4]at h1 h2
   obtain⟨v,q1,q,Y⟩:=B.sl i d h2;have e1:=m.pr i h1;rw[q1]at e1;refine⟨v,?_,?_,Y⟩
   .unfold L2.start at e1
    rw[XD (by simp;omega)]at e1;exact e1.symm
   .rw[Xu ⟨h1,hi⟩]
    have J:=(by simpa[clean]using Y:aA d=true/\au d=true);have I:Evo H' H' (wn ob S1 (plus M Fr)) (wn ob (λi=>if pr i=true/\i<ds.length then S1 i else[]) (plus M Fr)):=⟨λb u U f=>⟨U,⟨f.1,λ⟨j,O,z2⟩=>f.2.1 ⟨j,O,sub z2⟩,λ⟨j,O,z2⟩=>f.2.2 ⟨j,O,sub z2⟩⟩⟩,λ_ _ h=>h⟩;exact q.mono I (.inl J.1) (.inl J.2) λ_ _ _ h=>h
  .rw[Z4]at h1
   obtain⟨v,q1,q,Y⟩:=s.sl i d (eE h2);refine⟨v,q1,?_,Y⟩;rw[Xz λz=>by rw[h1]at z;cases z.1];rw[F i h1]at q;have J:=(by simpa[clean]using Y:aA d=true/\au d=true);have a1:=Cd s (σ2:=σ) (H2:=H') (S2:=S1) (P:=λ_=>false) ⟨m.kp,m.gr,λi h=>by cases h⟩;have I:Evo H H' (wn ob S Fr) (wn ob (λi=>if pr i=true/\i<ds.length then S1 i else[]) (plus M Fr)):=⟨λb u U f=>?_,a1.t⟩
   .exact q.mono I (.inl J.1) (.inl J.2) (by simp)
   .obtain⟨k1,k2⟩:=a1.k b u U f
    refine⟨k1,λz=>z.elim (λz=>?_) f.1,λ⟨j,O,z2⟩=>k2.2.1 ⟨j,O,sub z2⟩,λ⟨j,O,z2⟩=>k2.2.2 ⟨j,O,sub z2⟩⟩;rcases hM b z with⟨j,y⟩|y
    .cases ho:ob j with
     |false=>exact f.2.1 ⟨j,ho,y⟩
     |true=>exact f.2.2 ⟨j,ho,y⟩
    .rw[U]at y;cases y
 .split
  .rename_i z
   exfalso;have hi:i<a0.length:=by rw[Z];exact z.2
   exact h a0[i] (eE (by simp[hi]))
  .rfl
 .show(if pr i=true/\i<ds.length then S1 i else[]).Nodup
  split
  .exact B.nd i
  .exact List.nodup_nil
theorem okI{x Y:Str}{st:Stmt}{f:Addr}{fd:Yu}{N ps:List Str}{k:Nat}{ob pr:Nat->Bool}{V:En->Option Fl}(F:Fun K x Y st f fd)(S:cD N ps (aK st))
  (U:∀(I:Value)(A:Yy)(outer:List Env)(s:zb)(H:Hp)(E:XK),jq k (A.deeper (abA Y (aK st) s.heap.objs.size f I))->rC (λ_:Unit=>(Bp CX0 P w K mg base N Y (aK st) f I A outer s H E).nox) ⟨K,mg⟩ ob pr (bT st) V) :
  gw P w K mg base CX0 (k+1) f fd ps (spI ⟨K,mg⟩ ob pr (fnI pr ps.length N.length V)):=by
 refine F.ok S (λvs H Q E h=>?_) (λI A outer s H vs Q E O h=>?_)
 .obtain⟨ds,S,Fr,st,_,d,ds',e,_⟩:=h
  unfold fnI at e;split at e
  .rename_i hl
   have:=st.len;simp at this;rw[←this];exact hl
  .cases e
 .obtain⟨ds,S0,Fr,st,hp,d,ds',e,q⟩:=h
  obtain⟨t,a1,Z⟩:=(U I A outer s H E O).ex;refine⟨t,a1 (),?_⟩;unfold fnI at e;split at e
  .cases h1:V (en0 N.length ds)with
   |none=>simp[h1]at e
   |some fl=>
    rw[h1]at e;simp![Mx]at e;refine Z _ fl h1 (L2.start N vs) H S0 Fr (WW st) _ ?_;have sub:∀{S1:Ad}{i a},a∈(if pr i=true/\i<ds.length then S1 i else[])->a∈S1 i:=λ{S1 i a} z=>by
     split at z
     .exact z
     .cases z
    cases fl with
    |nx a0=>
     cases h2:outs pr a0 0 ds with
     |none=>simp[h2]at e
     |some o=>
      obtain⟨rfl,rfl⟩:D.non=d/\o=ds':=by simpa[h2]using e
      refine λB H' S1 s1 m=>q .non H' [] _ (An st hp (M:=[]) (by rw[iZ];exact s1) m (by simp) h2) (by rw[Rep];exact⟨rfl,rfl⟩) rfl List.nodup_nil (by simp) ⟨m.kp,λi a z=>m.gr i a (sub z),λi h=>by cases h⟩
    |ret d' a0=>
     cases h2:outs pr a0 0 ds with
     |none=>simp[h2]at e
     |some o=>
      obtain⟨rfl,rfl⟩:d'=d/\o=ds':=by simpa[h2]using e
      refine λv B H' M S1 s1 r c n f m=>q v H' M _ (An st hp s1 m f h2) ?_ c n f ⟨m.kp,λi a z=>m.gr i a (sub z),λi h=>by cases h⟩;have J:=(by simpa[clean]using c:aA d'=true/\au d'=true);have ev:Evo H' H' (wn ob S1 (plus M Fr)) (wn ob (λi=>if pr i=true/\i<ds.length then S1 i else[]) (plus M Fr)):=⟨λb u U f=>⟨U,⟨f.1,λ⟨j,z1,z2⟩=>f.2.1 ⟨j,z1,sub z2⟩,λ⟨j,z1,z2⟩=>f.2.2 ⟨j,z1,sub z2⟩⟩⟩,λ_ _ h=>h⟩;exact r.mono ev (.inl J.1) (.inl J.2) λ_ _ _ h=>h
    |brk a0=>cases e
    |cnt a0=>cases e
  .cases e
end
def RfM(G:Gc)(ob:Nat->Bool)(t:TA)(js:List Nat)(f:En->Option (List D×En)):Prop:=∀(ρ:En)(ds:List D)(F:En),f ρ=some (ds,F)->∀(σ:L2.St)(H:Hp)(S:Ad)(Fr:Addr->Prop),Sta G H ob ρ σ S Fr->
 ∀us:List V,js.map (λj=>σ[j]?)=us.map (λu=>some (some u))->∀Q:List V->Hp->Prop,
 (∀vs H' M S',Sta G H' ob F σ S' (plus M Fr)->aD G H' (wn ob S' (plus M Fr)) ds vs M->M.Nodup->Eff ob H H' S S' M->Q (us++vs) H')->t σ H Q
structure PVM{ι:Type}(X:ι->Cx)(G:Gc)(ob:Nat->Bool)(es:List Expr)(js:List Nat)(f:En->Option (List D×En)):Prop where
 mk::(ex:∃t,(∀c,PA (X c) es t)/\RfM G ob t js f)
variable{f:En->Option (List D×En)}
theorem cM(h:v5 X G ob es f):PVM X G ob es [] f:=by
 obtain⟨t,U,Z⟩:=h.ex;refine⟨t,U,λρ ds F e σ H S Fr s us V Q q=>?_⟩;have:us=[]:=by simpa using V
 subst this;exact Z ρ ds F e σ H S Fr s Q q
theorem cJ(i:Nat)(h:PVM X G ob es js f)(Y:∀c,(X c).N[i]? =some x:=by intro _;rfl)(B:∀c,Vis (X c).env.scope x:=by intro _;first|exact ZZ rfl|exact Ze (ZZ rfl)|exact Ze (Ze rfl))(hd:1.23=false:=by decide)(J:(x==("__classdict__":Str))=false:=by decide)(hs:∀c,Xy (.Name x pos::es) (X c).env=(false,eval (.Name x pos) (X c).env)::Xy es (X c).env:=by intro _;rfl):PVM X G ob (.Name x pos::es) (i::js) f:=by
 obtain⟨t,U,Z⟩:=h.ex;refine⟨_,λc=>yQ (pv i (Y c) (B c) hd J) (U c) (hs c),λρ ds F e σ H S Fr s us V Q q=>?_⟩;cases us with
 |nil=>simp at V
 |cons u us=>
  rw[Xi,Xi]at V;injection V with h1 h2;exact⟨u,h1,Z ρ ds F e σ H S Fr s us h2 _ λvs H' M S' s' r n I=>q vs H' M S' s' r n I⟩
def objs(js:List Nat)(ρ:En):Option (List D):=js.mapM λj=>ρ[j]?.bind id
def mK:List Nat->List D->En->En
 |j::js,d::ds,ρ=>mK js ds (ρ.set j (some d))
 |_,_,ρ=>ρ
def eIo(F:List D->Option (D×List D))(js:List Nat)(f:En->Option (List D×En)):En->Option (D×En):=λρ=>if(objs js ρ).isSome=true then(f ρ).bind λp=>(objs js p.2).bind λos=>if aB p.1=true then(F (os++fzL p.1)).bind λq=>
 if az p.1=true∨(cz q.1=true/\bG (q.2.take js.length)=true)then some (q.1,mK js q.2 p.2)else none else none else none
theorem xP{ρ:En}:∀{js:List Nat}{os:List D},objs js ρ=some os->os.length=js.length/\∀(k j:Nat),js[k]? =some j->∃d,os[k]? =some d/\ρ[j]? =some (some d)
 |[],os,h=>by
  have:os=[]:=by simpa[objs]using h.symm
  subst this;exact⟨rfl,λk j h=>by simp at h⟩
 |j::js,os,h=>by
  unfold objs at h;rw[List.mapM_cons]at h;cases h1:ρ[j]?.bind id with
  |none=>simp[h1]at h
  |some d=>
   cases h2:js.mapM (λj=>ρ[j]?.bind id)with
   |none=>simp[h1,h2]at h
   |some t=>
    have:os=d::t:=by simpa[h1,h2]using h.symm
    subst this;obtain⟨l,g⟩:=xP (js:=js) (os:=t) h2;refine⟨by simp[l],λk i e=>?_⟩;cases k with
    |zero=>
     have:j=i:=by simpa using e
     subst this;refine⟨d,rfl,?_⟩;cases O:ρ[j]? with
     |none=>rw[O]at h1;cases h1
     |some o=>rw[O]at h1;simpa using h1
    |succ k=>simpa using g k i (by simpa using e)
theorem wQ:∀(js:List Nat)(ds:List D)(ρ:En),(mK js ds ρ).length=ρ.length
 |[],ds,ρ=>by cases ds<;>rfl
 |_::_,[],ρ=>rfl
 |j::js,d::ds,ρ=>by rw[mK,wQ js ds];simp
theorem pI:∀{js:List Nat}{ds:List D}{ρ:En}{j:Nat},j∉js->(mK js ds ρ)[j]? =ρ[j]?
 |[],ds,ρ,j,_=>by cases ds<;>rfl
 |_::_,[],ρ,j,_=>rfl
 |i::js,d::ds,ρ,j,h=>by
  rw[mK,pI (λz=>h (XQ _ z)),List.getElem?_set_ne λz=>h (by rw[z];exact X_)]
theorem uT:∀{js:List Nat}{ds:List D}{ρ:En}{k j:Nat}{d:D},js.Nodup->js[k]? =some j->ds[k]? =some d->j<ρ.length->(mK js ds ρ)[j]? =some (some d)
 |[],ds,ρ,k,j,d,_,h,_,_=>by simp at h
 |_::_,[],ρ,k,j,d,_,_,h,_=>by simp at h
 |i::js,d0::ds,ρ,k,j,d,n,h1,h2,hl=>by
  rw[mK];cases k with
  |zero=>
   have e1:i=j:=by simpa using h1
   have e2:d0=d:=by simpa using h2
   subst e1 e2;rw[pI (Yo.mp n).1];simp[hl]
  |succ k=>exact uT (Yo.mp n).2 (by simpa using h1) (by simpa using h2) (by simpa using hl)
def pick(S:Ad)(js:List Nat):Ad:=λi=>match js[i]? with
 |some j=>S j
 |none=>[]
theorem jd(h:a∈pick S js i):∃j,js[i]? =some j/\a∈S j:=by
 unfold pick at h;split at h
 .rename_i j e;exact⟨j,e,h⟩
 .cases h
def back(S:Ad)(js:List Nat)(Sc:Ad):Ad:=λj=>match js.idxOf? j with
 |some i=>Sc i
 |none=>S j
theorem uK(h:js.idxOf? j=some i):js[i]? =some j:=by
 obtain⟨h1,h2,O⟩:=Ym.mp h;have:js[i]=j:=by simpa using h2
 rw[Xk h1,this]
theorem zr(h:js.idxOf? j=none):j∉js:=by
 intro z;have:=Zr.mp h j z;simp at this
theorem SQ(n:js.Nodup)(h:js[i]? =some j):js.idxOf? j=some i:=by
 cases e:js.idxOf? j with
 |none=>exact absurd (Xw h) (zr e)
 |some k=>
  have:=uK e;have B:k<js.length:=(qb.mp this).1;rw[(acF B n).mp (this.trans h.symm)]
theorem Oo{Sc:Ad}(n:js.Nodup)(h:js[i]? =some j):back S js Sc j=Sc i:=by unfold back;rw[SQ n h]
theorem yH{Sc:Ad}(h:j∉js):back S js Sc j=S j:=by
 unfold back;split
 .rename_i i e;exact absurd (Xw (uK e)) h
 .rfl
theorem kO{Sc:Ad}(h:a∈back S js Sc j):(∃i,js[i]? =some j/\a∈Sc i)∨(j∉js/\a∈S j):=by
 unfold back at h;split at h
 .rename_i i e;exact .inl ⟨i,uK e,h⟩
 .rename_i e;exact .inr ⟨zr e,h⟩
theorem yp(h:bG (ds.take k)=true)(e:ds[i]? =some d)(hi:i<k):cz d=true:=by
 induction ds generalizing k i with
 |nil=>simp at e
 |cons a r U=>
  cases k with
  |zero=>omega
  |succ k=>
   rw[List.take_succ_cons,bG,XR]at h;cases i with
   |zero=>
    have:a=d:=by simpa using e
    rw[←this];exact h.1
   |succ i=>exact U h.2 (by simpa using e) 1.10
theorem Fy:∀{js:List Nat},(∀j∈js,∃u,σ[j]? =some (some u))->∃us:List V,js.map (λj=>σ[j]?)=us.map (λu=>some (some u))
 |[],_=>⟨[],rfl⟩
 |j::js,h=>by
  obtain⟨us,B⟩:=Fy (js:=js) λi hi=>h i (XQ _ hi);obtain⟨u,q⟩:=h j X_;exact⟨u::us,by rw[Xi,Xi,B,q]⟩
theorem RL{oc:Nat->Bool}{F:List D->Option (D×List D)}(I:js.Nodup)(N:∀j∈js,ob j=true)(hp:∀i,i<js.length->pr i=true)(h:RfM G ob t js f){E:XK} :
  kj G ob (λσ H Q=>t σ H λvs H1=>spI G oc pr F (vs++[]) H1 Q E) (eIo F js f):=λρ d d4 e σ H S Fr s Q q=>by
 unfold eIo at e;split at e
 .rename_i hsome
  cases h0:objs js ρ with
  |none=>rw[h0]at hsome;cases hsome
  |some d5=>
   cases h1:f ρ with
   |none=>simp[h1]at e
   |some p=>
    obtain⟨ds,ρ1⟩:=p;rw[h1]at e;simp![Mx]at e;cases h2:objs js ρ1 with
    |none=>simp[h2]at e
    |some os=>
     rw[h2]at e;simp![Mx]at e;split at e
     .rename_i hbro
      cases O:F (os++fzL ds)with
      |none=>simp[O]at e
      |some z=>
       obtain⟨d1,a2⟩:=z;rw[O]at e;simp![Mx]at e;split at e
       .rename_i b4
        obtain⟨rfl,rfl⟩:d1=d/\mK js a2 ρ1=d4:=by simpa using e
        obtain⟨l0,g0⟩:=xP h0;obtain⟨l1,g1⟩:=xP h2;have a8:∃us:List V,js.map (λj=>σ[j]?)=us.map (λu=>some (some u)):=by
         have:∀j∈js,∃u,σ[j]? =some (some u):=λj I=>by
          obtain⟨k,hk⟩:=abV.mp I;obtain⟨d0,_,q2⟩:=g0 k j hk;obtain⟨v,q3,_⟩:=s.sl j d0 q2;exact⟨v,q3⟩
         exact Fy this
        obtain⟨us,a8⟩:=a8;have b8:us.length=js.length:=by have:=congrArg Zz a8;simpa using this.symm
        have c5:∀(k j:Nat)(u:V),js[k]? =some j->us[k]? =some u->σ[j]? =some (some u):=λk j u h1 h2=>by
         have:=congrArg (λl=>l[k]?) a8;simp![List.getElem?_map,h1,h2,Yb,aaP]at this;exact this
        refine h ρ ds ρ1 h1 σ H S Fr s us a8 _ λvs H1 M S1 B r1 nd1 c6=>?_;rw[XJ];have b2:∀{i a},a∈pick S1 js i->inO ob S1 a:=λ{i a} z=>by
         obtain⟨j,e,y⟩:=jd z;exact⟨j,N j (Xw e),y⟩
        have a1:∀{a},inS (pick S1 js) a->inO ob S1 a:=λ⟨i,z⟩=>b2 z;have a9:∀{i a},a∈S1 i->¬(wn ob S1 (plus M Fr)).free a:=λ{i a} z f=>by
         cases b1:ob i with
         |false=>exact f.2.1 ⟨i,b1,z⟩
         |true=>exact f.2.2 ⟨i,b1,z⟩
        let a6:Addr->Prop:=λa=>az ds=true/\((Fr a∨inS S1 a)/\¬inS (pick S1 js) a)
        have b3:∀a,(wn ob S1 (plus M Fr)).free a->(wn oc (pick S1 js) a6).free a:=λa f=>by
         refine⟨λz=>?_,λ⟨i,_,z⟩=>?_,λ⟨i,_,z⟩=>?_⟩
         .rcases z.2.1 with y|⟨i,y⟩
          .exact f.1 (.inr y)
          .exact a9 y f
         .exact f.2.2 (b2 z)
         .exact f.2.2 (b2 z)
        have d3:∀a∈M,¬Fr a:=λa Z z=>by
         rcases c6.fm a Z with y|y
         .exact s.notO z y
         .obtain⟨o,N,_⟩:=s.fdm a z
          rw[y]at N;cases N
        have c0:∀a∈M,(wn oc (pick S1 js) a6).free a:=λa Z=>by
         refine⟨λz=>?_,λ⟨i,_,z⟩=>?_,λ⟨i,_,z⟩=>?_⟩
         .rcases z.2.1 with y|⟨i,y⟩
          .exact d3 a Z y
          .exact B.fdj i a (.inl Z) y
         .obtain⟨j,_,y⟩:=jd z;exact B.fdj j a (.inl Z) y
         .obtain⟨j,_,y⟩:=jd z;exact B.fdj j a (.inl Z) y
        have c7:aD G H1 (wn oc (pick S1 js) a6) (fzL ds) vs []:=by
         refine r1.fz2 ⟨b3,c0⟩ ?_ (.inl hbro);by_cases c3:az ds=true
         .exact .inl c3
         .refine .inr λa Z=>⟨λz=>c3 z.1,λ⟨i,_,z⟩=>?_,λ⟨i,_,z⟩=>?_⟩
          .obtain⟨i1,o1,y1⟩:=Z
           obtain⟨i2,o2,y2⟩:=b2 z;rw[B.dj i1 i2 a y1 y2,o2]at o1;cases o1
          .obtain⟨i1,o1,y1⟩:=Z
           obtain⟨i2,o2,y2⟩:=b2 z;rw[B.dj i1 i2 a y1 y2,o2]at o1;cases o1
        have sc:Sta G H1 oc ((os++fzL ds).map some) ((us++vs).map some) (pick S1 js) a6:=by
         refine⟨by simp[l1,b8,c7.length],λi d0 hi=>?_,λi hi=>?_,λi=>?_,λi k a h1 h2=>?_,λi a h1 h2=>h1.2.2 ⟨i,h2⟩,λa Z=>?_⟩
         .have hi:=lr hi
          by_cases b5:i<js.length
          .obtain⟨dd,q1,q2⟩:=g1 i js[i] (by simp[b5])
           rw[XD 1.10,q1]at hi;cases hi;obtain⟨v,q3,q4,q5⟩:=B.sl _ _ q2;have a5:=(by simpa[clean]using q5:aA d0=true/\au d0=true);have c8:∃u,us[i]? =some u:=⟨us[i],by simp[b8,b5]⟩;obtain⟨u,hu⟩:=c8;have:=c5 i js[i] u (by simp[b5]) hu;rw[q3]at this;cases this;refine⟨v,eE (by rw[XD 1.10];exact hu),?_,q5⟩;have:pick S1 js i=S1 js[i]:=by unfold pick;rw[Xk b5]
           rw[this];have ev:Evo H1 H1 (wn ob S1 (plus M Fr)) (wn oc (pick S1 js) a6):=⟨λb u h f=>⟨h,b3 b f⟩,λ_ _ h=>h⟩;exact q4.mono ev (.inl a5.1) (.inl a5.2) λ_ _ _ h=>h
          .rw[Y0 1.10]at hi
           obtain⟨x,M',q1,q2,q3⟩:=c7.get hi;have:M'=[]:=by simpa using q3
           subst this;refine⟨x,eE (by rw[Y0 1.10,b8,←l1];exact q1),?_,by simp[clean,iT (gV ds) hi,iU (gW ds) hi]⟩;have:pick S1 js i=[]:=by unfold pick;rw[List.getElem?_eq_none 1.10]
           rw[this];exact q2
         .unfold pick
          split
          .rename_i j hj'
           exfalso;obtain⟨dd,q1,q2⟩:=g1 i j hj';exact hi dd (eE (by rw[XD (by rw[l1];exact(qb.mp hj').1)];exact q1))
          .rfl
         .unfold pick
          split
          .exact B.nd _
          .exact List.nodup_nil
         .obtain⟨j1,e1,y1⟩:=jd h1
          obtain⟨j2,e2,y2⟩:=jd h2;have:=B.dj j1 j2 a y1 y2;rw[this,←e2]at e1;exact(acF (by
           cases hh:js[i]? with
           |none=>rw[hh,e2]at e1;cases e1
           |some _=>exact(qb.mp hh).1) I).mp e1
         .rcases Z.2.1 with y|⟨i,y⟩
          .exact B.fdm a (.inr y)
          .exact B.mu y
        refine⟨os++fzL ds,pick S1 js,a6,sc,λi hi=>?_,d1,a2,O,λv H2 Mc Sc s2 r2 c2 n2 b6 m2=>?_⟩
        .unfold pick
         split
         .rename_i j hj'
          rw[hp i (qb.mp hj').1]at hi;cases hi
         .rfl
        .have l2:a2.length=(os++fzL ds).length:=by
          have h1:=s2.len;have h2:=sc.len;simp![Xq]at h1 h2;rw[h1,←h2]
         have kept:∀b u,H1 b=some u->¬inS (pick S1 js) b->H2 b=some u:=λb u U n=>m2.kp b u U n (by simp);have a3:∀{i b},b∈Sc i->inS (pick S1 js) b∨H1 b=none:=λ{i b} z=>(m2.gr i b z).imp id λy=>y.resolve_left (by simp);have c1:∀{b},Fr b->¬inS (pick S1 js) b:=λ{b} z ⟨i,y⟩=>by obtain⟨j,_,y⟩:=jd y;exact B.fdj j b (.inr z) y
         have a0:∀{j b},j∉js->b∈S1 j->¬inS (pick S1 js) b:=λ{j b} hn z ⟨i,y⟩=>by
          obtain⟨k,e,y⟩:=jd y;rw[B.dj j k b z y]at hn;exact hn (Xw e)
         have b9:∀{i b},b∈S1 i->H1 b≠none:=λ{i b} z y=>by obtain⟨o,N,_⟩:=B.mu z;rw[y]at N;cases N
         have ev:Evo H1 H2 (wn ob S1 (plus M Fr)) (wn ob (back S1 js Sc) (plus Mc Fr)):=by
          refine⟨λb u U f=>?_,λb xs h=>?_⟩
          .have n1:¬inS (pick S1 js) b:=λz=>f.2.2 (a1 z)
           have n2:∀i,b∉back S1 js Sc i:=λi z=>by
            rcases kO z with⟨k,_,y⟩|⟨_,y⟩
            .rcases a3 y with y|y
             .exact n1 y
             .rw[U]at y;cases y
            .exact a9 y f
           refine⟨kept b u U n1,λz=>?_,λ⟨i,_,z⟩=>n2 i z,λ⟨i,_,z⟩=>n2 i z⟩;rcases z with z|z
           .rcases b6 b z with y|y
            .exact n1 y
            .rw[U]at y;cases y
           .exact f.1 (.inr z)
          .have no:∀u,H1 b=some u->muO u=false->H2 b=some u:=λu hu mu=>kept b u hu λ⟨i,z⟩=>by
            obtain⟨j,_,z⟩:=jd z;obtain⟨o,N,J⟩:=B.mu z;rw[hu]at N;cases N;rw[mu]at J;cases J
           exact no _ h rfl
         have conv:∀(e:D)(x:V)(L:List Addr),(az ds=true∨cz e=true)->clean e=true->Rep G H2 (wn oc Sc (plus Mc a6)) e x L->Rep G H2 (wn ob (back S1 js Sc) (plus Mc Fr)) e x L:=λe x L Y b4 r=>by
          rcases Y with Y|Y
          .have a5:=(by simpa[clean]using b4:aA e=true/\au e=true)
           have c9:Evo H2 H2 (wn oc Sc (plus Mc a6)) (wn ob (back S1 js Sc) (plus Mc Fr)):=⟨λb u U f=>?_,λ_ _ h=>h⟩
           .exact r.mono c9 (.inl a5.1) (.inl a5.2) λ_ _ _ h=>h
           .have nSc:∀i,b∉Sc i:=λi z=>by
             cases b1:oc i with
             |false=>exact f.2.1 ⟨i,b1,z⟩
             |true=>exact f.2.2 ⟨i,b1,z⟩
            have nb:∀j,b∉back S1 js Sc j:=λj z=>by
             rcases kO z with⟨k,_,y⟩|⟨hn,y⟩
             .exact nSc k y
             .exact f.1 (.inr ⟨Y,.inr ⟨j,y⟩,a0 hn y⟩)
            refine⟨U,λz=>?_,λ⟨i,_,z⟩=>nb i z,λ⟨i,_,z⟩=>nb i z⟩;rcases z with z|z
            .exact f.1 (.inl z)
            .exact f.1 (.inr ⟨Y,.inl z,c1 z⟩)
          .exact r.own Y
         have d2:∀(j:Nat)(d0:D),(mK js a2 ρ1)[j]? =some (some d0)->∃v,σ[j]? =some (some v)/\Rep G H2 (wn ob (back S1 js Sc) (plus Mc Fr)) d0 v (back S1 js Sc j)/\clean d0=true:=λj d0 a7=>by
          by_cases a4:j∈js
          .obtain⟨k,hk⟩:=abV.mp a4
           have c4:k<js.length:=(qb.mp hk).1;obtain⟨dd,q1,q2⟩:=g1 k j hk;have b7:j<ρ1.length:=(qb.mp q2).1;have b0:k<a2.length:=by rw[l2,YB];omega
           rw[uT I hk (d:=a2[k]) (by simp[b0]) b7]at a7;cases a7;obtain⟨v,q3,q4,q5⟩:=s2.sl k a2[k] (eE (by simp[b0]));have q3:=lr q3;rw[XD 1.10]at q3;refine⟨v,c5 k j v hk q3,?_,q5⟩;rw[Oo I hk];refine conv _ _ _ (b4.imp id λz=>yp z.2 (by simp[b0]) c4) q5 q4
          .rw[pI a4]at a7
           obtain⟨v,q1,q2,q3⟩:=B.sl j d0 a7;have a5:=(by simpa[clean]using q3:aA d0=true/\au d0=true);refine⟨v,q1,?_,q3⟩;rw[yH a4];exact q2.mono ev (.inl a5.1) (.inl a5.2) λc Y u hu=>kept c u hu (a0 a4 Y)
         refine q v H2 Mc (back S1 js Sc) ⟨?_,d2,?_,?_,?_,?_,?_⟩ (conv _ _ _ (b4.imp id λz=>z.1) c2 r2) n2 ?_
         .rw[wQ];exact B.len
         .intro j a7
          by_cases a4:j∈js
          .obtain⟨k,hk⟩:=abV.mp a4
           obtain⟨dd,q1,q2⟩:=g1 k j hk;have b7:j<ρ1.length:=(qb.mp q2).1;have c4:k<js.length:=(qb.mp hk).1;have b0:k<a2.length:=by rw[l2,YB];omega
           exact absurd (uT I hk (d:=a2[k]) (by simp[b0]) b7) (a7 _)
          .rw[yH a4]
           exact B.em j λd0=>by have:=a7 d0;rwa[pI a4]at this
         .intro j
          unfold back;split
          .exact s2.nd _
          .exact B.nd j
         .intro i k a y1 y2
          rcases kO y1 with⟨i1,e1,z1⟩|⟨e1,z1⟩<;>rcases kO y2 with⟨i2,e2,z2⟩|⟨e2,z2⟩
          .have:=s2.dj i1 i2 a z1 z2
           rw[this,e2]at e1;exact(Yn e1).symm
          .rcases a3 z1 with y|y
           .exact absurd y (a0 e2 z2)
           .exact absurd y (b9 z2)
          .rcases a3 z2 with y|y
           .exact absurd y (a0 e1 z1)
           .exact absurd y (b9 z1)
          .exact B.dj i k a z1 z2
         .intro j a Z z
          rcases kO z with⟨i,_,y⟩|⟨hn,y⟩
          .rcases Z with Z|Z
           .exact s2.fdj i a (.inl Z) y
           .rcases a3 y with y|y
            .exact c1 Z y
            .obtain⟨o,N,_⟩:=B.fdm a (.inr Z)
             rw[y]at N;cases N
          .rcases Z with Z|Z
           .rcases b6 a Z with y'|y'
            .exact a0 hn y y'
            .exact b9 y y'
           .exact B.fdj j a (.inr Z) y
         .intro a Z
          rcases Z with Z|Z
          .exact r2.dom a Z
          .obtain⟨o,N,J⟩:=B.fdm a (.inr Z)
           exact⟨o,kept a o N (c1 Z),J⟩
         .have ef2:Eff ob H1 H2 S1 (back S1 js Sc) Mc:=by
           refine⟨λb u U n=>kept b u U λz=>n (a1 z),λi hi=>yH (λz=>by rw[N i z]at hi;cases hi),λi a hi z=>?_,λa Z=>(b6 a Z).imp (λy=>a1 y) id⟩;rcases kO z with⟨k,_,y⟩|⟨_,y⟩
           .exact(a3 y).imp (λy=>a1 y) id
           .exact .inl ⟨i,hi,y⟩
          exact(c6.trans ef2).same (Same.refl _) λc Y=>.inl (Xf _ Y)
       .cases e
     .cases e
 .cases e
theorem dN(js:List Nat){J:Nat->Bool}{F:List D->Option (D×List D)}(C:∀c,Cal (X c).prog (X c).w (X c).K (X c).mg (X c).base k x ps (spI G J pr F))(O:∀c,jq k (X c).A)(Z:PVM X G ob (e::es) js f)(I:js.Nodup:=by decide)(N:∀j∈js,ob j=true:=by decide)(B:∀i,i<js.length->pr i=true:=by decide)(Y:∀c,Gl (X c) x:=by intro _;rfl)(q:1.23=false:=by decide)(V:∀c,Xy (e::es) (X c).env=(false,eval e (X c).env)::Xy es (X c).env:=by intro _;rfl)(U:∀c,(ZK pos (Xy es (X c).env)).any (·.1)=false:=by intro _;rfl) :
 PVe X G ob (.Call (.Name x p) (e::es) [] pos) (eIo F js f):=let⟨t,a1,a2⟩:=Z.ex;⟨_,λc=>Nb (C c) (O c) (Y c) (a1 c) q (V c) (U c),RL I N B a2⟩
def kids:D->List D
 |.tup ds=>ds
 |.lst _ ds=>ds
 |.dct _ _ ds=>ds
 |.ins _ _ _ ds=>ds
 |_=>[]
def K_:D->List D->D
 |.tup _,es=>.tup es
 |.lst m _,es=>.lst m es
 |.dct m ks _,es=>.dct m ks es
 |.ins m c fs _,es=>.ins m c fs es
 |d,_=>d
def gk:List Nat->D->Option D
 |[],d=>some d
 |j::p,d=>((kids d)[j]?).bind (gk p)
def gq:List Nat->D->D->D
 |[],e,_=>e
 |j::p,e,d=>match(kids d)[j]? with
  |some c=>K_ d ((kids d).set j (gq p e c))
  |none=>d
theorem Evo.trans{H1:Hp}{W1:Wn}(a:Evo H H1 W W1)(b:Evo H1 H2 W1 I):Evo H H2 W I:=⟨λc u h f=>let⟨h1,f1⟩:=a.k c u h f;b.k c u h1 f1,λc xs h=>b.t c xs (a.t c xs h)⟩
structure Foc(G:Gc)(H:Hp)(W:Wn)(d0:D)(v0:V)(L:List Addr)(p:List Nat)(d:D)(v:V)(M:List Addr):Prop where
 r:Rep G H W d v M
 b:∃A B,L=A++(M++B)/\∀H' W' d' M',Evo H H' W W'->(∀c∈A++B,∀u,H c=some u->H' c=some u)->Rep G H' W' d' v M'->Rep G H' W' (gq p d' d0) v0 (A++(M'++B))
theorem Foc.nil(r:Rep G H W d v L):Foc G H W d v L [] d v L:=⟨r,[],[],by simp,λH' W' d' M' _ _ h=>by simpa[gq]using h⟩
variable{p:List Nat}{d0:D}
theorem Foc.mono{H1:Hp}{W1:Wn}{J:V}(f:Foc G H W d0 J L p d v M)(Y:clean d=true∨Up H H1 W W1)(e:Evo H H1 W W1)(k:∀c∈L,∀u,H c=some u->H1 c=some u):Foc G H1 W1 d0 J L p d v M:=by
 obtain⟨A,B,q,U⟩:=f.b;refine⟨?_,A,B,q,λH' W' d' M' N O F=>U H' W' d' M' (e.trans N) (λc Y u I=>O c Y u (k c ?_ u I)) F⟩
 .rcases Y with Y|Y
  .have hcc:=(by simpa[clean]using Y:aA d=true/\au d=true)
   exact f.r.mono e (.inl hcc.1) (.inl hcc.2) λc Y u I=>k c (by rw[q];simp[Y]) u I
  .exact f.r.up Y
 .rw[q]
  simp![W2]at Y⊢;rcases Y with z|z<;>simp[z]
theorem MP(p:List Nat)(j:Nat)(e:D):∀(d0:D){d:D},gk p d0=some d->(kids d)[j]?≠none->gq (p++[j]) e d0=gq p (gq [j] e d) d0:=by
 induction p with
 |nil=>intro d0 d h _;cases h;rfl
 |cons k p U=>
  intro d0 d h hn;simp![gk]at h;cases h1:(kids d0)[k]? with
  |none=>simp[h1]at h
  |some c=>
   have h:gk p c=some d:=by simpa[h1]using h
   rw[Yc,gq,gq,h1];simp only;rw[U c h hn]
theorem Lz(p:List Nat)(j:Nat):∀(d0:D){d:D},gk p d0=some d->gk (p++[j]) d0=(kids d)[j]?:=by
 induction p with
 |nil=>
  intro d0 d h;cases h;simp![List.nil_append,gk];cases (kids d0)[j]?<;>rfl
 |cons k p U=>
  intro d0 d h;simp![gk]at h;cases h1:(kids d0)[k]? with
  |none=>simp[h1]at h
  |some c=>
   have h:gk p c=some d:=by simpa[h1]using h
   rw[Yc,gk,h1];exact U c h
theorem m6(h:clean (.lst m ds)=true):az ds=true/\aB ds=true:=by simp[clean,aA,au]at h;exact⟨h.1.2,h.2.2⟩
theorem jK{a b:List D}:az (a++b)=(az a&&az b):=by
 induction a with
 |nil=>rfl
 |cons d r U=>rw[Yc,az,az,U,afh]
theorem jB{a b:List D}:aB (a++b)=(aB a&&aB b):=by
 induction a with
 |nil=>rfl
 |cons d r U=>rw[Yc,aB,aB,U,afh]
variable{c:D}
theorem aD.kid(O:aD G H W ds xs L)(U:az ds=true)(N:aB ds=true)(e:ds[j]? =some c) :
  ∃x A M B,xs[j]? =some x/\L=A++(M++B)/\Rep G H W c x M/\∀H' W' d' M',Evo H H' W W'->(∀b∈A++B,∀u,H b=some u->H' b=some u)->Rep G H' W' d' x M'->aD G H' W' (ds.set j d') xs (A++(M'++B)):=by
 obtain⟨P,Q,x,ys,zs,J,M1,Y,rfl,q,rfl,Z,rfl,h1,h2,h3⟩:=O.at e;simp![jK,jB,az,aB,XR]at U N;refine⟨x,J,M1,Y,by rw[Y0 1.10,Z,aax];rfl,rfl,h2,λH' W' d' M' I kp F=>?_⟩;rw[←q,abW _ _ (Xn _),aax];exact aD.append (h1.mono I (.inl U.1) (.inl N.1) λb U u hu=>kp b (Xo _ U) u hu) (aD.cons F (h3.mono I (.inl U.2.2) (.inl N.2.2) λb U u hu=>kp b (Xf _ U) u hu))
theorem Foc.lst{ds:List D}(r:Rep G H W (.lst .own ds) v L)(Y:clean (.lst .own ds)=true)(e:ds[j]? =some c):∃a xs x M,v= .ref a/\H a=some (.lst xs)/\xs.length=ds.length/\xs[j]? =some x/\Foc G H W (.lst .own ds) v L [j] c x M:=by
 rw[Rep]at r;obtain⟨a,xs,N,rfl,O,Z,rfl⟩:=r;obtain⟨h1,h2⟩:=m6 Y;obtain⟨x,A,M,B,J,rfl,rx,U⟩:=O.kid h1 h2 e;refine⟨a,xs,x,M,rfl,Z,O.length.symm,J,rx,a::A,B,by simp,λH' W' d' M' I kp F=>?_⟩;have q:gq [j] d' (.lst .own ds)= .lst .own (ds.set j d'):=by simp![gq,kids,e,K_]
 rw[q,Rep];exact⟨a,xs,A++(M'++B),rfl,U H' W' d' M' I (λb U u V=>kp b (XQ _ U) u V) F,kp a (by simp) _ Z,by simp⟩
theorem Foc.tup{ds:List D}(r:Rep G H W (.tup ds) v L)(Y:clean (.tup ds)=true)(e:ds[j]? =some c):∃a xs x M,v= .ref a/\H a=some (.tup xs)/\xs.length=ds.length/\xs[j]? =some x/\Foc G H W (.tup ds) v L [j] c x M:=by
 rw[Rep]at r;obtain⟨a,xs,rfl,Z,O⟩:=r;have N:az ds=true/\aB ds=true:=by simpa[clean,aA,au]using Y
 obtain⟨x,A,M,B,J,rfl,rx,U⟩:=O.kid N.1 N.2 e;refine⟨a,xs,x,M,rfl,Z,O.length.symm,J,rx,A,B,rfl,λH' W' d' M' I kp F=>?_⟩;have q:gq [j] d' (.tup ds)= .tup (ds.set j d'):=by simp![gq,kids,e,K_]
 rw[q,Rep];exact⟨a,xs,rfl,I.t a xs Z,U H' W' d' M' I kp F⟩
variable{ks:List Key}
theorem Foc.dct(r:Rep G H W (.dct .own ks ds) v L)(Y:clean (.dct .own ks ds)=true)(e:ds[j]? =some c):∃a kvs x M,v= .ref a/\H a=some (.dK kvs)/\(kvs.map (·.1)=ks/\ks.Nodup)/\(kvs.map (·.2))[j]? =some x/\Foc G H W (.dct .own ks ds) v L [j] c x M:=by
 rw[Rep]at r;obtain⟨a,kvs,N,rfl,hk,O,Z,rfl⟩:=r;have a0:az ds=true/\aB ds=true:=by simp[clean,aA,au]at Y;exact Y
 obtain⟨x,A,M,B,J,rfl,rx,U⟩:=O.kid a0.1 a0.2 e;refine⟨a,kvs,x,M,rfl,Z,hk,J,rx,a::A,B,by simp,λH' W' d' M' I kp F=>?_⟩;have q:gq [j] d' (.dct .own ks ds)= .dct .own ks (ds.set j d'):=by simp![gq,kids,e,K_]
 rw[q,Rep];exact⟨a,kvs,A++(M'++B),rfl,hk,U H' W' d' M' I (λb U u V=>kp b (XQ _ U) u V) F,kp a (by simp) _ Z,by simp⟩
theorem Foc.trans{J x:V}{Y:List Addr}(f:Foc G H W d0 J Y p d v L)(g:Foc G H W d v L [j] c x M)(F:gk p d0=some d)(I:(kids d)[j]?≠none):Foc G H W d0 J Y (p++[j]) c x M:=by
 obtain⟨A,B,q,U⟩:=f.b;obtain⟨Z,N,O,a0⟩:=g.b;refine⟨g.r,A++Z,N++B,by rw[q,O];simp,λH' W' d' M' ev kp r'=>?_⟩;rw[MP p j d' d0 F I];have:=U H' W' (gq [j] d' d) (Z++(M'++N)) ev (λb U u hu=>kp b ?_ u hu) (a0 H' W' d' M' ev (λb U u hu=>kp b ?_ u hu) r')
 .simpa using this
 .simp![W2]at U⊢
  rcases U with z|z<;>simp[z]
 .simp![W2]at U⊢
  rcases U with z|z<;>simp[z]
def RfP(G:Gc)(ob:Nat->Bool)(t:TE)(i:Nat)(pf:En->Option (List Nat)):Prop:=∀(ρ:En)(p:List Nat),pf ρ=some p->∀(σ:L2.St)(H:Hp)(S:Ad)(Fr:Addr->Prop),Sta G H ob ρ σ S Fr->∃d0 d,ρ[i]? =some (some d0)/\gk p d0=some d/\∀Q:VK,
 (∀v J H' M,Same H H'->σ[i]? =some (some J)->Foc G H' (wn ob S Fr) d0 J (S i) p d v M->Q v H')->t σ H Q
structure PVP{ι:Type}(X:ι->Cx)(G:Gc)(ob:Nat->Bool)(e:Expr)(i:Nat)(pf:En->Option (List Nat)):Prop where
 mk::(ex:∃t,(∀c,PE (X c) e t)/\RfP G ob t i pf)
def gF(i:Nat):En->Option (List Nat):=λρ=>match ρ[i]? with
 |some (some _)=>some []
 |_=>none
theorem d7(i:Nat)(Y:∀c,(X c).N[i]? =some x:=by intro _;rfl)(B:∀c,Vis (X c).env.scope x:=by intro _;first|exact ZZ rfl|exact Ze (ZZ rfl)|exact Ze (Ze rfl))(hd:1.23=false:=by decide)
  (U:(x==("__classdict__":Str))=false:=by decide):PVP X G ob (.Name x pos) i (gF i):=by
 refine⟨_,λc=>pv i (Y c) (B c) hd U,λρ p e σ H S Fr s=>?_⟩;unfold gF at e;split at e
 .rename_i d h1
  cases e;obtain⟨v,h2,O,F⟩:=s.sl i d h1;exact⟨d,d,h1,rfl,λQ q=>⟨v,h2,q v v H _ (Same.refl H) h2 (.nil O)⟩⟩
 .cases e
theorem qz:∀{p:List Nat}{d:D},clean d0=true->gk p d0=some d->clean d=true:=by
 intro p
 induction p generalizing d0 with
 |nil=>intro d h e;cases e;exact h
 |cons j p U=>
  intro d h e;simp![gk]at e;cases h1:(kids d0)[j]? with
  |none=>simp[h1]at e
  |some c=>
   have e:gk p c=some d:=by simpa[h1]using e
   refine U ?_ e;have B:az (kids d0)=true/\aB (kids d0)=true:=by
    cases d0<;>simp[kids,clean,aA,au,az,aB]at h h1⊢<;>(try exact h)<;>exact⟨h.1.2,h.2.2⟩
   simp[clean,iT B.1 h1,iU B.2 h1]
def d9:D->Option Key
 |.int i=>some (.inl i)
 |.str x=>some (.inr x)
 |_=>none
def eY(ks:List Key)(k:Key):Option Nat:=ks.findIdx? λx=>decide (x=k)
def ixP:D->D->Option Nat
 |.lst .own ds,.int i=>ixN ds.length i
 |.tup ds,.int i=>ixN ds.length i
 |.dct .own ks ds,k=>(d9 k).bind λk=>(eY ks k).bind λj=>if j<ds.length then some j else none
 |_,_=>none
def uV(i:Nat)(pf:En->Option (List Nat))(fk:En->Option D):En->Option (List Nat):=λρ=>(pf ρ).bind λp=>(fk ρ).bind λk=>match ρ[i]? with
 |some (some d0)=>(gk p d0).bind λd=>(ixP d k).bind λj=>if j<(kids d).length then some (p++[j])else none
 |_=>none
def O8:R2:=λx y H Q=>∃a v,x= .ref a/\rN H a y (some v)/\Q v H
variable{Y:Cx}
theorem Qv(V:Y.A.units+1<cLine):IxR Y O8:=by
 intro U B pins s σ H x y v u Q I rx J h hs;obtain⟨a,z,rfl,g,q⟩:=h;cases rx;exact adS (Bt I g) PySem.F.slot_dict_getitem.lookup (G9 V I g J λO s3 Z N=>⟨z,H,Z,N,q⟩) hs
theorem Ke(V:Y.A.units+1<cLine):IxR Y (λx y H Q=>rIx Y.K x y H Q∨O8 x y H Q):=RK.or (Qv V)
theorem qm:∀{kvs:List (Key×V)}{k:Key}{j:Nat},eY (kvs.map (·.1)) k=some j->lV kvs k=(kvs.map (·.2))[j]?
 |[],k,j,h=>by simp[eY]at h
 |(k0,v)::r,k,j,h=>by
  simp![Xi,eY,abm]at h;by_cases e:k0=k
  .subst e
   simp at h;subst h;simp[lV]
  .rw[X8 e]at h
   simp![Ye,YJ]at h;cases h1:(r.map (·.1)).findIdx? (λx=>decide (x=k))with
   |none=>rw[h1]at h;cases h
   |some i=>
    rw[h1]at h;have:i+1=j:=by simpa using h
    subst this;have U:=qm (kvs:=r) (k:=k) (j:=i) h1;simp![lV,Y5,X8 e,Xi,Yh];exact U
theorem wj:∀{kvs:List (Key×V)}{k:Key},eY (kvs.map (·.1)) k=none->lV kvs k=none
 |[],k,h=>rfl
 |(k0,v)::r,k,h=>by
  simp![Xi,eY,abm]at h;by_cases e:k0=k
  .subst e
   simp at h
  .rw[X8 e]at h
   simp![Ye,YJ]at h;have h1:(r.map (·.1)).findIdx? (λx=>decide (x=k))=none:=by
    cases h1:(r.map (·.1)).findIdx? (λx=>decide (x=k))with
    |none=>rfl
    |some i=>rw[h1]at h;cases h
   have U:=wj (kvs:=r) (k:=k) h1;simp![lV,Y5,X8 e];exact U
theorem mR{k:Key}(r:Rep G H W d v L)(h:d9 d=some k):v=kV k:=by
 cases d<;>simp[d9]at h<;>subst h<;>rw[Rep]at r<;>exact r.1
variable{pf:En->Option (List Nat)}{fk:En->Option D}
theorem Ql{to ti:TE}{i0:Nat}(N:RfP G ob to i0 pf)(hi:RfE G ob ti fk):RfP G ob (tOp (λx y H Q=>rIx G.K x y H Q∨O8 x y H Q) to ti) i0 (uV i0 pf fk):=λρ p e σ H S Fr s=>by
 unfold uV at e;cases h1:pf ρ with
 |none=>simp[h1]at e
 |some p0=>
  cases h2:fk ρ with
  |none=>simp[h1,h2]at e
  |some k=>
   rw[h1,h2]at e;simp![Mx]at e;split at e
   .rename_i d0 h3
    cases F:gk p0 d0 with
    |none=>simp[F]at e
    |some d=>
     cases h5:ixP d k with
     |none=>simp[F,h5]at e
     |some j=>
      by_cases h6:j<(kids d).length
      .obtain rfl:p0++[j]=p:=by simpa[F,h5,h6]using e
       obtain⟨a5,d',g1,g2,g3⟩:=N ρ p0 h1 σ H S Fr s;rw[h3]at g1;cases g1;rw[F]at g2;cases g2;have U:clean d=true:=qz (let⟨_,_,_,h⟩:=s.sl i0 d0 h3;h) F;refine⟨d0,(kids d)[j],h3,by rw[Lz p0 j d0 F,Xk h6],λQ q=>?_⟩;refine g3 _ λv v0 H1 M B a1 a3=>?_;have O:Sta G H1 ob ρ σ S Fr:=s.grow B λa z=>.inl z;refine hi ρ k h2 σ H1 _ O.rel O.wok _ λy H2 L2 Y ry fy ny=>?_;have up:Up H1 H2 (wn ob S Fr) (wn ob S Fr):=Up.same Y;have a0:=a3.mono (.inr up) up.evo λc _ u V=>Y c u V;have I:(kids d)[j]? =some (kids d)[j]:=Xk h6;have fin:∀x M',Foc G H2 (wn ob S Fr) d v M [j] (kids d)[j] x M'->Q x H2:=λx M' f=>q x v0 H2 M' (B.trans Y) a1 (a0.trans f F (by rw[I];simp));cases d with
       |lst m ds=>
        cases m<;>(try(simp[ixP]at h5));cases k<;>(try(simp[ixP]at h5));rename_i n;rw[Rep]at ry;obtain⟨a,xs,x,M',rfl,Z,hl,J,f⟩:=Foc.lst a0.r U I;refine .inl (.inl ⟨a,xs,n,x,rfl,ry.1,SqL.of Z,?_,fin x M' f⟩);unfold atI;rw[hl,h5];exact J
       |tup ds=>
        cases k<;>(try(simp[ixP]at h5));rename_i n;rw[Rep]at ry;obtain⟨a,xs,x,M',rfl,Z,hl,J,f⟩:=Foc.tup a0.r U I;refine .inl (.inr (.inl ⟨a,xs,n,x,rfl,ry.1,SqT.of Z,?_,fin x M' f⟩));unfold atI;rw[hl,h5];exact J
       |dct m ks ds=>
        cases m<;>(try(simp[ixP]at h5));cases hk:d9 k with
        |none=>simp[hk]at h5
        |some kk=>
         cases J:eY ks kk with
         |none=>simp[hk,J]at h5
         |some j'=>
          have:j'=j:=by
           have:=h5;simp[hk,J]at this;exact this.2
          subst this;obtain⟨a,kvs,x,M',rfl,Z,a2,a4,f⟩:=Foc.dct a0.r U I;refine .inr ⟨a,x,rfl,?_,fin x M' f⟩;have:=mR ry hk;subst this;have hv:=qm (kvs:=kvs) (k:=kk) (j:=j') (by rw[a2.1];exact J);rw[a4]at hv;rw[←hv];exact rN.k Z
       |_=>simp[ixP]at h5
      .simp[F,h5,h6]at e
   .cases e
theorem yw{o i:Expr}{q:Nat}(V:∀c,(X c).A.units+1<cLine)(N:PVP X G ob o q pf)(hi:PV X G ob i fk)(hs:tW i:=by exact λ_ _=>rfl)(I:∀c,(X c).K=G.K:=by intro _;rfl):PVP X G ob (.Subscript o i pos) q (uV q pf fk):=let⟨t,a1,a2⟩:=N.ex;let⟨u,b1,b2⟩:=hi.ex;⟨_,λc=>(by rw[←I c];exact Iz (Ke (V c)) (a1 c) (b1 c) hs),Ql a2 b2⟩
def MuV(G:Gc)(r:V->List V->Hp->VK->Prop)(op:D->List D->Option (D×D)):Prop:=∀(d:D)(es:List D)(d' res:D),op d es=some (d',res)->∀(v:V)(xs:List V)(H:Hp)(W:Wn)(M N:List Addr),Rep G H W d v M->aD G H W es xs N->(M++N).Nodup->(∀a∈M,¬W.free a)->
 clean d=true->az es=true->aB es=true->∀Q:VK,(∀x H' M' R,(∀b u,H b=some u->b∉M->H' b=some u)->(∀W',Evo H H' W W'->Rep G H' W' d' v M'/\Rep G H' W' res x R)->(M'++R).Nodup->(∀a∈M'++R,a∈M∨a∈N∨H a=none)->clean d'=true->clean res=true->Q x H')->r v xs H Q
theorem Ci{e:D}:∀{p:List Nat},clean d0=true->clean e=true->clean (gq p e d0)=true:=by
 intro p
 induction p generalizing d0 with
 |nil=>intro _ h;exact h
 |cons j p U=>
  intro h V;simp![gq];cases h1:(kids d0)[j]? with
  |none=>exact h
  |some c=>
   have Y:clean c=true:=qz (p:=[j]) h (by simp[gk,h1]);have:=U (d0:=c) Y V;have q:∀{ds:List D}{j:Nat}{x:D},az ds=true->aB ds=true->clean x=true->az (ds.set j x)=true/\aB (ds.set j x)=true:=λ{ds}=>by
    induction ds with
    |nil=>intro j x a b _;simp[a,b]
    |cons y r B=>
     intro j x a b F;simp![az,aB,XR]at a b;have I:=(by simpa[clean]using F:aA x=true/\au x=true);cases j with
     |zero=>simp[az,aB,I,a,b]
     |succ j=>simp![YC,az,aB,XR];exact⟨⟨a.1,(B a.2 b.2 F).1⟩,⟨b.1,(B a.2 b.2 F).2⟩⟩
   cases d0<;>simp![kids,List.getElem?_nil]at h1<;>(try cases h1)<;>simp![K_,kids]<;>simp[clean,aA,au]at h⊢
   .exact⟨(q h.1 h.2 this).1,(q h.1 h.2 this).2⟩
   .exact⟨⟨h.1.1,(q h.1.2 h.2.2 this).1⟩,h.2.1,(q h.1.2 h.2.2 this).2⟩
   .exact⟨⟨h.1.1,(q h.1.2 h.2.2 this).1⟩,h.2.1,(q h.1.2 h.2.2 this).2⟩
   .exact⟨⟨h.1.1,(q h.1.2 h.2.2 this).1⟩,h.2.1,(q h.1.2 h.2.2 this).2⟩
variable{res:D}
theorem Sta.mut{Fr:Addr->Prop}{d':D}{v0 x:V}{N M' R:List Addr}(s:Sta G H ob ρ σ S (plus N Fr))(e:ρ[i]? =some (some d0))(b2:σ[i]? =some (some v0))(b3:Foc G H (wn ob S (plus N Fr)) d0 v0 (S i) p d v M)
  (hF:∀a∈N,¬Fr a) (kp:∀b u,H b=some u->b∉M->H' b=some u) (O:∀W',Evo H H' (wn ob S (plus N Fr)) W'->Rep G H' W' d' v M'/\Rep G H' W' res x R) (nd:(M'++R).Nodup) (gr:∀a∈M'++R,a∈M∨a∈N∨H a=none) (Y:clean d'=true) :
  ∃S',Sta G H' ob (ρ.set i (some (gq p d' d0))) σ S' (plus R Fr)/\Rep G H' (wn ob S' (plus R Fr)) res x R/\(∀j,j≠i->S' j=S j)/\(∀a∈S' i,a∈S i∨a∈N∨H a=none)/\(∀a∈R,a∈S i∨a∈N∨H a=none)/\(∀b u,H b=some u->b∉S i->H' b=some u):=by
 obtain⟨A,B,hL,U⟩:=b3.b;have a8:i<ρ.length:=(qb.mp e).1;have a1:∀a∈M,a∈S i:=λa Z=>by rw[hL];simp[Z]
 have a2:∀a∈A++B,a∈S i/\a∉M:=λa Z=>by
  have hn:=s.nd i;rw[hL]at hn;have h1:=Xx.mp hn;have h2:=Xx.mp h1.2.1;rcases W2.mp Z with z|z
  .exact⟨by rw[hL];simp[z],λy=>h1.2.2 a z a (by simp[y]) rfl⟩
  .exact⟨by rw[hL];simp[z],λy=>h2.2.2 a y a z rfl⟩
 have b1:∀a∈M'++R,∀j,j≠i->a∉S j:=λa Z j I z=>by
  rcases gr a Z with y|y|y
  .exact I (s.dj j i a z (a1 a y))
  .exact s.fdj j a (.inl y) z
  .obtain⟨o,ho,_⟩:=s.mu z;rw[y]at ho;cases ho
 have b5:∀a∈M'++R,¬Fr a:=λa Z z=>by
  rcases gr a Z with y|y|y
  .exact s.fdj i a (.inr z) (a1 a y)
  .exact hF a y z
  .obtain⟨o,ho,_⟩:=s.fdm a (.inr z);rw[y]at ho;cases ho
 have a3:∀a∈M'++R,a∉A++B:=λa Z z=>by
  obtain⟨z1,z2⟩:=a2 a z;rcases gr a Z with y|y|y
  .exact z2 y
  .exact s.fdj i a (.inl y) z1
  .obtain⟨o,ho,_⟩:=s.mu z1;rw[y]at ho;cases ho
 let S':=ie S i (A++(M'++B))
 have a5:∀a∈S' i,a∈S i∨a∈N∨H a=none:=λa Z=>by
  have Z:a∈ie S i (A++(M'++B)) i:=Z;rw[dG]at Z;simp![W2]at Z;rcases Z with z|z|z
  .exact .inl (a2 a (Xo _ z)).1
  .exact(gr a (Xo _ z)).imp (a1 a) id
  .exact .inl (a2 a (Xf _ z)).1
 have a6:∀b u,H b=some u->(wn ob S (plus N Fr)).free b->H' b=some u/\(wn ob S' (plus R Fr)).free b:=λb u U f=>by
  have nS:∀j,b∉S j:=λj z=>by
   cases ho:ob j with
   |false=>exact f.2.1 ⟨j,ho,z⟩
   |true=>exact f.2.2 ⟨j,ho,z⟩
  have b0:∀j,b∉S' j:=λj z=>by
   by_cases I:j=i
   .subst I
    rcases a5 b z with y|y|y
    .exact nS j y
    .exact f.1 (.inl y)
    .rw[U]at y;cases y
   .have z:b∈ie S i (A++(M'++B)) j:=z
    rw[dI I]at z;exact nS j z
  refine⟨kp b u U λz=>nS i (a1 b z),λz=>?_,λ⟨j,_,z⟩=>b0 j z,λ⟨j,_,z⟩=>b0 j z⟩;rcases z with z|z
  .rcases gr b (Xf _ z)with y|y|y
   .exact nS i (a1 b y)
   .exact f.1 (.inl y)
   .rw[U]at y;cases y
  .exact f.1 (.inr z)
 have ev:Evo H H' (wn ob S (plus N Fr)) (wn ob S' (plus R Fr)):=⟨a6,λb xs h=>by
  have no:∀u,H b=some u->muO u=false->H' b=some u:=λu hu mu=>kp b u hu λz=>by
   obtain⟨o,ho,J⟩:=s.mu (a1 b z);rw[hu]at ho;cases ho;rw[mu]at J;cases J
  exact no _ h rfl⟩
 obtain⟨r1,r2⟩:=O _ ev;have a7:=Xx.mp nd;refine⟨S',⟨by simp[s.len],λj dj I=>?_,λj I=>?_,λj=>?_,λj k a h1 h2=>?_,λj a h1 h2=>?_,λa Z=>?_⟩,r2,λj I=>dI I,a5,λa Z=>(gr a (Xf _ Z)).imp (a1 a) id,λb u U n=>kp b u U λz=>n (a1 b z)⟩
 .by_cases a0:j=i
  .subst a0
   have:gq p d' d0=dj:=by simpa[a8]using I
   subst this;have b4:clean d0=true:=let⟨_,_,_,h⟩:=s.sl j d0 e;h;refine⟨v0,b2,?_,Ci b4 Y⟩;show Rep G H' _ _ v0 (ie S j (A++(M'++B)) j);rw[dG];exact U H' _ d' M' ev (λc Y u hu=>kp c u hu (a2 c Y).2) r1
  .rw[List.getElem?_set_ne (Ne.symm a0)]at I
   obtain⟨w,F,q,q3⟩:=s.sl j dj I;have a9:=(by simpa[clean]using q3:aA dj=true/\au dj=true);refine⟨w,F,?_,q3⟩;show Rep G H' _ dj w (ie S i (A++(M'++B)) j);rw[dI a0];exact q.mono ev (.inl a9.1) (.inl a9.2) λc Y u hu=>kp c u hu λz=>a0 (s.dj j i c Y (a1 c z))
 .by_cases a0:j=i
  .subst a0
   exact absurd (by simp[a8]) (I (gq p d' d0))
  .show ie S i (A++(M'++B)) j=[]
   rw[dI a0];exact s.em j λd1=>by have:=I d1;rwa[List.getElem?_set_ne (Ne.symm a0)]at this
 .by_cases a0:j=i
  .subst a0
   show(ie S j (A++(M'++B)) j).Nodup;rw[dG];have hn:=s.nd j;rw[hL]at hn;have h1:=Xx.mp hn;have h2:=Xx.mp h1.2.1;refine dm h1.1 (dm a7.1 h2.2.1 λa Z z=>a3 a (Xo _ Z) (Xf _ z)) λa Z z=>?_;rcases W2.mp z with z|z
   .exact a3 a (Xo _ z) (Xo _ Z)
   .exact h1.2.2 a Z a (by simp[z]) rfl
  .show(ie S i (A++(M'++B)) j).Nodup
   rw[dI a0];exact s.nd j
 .have key:∀{j:Nat}{a:Addr},j≠i->a∈S j->a∈S' i->False:=λ{j a} I z1 z2=>by
   have z2:a∈ie S i (A++(M'++B)) i:=z2;rw[dG]at z2;simp![W2]at z2;rcases z2 with z|z|z
   .exact I (s.dj j i a z1 (a2 a (Xo _ z)).1)
   .exact b1 a (Xo _ z) j I z1
   .exact I (s.dj j i a z1 (a2 a (Xf _ z)).1)
  by_cases a0:j=i<;>by_cases a4:k=i
  .rw[a0,a4]
  .subst a0
   have h2:a∈ie S j (A++(M'++B)) k:=h2;rw[dI a4]at h2;exact(key a4 h2 h1).elim
  .subst a4
   have h1:a∈ie S k (A++(M'++B)) j:=h1;rw[dI a0]at h1;exact(key a0 h1 h2).elim
  .have h1:a∈ie S i (A++(M'++B)) j:=h1
   have h2:a∈ie S i (A++(M'++B)) k:=h2;rw[dI a0]at h1;rw[dI a4]at h2;exact s.dj j k a h1 h2
 .by_cases a0:j=i
  .subst a0
   have h2:a∈ie S j (A++(M'++B)) j:=h2;rw[dG]at h2;simp![W2]at h2;rcases h1 with h1|h1
   .rcases h2 with z|z|z
    .exact a3 a (Xf _ h1) (Xo _ z)
    .exact a7.2.2 a z a h1 rfl
    .exact a3 a (Xf _ h1) (Xf _ z)
   .rcases h2 with z|z|z
    .exact s.fdj j a (.inr h1) (a2 a (Xo _ z)).1
    .exact b5 a (Xo _ z) h1
    .exact s.fdj j a (.inr h1) (a2 a (Xf _ z)).1
  .have h2:a∈ie S i (A++(M'++B)) j:=h2
   rw[dI a0]at h2;rcases h1 with h1|h1
   .exact b1 a (Xf _ h1) j a0 h2
   .exact s.fdj j a (.inr h1) h2
 .rcases Z with Z|Z
  .exact r2.dom a Z
  .obtain⟨o,ho,J⟩:=s.fdm a (.inr Z)
   exact⟨o,kp a o ho λz=>s.fdj i a (.inr Z) (a1 a z),J⟩
section
variable{ι:Type}{X:ι->Cx}{G:Gc}{ob P:Nat->Bool}
theorem zX{G:Gc}{r:V->List V->Hp->VK->Prop}{op:D->List D->Option (D×D)}{H:Hp}{ρ:En}{σ:L2.St}{S:Ad}{Fr:Addr->Prop}{i:Nat}{p:List Nat}{d0 d d' res:D}{v v0:V}{M N:List Addr}{es:List D}{xs:List V}(J:MuV G r op)(s:Sta G H ob ρ σ S (plus N Fr))(e:ρ[i]? =some (some d0))(a3:σ[i]? =some (some v0))(F:gk p d0=some d)
  (Y:Foc G H (wn ob S (plus N Fr)) d0 v0 (S i) p d v M) (re:aD G H (wn ob S (plus N Fr)) es xs N) (nd:N.Nodup) (hF:∀a∈N,¬Fr a) (c1:az es=true) (I:aB es=true) (h:op d es=some (d',res)) {Q:VK}
  (q:∀x H' R S',Sta G H' ob (ρ.set i (some (gq p d' d0))) σ S' (plus R Fr)->Rep G H' (wn ob S' (plus R Fr)) res x R->R.Nodup->clean res=true->(∀j,j≠i->S' j=S j)->(∀a∈S' i,a∈S i∨a∈N∨H a=none)->(∀a∈R,a∈S i∨a∈N∨H a=none)->(∀b u,H b=some u->b∉S i->H' b=some u)->Q x H'):r v xs H Q:=by
 have U:Zn M (S i):=by
  obtain⟨A,B,hL,_⟩:=Y.b;rw[hL];exact(aay M B).trans (Zq A _)
 have a1:clean d0=true:=let⟨_,_,_,h⟩:=s.sl i d0 e;h;refine J d es d' res h v xs H _ M N Y.r re (dm (U.nodup (s.nd i)) nd λa h1 h2=>s.fdj i a (.inl h2) (U.subset h1)) (λa Z f=>?_) (qz a1 F) c1 I Q λx H' M' R kp O a0 gr a2 a4=>?_
 .cases ho:ob i with
  |false=>exact f.2.1 ⟨i,ho,U.subset Z⟩
  |true=>exact f.2.2 ⟨i,ho,U.subset Z⟩
 .obtain⟨S',q1,q2,q3,q4,q5,q6⟩:=s.mut e a3 Y hF kp O a0 gr a2
  exact q x H' R S' q1 q2 (Xx.mp a0).2.1 a4 q3 q4 q5 q6
def upS(op:D->List D->Option (D×D))(i:Nat)(p:List Nat)(es:List D)(ρ:En):Option (D×En):=match ρ[i]? with
 |some (some d0)=>(gk p d0).bind λd=>if az es=true/\aB es=true then(op d es).map λq=>(q.2,ρ.set i (some (gq p q.1 d0)))else none
 |_=>none
theorem J3{op:D->List D->Option (D×D)}{i:Nat}{p:List Nat}{es:List D}{ρ F:En}{res:D}(h:upS op i p es ρ=some (res,F)):∃d0 d d',ρ[i]? =some (some d0)/\gk p d0=some d/\az es=true/\aB es=true/\op d es=some (d',res)/\F=ρ.set i (some (gq p d' d0)):=by
 unfold upS at h;split at h
 .rename_i d0 h1
  cases h2:gk p d0 with
  |none=>simp[h2]at h
  |some d=>
   by_cases Y:az es=true/\aB es=true
   .cases h3:op d es with
    |none=>simp[h2,Y,h3]at h
    |some q=>
     obtain⟨d',B⟩:=q;obtain⟨rfl,rfl⟩:B=res/\ρ.set i (some (gq p d' d0))=F:=by simpa[h2,Y,h3]using h
     exact⟨d0,d,d',h1,h2,Y.1,Y.2,h3,rfl⟩
   .simp[h2,Y]at h
 .cases h
def oK(op:D->List D->Option (D×D))(i:Nat)(pf:En->Option (List Nat))(f:En->Option (List D)):En->Option (D×En):=λρ=>(pf ρ).bind λp=>(f ρ).bind λes=>upS op i p es ρ
def km(op:D->List D->Option (D×D))(i:Nat)(pf:En->Option (List Nat))(f:En->Option (List D)):En->Option Fl:=λρ=>(oK op i pf f ρ).map λq=>.nx q.2
def Ij(G:Gc)(T:String)(op:D->List D->Option (D×D)):Prop:=∀d es q,op d es=some q->∀(v:V)(H:Hp)(W:Wn)(L:List Addr),Rep G H W d v L->tyV G.K T v H
theorem Jz{T:String}{r:V->List V->Hp->VK->Prop}{op:D->List D->Option (D×D)}{to:TE}{t:TA}{i:Nat}{pf:En->Option (List Nat)}{f:En->Option (List D)}(J:MuV G r op)(ht:Ij G T op)(ho:RfP G ob to i pf)(Z:RfA G ob t f){ρ F:En}{res:D}(e:oK op i pf f ρ=some (res,F))
  {σ:L2.St} {H:Hp} {S:Ad} {Fr:Addr->Prop} (s:Sta G H ob ρ σ S Fr) {Q:VK}
  (q:∀x H' R S',Sta G H' ob F σ S' (plus R Fr)->Rep G H' (wn ob S' (plus R Fr)) res x R->R.Nodup->clean res=true->(∀j,j≠i->S' j=S j)->(∀a∈S' i,a∈S i∨H a=none)->(∀a∈R,a∈S i∨H a=none)->(∀b u,H b=some u->b∉S i->H' b=some u)->Q x H'):tBM G.K T r to t σ H Q:=by
 unfold oK at e;cases h1:pf ρ with
 |none=>simp[h1]at e
 |some p=>
  cases h2:f ρ with
  |none=>simp[h1,h2]at e
  |some es=>
   have e:upS op i p es ρ=some (res,F):=by simpa[h1,h2]using e
   obtain⟨d0,d,d',g1,g2,c1,I,g3,rfl⟩:=J3 e;obtain⟨a4,dd,k1,k2,k3⟩:=ho ρ p h1 σ H S Fr s;rw[g1]at k1;cases k1;rw[g2]at k2;cases k2;refine k3 _ λv v0 H1 M B a2 a0=>⟨ht d es _ g3 v H1 _ M a0.r,?_⟩;have O:Sta G H1 ob ρ σ S Fr:=s.grow B λa z=>.inl z;refine Z ρ es h2 σ H1 _ O.rel O.wok _ λxs H2 N Y re fr nd=>?_;have a3:Sta G H2 ob ρ σ S (plus N Fr):=O.grow Y λa z=>z.elim (λz=>.inr ⟨fr a z,re.dom a z⟩) .inl;have up:Up H1 H2 (wn ob S Fr) (wn ob S (plus N Fr)):=Up.add Y fr;have a1:=a0.mono (.inr up) up.evo λc _ u hu=>Y c u hu;have hF:∀a∈N,¬Fr a:=λa Z z=>by
    obtain⟨o,ho,_⟩:=O.fdm a z;rw[fr a Z]at ho;cases ho
   have nf:∀{a},a∈S i∨a∈N∨H2 a=none->a∈S i∨H a=none:=λ{a} z=>z.imp id λz=>z.elim (λz=>B.none' (fr a z)) λz=>(B.trans Y).none' z;exact zX J a3 g1 a2 g2 a1 re nd hF c1 I g3 λx H' R S' q1 q2 q3 q4 q5 q6 q7 q8=>q x H' R S' q1 q2 q3 q4 q5 (λa Z=>nf (q6 a Z)) (λa Z=>nf (q7 a Z)) λb u U n=>q8 b u ((B.trans Y) b u U) n
theorem Om{T:String}{r:V->List V->Hp->VK->Prop}{op:D->List D->Option (D×D)}{to:TE}{t:TA}{i:Nat}{pf:En->Option (List Nat)}{f:En->Option (List D)}(J:MuV G r op)(ht:Ij G T op)(N:RfP G ob to i pf)(Z:RfA G ob t f):RfS G ob P (Rr (tBM G.K T r to t)) (km op i pf f):=λρ r e σ H S Fr s E q=>by
 unfold km at e;cases h1:oK op i pf f ρ with
 |none=>simp[h1]at e
 |some p=>
  obtain⟨res,F⟩:=p;have:Fl.nx F=r:=by simpa[h1]using e
  subst this;refine Jz J ht N Z h1 s λx H' R S' q1 q2 Y q4 O q6 B q8=>q σ H' S' (q1.lessF λa z=>.inr z) ⟨λb u U n _=>q8 b u U λz=>n ⟨i,z⟩,λj a z=>?_,.refl⟩;by_cases I:j=i
  .subst I;exact(q6 a z).imp (λz=>⟨j,z⟩) .inr
  .rw[O j I]at z;exact .inl ⟨j,z⟩
theorem Qw{T:String}{r:V->List V->Hp->VK->Prop}{op:D->List D->Option (D×D)}{to:TE}{t:TA}{i:Nat}{pf:En->Option (List Nat)}{f:En->Option (List D)}(O:ob i=true)(J:MuV G r op)(ht:Ij G T op)(N:RfP G ob to i pf)(Z:RfA G ob t f):kj G ob (tBM G.K T r to t) (oK op i pf f):=λρ d F e σ H S Fr s Q q=>by
 refine Jz J ht N Z e s λx H' R S' q1 q2 Y q4 q5 q6 q7 q8=>q x H' R S' q1 q2 Y ⟨λb u U n=>q8 b u U λz=>n ⟨i,O,z⟩,λj I=>q5 j (λz=>by rw[z,O]at I;cases I),λj a I z=>?_,λa Z=>(q7 a Z).imp (λz=>⟨i,O,z⟩) id⟩;by_cases B:j=i
 .subst B;exact(q6 a z).imp (λz=>⟨j,O,z⟩) id
 .rw[q5 j B]at z;exact .inl ⟨j,I,z⟩
structure MuB{ι:Type}(X:ι->Cx)(G:Gc)(T id:String)(op:D->List D->Option (D×D)):Prop where
 ex:∃r,(∀c,MtR (X c) id r)/\MuV G r op/\Ij G T op
section
variable{T name id:String}{op:D->List D->Option (D×D)}{o e:Expr}{es:List Expr}{apos cpos pos:Pos}{i:Nat}{pf:En->Option (List Nat)}
theorem jX{U:Str}(m:MuB X G T id op)(Y:adT T)(slot:Slot T U id)(J:typeOf (.builtin id)=pure (.type "method_descriptor")){f:En->Option (List D)}(N:PVP X G ob o i pf)(Z:PVA X G ob (e::es) f)(O:∀c,aaI (.Call (.Attribute o U apos) (e::es) [] cpos) none pos.line (X c).env=pure false:=by intro _;rfl)(q:∀c,aa1 o U (X c).env (eval o (X c).env)=eval o (X c).env:=by intro _;rfl)(F:∀c,((ZK cpos (Xy (e::es) (X c).env)).all (λx=>!x.1)&&(backToKw cpos (adq [] (X c).env)).all (λx=>x.1.isSome)
  &&decide ((e::es).length+([]:List acb).length+(if([]:List acb).isEmpty then 0 else 1)<30))=true:=by intro _;rfl) (B:(apos.endLine==cpos.line)=true:=by rfl) (hs:∀c,Xy (e::es) (X c).env=(false,eval e (X c).env)::Xy es (X c).env:=by intro _;rfl) (V:∀c,(ZK cpos (Xy es (X c).env)).any (·.1)=false:=by intro _;rfl) (I:∀c,(X c).K=G.K:=by intro _;rfl) :
 PVS X G ob P (.Expr (.Call (.Attribute o U apos) (e::es) [] cpos) pos) (km op i pf f):=let⟨r,m1,m2,m3⟩:=m.ex;let⟨t,a1,a2⟩:=N.ex;let⟨u,b1,b2⟩:=Z.ex;⟨_,λc=>(by rw[←I c];exact N6 (K5 Y slot J (m1 c) (a1 c) (b1 c) (q c) (F c) B (hs c) (V c)) (O c)),Om m2 m3 a2 b2⟩
theorem Pa{U:Str}(m:MuB X G T id op)(Y:adT T)(slot:Slot T U id)(J:typeOf (.builtin id)=pure (.type "method_descriptor")){f:En->Option (List D)}(N:PVP X G ob o i pf)(Z:PVA X G ob (e::es) f)(O:ob i=true:=by rfl)(q:∀c,aa1 o U (X c).env (eval o (X c).env)=eval o (X c).env:=by intro _;rfl)(F:∀c,((ZK cpos (Xy (e::es) (X c).env)).all (λx=>!x.1)&&(backToKw cpos (adq [] (X c).env)).all (λx=>x.1.isSome)
  &&decide ((e::es).length+([]:List acb).length+(if([]:List acb).isEmpty then 0 else 1)<30))=true:=by intro _;rfl) (B:(apos.endLine==cpos.line)=true:=by rfl) (hs:∀c,Xy (e::es) (X c).env=(false,eval e (X c).env)::Xy es (X c).env:=by intro _;rfl) (V:∀c,(ZK cpos (Xy es (X c).env)).any (·.1)=false:=by intro _;rfl) (I:∀c,(X c).K=G.K:=by intro _;rfl) :
 PVe X G ob (.Call (.Attribute o U apos) (e::es) [] cpos) (oK op i pf f):=let⟨r,m1,m2,m3⟩:=m.ex;let⟨t,a1,a2⟩:=N.ex;let⟨u,b1,b2⟩:=Z.ex;⟨_,λc=>(by rw[←I c];exact K5 Y slot J (m1 c) (a1 c) (b1 c) (q c) (F c) B (hs c) (V c)),Qw O m2 m3 a2 b2⟩
end
structure MuT{ι:Type}(X:ι->Cx)(G:Gc)(op:D->List D->Option (D×D)):Prop where
 ex:∃t:HH,(∀c,Oi (X c) t)/\MuV G (λo xs H Q=>∃i v,xs=[i,v]/\t o i v H λH'=>Q .non H') op
def jZ(op:D->List D->Option (D×D))(i:Nat)(pf:En->Option (List Nat))(fk:En->Option D):D->En->Option En:=λd ρ=>(pf ρ).bind λp=>(fk ρ).bind λk=>(upS op i p [k,d] ρ).map λq=>q.2
theorem P_{t:HH}{op:D->List D->Option (D×D)}{to ti:TE}{i:Nat}{pf:En->Option (List Nat)}{fk:En->Option D}(J:MuV G (λo xs H Q=>∃i v,xs=[i,v]/\t o i v H λH'=>Q .non H') op)(ho:RfP G ob to i pf)(hi:RfE G ob ti fk):RfG G ob P (gm to ti t) (jZ op i pf fk):=λd ρ F e v σ H S M Fr s r nd hF Q q=>by
 unfold jZ at e;cases h1:pf ρ with
 |none=>simp[h1]at e
 |some p=>
  cases h2:fk ρ with
  |none=>simp[h1,h2]at e
  |some k=>
   cases O:upS op i p [k,d] ρ with
   |none=>simp[h1,h2,O]at e
   |some w=>
    obtain⟨res,ρ1⟩:=w;obtain rfl:ρ1=F:=by simpa[h1,h2,O]using e
    obtain⟨d0,dd,d',g1,g2,c1,I,g3,rfl⟩:=J3 O;obtain⟨b1,b0,k1,k2,k3⟩:=ho ρ p h1 σ H S (plus M Fr) s;rw[g1]at k1;cases k1;rw[g2]at k2;cases k2;refine k3 _ λo v0 H1 M1 B a3 a5=>?_;have a0:Sta G H1 ob ρ σ S (plus M Fr):=s.grow B λa z=>.inl z;refine hi ρ k h2 σ H1 _ a0.rel a0.wok _ λy H2 N Y ry fr nN=>?_;have a4:Sta G H2 ob ρ σ S (plus (N++M) Fr):=a0.grow Y λa z=>z.elim (λz=>(W2.mp z).elim (λz=>.inr ⟨fr a z,ry.dom a z⟩) λz=>.inl (.inl z)) λz=>.inl (.inr z);have up:Up H1 H2 (wn ob S (plus M Fr)) (wn ob S (plus (N++M) Fr)):=⟨Y,λb u U f=>⟨λz=>z.elim (λz=>(W2.mp z).elim (λz=>by rw[fr b z]at U;cases U) λz=>f.1 (.inl z)) λz=>f.1 (.inr z),f.2⟩,λ_ _ _ f=>f⟩;have a6:Up H H2 (wn ob S (plus M Fr)) (wn ob S (plus (N++M) Fr)):=(Up.same B).trans up;have a1:=a5.mono (.inr up) up.evo λc _ u V=>Y c u V;have a2:(wn ob S (plus M Fr)).add N=wn ob S (plus (N++M) Fr):=by
     show Wn.mk _ _ _=Wn.mk _ _ _;congr 1;funext a;simp![plus,W2,eq_iff_iff,or_assoc];constructor
     .rintro(z|z)
      .exact .inl z
      .exact .inr z
     .rintro(z|z)
      .exact .inl z
      .exact .inr z
    rw[a2]at ry;have a8:∀a∈N,a∉M:=λa h1 h2=>by
     obtain⟨o,ho,_⟩:=r.dom a h2;rw[B.none' (fr a h1)]at ho;cases ho
    have re:aD G H2 (wn ob S (plus (N++M) Fr)) [k,d] [y,v] (N++M):=.cons ry (.one (r.up a6));have a7:∀a∈N++M,¬Fr a:=λa Z z=>by
     rcases W2.mp Z with y|y
     .obtain⟨o,ho,_⟩:=a0.fdm a (.inr z)
      rw[fr a y]at ho;cases ho
     .exact hF a y z
    have a9:=zX J a4 g1 a3 g2 a1 re (dm nN nd a8) a7 c1 I g3 (Q:=λ_ H'=>Q σ H') λx H' R S' q1 q2 q3 q4 q5 q6 q7 q8=>q σ H' S' (q1.lessF λa z=>.inr z) ⟨λb u U n m=>?_,λj a z=>?_,.refl⟩
    .obtain⟨i1,v1,e1,k⟩:=a9
     cases e1;exact k
    .exact q8 b u ((B.trans Y) b u U) λz=>n ⟨i,z⟩
    .by_cases hj:j=i
     .subst hj
      rcases q6 a z with y|y|y
      .exact .inl ⟨j,y⟩
      .exact(W2.mp y).elim (λy=>.inr (.inr (B.none' (fr a y)))) λy=>.inr (.inl y)
      .exact .inr (.inr ((B.trans Y).none' y))
     .rw[q5 j hj]at z;exact .inl ⟨j,z⟩
theorem nP{op:D->List D->Option (D×D)}{o k:Expr}{pos:Pos}{i:Nat}{pf:En->Option (List Nat)}{fk:En->Option D}(m:MuT X G op)(N:PVP X G ob o i pf)(B:PV X G ob k fk)(Z:∀c,∀v,abf (.Subscript o k pos) (X c).env v=(do
 let ov ←aaS [v] (eval o (X c).env)
 let iv ←aaS [v,ov] (eval k (X c).env)
 standAt pos
 aaS [v,ov,iv] (setItem ov iv v)
 release [v,ov,iv] []):=by intro _;intro _;rfl):PVG X G ob P (.Subscript o k pos) (jZ op i pf fk):=let⟨t,m1,m2⟩:=m.ex;let⟨_,a1,a2⟩:=N.ex;let⟨_,b1,b2⟩:=B.ex;⟨_,λc=>SN (a1 c) (b1 c) (m1 c) (Z c),P_ m2 a2 b2⟩
theorem pL{G:Gc}{H:Hp}{W:Wn}:Rep G H W .non .non []:=by rw[Rep];exact⟨rfl,rfl⟩
theorem rF{ds:List D}(h1:az ds=true)(h2:aB ds=true):clean (.lst .own ds)=true:=by simp[clean,aA,au,h1,h2]
theorem Ej{G:Gc}{H:Hp}{W W':Wn}{a:Addr}{xs:List V}{ds:List D}{M:List Addr}{ys:List V}(O:aD G H W ds xs M)(q:az ds=true)(B:aB ds=true)(hn:a∉M)(I:Evo H (upd H a (.lst ys)) W W'):aD G (upd H a (.lst ys)) W' ds xs M:=
 O.mono I (.inl q) (.inl B) λc Y u F=>by rw[aJ (show c≠a from λz=>hn (z▸Y))];exact F
def bj:D->List D->Option (D×D)
 |.lst .own ds,[e]=>if ds.length<1000000 then some (.lst .own (ds++[e]),.non)else none
 |_,_=>none
theorem Nq{n:Nat}(h:n<1000000):n<Xp:=XC h 1.27
theorem BR{G:Gc}:MuV G Gd bj:=λd es d' res h v xs H W M N r re nd hM Y B I Q q=>by
 unfold bj at h;split at h
 .rename_i ds e
  split at h
  .rename_i hl
   cases h;rw[Rep]at r;obtain⟨a,ys,M0,rfl,O,Z,rfl⟩:=r;obtain⟨x,zs,N1,N2,rfl,rfl,J,hz⟩:=re.inv;obtain⟨rfl,rfl⟩:=hz.inv0;rw[XJ]at nd re;obtain⟨F,k2⟩:=m6 Y;have a0:=Xx.mp nd;have hn:=Yo.mp a0.1;have a1:a∉N1:=λz=>a0.2.2 a (by simp) a z rfl;simp![az,aB,XR]at B I;refine⟨a,ys,x,rfl,rfl,Z,Nq (by rw[←O.length];exact hl),q .non _ (a::(M0++N1)) [] (λb u U n=>by rw[aJ (show b≠a from λz=>n (by rw[z];simp))];exact U) (λW' ev=>⟨?_,pL⟩) ?_ (λb U=>?_) (rF (by rw[jK];simp[F,az,B]) (by rw[jB];simp[k2,aB,I])) rfl⟩
   .rw[Rep]
    refine⟨a,ys++[x],M0++N1,rfl,(Ej O F k2 hn.1 ev).append (.one (J.mono ev (.inl B.1) (.inl I.1) λc Y u V=>?_)),aN,rfl⟩;rw[aJ (show c≠a from λz=>a1 (z▸Y))];exact V
   .rw[XJ]
    exact nd
   .rw[XJ]at U
    rcases Xj.mp U with z|z
    .exact .inl (by simp[z])
    .rcases W2.mp z with z|z
     .exact .inl (by simp[z])
     .exact .inr (.inl (by simp[z]))
  .cases h
 .cases h
theorem Jr{T:String}{op:D->List D->Option (D×D)}(I:T="list")(h:∀d es q,op d es=some q->∃m ds,d= .lst m ds):Ij G T op:=λd es q e v H W L r=>by
 obtain⟨m,ds,rfl⟩:=h d es q e;rw[Rep]at r;obtain⟨a,xs,M,rfl,O,hs⟩:=r;exact .inl ⟨I,xs,hs.sq⟩
theorem iR:MuB X G "list" "list.append" bj:=⟨_,λc=>Hd,BR,Jr rfl λd es q e=>by
 unfold bj at e;split at e
 .exact⟨_,_,rfl⟩
 .cases e⟩
def gG(ks:List Key)(ds:List D)(k:Key)(v:D):List Key×List D:=match eY ks k with
 |some j=>(ks,ds.set j v)
 |none=>(ks++[k],ds++[v])
def dZ:D->List D->Option (D×D)
 |.lst .own ds,[.int k,v]=>(ixN ds.length k).map λj=>(.lst .own (ds.set j v),.non)
 |.dct .own ks ds,[k,v]=>(d9 k).bind λk=>if ks.length<1000000 then some (.dct .own (gG ks ds k v).1 (gG ks ds k v).2,.non)else none
 |_,_=>none
def QZ:HH:=λo i v H Q=>QX o i v H Q∨∃a H',o= .ref a/\Im H a i v H'/\Q H'
theorem QC{Y:Cx}(V:Y.A.units+1<cLine):Oi Y QZ:=by
 intro pins s σ H o i v ov U u Q I N F J h;rcases h with h|⟨a,H',rfl,g,q⟩
 .exact set_list pins s σ H o i v ov U u Q I N F J h
 .cases N
  exact Ii V I g F J λZ B=>⟨H',B,q⟩
theorem aD.set{G:Gc}{H:Hp}{W:Wn}{ds:List D}{xs:List V}{L:List Addr}{j:Nat}{c d':D}{y:V}{M':List Addr}(O:aD G H W ds xs L)(e:ds[j]? =some c)(F:Rep G H W d' y M'):∃A M B,L=A++(M++B)/\aD G H W (ds.set j d') (xs.set j y) (A++(M'++B)):=by
 obtain⟨P,Q,x,ys,zs,J,I,Y,rfl,q,rfl,Z,rfl,h1,h2,N⟩:=O.at e;refine⟨J,I,Y,rfl,?_⟩;rw[←q,abW _ _ (Xn _),aax];rw[show P.length=ys.length by omega,abW _ _ (Xn _),aax];exact aD.append h1 (aD.cons F N)
theorem lu{ds:List D}{j:Nat}{x:D}(h:az ds=true)(J:aA x=true):az (ds.set j x)=true:=by
 induction ds generalizing j with
 |nil=>simpa using h
 |cons y r U=>
  simp![az,XR]at h;cases j with
  |zero=>simp[az,J,h]
  |succ j=>simp![YC,az,XR];exact⟨h.1,U h.2⟩
theorem lA{ds:List D}{j:Nat}{x:D}(h:aB ds=true)(J:au x=true):aB (ds.set j x)=true:=by
 induction ds generalizing j with
 |nil=>simpa using h
 |cons y r U=>
  simp![aB,XR]at h;cases j with
  |zero=>simp[aB,J,h]
  |succ j=>simp![YC,aB,XR];exact⟨h.1,U h.2⟩
theorem Tp{n:Nat}{k:Int}{j:Nat}(h:ixN n k=some j):j<n:=by
 unfold ixN at h;split at h
 .split at h
  .cases h;omega
  .cases h
 .split at h
  .cases h;omega
  .cases h
theorem t6{ks:List Key}{k:Key}{j:Nat}(h:eY ks k=some j):j<ks.length:=(Ym.mp h).1
theorem Ar:∀{kvs:List (Key×V)}{k:Key}{j:Nat}{v:V},eY (kvs.map (·.1)) k=some j->(kvs.map (·.1)).Nodup->(putK kvs k v).map (·.1)=kvs.map (·.1)/\(putK kvs k v).map (·.2)=(kvs.map (·.2)).set j v:=by
 intro kvs k j v h n;have I:=Ym.mp h;obtain⟨Z,B,_⟩:=I;have J:j<kvs.length:=by simpa using Z
 have q:kvs[j].1=k:=by simpa using B
 have F:(kvs.any λN=>decide (N.1=k))=true:=acZ.mpr ⟨kvs[j],ZW _,by simpa using q⟩;unfold putK;rw[Xu F];constructor
 .rw[Xh]
  apply XM;intro p _;simp![YG];split<;>rfl
 .apply abv
  intro i;rw[Xh,List.getElem?_map];by_cases O:j=i
  .subst O
   rw[Zo (by simpa using J)];simp[J,q]
  .rw[List.getElem?_set_ne O,List.getElem?_map]
   cases e:kvs[i]? with
   |none=>rfl
   |some p=>
    have a0:i<kvs.length:=(qb.mp e).1;have U:kvs[i]=p:=(qb.mp e).2;have Y:p.1≠k:=λz=>by
     have e1:(kvs.map (·.1))[i]? =(kvs.map (·.1))[j]?:=by
      rw[List.getElem?_map,List.getElem?_map,e,Xk J];simp[z,q]
     exact O ((acF (by simpa using a0) n).mp e1).symm
    simp[Y]
theorem mV{kvs:List (Key×V)}{k:Key}{v:V}(h:eY (kvs.map (·.1)) k=none):putK kvs k v=kvs++[(k,v)]:=by
 unfold putK;rw[Xz];intro z;obtain⟨p,F,e⟩:=acZ.mp z;have:=Zr.mp h p.1 (zc.mpr ⟨p,F,rfl⟩);simp at this e;exact this e
theorem ug{ks:List Key}{k:Key}(h:eY ks k=none):k∉ks:=λz=>by
 have:=Zr.mp h k z;simp at this
theorem O_{G:Gc}:MuV G (λo xs H Q=>∃i v,xs=[i,v]/\QZ o i v H λH'=>Q .non H') dZ:=λd es d' res h v xs H W M N r re nd hM Y c1 c2 Q q=>by
 unfold dZ at h;split at h
 .rename_i ds k e
  cases I:ixN ds.length k with
  |none=>simp[I]at h
  |some j=>
   obtain⟨rfl,rfl⟩:D.lst .own (ds.set j e)=d'/\D.non=res:=by simpa[I]using h
   rw[Rep]at r;obtain⟨a,ys,M0,rfl,O,Z,rfl⟩:=r;obtain⟨x1,zs,N1,N2,rfl,rfl,a2,hz⟩:=re.inv;obtain⟨x,zs,N3,N4,rfl,rfl,J,hz⟩:=hz.inv;obtain⟨rfl,rfl⟩:=hz.inv0;rw[Rep]at a2;obtain⟨rfl,rfl⟩:=a2;rw[XJ,List.nil_append]at nd re;obtain⟨F,k2⟩:=m6 Y;have a1:=Xx.mp nd;have hn:=Yo.mp a1.1;have a3:a∉N3:=λz=>a1.2.2 a (by simp) a z rfl;simp![az,aB,XR]at c1 c2;have a6:=Tp I;obtain⟨A,M1,B,a8,a5⟩:=O.set (Xk a6) J;have a0:Zn (A++B) M0:=by rw[a8];exact(aao A).append (Zq M1 B)
   refine⟨_,_,rfl,.inl ⟨a,ys,k,j,rfl,rfl,Z,by rw[←O.length];exact I,q .non _ (a::(A++(N3++B))) [] (λb u U n=>by rw[aJ (show b≠a from λz=>n (by rw[z];simp))];exact U) (λW' ev=>⟨?_,pL⟩) ?_ (λb U=>?_) (rF (lu F c1.2.1) (lA k2 c2.2.1)) rfl⟩⟩
   .rw[Rep]
    refine⟨a,_,A++(N3++B),rfl,?_,aN,rfl⟩;refine a5.mono ev (.inl (lu F c1.2.1)) (.inl (lA k2 c2.2.1)) λc Y u V=>?_;rw[aJ (show c≠a from λz=>?_)]
    .exact V
    .subst z
     simp![W2]at Y;rcases Y with y|y|y
     .exact hn.1 (a0.subset (by simp[y]))
     .exact a3 y
     .exact hn.1 (a0.subset (by simp[y]))
   .rw[XJ]
    have n2:=a0.nodup hn.2;have n3:=Xx.mp n2;have a4:∀z∈N3,z∉A++B:=λz h1 h2=>a1.2.2 z (XQ _ (a0.subset h2)) z h1 rfl;refine List.nodup_cons.mpr ⟨λy=>?_,dm n3.1 (dm a1.2.1 n3.2.1 λz h1 h2=>a4 z h1 (by simp[h2])) λz h1 h2=>?_⟩
    .simp![W2]at y
     rcases y with y|y|y
     .exact hn.1 (a0.subset (by simp[y]))
     .exact a3 y
     .exact hn.1 (a0.subset (by simp[y]))
    .rcases W2.mp h2 with y|y
     .exact a4 z y (by simp[h1])
     .exact n3.2.2 z h1 z y rfl
   .rw[XJ]at U
    rcases Xj.mp U with z|z
    .exact .inl (by simp[z])
    .simp![W2]at z
     rcases z with z|z|z
     .exact .inl (XQ _ (a0.subset (by simp[z])))
     .exact .inr (.inl (by simp[z]))
     .exact .inl (XQ _ (a0.subset (by simp[z])))
 .rename_i ks ds k0 e
  cases hk:d9 k0 with
  |none=>simp[hk]at h
  |some k=>
   rw[hk]at h;simp![Mx]at h;split at h
   .rename_i hl
    cases h;rw[Rep]at r;obtain⟨a,kvs,M0,rfl,⟨rfl,a7⟩,O,Z,rfl⟩:=r;obtain⟨x1,zs,N1,N2,rfl,rfl,a2,hz⟩:=re.inv;obtain⟨x,zs,N3,N4,rfl,rfl,J,hz⟩:=hz.inv;obtain⟨rfl,rfl⟩:=hz.inv0;have a9:=mR a2 hk;subst a9;have b0:N1=[]:=by
     cases k0<;>simp[d9]at hk<;>rw[Rep]at a2<;>exact a2.2
    subst b0;rw[XJ,List.nil_append]at nd re;have F:az ds=true/\aB ds=true:=by simp[clean,aA,au]at Y;exact Y
    have a1:=Xx.mp nd;have hn:=Yo.mp a1.1;have a3:a∉N3:=λz=>a1.2.2 a (by simp) a z rfl;simp![az,aB,XR]at c1 c2;have b1:kvs.length<Xp:=Nq (by simpa using hl);refine⟨_,_,rfl,.inr ⟨a,_,rfl,Im.k (k:=k) Z b1,?_⟩⟩;cases I:eY (kvs.map (·.1)) k with
    |some j=>
     have a6:j<ds.length:=by rw[O.length];simpa using t6 I
     obtain⟨A,M1,B,a8,a5⟩:=O.set (Xk a6) J;obtain⟨p1,p2⟩:=Ar (v:=x) I a7;have a0:Zn (A++B) M0:=by rw[a8];exact(aao A).append (Zq M1 B)
     refine q .non _ (a::(A++(N3++B))) [] (λb u U n=>by rw[aJ (show b≠a from λz=>n (by rw[z];simp))];exact U) (λW' ev=>⟨?_,pL⟩) ?_ (λb U=>?_) ?_ rfl
     .simp![gG,I]
      rw[Rep];refine⟨a,_,A++(N3++B),rfl,⟨p1,a7⟩,?_,aN,rfl⟩;rw[p2];refine a5.mono ev (.inl (lu F.1 c1.2.1)) (.inl (lA F.2 c2.2.1)) λc Y u V=>?_;rw[aJ (show c≠a from λz=>?_)]
      .exact V
      .subst z
       simp![W2]at Y;rcases Y with y|y|y
       .exact hn.1 (a0.subset (by simp[y]))
       .exact a3 y
       .exact hn.1 (a0.subset (by simp[y]))
     .rw[XJ]
      have n2:=a0.nodup hn.2;have n3:=Xx.mp n2;have a4:∀z∈N3,z∉A++B:=λz h1 h2=>a1.2.2 z (XQ _ (a0.subset h2)) z h1 rfl;refine List.nodup_cons.mpr ⟨λy=>?_,dm n3.1 (dm a1.2.1 n3.2.1 λz h1 h2=>a4 z h1 (by simp[h2])) λz h1 h2=>?_⟩
      .simp![W2]at y
       rcases y with y|y|y
       .exact hn.1 (a0.subset (by simp[y]))
       .exact a3 y
       .exact hn.1 (a0.subset (by simp[y]))
      .rcases W2.mp h2 with y|y
       .exact a4 z y (by simp[h1])
       .exact n3.2.2 z h1 z y rfl
     .rw[XJ]at U
      rcases Xj.mp U with z|z
      .exact .inl (by simp[z])
      .simp![W2]at z
       rcases z with z|z|z
       .exact .inl (XQ _ (a0.subset (by simp[z])))
       .exact .inr (.inl (by simp[z]))
       .exact .inl (XQ _ (a0.subset (by simp[z])))
     .simp[gG,I,clean,aA,au,lu F.1 c1.2.1,lA F.2 c2.2.1]
    |none=>
     rw[mV I];refine q .non _ (a::(M0++N3)) [] (λb u U n=>by rw[aJ (show b≠a from λz=>n (by rw[z];simp))];exact U) (λW' ev=>⟨?_,pL⟩) ?_ (λb U=>?_) ?_ rfl
     .simp![gG,I]
      rw[Rep];refine⟨a,_,M0++N3,rfl,⟨by simp,?_⟩,?_,aN,rfl⟩
      .exact Xx.mpr ⟨a7,by simp,λy hy z hz=>by
        have:z=k:=by simpa using hz
        subst this;exact λe=>ug I (e▸hy)⟩
      .rw[X4]
       refine(O.mono ev (.inl F.1) (.inl F.2) λc Y u V=>?_).append (.one (J.mono ev (.inl c1.2.1) (.inl c2.2.1) λc Y u V=>?_))
       .rw[aJ (show c≠a from λz=>hn.1 (z▸Y))];exact V
       .rw[aJ (show c≠a from λz=>a3 (z▸Y))];exact V
     .rw[XJ];exact nd
     .rw[XJ]at U
      rcases Xj.mp U with z|z
      .exact .inl (by simp[z])
      .rcases W2.mp z with z|z
       .exact .inl (by simp[z])
       .exact .inr (.inl (by simp[z]))
     .simp[gG,I,clean,aA,au,jK,jB,az,aB,F,c1,c2]
   .cases h
 .cases h
theorem nJ(V:∀c,(X c).A.units+1<cLine):MuT X G dZ:=⟨_,λc=>QC (V c),O_⟩
end
noncomputable abbrev InX(X:ι->Cx)(N':List Str)(scope:Scope):ι×(Addr×zb×Hp×List Addr)->Cx:=λp=>bD (X p.1) N' scope p.2.1 p.2.2.1 p.2.2.2.1 p.2.2.2.2
def iw(cap:List (Option Nat))(ρ:En):En:=cap.map λo=>o.bind λj=>(ρ[j]?).bind id
def obC(cap:List (Option Nat))(ob:Nat->Bool):Nat->Bool:=λi=>match cap[i]? with
 |some (some j)=>ob j
 |_=>false
variable{x:α}{l:List (Option α)}
theorem pM{α:Type}{cap:List (Option Nat)}{l:List (Option α)}{x:α}(h:(cap.map λo=>o.bind λj=>(l[j]?).bind id)[i]? =some (some x)):∃j,cap[i]? =some (some j)/\l[j]? =some (some x):=by
 rw[List.getElem?_map]at h;cases e:cap[i]? with
 |none=>rw[e]at h;cases h
 |some o=>
  rw[e]at h;cases o with
  |none=>simp at h
  |some j=>
   refine⟨j,rfl,?_⟩;have h:(l[j]?).bind id=some x:=by simpa using h
   cases e2:l[j]? with
   |none=>rw[e2]at h;cases h
   |some o=>rw[e2]at h;simpa using h
theorem yc{α:Type}{cap:List (Option Nat)}{l:List (Option α)}{x:α}(h:cap[i]? =some (some j))(h2:l[j]? =some (some x)):(cap.map λo=>o.bind λj=>(l[j]?).bind id)[i]? =some (some x):=by
 rw[List.getElem?_map,h];simp[h2]
theorem Rel.cap{cap:List (Option Nat)}(r:Rel G H W ob ρ σ):Rel G H W 1.24 (iw cap ρ) (fH cap σ):=λi d e=>by
 obtain⟨j,h1,h2⟩:=pM e;obtain⟨v,L,F,q,Y⟩:=r j d h2;refine⟨v,L,yc h1 F,q,λz=>Y ?_⟩;unfold obC at z;rw[h1]at z;exact z
def Dg(G:Gc)(ob own:Nat->Bool)(g:TG)(f:D->En->Option En):Prop:=∀(d:D)(ρ F:En),f d ρ=some F->∀(x:V)(σ:L2.St)(H:Hp)(W:Wn),Rep G H W d x []->Rel G H W ob ρ σ->σ.length=ρ.length->∀Q:L2.St->Hp->Prop,
 (∀B,Rel G H W ob F B->B.length=F.length->(∀j,own j=false->B[j]? =σ[j]?)->Q B H)->g x σ H Q
def z_(G:Gc)(ob own:Nat->Bool)(g:TGs)(f:List D->En->Option En):Prop:=∀(ds:List D)(ρ F:En),f ds ρ=some F->∀(xs:List V)(σ:L2.St)(H:Hp)(W:Wn),aD G H W ds xs []->Rel G H W ob ρ σ->σ.length=ρ.length->∀Q:L2.St->Hp->Prop,
 (∀B,Rel G H W ob F B->B.length=F.length->(∀j,own j=false->B[j]? =σ[j]?)->Q B H)->g xs σ H Q
structure BP{ι:Type}(X:ι->Cx)(G:Gc)(ob own:Nat->Bool)(tg:Expr)(f:D->En->Option En):Prop where
 mk::(ex:∃t,(∀c,PG (X c) tg t)/\Dg G ob own t f)
structure DG{ι:Type}(X:ι->Cx)(G:Gc)(ob own:Nat->Bool)(tg:List Expr)(f:List D->En->Option En):Prop where
 mk::(ex:∃t,(∀c,PGs (X c) tg t)/\z_ G ob own t f)
def tpN(i:Nat):D->En->Option En:=λd ρ=>some (ρ.set i (some d))
def tpT(n:Nat)(g:List D->En->Option En):D->En->Option En:=λd ρ=>match d with
 |.tup ds=>if ds.length=n then g ds ρ else none
 |_=>none
theorem Gu{own:Nat->Bool}(N:own i=true):Dg G ob own (pZ i) (tpN i):=λd ρ F e x σ H W r B Z Q q=>by
 cases e;refine q _ (λj d' I=>?_) (by simp[Z]) λj I=>?_
 .by_cases e:i=j
  .subst e
   rw[aby]at I;split at I
   .split at I
    .rename_i h2
     have:d=d':=by simpa using I
     subst this;exact⟨x,[],by simp[Z,h2],r,λ_ c Y=>by cases Y⟩
    .cases I
   .exact absurd rfl ‹_›
  .rw[List.getElem?_set_ne e]at I
   obtain⟨v,L,h1,h2,O⟩:=B j d' I;exact⟨v,L,by rw[List.getElem?_set_ne e];exact h1,h2,O⟩
 .have:i≠j:=λz=>by rw[←z,N]at I;cases I
  rw[List.getElem?_set_ne this]
theorem Gh{own:Nat->Bool}:z_ G ob own O3 bO:=λds ρ F e xs σ H W r I Z Q q=>by
 cases ds with
 |nil=>
  cases e;obtain⟨rfl,_⟩:=r.inv0;exact⟨rfl,q σ I Z λ_ _=>rfl⟩
 |cons d r=>cases e
variable{g:List D->En->Option En}
theorem Dk{own:Nat->Bool}{t:TG}{u:TGs}{f:D->En->Option En}(h1:Dg G ob own t f)(h2:z_ G ob own u g):z_ G ob own (MF t u) (aM f g):=λds ρ F e xs σ H W r rl Z Q q=>by
 cases ds with
 |nil=>cases e
 |cons d ds=>
  obtain⟨x,ys,M1,Y,rfl,hL,J,O⟩:=r.inv;obtain⟨rfl,rfl⟩:M1=[]/\Y=[]:=by simpa using hL.symm
  simp![aM]at e;cases h3:f d ρ with
  |none=>rw[h3]at e;cases e
  |some ρ1=>
   have e:g ds ρ1=some F:=by simpa[h3]using e
   exact⟨x,ys,rfl,h1 d ρ ρ1 h3 x σ H W J rl Z _ λN a0 U k1=>h2 ds ρ1 F e ys N H W O a0 U Q λσ2 V B k2=>q σ2 V B λj I=>(k2 j I).trans (k1 j I)⟩
theorem KY{own:Nat->Bool}{t:TGs}(h:z_ G ob own t g):Dg G ob own (T7 G.K n t) (tpT n g):=λd ρ F e x σ H W r I Z Q q=>by
 cases d with
 |tup ds=>
  simp![tpT]at e;split at e
  .rename_i hn
   rw[Rep]at r;obtain⟨a,xs,rfl,U,O⟩:=r;exact⟨a,xs,rfl,SqT.of U,by rw[←O.length];exact hn,h ds ρ F e xs σ H W O I Z Q q⟩
  .cases e
 |_=>cases e
section
variable{ι:Type}{X:ι->Cx}{G:Gc}{ob own:Nat->Bool}
theorem cA(i:Nat){x:Str}{pos:Pos}(Y:∀c,(X c).N.Nodup)(q:own i=true:=by rfl)(hi:∀c,(X c).N[i]? =some x:=by intro _;rfl)(J:∀c,Loc (X c).env.scope x:=by intro _;first|exact ZZ rfl|exact Ze rfl)(O:∀c,(X c).fn x=true∨(X c).env.scope.names.lookup x=some .local:=by intro _;first|exact .inl rfl|exact .inr rfl):BP X G ob own (.Name x pos) (tpN i):=⟨_,λc=>yV (Y c) (hi c) (J c) (O c),Gu q⟩
theorem qP:DG X G ob own [] bO:=⟨_,λc=>Ea,Gh⟩
theorem gP{e:Expr}{es:List Expr}{f:D->En->Option En}{g:List D->En->Option En}(h1:BP X G ob own e f)(h2:DG X G ob own es g)(hs:∀c,(YS (e::es) (X c).env).map (·.2)=abf e (X c).env::(YS es (X c).env).map (·.2):=by intro _;rfl):DG X G ob own (e::es) (aM f g):=
 let⟨t,a1,a2⟩:=h1.ex;let⟨u,b1,b2⟩:=h2.ex;⟨_,λc=>A_ (a1 c) (b1 c) (hs c),Dk a2 b2⟩
theorem uO{es:List Expr}{k n:Nat}{pos:Pos}{g:List D->En->Option En}(Y:∀c,(X c).calm=true)(h:DG X G ob own es g)(hn:∀c,(YS es (X c).env).length=n:=by intro _;rfl)(V:∀c,(YS es (X c).env).findIdx? (·.1)=none:=by intro _;rfl)(I:∀c,(X c).K=G.K:=by intro _;rfl):BP X G ob own (.Tuple es k pos) (tpT n g):=
 let⟨t,a1,a2⟩:=h.ex;⟨_,λc=>(by rw[←I c];exact Km (Y c) (a1 c) (hn c) (V c)),KY a2⟩
structure Cw{ι:Type}(X:ι->Cx)(G:Gc)(ob:Nat->Bool)(ifs:List Expr)(f:En->Option Bool):Prop where
 mk::(ex:∃t,(∀c,PTs (X c) ifs t)/\RfT G ob t f)
def eTT:En->Option Bool:=λ_=>some true
theorem gB:Cw X G ob [] eTT:=⟨_,λc=>O5,λρ b e σ H W I w Q q=>by cases e;exact q H (Same.refl H)⟩
theorem uf{c:Expr}{f:En->Option Bool}(h:PVT X G ob c f):Cw X G ob [c] f:=let⟨t,a1,a2⟩:=h.ex;⟨t,λc=>PX (a1 c),a2⟩
def gh(tg:D->En->Option En)(c:En->Option Bool)(e:En->Option D)(ρ0:En):List D->Option (List D)
 |[]=>some []
 |d::r=>(tg d ρ0).bind λρ1=>(c ρ1).bind λb=>if b=true then(e ρ1).bind λx=>(gh tg c e ρ0 r).map λt=>x::t else gh tg c e ρ0 r
def iC(cap:List (Option Nat))(it:En->Option (Bool×List D))(tg:D->En->Option En)(c:En->Option Bool)(e:En->Option D):En->Option D:=λρ=>(it ρ).bind λp=>if p.2.length<=1000000 then(gh tg c e (iw cap ρ) p.2).map λys=>.lst .own ys else none
theorem six{n:Nat}(h:n<=1000000):n<Xp:=Nat.lt_of_le_of_lt h 1.27
theorem BV{cap:List (Option Nat)}{σ B:L2.St}(Y:∀i:Nat,own i=true->cap[i]?≠none->cap[i]? =some none)(h:∀j,own j=false->B[j]? =(fH cap σ)[j]?):Kp (fH cap σ) B:=λi v e=>by
 cases N:own i with
 |false=>rw[h i N];exact e
 |true=>
  obtain⟨j,h1,_⟩:=pM e;rw[Y i N (by rw[h1];simp)]at h1;cases h1
theorem Et{cap:List (Option Nat)}{wi:TI}{g:TG}{tt:TT}{te:TE}{it:En->Option (Bool×List D)}{tg:D->En->Option En}{c:En->Option Bool}{e:En->Option D}(a8:∀i:Nat,own i=true->cap[i]?≠none->cap[i]? =some none)(hi:RfI G ob wi it)(hg:Dg G 1.24 own g tg)(ht:RfT G 1.24 tt c)(V:RfE G 1.24 te e):RfE G ob (Fo cap wi g tt te) (iC cap it tg c e):=λρ d ee σ H W rl w Q q=>by
 unfold iC at ee;cases h1:it ρ with
 |none=>simp[h1]at ee
 |some p=>
  obtain⟨b,items⟩:=p;rw[h1]at ee;simp![Mx]at ee;split at ee
  .rename_i hlen
   cases h2:gh tg c e (iw cap ρ) items with
   |none=>simp[h2]at ee
   |some tot=>
    obtain rfl:D.lst .own tot=d:=by simpa[h2]using ee
    refine hi ρ b items h1 σ H W rl w _ λJ H1 B wk=>?_;refine⟨λi m ys H2=>i+m=items.length/\ys.length<=i/\∃acc L rest,Same H1 H2/\aD G H2 (W.add L) acc ys L/\(∀a∈L,H1 a=none)/\L.Nodup/\WOk H2 (W.add L)/\gh tg c e (iw cap ρ) (items.drop i)=some rest/\acc++rest=tot,⟨items.length,by omega,by simp,[],[],tot,Same.refl _,.nil,by simp,List.nodup_nil,?_,h2,rfl⟩,?_⟩
    .rw[qN];exact w.up B
    rintro i m ys H2 ⟨b2,b4,acc,L,rest,Y,ra,fa,na,wa,I,a0⟩;have a3:Up H1 H2 W (W.add L):=Up.add Y fa
    .by_cases hil:i<items.length
     .have hdr:=(ZQ hil).symm
      rw[hdr,gh]at I;refine .inr ⟨wk.go i items[i] (by simp[hil]) H2 _ (LtB.up a3),by have:=six hlen;omega,λa4 H'=>(i+1)+(m-1)=items.length/\a4.length<=i+1/\∃acc L rest,Same H1 H'/\aD G H' (W.add L) acc a4 L/\(∀a∈L,H1 a=none)/\L.Nodup/\WOk H' (W.add L)/\gh tg c e (iw cap ρ) (items.drop (i+1))=some rest/\acc++rest=tot,λa4 H' h=>⟨m-1,by omega,h⟩,λx H3 hy=>?_⟩;obtain⟨s3,rx⟩:=wk.yld i items[i] (by simp[hil]) H2 _ (LtB.up a3) x H3 hy;cases O:tg items[i] (iw cap ρ)with
      |none=>simp[O]at I
      |some ρ1=>
       rw[O]at I;simp![Mx]at I;have a9:Rel G H3 (W.add L) 1.24 (iw cap ρ) (fH cap σ):=(rl.cap).up ((Up.same B).trans (a3.trans (Up.same s3)));have a2:=ra.up (Up.same s3 (W:=W.add L));have a6:WOk H3 (W.add L):=wa.up s3;refine hg items[i] _ ρ1 O x _ H3 (W.add L) rx a9 (by simp[iw,fH]) _ λσ2 a5 b3 k4=>⟨BV a8 k4,?_⟩;cases h4:c ρ1 with
       |none=>simp[h4]at I
       |some bb=>
        rw[h4]at I;simp![Mx]at I;refine ht ρ1 bb h4 σ2 H3 (W.add L) a5 a6 _ λH4 s4=>?_;have b0:=a5.up (Up.same s4);have a7:=a6.up s4;cases bb with
        |false=>
         simp![Ye,YJ]at I;exact v4 ⟨by omega,by omega,acc,L,rest,((Y.trans s3).trans s4),a2.up (Up.same s4),fa,na,a7,I,a0⟩
        |true=>
         simp![XX]at I;cases h5:e ρ1 with
         |none=>simp[h5]at I
         |some y=>
          cases h6:gh tg c e (iw cap ρ) (items.drop (i+1))with
          |none=>simp[h5,h6]at I
          |some a1=>
           obtain rfl:y::a1=rest:=by simpa[h5,h6]using I
           refine qU (V ρ1 y h5 σ2 H4 (W.add L) b0 a7 _ λv H5 M s5 ry fy ny=>?_);have fM:∀a∈M,H1 a=none:=λa Z=>(((Y.trans s3).trans s4)).none' (fy a Z);have b1:∀a∈L,a∉M:=λa h1 h2=>by
            obtain⟨o,N,_⟩:=(a2.up (Up.same s4 (W:=W.add L))).dom a h1;rw[fy a h2]at N;cases N
           have u5:Up H4 H5 (W.add L) (W.add (L++M)):=⟨s5,λb u U f=>⟨λz=>z.elim (λz=>(W2.mp z).elim (λz=>f.1 (.inl z)) λz=>by rw[fy b z]at U;cases U) λz=>f.1 (.inr z),f.2⟩,λ_ _ _ f=>f⟩;have u6:Up H5 H5 ((W.add L).add M) (W.add (L++M)):=⟨Same.refl _,λb u U f=>⟨λz=>by
            rcases z with z|z
            .exact(W2.mp z).elim (λz=>f.1 (.inr (.inl z))) λz=>f.1 (.inl z)
            .exact f.1 (.inr (.inr z)),f.2⟩,λ_ _ _ f=>f⟩
           refine⟨by omega,by simp;omega,acc++[y],L++M,a1,((Y.trans s3).trans s4).trans s5,((a2.up (Up.same s4)).up u5).append (.one (ry.up u6)),λa Z=>(W2.mp Z).elim (fa a) (fM a),dm na ny b1,?_,rfl,by rw[←a0];simp⟩;exact w.add (((B.trans Y).trans s3).trans s4 |>.trans s5) λa Z=>(W2.mp Z).elim (λz=>let⟨o,h,m⟩:=(a2.up (Up.same s4 (W:=W.add L))).dom a z;⟨o,s5 a o h,m⟩) (ry.dom a)
     .have hl:i=items.length:=by omega
      subst hl;rw[Z8,gh]at I;cases I;refine .inl ⟨wk.stop H2 _ (LtB.up a3),Z_ (six 1.10),λp F=>?_⟩;have sm:Same H2 (upd H2 p (.lst ys)):=Same.new F;rw[XJ]at a0;subst a0;refine q (.ref p) _ (p::L) ((B.trans Y).trans sm) ?_ (λa Z=>(Xj.mp Z).elim (λz=>by rw[z];exact(B.trans Y).none' F) λz=>B.none' (fa a z)) (List.nodup_cons.mpr ⟨λz=>?_,na⟩)
      .rw[Rep]
       exact⟨p,ys,L,rfl,ra.up ⟨sm,λb u U f=>⟨λz=>z.elim (λz=>(Xj.mp z).elim (λz=>by rw[z,F]at U;cases U) λz=>f.1 (.inl z)) λz=>f.1 (.inr z),f.2⟩,λ_ _ _ f=>f⟩,aN,rfl⟩
      .obtain⟨o,N,_⟩:=ra.dom p z
       rw[F]at N;cases N
  .cases ee
end
def oX(cap:List (Option Nat)):Prop:=∀(i k j:Nat),cap[i]? =some (some j)->cap[k]? =some (some j)->i=k
def lJ(cap:List (Option Nat))(S:Ad):Ad:=λi=>match cap[i]? with
 |some (some j)=>S j
 |_=>[]
def q_(cap:List (Option Nat))(S:Ad)(Fr:Addr->Prop):Addr->Prop:=λa=>Fr a∨∃j:Nat,(∀i:Nat,cap[i]?≠some (some j))/\a∈S j
theorem iW{cap:List (Option Nat)}(h:a∈lJ cap S i):∃j,cap[i]? =some (some j)/\a∈S j:=by
 unfold lJ at h;split at h
 .rename_i j e;exact⟨j,e,h⟩
 .cases h
theorem xY{cap:List (Option Nat)}(h:cap[i]? =some (some j)):lJ cap S i=S j:=by unfold lJ;rw[h]
theorem BK{cap:List (Option Nat)}(h:cap[i]? =some (some j)):obC cap ob i=ob j:=by unfold obC;rw[h]
section
variable{G:Gc}{ob own:Nat->Bool}{cap:List (Option Nat)}
theorem yW{S:Ad}{Fr:Addr->Prop}{a:Addr}:(wn ob S Fr).free a↔(wn 1.24 (lJ cap S) (q_ cap S Fr)).free a:=by
 constructor
 .intro f
  have q:∀j,a∉S j:=λj z=>by
   cases N:ob j with
   |false=>exact f.2.1 ⟨j,N,z⟩
   |true=>exact f.2.2 ⟨j,N,z⟩
  refine⟨λz=>z.elim f.1 λ⟨j,_,z⟩=>q j z,λ⟨i,_,z⟩=>?_,λ⟨i,_,z⟩=>?_⟩
  .obtain⟨j,_,z⟩:=iW z;exact q j z
  .obtain⟨j,_,z⟩:=iW z;exact q j z
 .intro f
  have q:∀j,a∉S j:=λj z=>by
   by_cases Y:∃i:Nat,cap[i]? =some (some j)
   .obtain⟨i,hi⟩:=Y
    have B:a∈lJ cap S i:=by rw[xY hi];exact z
    cases N:obC cap ob i with
    |false=>exact f.2.1 ⟨i,N,B⟩
    |true=>exact f.2.2 ⟨i,N,B⟩
   .exact f.1 (.inr ⟨j,λi hi=>Y ⟨i,hi⟩,z⟩)
  exact⟨λz=>f.1 (.inl z),λ⟨j,_,z⟩=>q j z,λ⟨j,_,z⟩=>q j z⟩
theorem T4{H:Hp}{S:Ad}{Fr:Addr->Prop}{d:D}{v:V}{L:List Addr}(Y:clean d=true):Rep G H (wn ob S Fr) d v L↔Rep G H (wn 1.24 (lJ cap S) (q_ cap S Fr)) d v L:=by
 have J:=(by simpa[clean]using Y:aA d=true/\au d=true);constructor
 .intro r
  have I:Evo H H (wn ob S Fr) (wn 1.24 (lJ cap S) (q_ cap S Fr)):=⟨λb u U f=>⟨U,yW.mp f⟩,λ_ _ h=>h⟩;exact r.mono I (.inl J.1) (.inl J.2) λ_ _ _ h=>h
 .intro r
  have I:Evo H H (wn 1.24 (lJ cap S) (q_ cap S Fr)) (wn ob S Fr):=⟨λb u U f=>⟨U,yW.mpr f⟩,λ_ _ h=>h⟩;exact r.mono I (.inl J.1) (.inl J.2) λ_ _ _ h=>h
theorem Sta.inn{H:Hp}{ρ:En}{σ:L2.St}{S:Ad}{Fr:Addr->Prop}(I:oX cap)(s:Sta G H ob ρ σ S Fr):Sta G H 1.24 (iw cap ρ) (fH cap σ) (lJ cap S) (q_ cap S Fr)where
 len:=by simp[iw,fH]
 sl:=λi d e=>by
  obtain⟨j,h1,h2⟩:=pM e;obtain⟨v,F,q,Y⟩:=s.sl j d h2;exact⟨v,yc h1 F,by rw[xY h1];exact(T4 Y).mp q,Y⟩
 em:=λi h=>by
  unfold lJ;split
  .rename_i j e
   exact s.em j λd hd=>h d (yc e hd)
  .rfl
 nd:=λi=>by
  unfold lJ;split
  .exact s.nd _
  .exact List.nodup_nil
 dj:=λi k a h1 h2=>by
  obtain⟨V,e1,O⟩:=iW h1;obtain⟨J,e2,N⟩:=iW h2;have:=s.dj V J a O N;subst this;exact I i k V e1 e2
 fdj:=λi a h z=>by
  obtain⟨j,e,z⟩:=iW z;rcases h with h|⟨k,B,h⟩
  .exact s.fdj j a h z
  .have:=s.dj j k a z h
   subst this;exact B i e
 fdm:=λa h=>by
  rcases h with h|⟨k,_,h⟩
  .exact s.fdm a h
  .exact s.mu h
def iz:List (Option Nat)->En->En->En
 |some j::cs,d::ds,ρ=>iz cs ds (ρ.set j d)
 |none::cs,_::ds,ρ=>iz cs ds ρ
 |_,_,ρ=>ρ
theorem m_:∀(cap:List (Option Nat))(ds ρ:En),(iz cap ds ρ).length=ρ.length
 |[],ds,ρ=>by cases ds<;>rfl
 |some j::cs,[],ρ=>rfl
 |none::cs,[],ρ=>rfl
 |some j::cs,d::ds,ρ=>by rw[iz,m_ cs ds];simp
 |none::cs,d::ds,ρ=>by rw[iz,m_ cs ds]
theorem my:∀{cap:List (Option Nat)}{ds ρ:En}{j:Nat},(∀i:Nat,cap[i]?≠some (some j))->(iz cap ds ρ)[j]? =ρ[j]?
 |[],ds,ρ,j,_=>by cases ds<;>rfl
 |some k::cs,[],ρ,j,_=>rfl
 |none::cs,[],ρ,j,_=>rfl
 |some k::cs,d::ds,ρ,j,h=>by
  rw[iz,my λi e=>h (i+1) (by simpa using e),List.getElem?_set_ne λz=>h 0 (by simp[z])]
 |none::cs,d::ds,ρ,j,h=>by rw[iz,my λi e=>h (i+1) (by simpa using e)]
theorem pG:∀{cap:List (Option Nat)}{ds ρ:En}{i j:Nat}{x:Option D},oX cap->cap[i]? =some (some j)->ds[i]? =some x->j<ρ.length->(iz cap ds ρ)[j]? =some x
 |[],ds,ρ,i,j,x,_,h,_,_=>by simp at h
 |some k::cs,[],ρ,i,j,x,_,_,h,_=>by simp at h
 |none::cs,[],ρ,i,j,x,_,_,h,_=>by simp at h
 |some k::cs,d::ds,ρ,i,j,x,hj,h1,h2,hl=>by
  rw[iz];cases i with
  |zero=>
   have e1:k=j:=by simpa using h1
   have e2:d=x:=by simpa using h2
   subst e1 e2;rw[my λi e=>?_]
   .simp[hl]
   .have:=hj 0 (i+1) k (by simp) (by simpa using e)
    omega
  |succ i=>exact pG (λa b c h1 h2=>by have:=hj (a+1) (b+1) c (by simpa using h1) (by simpa using h2);omega) (by simpa using h1) (by simpa using h2) (by simpa using hl)
 |none::cs,d::ds,ρ,i,j,x,hj,h1,h2,hl=>by
  rw[iz];cases i with
  |zero=>simp at h1
  |succ i=>exact pG (λa b c h1 h2=>by have:=hj (a+1) (b+1) c (by simpa using h1) (by simpa using h2);omega) (by simpa using h1) (by simpa using h2) hl
def tu(cap:List (Option Nat))(q S:Ad):Ad:=λj=>match cap.findIdx? (λo=>o==some j)with
 |some i=>q i
 |none=>S j
theorem g_{q S:Ad}{i j:Nat}(I:oX cap)(h:cap[i]? =some (some j)):tu cap q S j=q i:=by
 unfold tu;split
 .rename_i k e
  obtain⟨h1,h2,_⟩:=Ym.mp e;have:cap[k]=some j:=by simpa using h2
  rw[I i k j h (by rw[Xk h1,this])]
 .rename_i e
  have:=Zr.mp e (some j) (Xw h);simp at this
theorem ig{q S:Ad}{j:Nat}(h:∀i:Nat,cap[i]?≠some (some j)):tu cap q S j=S j:=by
 unfold tu;split
 .rename_i k e
  obtain⟨h1,h2,_⟩:=Ym.mp e;have:cap[k]=some j:=by simpa using h2
  exact absurd (by rw[Xk h1,this]) (h k)
 .rfl
theorem fW(cap:List (Option Nat))(j:Nat):(∃i:Nat,cap[i]? =some (some j))∨(∀i:Nat,cap[i]?≠some (some j)):=by
 by_cases h:∃i:Nat,cap[i]? =some (some j)
 .exact .inl h
 .exact .inr λi z=>h ⟨i,z⟩
theorem Sta.out{H H':Hp}{ρ a5:En}{σ a7:L2.St}{S Si:Ad}{Fr:Addr->Prop}{M:List Addr}(I:oX cap)(s:Sta G H ob ρ σ S Fr)(N:∀i:Nat,cap[i]? =some none->True)(B:∀i j:Nat,cap[i]? =some (some j)->a7[i]? =(fH cap σ)[i]?)
  (si:Sta G H' 1.24 a5 a7 Si (plus M (q_ cap S Fr))) (ef:Eff 1.24 H H' (lJ cap S) Si M):Sta G H' ob (iz cap a5 ρ) σ (tu cap Si S) (plus M Fr)/\Eff ob H H' S (tu cap Si S) M/\
   (∀d v L,clean d=true->Rep G H' (wn 1.24 Si (plus M (q_ cap S Fr))) d v L->Rep G H' (wn ob (tu cap Si S) (plus M Fr)) d v L):=by
 have a0:∀{a},inO 1.24 (lJ cap S) a->inO ob S a:=λ{a}⟨i,h1,h2⟩=>by
  obtain⟨j,e,z⟩:=iW h2;exact⟨j,by rw[←BK (ob:=ob) e];exact h1,z⟩
 have b2:Eff ob H H' S (tu cap Si S) M:=by
  refine⟨λb u U n=>ef.kp b u U λz=>n (a0 z),λj a6=>?_,λj a a6 z=>?_,λa Z=>(ef.fm a Z).imp a0 id⟩
  .rcases fW cap j with⟨i,hi⟩|hn
   .rw[g_ I hi,ef.sn i (by rw[BK hi];exact a6),xY hi]
   .exact ig hn
  .rcases fW cap j with⟨i,hi⟩|hn
   .rw[g_ I hi]at z
    exact(ef.gr i a (by rw[BK hi];exact a6) z).imp a0 id
   .rw[ig hn]at z;exact .inl ⟨j,a6,z⟩
 have a8:∀a,(wn 1.24 Si (plus M (q_ cap S Fr))).free a->(wn ob (tu cap Si S) (plus M Fr)).free a:=λa f=>by
  have nS:∀j,a∉tu cap Si S j:=λj z=>by
   rcases fW cap j with⟨i,hi⟩|hn
   .rw[g_ I hi]at z
    cases b0:obC cap ob i with
    |false=>exact f.2.1 ⟨i,b0,z⟩
    |true=>exact f.2.2 ⟨i,b0,z⟩
   .rw[ig hn]at z
    exact f.1 (.inr (.inr ⟨j,hn,z⟩))
  exact⟨λz=>z.elim (λz=>f.1 (.inl z)) λz=>f.1 (.inr (.inl z)),λ⟨j,_,z⟩=>nS j z,λ⟨j,_,z⟩=>nS j z⟩
 have conv:∀d v L,clean d=true->Rep G H' (wn 1.24 Si (plus M (q_ cap S Fr))) d v L->Rep G H' (wn ob (tu cap Si S) (plus M Fr)) d v L:=λd v L Y r=>by
  have a2:=(by simpa[clean]using Y:aA d=true/\au d=true);have ev:Evo H' H' (wn 1.24 Si (plus M (q_ cap S Fr))) (wn ob (tu cap Si S) (plus M Fr)):=⟨λb u U f=>⟨U,a8 b f⟩,λ_ _ h=>h⟩;exact r.mono ev (.inl a2.1) (.inl a2.2) λ_ _ _ h=>h
 have a1:∀{j a},(∀i:Nat,cap[i]?≠some (some j))->a∈S j->∀i,a∉Si i:=λ{j a} hn z i y=>si.fdj i a (.inr (.inr ⟨j,hn,z⟩)) y;refine⟨⟨by rw[m_];exact s.len,λj d hd=>?_,λj hd=>?_,λj=>?_,λj k a h1 h2=>?_,λj a h z=>?_,λa h=>?_⟩,b2,conv⟩
 .rcases fW cap j with⟨i,hi⟩|hn
  .have a3:j<ρ.length:=by
    have:=(qb.mp hd).1;rwa[m_]at this
   cases J:a5[i]? with
   |none=>
    have h1:a5.length<=i:=Z0.mp J;have h2:a7.length<=i:=by rw[←si.len];exact h1
    have O:=B i j hi;rw[Z0.mpr h2]at O;have h4:(fH cap σ).length<=i:=Z0.mp O.symm;have h5:i<cap.length:=(qb.mp hi).1;simp[fH]at h4;omega
   |some x=>
    rw[pG I hi J a3]at hd;cases hd;obtain⟨v,F,q,q3⟩:=si.sl i d J;rw[B i j hi]at F;obtain⟨j',e1,e2⟩:=pM F;rw[hi]at e1;cases e1;exact⟨v,e2,by rw[g_ I hi];exact conv _ _ _ q3 q,q3⟩
  .rw[my hn]at hd
   obtain⟨v,F,q,q3⟩:=s.sl j d hd;refine⟨v,F,?_,q3⟩;rw[ig hn];have a2:=(by simpa[clean]using q3:aA d=true/\au d=true);refine q.mono (b2.evo s) (.inl a2.1) (.inl a2.2) λc Y u V=>?_;exact ef.kp c u V λ⟨i,_,z⟩=>by
    obtain⟨k,e,z⟩:=iW z;have:=s.dj j k c Y z;subst this;exact hn i e
 .rcases fW cap j with⟨i,hi⟩|hn
  .rw[g_ I hi]
   refine si.em i λd b1=>?_;by_cases a3:j<ρ.length
   .exact hd d (pG I hi b1 a3)
   .
    obtain⟨v,F,_⟩:=si.sl i d b1;rw[B i j hi]at F;obtain⟨j',e1,e2⟩:=pM F;rw[hi]at e1;cases e1;have:=(qb.mp e2).1;rw[←s.len]at this;exact a3 this
  .rw[ig hn]
   exact s.em j λd=>by have:=hd d;rwa[my hn]at this
 .rcases fW cap j with⟨i,hi⟩|hn
  .rw[g_ I hi];exact si.nd i
  .rw[ig hn];exact s.nd j
 .rcases fW cap j with⟨i,hi⟩|hn<;>rcases fW cap k with⟨i',a4⟩|a9
  .rw[g_ I hi]at h1
   rw[g_ I a4]at h2;have:=si.dj i i' a h1 h2;subst this;rw[hi]at a4;cases a4;rfl
  .rw[g_ I hi]at h1
   rw[ig a9]at h2;exact absurd h1 (a1 a9 h2 i)
  .rw[ig hn]at h1
   rw[g_ I a4]at h2;exact absurd h2 (a1 hn h1 i')
  .rw[ig hn]at h1
   rw[ig a9]at h2;exact s.dj j k a h1 h2
 .rcases fW cap j with⟨i,hi⟩|hn
  .rw[g_ I hi]at z
   exact si.fdj i a (h.imp id .inl) z
  .rw[ig hn]at z
   rcases h with h|h
   .rcases ef.fm a h with y|y
    .obtain⟨k,_,y⟩:=a0 y
     have:=s.dj j k a z y;subst this;obtain⟨i,hi,y'⟩:∃i,obC cap ob i=true/\a∈lJ cap S i:=by assumption
     obtain⟨k',e,y'⟩:=iW y';have:=s.dj j k' a z y';subst this;exact hn i e
    .obtain⟨o,N,_⟩:=s.mu z
     rw[y]at N;cases N
   .exact s.fdj j a h z
 .rcases h with h|h
  .exact si.fdm a (.inl h)
  .exact si.fdm a (.inr (.inl h))
end
section
variable{ι:Type}{X:ι->Cx}{G:Gc}{ob own:Nat->Bool}
def RM(G:Gc)(ob own:Nat->Bool)(g:TG)(f:D->En->Option En):Prop:=∀(d:D)(ρ F:En),f d ρ=some F->∀(x:V)(σ:L2.St)(H:Hp)(S:Ad)(Fr:Addr->Prop),Sta G H ob ρ σ S Fr->(∀i,own i=true->S i=[])->Rep G H (wn ob S Fr) d x []->∀Q:L2.St->Hp->Prop,
 (∀B,Sta G H ob F B S Fr->(∀j,own j=false->B[j]? =σ[j]?)->Q B H)->g x σ H Q
theorem Hg{i:Nat}(N:own i=true):RM G ob own (pZ i) (tgN i):=λd ρ F e x σ H S Fr s Y r Q q=>by
 unfold tgN at e;split at e
 .rename_i hc
  cases e;refine q _ ⟨by simp[s.len],λj d' I=>?_,λj I=>?_,s.nd,s.dj,s.fdj,s.fdm⟩ λj I=>?_
  .by_cases ej:i=j
   .subst ej
    rw[aby]at I;split at I
    .split at I
     .rename_i h2
      have:d=d':=by simpa using I
      subst this;exact⟨x,by simp[←s.len,h2],by rw[Y i N];exact r,hc⟩
     .cases I
    .exact absurd rfl ‹_›
   .rw[List.getElem?_set_ne ej]at I
    obtain⟨v,h1,h2,O⟩:=s.sl j d' I;exact⟨v,by rw[List.getElem?_set_ne ej];exact h1,h2,O⟩
  .by_cases ej:i=j
   .subst ej;exact Y i N
   .exact s.em j λd'=>by have:=I d';rwa[List.getElem?_set_ne ej]at this
  .have:i≠j:=λz=>by rw[←z,N]at I;cases I
   rw[List.getElem?_set_ne this]
 .cases e
structure UT{ι:Type}(X:ι->Cx)(G:Gc)(ob own:Nat->Bool)(tg:Expr)(f:D->En->Option En):Prop where
 mk::(ex:∃t,(∀c,PG (X c) tg t)/\RM G ob own t f)
theorem Hx(i:Nat){x:Str}{pos:Pos}(Y:∀c,(X c).N.Nodup)(q:own i=true:=by rfl)(hi:∀c,(X c).N[i]? =some x:=by intro _;rfl)(J:∀c,Loc (X c).env.scope x:=by intro _;first|exact ZZ rfl|exact Ze rfl)(O:∀c,(X c).fn x=true∨(X c).env.scope.names.lookup x=some .local:=by intro _;first|exact .inl rfl|exact .inr rfl):UT X G ob own (.Name x pos) (tgN i):=⟨_,λc=>yV (Y c) (hi c) (J c) (O c),Hg q⟩
def j0(cap:List (Option Nat))(tg:D->En->Option En)(c:En->Option Bool)(e:En->Option (D×En)):List D->En->Option (List D×En)
 |[],ρ=>some ([],ρ)
 |d::r,ρ=>(tg d (iw cap ρ)).bind λρ1=>(c ρ1).bind λb=>if b=true then(e ρ1).bind λp=>if clean p.1=true then(j0 cap tg c e r (iz cap p.2 ρ)).map λt=>(p.1::t.1,t.2)else none else j0 cap tg c e r ρ
def vh(cap:List (Option Nat))(it:En->Option (Bool×List D))(tg:D->En->Option En)(c:En->Option Bool)(e:En->Option (D×En)):En->Option (D×En):=λρ=>(it ρ).bind λp=>if p.1=true/\p.2.length<=1000000 then(j0 cap tg c e p.2 ρ).map λt=>(.lst .own t.1,t.2)else none
theorem JD{cap:List (Option Nat)}{wi:TI}{g:TG}{tt:TT}{te:TE}{it:En->Option (Bool×List D)}{tg:D->En->Option En}{c:En->Option Bool}{e:En->Option (D×En)}(I:oX cap)(a5:∀i:Nat,own i=true->cap[i]?≠none->cap[i]? =some none)(hi:RfI G ob wi it)(hg:RM G 1.24 own g tg)(ht:RfT G 1.24 tt c)(V:kj G 1.24 te e) :
  kj G ob (Fo cap wi g tt te) (vh cap it tg c e):=λρ d d1 ee σ H S Fr s Q q=>by
 unfold vh at ee;cases h1:it ρ with
 |none=>simp[h1]at ee
 |some p=>
  obtain⟨b,items⟩:=p;rw[h1]at ee;simp![Mx]at ee;split at ee
  .rename_i a2
   obtain⟨U,a2⟩:=a2;change b=true at U;change items.length<=1000000 at a2;subst U;cases h2:j0 cap tg c e items ρ with
   |none=>simp[h2]at ee
   |some w=>
    obtain⟨tot,a7⟩:=w;obtain⟨rfl,rfl⟩:D.lst .own tot=d/\a7=d1:=by simpa[h2]using ee
    refine hi ρ true items h1 σ H _ s.rel s.wok _ λJ H1 sm wk=>?_;have B:Sta G H1 ob ρ σ S Fr:=s.grow sm λa z=>.inl z;have e1:Eff ob H H1 S S []:=⟨λb u h _=>sm b u h,λ_ _=>rfl,λi a h z=>.inl ⟨i,h,z⟩,by simp⟩;refine⟨λi m ys H2=>i+m=items.length/\ys.length<=i/\∃ρ2 S2 acc L rest,Sta G H2 ob ρ2 σ S2 (plus L Fr)/\aD G H2 (wn ob S2 (plus L Fr)) acc ys L/\L.Nodup/\az acc=true/\aB acc=true/\Eff ob H1 H2 S S2 L/\j0 cap tg c e (items.drop i) ρ2=some (rest,a7)/\acc++rest=tot,
     ⟨items.length,by omega,by simp,ρ,S,[],[],tot,by rw[iZ];exact B,.nil,List.nodup_nil,rfl,rfl,.refl,h2,rfl⟩,?_⟩
    rintro i m ys H2 ⟨d2,d3,ρ2,S2,acc,L,rest,s2,ra,na,b6,b0,ef,a0,a1⟩;have lt:LtB true H1 (wn ob S Fr) H2 (wn 1.24 (lJ cap S2) (q_ cap S2 (plus L Fr))):=qU ⟨λb u U f=>let⟨h1,h2⟩:=(ef.evo B).k b u U f;⟨h1,yW.mp h2⟩,(ef.evo B).t⟩;by_cases b3:i<items.length
    .have hdr:=(ZQ b3).symm
     rw[hdr,j0]at a0;refine .inr ⟨wk.go i items[i] (by simp[b3]) H2 _ lt,by have:=six a2;omega,λb5 H'=>(i+1)+(m-1)=items.length/\b5.length<=i+1/\∃ρ2 S2 acc L rest,Sta G H' ob ρ2 σ S2 (plus L Fr)/\aD G H' (wn ob S2 (plus L Fr)) acc b5 L/\L.Nodup/\az acc=true/\aB acc=true/\Eff ob H1 H' S S2 L/\j0 cap tg c e (items.drop (i+1)) ρ2=some (rest,a7)/\acc++rest=tot,λb5 H' h=>⟨m-1,by omega,h⟩,λx H3 hy=>?_⟩;obtain⟨s3,rx⟩:=wk.yld i items[i] (by simp[b3]) H2 _ lt x H3 hy;have c1:Sta G H3 ob ρ2 σ S2 (plus L Fr):=s2.grow s3 λa z=>.inl z;have c6:Eff ob H1 H3 S S2 L:=ef.same s3 λc Y=>.inl Y;have c4:aD G H3 (wn ob S2 (plus L Fr)) acc ys L:=ra.up (Up.same s3);have si:=c1.inn (cap:=cap) I;cases h3:tg items[i] (iw cap ρ2)with
     |none=>simp[h3]at a0
     |some a3=>
      rw[h3]at a0;simp![Mx]at a0;have c5:∀k,own k=true->lJ cap S2 k=[]:=λk hk=>by
       unfold lJ;split
       .rename_i j e
        rw[a5 k hk (by rw[e];simp)]at e;cases e
       .rfl
      refine hg items[i] _ a3 h3 x _ H3 _ (q_ cap S2 (plus L Fr)) si c5 rx _ λa8 s4 b7=>⟨BV a5 b7,?_⟩;cases h4:c a3 with
      |none=>simp[h4]at a0
      |some bb=>
       rw[h4]at a0;simp![Mx]at a0;refine ht a3 bb h4 a8 H3 _ s4.rel s4.wok _ λH4 a9=>?_;have a4:Sta G H4 ob ρ2 σ S2 (plus L Fr):=c1.grow a9 λa z=>.inl z;have c9:Sta G H4 1.24 a3 a8 (lJ cap S2) (q_ cap S2 (plus L Fr)):=s4.grow a9 λa z=>.inl z;have c2:Eff ob H1 H4 S S2 L:=c6.same a9 λc Y=>.inl Y;have b2:aD G H4 (wn ob S2 (plus L Fr)) acc ys L:=c4.up (Up.same a9);cases bb with
       |false=>
        simp![Ye,YJ]at a0;exact v4 ⟨by omega,by omega,ρ2,S2,acc,L,rest,a4,b2,na,b6,b0,c2,a0,a1⟩
       |true=>
        simp![XX]at a0;cases Z:e a3 with
        |none=>simp[Z]at a0
        |some w=>
         obtain⟨y,b4⟩:=w;rw[Z]at a0;simp![Mx]at a0;split at a0
         .rename_i hcy
          cases h6:j0 cap tg c e (items.drop (i+1)) (iz cap b4 ρ2)with
          |none=>simp[h6]at a0
          |some w=>
           obtain⟨a6,b9⟩:=w;obtain⟨rfl,rfl⟩:y::a6=rest/\b9=a7:=by simpa[h6]using a0
           refine qU (V a3 y b4 Z a8 H4 _ _ c9 _ λv H5 M S5 s5 ry ny c7=>?_);have c8:∀i j:Nat,cap[i]? =some (some j)->a8[i]? =(fH cap σ)[i]?:=λi j hi=>b7 i (by
            cases N:own i with
            |false=>rfl
            |true=>rw[a5 i N (by rw[hi];simp)]at hi;cases hi)
           obtain⟨o1,o2,o3⟩:=a4.out I (λ_ _=>trivial) c8 s5 c7;have c3:=(by simpa[clean]using hcy:aA y=true/\au y=true);have b8:=b2.mono (o2.evo a4) (.inl b6) (.inl b0) λc Y u hu=>o2.keepsF a4 (.inl Y) u hu;rw[nu]at o1 b8;have c0:=o3 y v M hcy ry;rw[nu]at c0;have d0:∀a∈L,a∉M:=λa z1 z2=>by
            rcases o2.fm a z2 with y|y
            .exact a4.notO (.inl z1) y
            .obtain⟨o,N,_⟩:=b2.dom a z1
             rw[y]at N;cases N
           exact⟨by omega,by simp;omega,iz cap b4 ρ2,_,acc++[y],L++M,a6,o1,b8.append (.one c0),dm na ny d0,by rw[jK];simp[b6,az,c3],by rw[jB];simp[b0,aB,c3],c2.trans o2,h6,by rw[←a1];simp⟩
         .cases a0
    .have hl:i=items.length:=by omega
     subst hl;rw[Z8,j0]at a0;obtain⟨rfl,rfl⟩:[]=rest/\ρ2=a7:=by simpa using a0
     refine .inl ⟨wk.stop H2 _ lt,Z_ (six 1.10),λp F=>?_⟩;have b1:Same H2 (upd H2 p (.lst ys)):=Same.new F;rw[XJ]at a1;subst a1;have np:p∉L:=λz=>by obtain⟨o,N,_⟩:=ra.dom p z;rw[F]at N;cases N
     have O:Rep G (upd H2 p (.lst ys)) (wn ob S2 (plus (p::L) Fr)) (.lst .own acc) (.ref p) (p::L):=by
      rw[Rep];exact⟨p,ys,L,rfl,ra.up ⟨b1,λb u U f=>⟨λz=>z.elim (λz=>(Xj.mp z).elim (λz=>by rw[z,F]at U;cases U) λz=>f.1 (.inl z)) λz=>f.1 (.inr z),f.2⟩,λ_ _ _ f=>f⟩,aN,rfl⟩
     refine q (.ref p) _ (p::L) S2 (s2.grow b1 λa z=>?_) O (List.nodup_cons.mpr ⟨np,na⟩) ?_
     .rcases z with z|z
      .rcases Xj.mp z with z|z
       .exact .inr ⟨by rw[z];exact F,O.dom a (by simp[z])⟩
       .exact .inl (.inl z)
      .exact .inl (.inr z)
     .exact(e1.trans ef).same b1 λc Y=>(Xj.mp Y).elim (λz=>.inr (by rw[z];exact F)) λz=>.inl (by simpa using z)
  .cases ee
section
variable{elt target iter:Expr}{ifs:List Expr}{scope:Scope}{pos pos' pos2:Pos}{N':List Str}{it:En->Option (Bool×List D)}{tg:D->En->Option En}{fc:En->Option Bool}
theorem jV(cap:List (Option Nat))(own:Nat->Bool){fe:En->Option D}(J:∀c,(X c).xe=NoX)(Y:∀c,(X c).calm=true)(O:∀c,cN (X c).env.scope (X c).N N' scope cap)(I:∀i:Nat,own i=true->cap[i]?≠none->cap[i]? =some none)(hi:PVI X G ob target iter it)(F:BP (InX X N' scope) G 1.24 own target tg)(U:Cw (InX X N' scope) G 1.24 ifs fc)(V:PV (InX X N' scope) G 1.24 elt fe)
  (hs:∀c,∀x,YZ iter (X c).env x=pure x:=by intro _ _;rfl):PV X G ob 1.14 (iC cap it tg fc fe):=
 let⟨_,i1,i2⟩:=hi.ex;let⟨_,g1,g2⟩:=F.ex;let⟨_,t1,t2⟩:=U.ex;let⟨_,e1,e2⟩:=V.ex
 ⟨_,λc=>DR (J c) (Y c) (O c) (i1 c) (λC s H fp=>g1 (c,C,s,H,fp)) (λC s H fp=>t1 (c,C,s,H,fp)) (λC s H fp=>e1 (c,C,s,H,fp)) (hs c),Et I i2 g2 t2 e2⟩
theorem MT(cap:List (Option Nat))(own:Nat->Bool){fe:En->Option (D×En)}(J:∀c,(X c).xe=NoX)(Y:∀c,(X c).calm=true)(O:∀c,cN (X c).env.scope (X c).N N' scope cap)(I:oX cap)(q:∀i:Nat,own i=true->cap[i]?≠none->cap[i]? =some none)(hi:PVI X G ob target iter it)(F:UT (InX X N' scope) G 1.24 own target tg)(U:Cw (InX X N' scope) G 1.24 ifs fc)(V:PVe (InX X N' scope) G 1.24 elt fe)
  (hs:∀c,∀x,YZ iter (X c).env x=pure x:=by intro _ _;rfl):PVe X G ob 1.14 (vh cap it tg fc fe):=
 let⟨_,i1,i2⟩:=hi.ex;let⟨_,g1,g2⟩:=F.ex;let⟨_,t1,t2⟩:=U.ex;let⟨_,e1,e2⟩:=V.ex
 ⟨_,λc=>DR (J c) (Y c) (O c) (i1 c) (λC s H fp=>g1 (c,C,s,H,fp)) (λC s H fp=>t1 (c,C,s,H,fp)) (λC s H fp=>e1 (c,C,s,H,fp)) (hs c),JD I q i2 g2 t2 e2⟩
variable{P:Nat->Bool}{x:Str}
theorem Ax(i:Nat)(cap:List (Option Nat))(own:Nat->Bool){fe:En->Option D}(hN:∀c,(X c).N.Nodup)(J:∀c,(X c).xe=NoX)(Y:∀c,(X c).calm=true)(O:∀c,cN (X c).env.scope (X c).N N' scope cap)(I:∀i:Nat,own i=true->cap[i]?≠none->cap[i]? =some none)(hi:PVI X G ob target iter it)(F:BP (InX X N' scope) G 1.24 own target tg)(U:Cw (InX X N' scope) G 1.24 ifs fc)(V:PV (InX X N' scope) G 1.24 elt fe)
  (hP:P i=false:=by rfl) (B:∀c,(X c).N[i]? =some x:=by intro _;rfl) (Z:∀c,Loc (X c).env.scope x:=by intro _;first|exact ZZ rfl|exact Ze rfl) (q:∀c,aaI 1.14 (some (.Name x pos')) pos2.line (X c).env=pure true:=by intro _;rfl) (hs:∀c,∀x,YZ iter (X c).env x=pure x:=by intro _ _;rfl)
  (hf:∀c,(X c).fn x=true∨(X c).env.scope.names.lookup x=some .local:=by intro _;first|exact .inl rfl|exact .inr rfl):PVS X G ob P (.Assign [.Name x pos'] 1.14 pos2) (bV (iC cap it tg fc fe) (tgN i)):=
 let⟨_,i1,i2⟩:=hi.ex;let⟨_,g1,g2⟩:=F.ex;let⟨_,t1,t2⟩:=U.ex;let⟨_,e1,e2⟩:=V.ex
 ⟨_,λc=>QL (J c) (Y c) (hN c) (B c) (Z c) (O c) (i1 c) (λC s H fp=>g1 (c,C,s,H,fp)) (λC s H fp=>t1 (c,C,s,H,fp)) (λC s H fp=>e1 (c,C,s,H,fp)) (q c) (hs c) (hf c),by rw[←vC];exact jH (uU (Et I i2 g2 t2 e2)) (jb hP)⟩
end
end
inductive Sc:Dt->Dt->Prop
 |bl (a b:Bool):Sc (.bl a) (.bl b)
 |int (a b:Int):Sc (.int a) (.int b)
 |str (a b:Str):Sc (.str a) (.str b)
inductive Alk:Dt->Dt->Prop
 |sc {d e:Dt}:Sc d e->Alk d e
 |lst {a b:List Dt}:(∀p∈a.zip b,Sc p.1 p.2)->Alk (.lst a) (.lst b)
 |tup {a b:List Dt}:(∀p∈a.zip b,Sc p.1 p.2)->Alk (.tup a) (.tup b)
section
variable{X:Cx}{pins:List (Addr×Obj)}{σ:L2.St}{H:Hp}{s:Shared}{A:Around}
open PySem.SeqAt
theorem Rx{d e:Dt}{v u:V}{B J:Value}(h:Sc d e)(h1:Brs X.K H d v)(h2:Brs X.K H e u)(N:RelV v B)(O:RelV u J):EqAt A s B J (eqD d e)/\RcAt A s B J (eqD d e)/\RcNeAt A s B J (!eqD d e):=by
 cases h<;>simp![Brs]at h1 h2<;>subst h1 h2
 case bl a b=>cases N;cases O;exact⟨EqAt.bool_bool a b,RcAt.bool_bool a b,RcNeAt.bool_bool a b⟩
 case int a b=>obtain⟨t,rfl⟩:=N;obtain⟨t',rfl⟩:=O;exact⟨EqAt.int_int a t b t',RcAt.int_int a t b t',RcNeAt.int_int a t b t'⟩
 case str a b=>obtain⟨t,rfl⟩:=N;obtain⟨t',rfl⟩:=O;exact⟨EqAt.str_str a t b t',RcAt.str_str a t b t',RcNeAt.str_str a t b t'⟩
theorem vG:∀{ds es:List Dt}{ys xs:List V}{I B:List Value},(∀p∈ds.zip es,Sc p.1 p.2)->kE X.K H ds ys->kE X.K H es xs->Vals ys I->Vals xs B->
  ∀j (h1:j<I.toArray.size)(h2:j<B.toArray.size),EqAt A s I.toArray[j] B.toArray[j] (eqJ ds es j)
 |[],es,ys,xs,I,B,_,h,h',r,r',j,h1,h2=>by
  simp![kE]at h;subst h;cases r;simp at h1
 |d::ds,[],ys,xs,I,B,_,h,h',r,r',j,h1,h2=>by
  simp![kE]at h';subst h';cases r';simp at h2
 |d::ds,e::es,ys,xs,I,B,ha,h,h',r,r',j,h1,h2=>by
  simp![kE]at h h';obtain⟨y,q,rfl,hd,O⟩:=h;obtain⟨x,J,rfl,U,Y⟩:=h';cases r with
  |cons N rb=>
   cases r' with
   |cons Z a0=>
    cases j with
    |zero=>exact(Rx (ha (d,e) (by simp)) hd U N Z).1
    |succ j=>exact vG (λp F=>ha p (by simp[F])) O Y rb a0 j (by simpa using h1) (by simpa using h2)
theorem Ms(I:Inv X pins σ H s){d e:Dt}{v u:V}{v' J:Value}(h:Alk d e)(h1:Brs X.K H d v)(h2:Brs X.K H e u)(N:RelV v v')(O:RelV u J)(Y:A.units<cLine):RcAt A s v' J (eqD d e)/\RcNeAt A s v' J (!eqD d e):=by
 cases h with
 |sc h=>exact(Rx h h1 h2 N O).2
 |@lst ds es h=>
  simp![Brs]at h1 h2;obtain⟨U,a7,rfl,a5,a3⟩:=h1;obtain⟨a2,a8,rfl,a6,q⟩:=h2;cases N;cases O;obtain⟨B,a4,p1,_⟩:=I.list a5;obtain⟨F,a0,p2,_⟩:=I.list a6;have l1:=a3.length;have l2:=q.length;have l3:=a4.length;have l4:=a0.length;rw[show eqD (.lst ds) (.lst es)=eqL ds es by simp[eqD]];by_cases Z:ds.length=es.length
  .have e1:B.toArray.size=F.toArray.size:=by rw[List.size_toArray,List.size_toArray];omega
   have e2:ds.length=B.toArray.size:=by rw[List.size_toArray];omega
   rw[←yI Z,e2];exact⟨RcAt.lists p1.isList p2.isList e1 Y (vG h a3 q a4 a0),RcNeAt.lists p1.isList p2.isList e1 Y (vG h a3 q a4 a0)⟩
  .have e1:(B.toArray.size !=F.toArray.size)=true:=by rw[List.size_toArray,List.size_toArray];exact bne_iff_ne.mpr 1.10
   rw[xW Z];exact⟨RcAt.lists_lengths p1.isList p2.isList e1 Y,RcNeAt.lists_lengths p1.isList p2.isList e1 Y⟩
 |@tup ds es h=>
  simp![Brs]at h1 h2;obtain⟨U,a7,rfl,a5,a3⟩:=h1;obtain⟨a2,a8,rfl,a6,q⟩:=h2;cases N;cases O;obtain⟨B,a4,p1,_⟩:=I.tuple a5;obtain⟨F,a0,p2,_⟩:=I.tuple a6;have l1:=a3.length;have l2:=q.length;have l3:=a4.length;have l4:=a0.length;have e:eqD (.tup ds) (.tup es)=((X3 (min B.toArray.size F.toArray.size)).all (eqJ ds es)&&B.toArray.size==F.toArray.size):=by
   rw[show eqD (.tup ds) (.tup es)=eqL ds es by simp[eqD],List.size_toArray,List.size_toArray];by_cases Z:ds.length=es.length
   .rw[show min B.length F.length=ds.length by omega,yI Z,show(B.length==F.length)=true by simp;omega,Bool.and_true]
   .rw[xW Z,show(B.length==F.length)=false by simp;omega,afi]
  rw[e];exact⟨RcAt.tuples p1 p2 Y (vG h a3 q a4 a0),RcNeAt.tuples p1 p2 Y (vG h a3 q a4 a0)⟩
def VB(K:Xl)(A:Yy):R2:=λx y H Q=>∃d e,Alk d e/\Brs K H d x/\Brs K H e y/\A.units<cLine/\Q (.bl (eqD d e)) H
def Wm(K:Xl)(A:Yy):R2:=λx y H Q=>∃d e,Alk d e/\Brs K H d x/\Brs K H e y/\A.units<cLine/\Q (.bl (!eqD d e)) H
theorem RW:OpR X (Yp .Eq) (VB X.K X.A):=by
 intro pins s σ H x y v u Q I rx J ⟨d,e,h,h1,h2,V,q⟩;exact(Ms I h h1 h2 rx J V).1 _ _ _ _ ⟨.bl (eqD d e),H,I,rfl,q⟩
theorem TQ:OpR X (Yp .NotEq) (Wm X.K X.A):=by
 intro pins s σ H x y v u Q I rx J ⟨d,e,h,h1,h2,V,q⟩;exact(Ms I h h1 h2 rx J V).2 _ _ _ _ ⟨.bl (!eqD d e),H,I,rfl,q⟩
end
theorem OpR.or{f:Value->Value->Sem Value}{r F:R2}(h:OpR Y f r)(h':OpR Y f F):OpR Y f (λx y H Q=>r x y H Q∨F x y H Q):=λpins s σ H x y v u Q I rx J q=>q.elim (h pins s σ H x y v u Q I rx J) (h' pins s σ H x y v u Q I rx J)
theorem dO.or{f:Value}{F:List V->Hp->VK->Prop}(h:dO Y f r)(h':dO Y f F):dO Y f (λxs H Q=>r xs H Q∨F xs H Q):=λpins s σ H xs us Q I J q=>q.elim (h pins s σ H xs us Q I J) (h' pins s σ H xs us Q I J)
variable{i:Int}
theorem dR:Rep G H W (.int i) (.int i) []:=by rw[Rep];exact⟨rfl,rfl⟩
theorem yK{i:Str}:Rep G H W (.str i) (.str i) []:=by rw[Rep];exact⟨rfl,rfl⟩
theorem gH{i:Bool}:Rep G H W (.bl i) (.bl i) []:=by rw[Rep];exact⟨rfl,rfl⟩
theorem aV(r:Rep G H W (.int i) v L):v= .int i/\L=[]:=by rw[Rep]at r;exact r
theorem bN{i:Str}(r:Rep G H W (.str i) v L):v= .str i/\L=[]:=by rw[Rep]at r;exact r
theorem oH{i:Bool}(r:Rep G H W (.bl i) v L):v= .bl i/\L=[]:=by rw[Rep]at r;exact r
variable{I:D->D->Option D}{g:Int->Int->V}
theorem FZ(h:∀dx F d,I dx F=some d->∃i j,dx= .int i/\F= .int j/\C i j/\∀H W,Rep G H W d (g i j) []):OpV G (rI C g) I:=λdx F d e x y H W B N rx J nd hn w Q q=>by
 obtain⟨i,j,rfl,rfl,Y,O⟩:=h dx F d e;obtain⟨rfl,rfl⟩:=aV rx;obtain⟨rfl,rfl⟩:=aV J;exact⟨i,j,rfl,rfl,Y,q.scal (λW=>O H W)⟩
theorem Df(h:∀dx F d,I dx F=some d->∃i j,dx= .int i/\F= .int j/\∀H W,Rep G H W d (g i j) []):OpV G (rI0 g) I:=λdx F d e x y H W B Y rx J nd hn w Q q=>by
 obtain⟨i,j,rfl,rfl,O⟩:=h dx F d e;obtain⟨rfl,rfl⟩:=aV rx;obtain⟨rfl,rfl⟩:=aV J;exact⟨i,j,rfl,rfl,q.scal (λW=>O H W)⟩
def gm:D->D->Option D
 |.int a,.int b=>some (.int (a-b))
 |_,_=>none
def gf:D->D->Option D
 |.int a,.int b=>if(-(2 ^ 64)<a/\a<2 ^ 64)∨(-(2 ^ 64)<b/\b<2 ^ 64)then some (.int (a*b))else none
 |_,_=>none
def jL:D->D->Option D
 |.int a,.int b=>if 0<b/\b<18446744073709551616 then some (.int (a / b))else none
 |_,_=>none
def ji:D->D->Option D
 |.int a,.int b=>if 0<b then some (.int (a % b))else none
 |_,_=>none
def lX:D->D->Option D
 |.int a,.int b=>if 0<=b/\b<=1000000/\a.natAbs<2 ^ 64 then some (.int (a ^ b.toNat))else none
 |_,_=>none
theorem mY:OpB X G (Zh .Sub) gm:=⟨_,λc=>Uo,Df λdx F d e=>by
 unfold gm at e;split at e
 .cases e;exact⟨_,_,rfl,rfl,λ_ _=>dR⟩
 .cases e⟩
theorem jj:OpB X G (Zh .Mult) gf:=⟨_,λc=>Ur,FZ λdx F d e=>by
 unfold gf at e;split at e
 .split at e
  .cases e;exact⟨_,_,rfl,rfl,‹_›,λ_ _=>dR⟩
  .cases e
 .cases e⟩
theorem xR:OpB X G (Zh .FloorDiv) jL:=⟨_,λc=>Ni,FZ λdx F d e=>by
 unfold jL at e;split at e
 .split at e
  .cases e;exact⟨_,_,rfl,rfl,‹_›,λ_ _=>dR⟩
  .cases e
 .cases e⟩
theorem lK:OpB X G (Zh .Mod) ji:=⟨_,λc=>Uc,FZ λdx F d e=>by
 unfold ji at e;split at e
 .split at e
  .cases e;exact⟨_,_,rfl,rfl,‹_›,λ_ _=>dR⟩
  .cases e
 .cases e⟩
theorem Cy:OpB X G (Zh .Pow) lX:=⟨_,λc=>T3,FZ λdx F d e=>by
 unfold lX at e;split at e
 .split at e
  .cases e;exact⟨_,_,rfl,rfl,‹_›,λ_ _=>dR⟩
  .cases e
 .cases e⟩
def jP:D->Option D
 |.int a=>some (.int (-a))
 |_=>none
theorem vg:UnB X G (unaryOp .USub) jP:=⟨_,λc=>RP,λdx d e x H W B rx nd hn w Q q=>by
 unfold jP at e;split at e
 .cases e
  obtain⟨rfl,rfl⟩:=aV rx;exact⟨_,rfl,q.scal λW=>dR⟩
 .cases e⟩
def cg:D->D->Option D
 |.int a,.int b=>some (.int (a+b))
 |.str a,.str b=>if a.length+b.length<=Xp then some (.str (a++b))else none
 |.lst m a,.lst n b=>if m≠.scr/\n≠.scr/\a.length+b.length<=1000000 then some (.lst .own (a++b))else none
 |.tup a,.tup b=>if a.length+b.length<=1000000 then some (.tup (a++b))else none
 |_,_=>none
variable{ys:List V}
theorem xF{dx F:List D}{B Y Z I:List Addr}(J:aD G H W dx xs Z)(hy:aD G H W F ys I)(sx:Zn Z B)(N:Zn I Y)(hn:∀a∈B++Y,W.tmp a)(s:Same H H')(q:List Addr)(O:∀a∈q,H a=none):aD G H' ((W.drop (B++Y)).add (q++(Z++I))) (dx++F) (xs++ys) (Z++I):=by
 refine(J.append hy).up ⟨s,λb u U f=>⟨λz=>z.elim (λz=>?_) λz=>f.1 z.1,f.2⟩,λ_ _ _ f=>f⟩;rcases W2.mp z with z|z
 .rw[O b z]at U;cases U
 .rcases W2.mp z with z|z
  .exact f.1 (hn b (Xo _ (sx.subset z))).1
  .exact f.1 (hn b (Xf _ (N.subset z))).1
def VN(K:Xl):R2:=λx y H Q=>((rI0 (λi j=>.int (i+j)) x y H Q∨(∃i j,x= .str i/\y= .str j/\i.length+j.length<=Xp/\Q (.str (i++j)) H))∨Vc x y H Q)∨JL K x y H Q
theorem Qp:OpV G (VN G.K) cg:=λdx dy d e x y H W Lx Ly rx ry nd hn w Q q=>by
 unfold cg at e;split at e
 .cases e
  obtain⟨rfl,rfl⟩:=aV rx;obtain⟨rfl,rfl⟩:=aV ry;exact .inl (.inl (.inl ⟨_,_,rfl,rfl,q.scal λ_=>dR⟩))
 .split at e
  .cases e
   obtain⟨rfl,rfl⟩:=bN rx;obtain⟨rfl,rfl⟩:=bN ry;exact .inl (.inl (.inr ⟨_,_,rfl,rfl,‹_›,q.scal λ_=>yK⟩))
  .cases e
 .rename_i m a n b
  split at e
  .rename_i Y
   cases e;rw[Rep]at rx ry;obtain⟨p,xs,Z,rfl,J,sx⟩:=rx;obtain⟨p',ys,My,rfl,V,sy⟩:=ry;refine .inl (.inr ⟨p,p',xs,ys,rfl,rfl,sx.at Y.1,sy.at Y.2.1,by rw[←J.length,←V.length];exact Z_ (six Y.2.2),λr O=>?_⟩);have B:Same H (upd H r (.lst (xs++ys))):=Same.new O;have nr:r∉Z++My:=λz=>by
    obtain⟨o,N,_⟩:=(J.append V).dom r z;rw[O]at N;cases N
   have I:(Z++My).Nodup:=(sx.sub.append sy.sub).nodup nd;refine q (.ref r) _ (r::(Z++My)) B ?_ (λc Y=>?_) (List.nodup_cons.mpr ⟨nr,I⟩)
   .rw[Rep]
    exact⟨r,xs++ys,Z++My,rfl,xF J V sx.sub sy.sub hn B [r] (by simpa using O),aN,rfl⟩
   .rcases Xj.mp Y with z|z
    .exact .inr (by rw[z];exact O)
    .exact .inl ((sx.sub.append sy.sub).subset z)
  .cases e
 .rename_i a b
  split at e
  .rename_i Y
   cases e;rw[Rep]at rx ry;obtain⟨p,xs,rfl,F,J⟩:=rx;obtain⟨p',ys,rfl,U,V⟩:=ry;have base:∀H' p2,Same H H'->H' p2=some (.tup (xs++ys))->Q (.ref p2) H':=λH' p2 B hq=>by
    refine q (.ref p2) H' (Lx++Ly) B ?_ (λc Y=>.inl Y) nd;rw[Rep];exact⟨p2,xs++ys,rfl,hq,xF J V (aao _) (aao _) hn B [] (by simp)⟩
   refine .inr ⟨p,p',xs,ys,rfl,rfl,SqT.of F,SqT.of U,by rw[←J.length,←V.length];exact Z_ (six Y),λz=>base H p' (Same.refl H) (by rw[z];exact U),λ_ z=>base H p (Same.refl H) (by rw[z,XJ];exact F),λ_ _ r O=>base _ r (Same.new O) aN⟩
  .cases e
 .cases e
theorem fD(I:∀c,(X c).K=G.K:=by intro _;rfl):OpB X G (Zh .Add) cg:=⟨_,λc=>by rw[←I c];exact OpR.or (OpR.or (OpR.or Su Do) Us) KD,Qp⟩
def gLt:D->D->Option D
 |.int a,.int b=>some (.bl (decide (a<b)))
 |.str a,.str b=>some (.bl (decide (a.cps.toList<b.cps.toList)))
 |_,_=>none
def gGt:D->D->Option D
 |.int a,.int b=>some (.bl (decide (b<a)))
 |_,_=>none
def gGe:D->D->Option D
 |.int a,.int b=>some (.bl (decide (b<=a)))
 |_,_=>none
theorem Nz:OpB X G (Yp .Lt) gLt:=⟨_,λc=>OpR.or Wa H9,λdx F d e x y H W B Y rx J nd hn w Q q=>by
 unfold gLt at e;split at e
 .cases e
  obtain⟨rfl,rfl⟩:=aV rx;obtain⟨rfl,rfl⟩:=aV J;exact .inl ⟨_,_,rfl,rfl,q.scal λ_=>gH⟩
 .cases e
  obtain⟨rfl,rfl⟩:=bN rx;obtain⟨rfl,rfl⟩:=bN J;exact .inr ⟨_,_,rfl,rfl,q.scal λ_=>gH⟩
 .cases e⟩
theorem Rz:OpB X G (Yp .Gt) gGt:=⟨_,λc=>Wv,Df λdx F d e=>by
 unfold gGt at e;split at e
 .cases e;exact⟨_,_,rfl,rfl,λ_ _=>gH⟩
 .cases e⟩
theorem V1:OpB X G (Yp .GtE) gGe:=⟨_,λc=>Vz,Df λdx F d e=>by
 unfold gGe at e;split at e
 .cases e;exact⟨_,_,rfl,rfl,λ_ _=>gH⟩
 .cases e⟩
def lO:D->Bool
 |.non=>true
 |_=>false
def gIs:D->D->Option D
 |x,.non=>some (.bl (lO x))
 |_,_=>none
theorem HB(r:Rep G H W d v L):decide (v= .non)=lO d:=by
 cases d<;>rw[Rep]at r
 case non=>obtain⟨rfl,_⟩:=r;rfl
 case bl=>obtain⟨rfl,_⟩:=r;rfl
 case int=>obtain⟨rfl,_⟩:=r;rfl
 case str=>obtain⟨rfl,_⟩:=r;rfl
 case ty=>obtain⟨rfl,_⟩:=r;rfl
 case tup=>obtain⟨a,xs,rfl,_⟩:=r;rfl
 case lst=>obtain⟨a,xs,M,rfl,_⟩:=r;rfl
 case dct=>obtain⟨a,xs,M,rfl,_⟩:=r;rfl
 case ins=>obtain⟨a,C,dx,xs,M,rfl,_⟩:=r;rfl
theorem Q8:OpB X G (Yp .Is) gIs:=⟨_,λc=>SX,λdx F d e x y H W B Y rx J nd hn w Q q=>by
 unfold gIs at e;split at e
 .cases e
  rw[Rep]at J;exact⟨J.1,by rw[HB rx];exact q.scal λ_=>gH⟩
 .cases e⟩
mutual
noncomputable def dt:D->Dt
 |.non=>.non
 |.bl b=>.bl b
 |.int i=>.int i
 |.str x=>.str x
 |.tup ds=>.tup (dtL ds)
 |.lst _ ds=>.lst (dtL ds)
 |_=>.non
noncomputable def dtL:List D->List Dt
 |[]=>[]
 |d::r=>dt d::dtL r
end
mutual
noncomputable def ik:D->Bool
 |.ty _=>false
 |.dct _ _ _=>false
 |.ins _ _ _ _=>false
 |.tup ds=>jl ds
 |.lst _ ds=>jl ds
 |_=>true
noncomputable def jl:List D->Bool
 |[]=>true
 |d::r=>ik d&&jl r
end
mutual
theorem Rep.brs{H:Hp}{W:Wn}:∀{d:D}{v:V}{L:List Addr},Rep G H W d v L->ik d=true->Brs G.K H (dt d) v
 |.non,v,L,r,_=>by rw[Rep]at r;simp[dt,Brs,r]
 |.bl _,v,L,r,_=>by rw[Rep]at r;simp[dt,Brs,r]
 |.int _,v,L,r,_=>by rw[Rep]at r;simp[dt,Brs,r]
 |.str _,v,L,r,_=>by rw[Rep]at r;simp[dt,Brs,r]
 |.ty _,v,L,r,h=>by cases h
 |.dct _ _ _,v,L,r,h=>by cases h
 |.ins _ _ _ _,v,L,r,h=>by cases h
 |.tup ds,v,L,r,h=>by
  rw[Rep]at r;obtain⟨a,xs,rfl,U,O⟩:=r;rw[dt,Brs];exact⟨a,xs,rfl,SqT.of U,aD.brs O h⟩
 |.lst m ds,v,L,r,h=>by
  rw[Rep]at r;obtain⟨a,xs,M,rfl,O,hs⟩:=r;rw[dt,Brs];exact⟨a,xs,rfl,hs.sq,aD.brs O h⟩
theorem aD.brs{H:Hp}{W:Wn}:∀{ds:List D}{vs:List V}{L:List Addr},aD G H W ds vs L->jl ds=true->kE G.K H (dtL ds) vs
 |[],vs,L,r,_=>by obtain⟨rfl,_⟩:=r.inv0;simp[dtL,kE]
 |d::r,vs,L,hr,h=>by
  obtain⟨x,ys,M,M',rfl,rfl,h1,h2⟩:=hr.inv;rw[jl,XR]at h;rw[dtL,kE];exact⟨x,ys,rfl,Rep.brs h1 h.1,aD.brs h2 h.2⟩
end
open Classical in
def gEq:D->D->Option D:=λx y=>if ik x=true/\ik y=true/\Alk (dt x) (dt y)then some (.bl (eqD (dt x) (dt y)))else none
open Classical in
def gNe:D->D->Option D:=λx y=>if ik x=true/\ik y=true/\Alk (dt x) (dt y)then some (.bl (!eqD (dt x) (dt y)))else none
theorem cb_eq(A:Yy)(Z:∀c,(X c).A=A)(V:A.units+64<cLine)(I:∀c,(X c).K=G.K:=by intro _;rfl):OpB X G (Yp .Eq) gEq:=⟨VB G.K A,λc=>by rw[←I c,←Z c];exact RW,λdx F d e x y H W B Y rx J nd hn w Q q=>by
 unfold gEq at e;split at e
 .rename_i hc
  cases e;exact⟨_,_,hc.2.2,rx.brs hc.1,J.brs hc.2.1,by omega,q.scal λ_=>gH⟩
 .cases e⟩
theorem nZ(A:Yy)(Z:∀c,(X c).A=A)(V:A.units+64<cLine)(I:∀c,(X c).K=G.K:=by intro _;rfl):OpB X G (Yp .NotEq) gNe:=⟨Wm G.K A,λc=>by rw[←I c,←Z c];exact TQ,λdx F d e x y H W B Y rx J nd hn w Q q=>by
 unfold gNe at e;split at e
 .rename_i hc
  cases e;exact⟨_,_,hc.2.2,rx.brs hc.1,J.brs hc.2.1,by omega,q.scal λ_=>gH⟩
 .cases e⟩
def gIx:D->D->Option D
 |.lst _ ds,.int i=>atI ds i
 |.tup ds,.int i=>atI ds i
 |.str z,.int i=>if z.length<=Xp then(atI z.cps.toList i).map λc=>.str ⟨#[c]⟩else none
 |.dct _ ks ds,k=>(d9 k).bind λk=>(eY ks k).bind λj=>ds[j]?
 |_,_=>none
theorem Ir(O:aD G H W ds xs L)(e:atI ds i=some d):∃j:Nat,ds[j]? =some d/\∀x,xs[j]? =some x->atI xs i=some x:=by
 unfold atI at e⊢;rw[←O.length];cases h:ixN ds.length i with
 |none=>simp[h]at e
 |some j=>
  refine⟨j,by simpa[h]using e,λx J=>by simpa using J⟩
variable{x:V}
theorem rA{B Y:List Addr}(r:Rep G H W d x M)(s:Zn M B)(nd:(B++Y).Nodup)(hn:∀a∈B++Y,W.tmp a)(q:Done G H W (B++Y) d Q):Q x H:=by
 refine q x H M (Same.refl H) (r.up ⟨Same.refl H,λb u U f=>⟨λz=>z.elim (λz=>f.1 (hn b (Xo _ (s.subset z))).1) λz=>f.1 z.1,f.2⟩,λ_ _ _ f=>f⟩) (λa Z=>.inl (Xo _ (s.subset Z))) (s.nodup (Xx.mp nd).1)
theorem Tc:OpV G (λx y H Q=>rIx G.K x y H Q∨O8 x y H Q) gIx:=λdx dy d e x y H W Lx Y rx J nd hn w Q q=>by
 unfold gIx at e;split at e
 .rename_i m ds i
  obtain⟨rfl,rfl⟩:=aV J;rw[Rep]at rx;obtain⟨a,xs,M,rfl,O,hs⟩:=rx;obtain⟨j,h1,h2⟩:=Ir O e;obtain⟨z,Mz,h3,F,Z⟩:=O.get h1;exact .inl (.inl ⟨a,xs,i,z,rfl,rfl,hs.sq,h2 z h3,rA F (Z.trans hs.sub) nd hn q⟩)
 .rename_i ds i
  obtain⟨rfl,rfl⟩:=aV J;rw[Rep]at rx;obtain⟨a,xs,rfl,U,O⟩:=rx;obtain⟨j,h1,h2⟩:=Ir O e;obtain⟨z,Mz,h3,F,Z⟩:=O.get h1;exact .inl (.inr (.inl ⟨a,xs,i,z,rfl,rfl,SqT.of U,h2 z h3,rA F Z nd hn q⟩))
 .rename_i z i
  obtain⟨rfl,rfl⟩:=aV J;obtain⟨rfl,rfl⟩:=bN rx;split at e
  .rename_i hl
   cases h1:atI z.cps.toList i with
   |none=>simp[h1]at e
   |some c=>
    obtain rfl:D.str ⟨#[c]⟩=d:=by simpa[h1]using e
    exact .inl (.inr (.inr ⟨z,i,c,rfl,rfl,hl,h1,q.scal λ_=>yK⟩))
  .cases e
 .rename_i m ks ds
  cases B:d9 dy with
  |none=>simp[B]at e
  |some k=>
   cases I:eY ks k with
   |none=>simp[B,I]at e
   |some j=>
    have N:ds[j]? =some d:=by simpa[B,I]using e
    rw[Rep]at rx;obtain⟨a,kvs,M,rfl,⟨rfl,V⟩,O,hs⟩:=rx;obtain⟨z,Mz,h3,F,Z⟩:=O.get N;have hv:=qm I;rw[h3]at hv;refine .inr ⟨a,z,rfl,.inl ⟨kvs,k,hs.rdD,mR J B,hv.symm⟩,rA F (Z.trans hs.sub) nd hn q⟩
 .cases e
theorem ixb(V:∀c,(X c).A.units+1<cLine)(I:∀c,(X c).K=G.K:=by intro _;rfl):IxB X G gIx:=⟨_,λc=>by rw[←I c];exact Ke (V c),Tc⟩
def scV:D->Option V
 |.non=>some .non
 |.bl b=>some (.bl b)
 |.int i=>some (.int i)
 |.str x=>some (.str x)
 |_=>none
def vV:List D->Option (List V)
 |[]=>some []
 |d::r=>(scV d).bind λv=>(vV r).map λt=>v::t
theorem xN{u:V}(r:Rep G H W d v L)(h:scV d=some u):v=u/\lR u=true:=by
 cases d<;>simp[scV]at h<;>subst h<;>rw[Rep]at r<;>exact⟨r.1,rfl⟩
theorem ur:∀{ds:List D}{vs us:List V}{L:List Addr},aD G H W ds vs L->vV ds=some us->vs=us/\us.all lR=true
 |[],vs,us,L,r,h=>by
  cases h;exact⟨r.inv0.1,rfl⟩
 |d::t,vs,us,L,r,h=>by
  obtain⟨x,ys,M,M',rfl,rfl,h1,h2⟩:=r.inv;rw[vV]at h;cases e1:scV d with
  |none=>simp[e1]at h
  |some v=>
   cases e2:vV t with
   |none=>simp[e1,e2]at h
   |some w=>
    obtain rfl:v::w=us:=by simpa[e1,e2]using h
    obtain⟨rfl,q⟩:=xN h1 e1;obtain⟨rfl,N⟩:=ur h2 e2;exact⟨rfl,by simp[q,N]⟩
def Ra(x y:Str):Bool:=!(Yv y x 0 y.length 1).isEmpty
def qY:D->D->Option Bool
 |x,.lst _ ds=>(scV x).bind λv=>(vV ds).map λvs=>inV v vs
 |x,.tup ds=>(scV x).bind λv=>(vV ds).map λvs=>inV v vs
 |.str x,.str y=>some (Ra x y)
 |x,.dct _ ks _=>(d9 x).map λk=>(eY ks k).isSome
 |_,_=>none
def gIn(x y:D):Option D:=(qY x y).map .bl
def gU(x y:D):Option D:=(qY x y).map λb=>.bl !b
theorem CQ(V:Y.A.units+1<cLine):OpR Y (Yp .In) (λx y H Q=>∃a o,y= .ref a/\rN H a x o/\Q (.bl o.isSome) H):=λpins s σ H x y v u Q I rx J h=>by
 obtain⟨a,o,rfl,g,q⟩:=h;cases J;exact WX V I g rx λB Z=>⟨.bl o.isSome,H,Z,rfl,q⟩
theorem vZ(V:Y.A.units+1<cLine):OpR Y (Yp .NotIn) (λx y H Q=>∃a o,y= .ref a/\rN H a x o/\Q (.bl (!o.isSome)) H):=λpins s σ H x y v u Q I rx J h=>by
 obtain⟨a,o,rfl,g,q⟩:=h;cases J;exact Qy V I g rx λB Z=>⟨.bl (!o.isSome),H,Z,rfl,q⟩
theorem M4{dx F:D}{y:V}{B Y:List Addr}(e:qY dx F=some b)(rx:Rep G H W dx x B)(J:Rep G H W F y Y) :
  (∃p xs,y= .ref p/\(SqL G.K H p xs∨SqT G.K H p xs)/\lR x=true/\xs.all lR=true/\b=inV x xs)∨(∃i j,x= .str i/\y= .str j/\b=Ra i j)∨(∃a o,y= .ref a/\rN H a x o/\b=o.isSome):=by
 unfold qY at e;split at e
 .rename_i m ds
  cases e1:scV dx with
  |none=>simp[e1]at e
  |some v=>
   cases e2:vV ds with
   |none=>simp[e1,e2]at e
   |some vs=>
    obtain rfl:inV v vs=b:=by simpa[e1,e2]using e
    rw[Rep]at J;obtain⟨a,xs,M,rfl,O,hs⟩:=J;obtain⟨rfl,q⟩:=xN rx e1;obtain⟨rfl,N⟩:=ur O e2;exact .inl ⟨a,_,rfl,.inl hs.sq,q,N,rfl⟩
 .rename_i ds
  cases e1:scV dx with
  |none=>simp[e1]at e
  |some v=>
   cases e2:vV ds with
   |none=>simp[e1,e2]at e
   |some vs=>
    obtain rfl:inV v vs=b:=by simpa[e1,e2]using e
    rw[Rep]at J;obtain⟨a,xs,rfl,U,O⟩:=J;obtain⟨rfl,q⟩:=xN rx e1;obtain⟨rfl,N⟩:=ur O e2;exact .inl ⟨a,_,rfl,.inr (SqT.of U),q,N,rfl⟩
 .cases e
  obtain⟨rfl,_⟩:=bN rx;obtain⟨rfl,_⟩:=bN J;exact .inr (.inl ⟨_,_,rfl,rfl,rfl⟩)
 .rename_i m ks ds
  cases e1:d9 dx with
  |none=>simp[e1]at e
  |some k=>
   have e':(eY ks k).isSome=b:=by simpa[e1]using e
   rw[Rep]at J;obtain⟨a,kvs,M,rfl,⟨rfl,Z⟩,O,hs⟩:=J;refine .inr (.inr ⟨a,lV kvs k,rfl,.inl ⟨kvs,k,hs.rdD,mR rx e1,rfl⟩,?_⟩);rw[←e'];cases I:eY (kvs.map (·.1)) k with
   |none=>rw[wj I];rfl
   |some j=>
    rw[qm I,Xk (by simpa using t6 I)];rfl
 .cases e
def W_(K:Xl):R2:=λx y H Q=>(rIn K false x y H Q∨(∃i j,x= .str i/\y= .str j/\Q (.bl (!(Yv j i 0 j.length 1).isEmpty)) H))∨∃a o,y= .ref a/\rN H a x o/\Q (.bl o.isSome) H
def Ox(K:Xl):R2:=λx y H Q=>(rIn K true x y H Q∨(∃i j,x= .str i/\y= .str j/\Q (.bl (!(!(Yv j i 0 j.length 1).isEmpty))) H))∨∃a o,y= .ref a/\rN H a x o/\Q (.bl (!o.isSome)) H
theorem FP(V:∀c,(X c).A.units+1<cLine)(I:∀c,(X c).K=G.K:=by intro _;rfl):OpB X G (Yp .In) gIn:=⟨W_ G.K,λc=>by rw[←I c];exact OpR.or (OpR.or GF G6) (CQ (V c)),λdx U d e x y H W B Y rx J nd hn w Q q=>by
 unfold gIn at e;cases h1:qY dx U with
 |none=>simp[h1]at e
 |some b=>
  obtain rfl:D.bl b=d:=by simpa[h1]using e
  have N:Q (.bl b) H:=q.scal λ_=>gH;rcases M4 h1 rx J with⟨p,xs,rfl,h2,O,F,rfl⟩|⟨i,j,rfl,rfl,rfl⟩|⟨a,o,rfl,h2,rfl⟩
  .exact .inl (.inl ⟨p,xs,rfl,h2,O,F,N⟩)
  .exact .inl (.inr ⟨i,j,rfl,rfl,N⟩)
  .exact .inr ⟨a,o,rfl,h2,N⟩⟩
theorem p6(V:∀c,(X c).A.units+1<cLine)(I:∀c,(X c).K=G.K:=by intro _;rfl):OpB X G (Yp .NotIn) gU:=⟨Ox G.K,λc=>by rw[←I c];exact OpR.or (OpR.or yz yg) (vZ (V c)),λdx U d e x y H W B Y rx J nd hn w Q q=>by
 unfold gU at e;cases h1:qY dx U with
 |none=>simp[h1]at e
 |some b=>
  obtain rfl:D.bl (!b)=d:=by simpa[h1]using e
  have N:Q (.bl (!b)) H:=q.scal λ_=>gH;rcases M4 h1 rx J with⟨p,xs,rfl,h2,O,F,rfl⟩|⟨i,j,rfl,rfl,rfl⟩|⟨a,o,rfl,h2,rfl⟩
  .exact .inl (.inl ⟨p,xs,rfl,h2,O,F,N⟩)
  .exact .inl (.inr ⟨i,j,rfl,rfl,N⟩)
  .exact .inr ⟨a,o,rfl,h2,N⟩⟩
theorem aD.inv1(r:aD G H W [d] xs L):∃x,xs=[x]/\Rep G H W d x L:=by
 obtain⟨x,ys,M,M',rfl,rfl,h1,h2⟩:=r.inv;obtain⟨rfl,rfl⟩:=h2.inv0;exact⟨x,rfl,by rw[XJ];exact h1⟩
theorem aD.inv2{e:D}(r:aD G H W [d,e] xs L):∃x y M N,xs=[x,y]/\L=M++N/\Rep G H W d x M/\Rep G H W e y N:=by
 obtain⟨x,ys,M,M',rfl,rfl,h1,h2⟩:=r.inv;obtain⟨y,rfl,O⟩:=h2.inv1;exact⟨x,y,M,M',rfl,rfl,h1,O⟩
def cT:List D->Option D
 |[.lst _ ds]=>some (.int ds.length)
 |[.tup ds]=>some (.int ds.length)
 |[.str z]=>if z.length<=Xp then some (.int z.length)else none
 |[.dct m _ ds]=>if m= .scr then none else some (.int ds.length)
 |_=>none
theorem h_(I:∀c,(X c).K=G.K:=by intro _;rfl):CaB X G (.builtin "len") cT:=⟨λxs H Q=>((∃p ys,xs=[.ref p]/\(SqL G.K H p ys∨SqT G.K H p ys)/\Q (.int ys.length) H)∨∃z,xs=[.str z]/\z.length<=Xp/\Q (.int z.length) H)∨∃a kvs,xs=[V.ref a]/\H a=some (.dK kvs)/\Q (.int kvs.length) H,λc=>by rw[←I c];exact dO.or (dO.or yL xT) Hm,λds d e xs H W Y r nd hn w Q q=>by
 unfold cT at e;split at e
 .cases e
  obtain⟨x,rfl,rx⟩:=r.inv1;rw[Rep]at rx;obtain⟨a,ys,M,rfl,O,hs⟩:=rx;exact .inl (.inl ⟨a,ys,rfl,.inl hs.sq,by rw[←O.length];exact q.scal λ_=>dR⟩)
 .cases e
  obtain⟨x,rfl,rx⟩:=r.inv1;rw[Rep]at rx;obtain⟨a,ys,rfl,U,O⟩:=rx;exact .inl (.inl ⟨a,ys,rfl,.inr (SqT.of U),by rw[←O.length];exact q.scal λ_=>dR⟩)
 .split at e
  .cases e
   obtain⟨x,rfl,rx⟩:=r.inv1;obtain⟨rfl,rfl⟩:=bN rx;exact .inl (.inr ⟨_,rfl,‹_›,q.scal λ_=>dR⟩)
  .cases e
 .split at e
  .cases e
  .cases e
   obtain⟨x,rfl,rx⟩:=r.inv1;rw[Rep]at rx;obtain⟨a,kvs,M,rfl,B,O,hs⟩:=rx;exact .inr ⟨a,kvs,rfl,hs.at ‹_›,by have:=O.length;simp at this;rw[←this];exact q.scal λ_=>dR⟩
 .cases e⟩
def nQ:List D->Option D
 |[.int i]=>some (.int (if i<0 then -i else i))
 |_=>none
theorem Er:CaB X G (.builtin "abs") nQ:=⟨_,λc=>Mt,λds d e xs H W Y r nd hn w Q q=>by
 unfold nQ at e;split at e
 .cases e
  obtain⟨x,rfl,rx⟩:=r.inv1;obtain⟨rfl,rfl⟩:=aV rx;exact⟨_,rfl,q.scal λ_=>dR⟩
 .cases e⟩
def ql:List D->Option D
 |[.int i]=>some (.int i)
 |[.bl k]=>some (.int (if k then 1 else 0))
 |_=>none
theorem Pg:CaB X G (.type "int") ql:=⟨_,λc=>Hh,λds d e xs H W Y r nd hn w Q q=>by
 unfold ql at e;split at e
 .cases e
  obtain⟨x,rfl,rx⟩:=r.inv1;obtain⟨rfl,rfl⟩:=aV rx;exact .inl ⟨_,rfl,q.scal λ_=>dR⟩
 .cases e
  obtain⟨x,rfl,rx⟩:=r.inv1;obtain⟨rfl,rfl⟩:=oH rx;exact .inr ⟨_,rfl,q.scal λ_=>dR⟩
 .cases e⟩
def jo:List D->Option D
 |[.int i,.int j]=>some (.int (if j<i then j else i))
 |_=>none
theorem Am(Y:∀c,(X c).calm=true):CaB X G (.builtin "min") jo:=⟨_,λc=>Hk (Y c),λds d e xs H W B r nd hn w Q q=>by
 unfold jo at e;split at e
 .cases e
  obtain⟨x,y,M,N,rfl,rfl,rx,J⟩:=r.inv2;obtain⟨rfl,rfl⟩:=aV rx;obtain⟨rfl,rfl⟩:=aV J;exact⟨_,_,rfl,q.scal λ_=>dR⟩
 .cases e⟩
variable{p:Addr}
theorem Hu{Y:List Addr}(O:aD G H W ds xs M)(s:Zn M Y)(nd:Y.Nodup)(hn:∀a∈Y,W.tmp a)(F:H p=none)(q:Done G H W Y (.lst .own ds) Q):Q (.ref p) (upd H p (.lst xs)):=by
 have B:Same H (upd H p (.lst xs)):=Same.new F;have I:p∉M:=λz=>by obtain⟨o,N,_⟩:=O.dom p z;rw[F]at N;cases N
 refine q (.ref p) _ (p::M) B ?_ (λa Z=>(Xj.mp Z).elim (λz=>.inr (by rw[z];exact F)) λz=>.inl (s.subset z)) (List.nodup_cons.mpr ⟨I,s.nodup nd⟩);rw[Rep];exact⟨p,xs,M,rfl,O.up ⟨B,λb u U f=>⟨λz=>z.elim (λz=>(Xj.mp z).elim (λz=>by rw[z,F]at U;cases U) λz=>f.1 (hn b (s.subset z)).1) λz=>f.1 z.1,f.2⟩,λ_ _ _ f=>f⟩,aN,rfl⟩
theorem xr{Y:List Addr}(O:aD G H W ds xs M)(s:Zn M Y)(nd:Y.Nodup)(hn:∀a∈Y,W.tmp a)(F:H p=none)(q:Done G H W Y (.tup ds) Q):Q (.ref p) (upd H p (.tup xs)):=by
 have B:Same H (upd H p (.tup xs)):=Same.new F;refine q (.ref p) _ M B ?_ (λa Z=>.inl (s.subset Z)) (s.nodup nd);rw[Rep];exact⟨p,xs,rfl,aN,O.up ⟨B,λb u U f=>⟨λz=>z.elim (λz=>f.1 (hn b (s.subset z)).1) λz=>f.1 z.1,f.2⟩,λ_ _ _ f=>f⟩⟩
theorem oG{Y:List Addr}(O:Rep G H W d x M)(s:Zn M Y)(nd:Y.Nodup)(hn:∀a∈Y,W.tmp a)(q:Done G H W Y d Q):Q x H:=by
 refine q x H M (Same.refl H) (O.up ⟨Same.refl H,λb u U f=>⟨λz=>z.elim (λz=>f.1 (hn b (s.subset z)).1) λz=>f.1 z.1,f.2⟩,λ_ _ _ f=>f⟩) (λa Z=>.inl (s.subset Z)) (s.nodup nd)
def fU:List D->Option D
 |[.lst _ ds]=>some (.tup ds)
 |[.tup ds]=>some (.tup ds)
 |_=>none
theorem qQ(I:∀c,(X c).K=G.K:=by intro _;rfl):CaB X G (.type "tuple") fU:=⟨λxs H Q=>∃p ys,xs=[.ref p]/\((SqL G.K H p ys/\∀l,H l=none->Q (.ref l) (upd H l (.tup ys)))∨(SqT G.K H p ys/\Q (.ref p) H)),λc=>by rw[←I c];exact v9,λds d e xs H W Y r nd hn w Q q=>by
 unfold fU at e;split at e
 .cases e
  obtain⟨x,rfl,rx⟩:=r.inv1;rw[Rep]at rx;obtain⟨a,ys,M,rfl,O,hs⟩:=rx;exact⟨a,ys,rfl,.inl ⟨hs.sq,λp F=>xr O hs.sub nd hn F q⟩⟩
 .cases e
  obtain⟨x,rfl,rx⟩:=r.inv1;have V:=rx;rw[Rep]at rx;obtain⟨a,ys,rfl,U,O⟩:=rx;exact⟨a,ys,rfl,.inr ⟨SqT.of U,oG V (aao _) nd hn q⟩⟩
 .cases e⟩
def tyN:D->Option String
 |.non=>some "NoneType"
 |.bl _=>some "bool"
 |.int _=>some "int"
 |.str _=>some "str"
 |.tup _=>some "tuple"
 |.lst m _=>if m= .scr then none else some "list"
 |.dct m _ _=>if m= .scr then none else some "dict"
 |_=>none
def okT(n:String):Bool:=n=="int"||n=="bool"||n=="str"||n=="list"||n=="tuple"
def isT(t n:String):Bool:=t==n||(t=="bool"&&n=="int")
variable{t:String}
theorem Fq{K:Xl}{n:String}(h1:tyN d=some t)(h2:okT n=true):ab9 K (.type t) (.type n)=some (isT t n):=by
 have U:t="NoneType"∨t="bool"∨t="int"∨t="str"∨t="tuple"∨t="list"∨t="dict":=by
  cases d<;>simp[tyN]at h1<;>(try split at h1)<;>simp_all
 have hn:n="int"∨n="bool"∨n="str"∨n="list"∨n="tuple":=by simpa[okT,or_assoc]using h2
 rcases U with rfl|rfl|rfl|rfl|rfl|rfl|rfl<;>rcases hn with rfl|rfl|rfl|rfl|rfl<;>with_unfolding_all rfl
theorem Aw(r:Rep G H W d v L)(h:tyN d=some t):lW G.K H v (.type t):=by
 cases d with
 |non=>rw[Rep]at r;obtain⟨rfl,_⟩:=r;cases h;exact .non
 |bl b=>rw[Rep]at r;obtain⟨rfl,_⟩:=r;cases h;exact .bl _
 |int b=>rw[Rep]at r;obtain⟨rfl,_⟩:=r;cases h;exact .int _
 |str b=>rw[Rep]at r;obtain⟨rfl,_⟩:=r;cases h;exact .str _
 |ty n=>cases h
 |tup ds=>rw[Rep]at r;obtain⟨a,xs,rfl,U,O⟩:=r;cases h;exact .tup U
 |lst m ds=>
  rw[Rep]at r;obtain⟨a,xs,M,rfl,O,hs⟩:=r;simp![tyN]at h;split at h
  .cases h
  .cases h;exact .lst (hs.at ‹_›)
 |dct m ks ds=>
  rw[Rep]at r;obtain⟨a,xs,M,rfl,B,O,hs⟩:=r;simp![tyN]at h;split at h
  .cases h
  .cases h;exact .dK (hs.at ‹_›)
 |ins m c fs ds=>cases h
def Bj:List D->Option (List String)
 |[]=>some []
 |.ty n::r=>(Bj r).map λt=>n::t
 |_::_=>none
theorem wV:∀{ds:List D}{vs:List V}{L:List Addr}{ns:List String},aD G H W ds vs L->Bj ds=some ns->vs=ns.map V.ty
 |[],vs,L,ns,r,h=>by cases h;rw[r.inv0.1];rfl
 |d::t,vs,L,ns,r,h=>by
  obtain⟨x,ys,M,M',rfl,rfl,h1,h2⟩:=r.inv;cases d<;>simp[Bj]at h;obtain⟨w,O,rfl⟩:=h;rw[Rep]at h1;rw[h1.1,wV h2 O];rfl
theorem uD{K:Xl}(h1:tyN d=some t):∀{ns:List String},ns.all okT=true->acd K (.type t) (ns.map Y8)=some (ns.any (isT t))
 |[],_=>rfl
 |n::r,h=>by
  rw[aa0,XR]at h;rw[Xi,acd,Fq h1 h.1];cases e:isT t n with
  |true=>simp[e]
  |false=>simp![e];rw[uD h1 h.2];simp[e]
def b_:List D->Option D
 |[x,.ty n]=>(tyN x).bind λt=>if okT n=true then some (.bl (isT t n))else none
 |[x,.tup ts]=>(tyN x).bind λt=>(Bj ts).bind λns=>if ns.all okT=true then some (.bl (ns.any (isT t)))else none
 |_=>none
theorem cY(I:∀c,(X c).K=G.K:=by intro _;rfl):CaB X G (.builtin "isinstance") b_:=⟨λxs H Q=>(∃x n t b,xs=[x,.ty n]/\lW G.K H x t/\ab9 G.K t (.type n)=some b/\Q (.bl b) H)∨∃x tp F t b,xs=[x,.ref tp]/\H tp=some (.tup (List.map V.ty F))/\lW G.K H x t/\acd G.K t (F.map Y8)=some b/\Q (.bl b) H,λc=>by rw[←I c];exact dO.or zu yt,λds d e xs H W Y r nd hn w Q q=>by
 unfold b_ at e;split at e
 .rename_i x n
  cases e1:tyN x with
  |none=>simp[e1]at e
  |some t=>
   rw[e1]at e;simp![Mx]at e;split at e
   .cases e
    obtain⟨u,v,M,N,rfl,rfl,rx,J⟩:=r.inv2;rw[Rep]at J;obtain⟨rfl,_⟩:=J;exact .inl ⟨u,n,_,_,rfl,Aw rx e1,Fq e1 ‹_›,q.scal λ_=>gH⟩
   .cases e
 .rename_i x ts
  cases e1:tyN x with
  |none=>simp[e1]at e
  |some t=>
   cases e2:Bj ts with
   |none=>simp[e1,e2]at e
   |some ns=>
    rw[e1,e2]at e;simp![Mx]at e;split at e
    .cases e
     obtain⟨u,v,M,N,rfl,rfl,rx,J⟩:=r.inv2;rw[Rep]at J;obtain⟨a,ys,rfl,U,O⟩:=J;have:=wV O e2;subst this;exact .inr ⟨u,a,ns,_,_,rfl,U,Aw rx e1,uD e1 ‹_›,q.scal λ_=>gH⟩
    .cases e
 .cases e⟩
theorem IW{a1:List V}{a0:List D}{M0 N B R:List Addr}(O:aD G H W a0 a1 B)(rr:Rep G H W res x R)(F:az a0=true)(J:aB a0=true)(kr:clean res=true)
  (Z:a∉B++R) (nd:(B++R).Nodup) (sub:∀b∈B++R,b∈M0∨b∈N)
  (q:∀x H' M' R,(∀b u,H b=some u->b∉a::M0->H' b=some u)->(∀W',Evo H H' W W'->Rep G H' W' (.lst .own a0) (.ref a) M'/\Rep G H' W' res x R)->(M'++R).Nodup->(∀b∈M'++R,b∈a::M0∨b∈N∨H b=none)->clean (.lst .own a0)=true->clean res=true->Q x H'):Q x (upd H a (.lst a1)):=by
 have a2:=(by simpa[clean]using kr:aA res=true/\au res=true);refine q x _ (a::B) R (λb u U n=>by rw[aJ (show b≠a from λz=>n (by rw[z];simp))];exact U) (λW' I=>⟨?_,?_⟩) ?_ (λb U=>?_) (rF F J) kr
 .rw[Rep]
  exact⟨a,a1,B,rfl,Ej O F J (λz=>Z (Xo _ z)) I,aN,rfl⟩
 .exact rr.mono I (.inl a2.1) (.inl a2.2) λc Y u hu=>by rw[aJ (show c≠a from λz=>Z (Xf _ (z▸Y)))];exact hu
 .rw[Yc]
  exact List.nodup_cons.mpr ⟨Z,nd⟩
 .rw[Yc]at U
  rcases Xj.mp U with z|z
  .exact .inl (by simp[z])
  .exact(sub b z).imp (λz=>XQ _ z) .inl
theorem lL(h:az ds=true):∀d∈ds,aA d=true:=λd hd=>let⟨i,hi⟩:=ad1 hd;iT h hi
theorem lH(h:aB ds=true):∀d∈ds,au d=true:=λd hd=>let⟨i,hi⟩:=ad1 hd;iU h hi
theorem bh:∀{ds:List D},(∀d∈ds,aA d=true)->az ds=true
 |[],_=>rfl
 |d::r,h=>by rw[az,h d (by simp),bh λe V=>h e (by simp[V])];rfl
theorem a_:∀{ds:List D},(∀d∈ds,au d=true)->aB ds=true
 |[],_=>rfl
 |d::r,h=>by rw[aB,h d (by simp),a_ λe V=>h e (by simp[V])];rfl
theorem aD.revL:∀{ds:List D}{xs:List V}{L:List Addr},aD G H W ds xs L->∃M,aD G H W ds.reverse xs.reverse M/\Yt M L
 |[],xs,L,r=>by obtain⟨rfl,rfl⟩:=r.inv0;exact⟨[],.nil,.refl _⟩
 |d::t,xs,L,r=>by
  obtain⟨x,ys,M,M',rfl,rfl,h1,h2⟩:=r.inv;obtain⟨N,O,pm⟩:=aD.revL h2;refine⟨N++M,?_,(pm.append_right M).trans aai⟩;rw[abt,abt];exact O.append (.one h1)
def j5:D->List D->Option (D×D)
 |.lst .own ds,[.int i]=>if ds.length<1000000 then(ixN ds.length i).bind λk=>(ds[k]?).map λe=>(.lst .own (ds.eraseIdx k),e)else none
 |_,_=>none
theorem aD.erase(h:aD G H W ds xs L)(e:ds[j]? =some d):∃x M N,xs[j]? =some x/\Rep G H W d x M/\aD G H W (ds.eraseIdx j) (xs.eraseIdx j) N/\Yt (N++M) L:=by
 obtain⟨A,B,x,ys,zs,J,M,Y,rfl,q,rfl,Z,rfl,h1,h2,O⟩:=h.at e;refine⟨x,M,J++Y,by rw[Y0 1.10,Z,aax];rfl,h2,?_,?_⟩
 .have e1:(A++d::B).eraseIdx j=A++B:=by rw[abD 1.10,q,aax];rfl
  have e2:(ys++x::zs).eraseIdx j=ys++zs:=by rw[abD 1.10,Z,aax];rfl
  rw[e1,e2];exact h1.append O
 .rw[aan]
  exact List.Perm.append_left J aai
theorem wK(h:d∈ds.eraseIdx k):d∈ds:=(List.eraseIdx_sublist ds k).subset h
theorem Jk{e:D}{M0 N:List Addr}(O:aD G H W ds ys M0)(nd:((a::M0)++N).Nodup)(Y:clean (.lst .own ds)=true)(B:ds[k]? =some e)
  (q:∀x H' M' R,(∀b u,H b=some u->b∉a::M0->H' b=some u)->(∀W',Evo H H' W W'->Rep G H' W' (.lst .own (ds.eraseIdx k)) (.ref a) M'/\Rep G H' W' e x R)->(M'++R).Nodup->(∀b∈M'++R,b∈a::M0∨b∈N∨H b=none)->clean (.lst .own (ds.eraseIdx k))=true->clean e=true->Q x H'):∃y,ys[k]? =some y/\Q y (upd H a (.lst (ys.eraseIdx k))):=by
 obtain⟨F,k2⟩:=m6 Y;obtain⟨x,M,L,J,rx,I,pm⟩:=O.erase B;have Z:=Xx.mp nd;have hn:=Yo.mp Z.1;refine⟨x,J,IW (M0:=M0) (N:=N) I rx (bh λd hd=>lL F d (wK hd)) (a_ λd hd=>lH k2 d (wK hd)) (by simp[clean,iT F B,iU k2 B]) (λz=>hn.1 (pm.mem_iff.mp z)) (pm.nodup_iff.mpr hn.2) (λb U=>.inl (pm.mem_iff.mp U)) q⟩
theorem GC:MuV G Je j5:=λd es d' res h v xs H W M N r U nd hM Y B I Q q=>by
 unfold j5 at h;split at h
 .rename_i ds i
  split at h
  .rename_i hl
   cases h1:ixN ds.length i with
   |none=>simp[h1]at h
   |some k=>
    cases h2:ds[k]? with
    |none=>simp[h1,h2]at h
    |some e=>
     obtain⟨rfl,rfl⟩:D.lst .own (ds.eraseIdx k)=d'/\e=res:=by simpa[h1,h2]using h
     rw[Rep]at r;obtain⟨a,ys,M0,rfl,O,Z,rfl⟩:=r;obtain⟨x,rfl,J⟩:=U.inv1;obtain⟨rfl,rfl⟩:=aV J;obtain⟨F,g2,g3,g4⟩:=y_ h1;obtain⟨y,V,q'⟩:=Jk O nd Y h2 q;exact⟨a,ys,i,k,y,rfl,rfl,Z,by omega,by omega,by rw[←O.length];exact F,V,q'⟩
  .cases h
 .cases h
theorem HF:MuB X G "list" "list.pop" j5:=⟨_,λc=>Nh,GC,Jr rfl λd es q e=>by
 unfold j5 at e;split at e
 .exact⟨_,_,rfl⟩
 .cases e⟩
theorem aD.takeDrop(h:aD G H W ds xs L)(k:Nat):∃A B,aD G H W (ds.take k) (xs.take k) A/\aD G H W (ds.drop k) (xs.drop k) B/\L=A++B:=by
 rw[←abU k ds]at h;obtain⟨ys,zs,A,B,rfl,rfl,h1,h2⟩:=h.split;have Z:=h1.length;by_cases q:k<=ds.length
 .have hk':ys.length=k:=by rw[←Z,aaU];omega
  refine⟨A,B,?_,?_,rfl⟩
  .rw[←hk',List.take_left,hk'];exact h1
  .rw[←hk',List.drop_left,hk'];exact h2
 .have e1:ds.take k=ds:=aaM 1.10
  have e2:ds.drop k=[]:=abE 1.10;rw[e1]at h1 Z;rw[e2]at h2;obtain⟨rfl,rfl⟩:=h2.inv0;refine⟨A,[],?_,?_,by simp⟩
  .rw[e1,XJ,aaM 1.10];exact h1
  .rw[e2,XJ,abE 1.10];exact .nil
def bH:List Key->List D->List (Key×D)->List Key×List D
 |ks,ds,[]=>(ks,ds)
 |ks,ds,p::r=>bH (gG ks ds p.1 p.2).1 (gG ks ds p.1 p.2).2 r
variable{k:Key}
theorem NT{N:List Addr}(O:aD G H W ds (List.map (·.2) kvs) M)(hn:(List.map (·.1) kvs).Nodup)(J:Rep G H W d x N)(nd:(M++N).Nodup) :
  (List.map (·.1) (putK kvs k x)=(gG (List.map (·.1) kvs) ds k d).1/\(List.map (·.1) (putK kvs k x)).Nodup)/\(putK kvs k x).length<=kvs.length+1/\∃M',aD G H W (gG (List.map (·.1) kvs) ds k d).2 (List.map (·.2) (putK kvs k x)) M'/\M'.Nodup/\∀a∈M',a∈M∨a∈N:=by
 have a0:=Xx.mp nd;cases I:eY (kvs.map (·.1)) k with
 |some j=>
  have Y:j<ds.length:=by rw[O.length];simpa using t6 I
  obtain⟨A,M1,B,a2,q⟩:=O.set (Xk Y) J;obtain⟨p1,p2⟩:=Ar (v:=x) I hn;have F:Zn (A++B) M:=by rw[a2];exact(aao A).append (Zq M1 B)
  have U:=Xx.mp (F.nodup a0.1);have a1:∀z∈N,z∉A++B:=λz h1 h2=>a0.2.2 z (F.subset h2) z h1 rfl;simp![gG,I];refine⟨⟨p1,by rw[p1];exact hn⟩,?_,A++(N++B),by rw[p2];exact q,dm U.1 (dm a0.2.1 U.2.1 λz h1 h2=>a1 z h1 (by simp[h2])) λz h1 h2=>?_,λa Z=>?_⟩
  .have:(putK kvs k x).length=kvs.length:=by have:=congrArg Zz p1;simpa using this
   omega
  .rcases W2.mp h2 with y|y
   .exact a1 z y (by simp[h1])
   .exact U.2.2 z h1 z y rfl
  .simp![W2]at Z
   rcases Z with z|z|z
   .exact .inl (F.subset (by simp[z]))
   .exact .inr z
   .exact .inl (F.subset (by simp[z]))
 |none=>
  simp![gG,I];have e:putK kvs k x=kvs++[(k,x)]:=mV I;rw[e];refine⟨⟨by simp,?_⟩,by simp,M++N,by rw[X4];exact O.append (.one J),nd,λa Z=>W2.mp Z⟩;rw[X4];exact Xx.mpr ⟨hn,by simp,λa h1 b h2 z=>by
   obtain rfl:b=k:=by simpa using h2
   exact ug I (z▸h1)⟩
theorem oJ{H:Hp}{W:Wn}:∀{es:List (Key×D)}{prs kvs:List (Key×V)}{ds:List D}{M N:List Addr},List.map (·.1) es=List.map (·.1) prs->aD G H W (List.map (·.2) es) (List.map (·.2) prs) N->aD G H W ds (List.map (·.2) kvs) M->(List.map (·.1) kvs).Nodup->(M++N).Nodup->
  (List.map (·.1) (putAll kvs prs)=(bH (List.map (·.1) kvs) ds es).1/\(List.map (·.1) (putAll kvs prs)).Nodup)/\∃M',aD G H W (bH (List.map (·.1) kvs) ds es).2 (List.map (·.2) (putAll kvs prs)) M'/\M'.Nodup/\∀a∈M',a∈M∨a∈N
 |[],prs,kvs,ds,M,N,hk,h1,h2,hn,nd=>by
  have:prs=[]:=by cases prs with
   |nil=>rfl
   |cons p r=>cases hk
  subst this;exact⟨⟨rfl,hn⟩,M,h2,(Xx.mp nd).1,λa Z=>.inl Z⟩
 |e::es,prs,kvs,ds,M,N,hk,h1,h2,hn,nd=>by
  cases prs with
  |nil=>cases hk
  |cons p prs=>
   obtain⟨x,ys,N1,N2,I,rfl,J,a3⟩:=aD.inv h1;simp![Xi,aa_]at hk I;obtain⟨rfl,rfl⟩:=I;have a0:=Xx.mp nd;have a1:=Xx.mp a0.2.1;have nd1:(M++N1).Nodup:=dm a0.1 a1.1 λa z1 z2=>a0.2.2 a z1 a (by simp[z2]) rfl;obtain⟨⟨F,q⟩,Y,B,q4,q5,q6⟩:=NT (k:=p.1) h2 hn J nd1;have a2:(B++N2).Nodup:=dm q5 a1.2.1 λa z1 z2=>by
    rcases q6 a z1 with z|z
    .exact a0.2.2 a z a (by simp[z2]) rfl
    .exact a1.2.2 a z a z2 rfl
   rw[←hk.1]at F q q4;have U:=oJ (es:=es) (prs:=prs) (kvs:=putK kvs e.1 p.2) hk.2 a3 q4 q a2;rw[F]at U;obtain⟨⟨r1,O⟩,M',r3,r4,r5⟩:=U;have a4:putAll kvs (p::prs)=putAll (putK kvs e.1 p.2) prs:=by rw[hk.1];rfl
   rw[a4];refine⟨⟨r1,O⟩,M',r3,r4,λa Z=>?_⟩;rcases r5 a Z with z|z
   .exact(q6 a z).imp id λz=>by simp[z]
   .exact .inr (by simp[z])
theorem jQ(P:D->Prop):∀{es:List (Key×D)}{ks:List Key}{ds:List D},(∀d∈ds,P d)->(∀p∈es,P p.2)->∀d∈(bH ks ds es).2,P d
 |[],ks,ds,h1,h2=>h1
 |p::r,ks,ds,h1,h2=>by
  rw[bH];refine jQ P (λd hd=>?_) λq N=>h2 q (by simp[N]);unfold gG at hd;split at hd
  .rcases acJ hd with z|z
   .exact h1 d z
   .rw[z];exact h2 p (by simp)
  .rcases W2.mp hd with z|z
   .exact h1 d z
   .obtain rfl:d=p.2:=by simpa using z
    exact h2 p (by simp)
def qR:List D->Option (List (Key×D))
 |[]=>some []
 |.tup [k,v]::r=>(d9 k).bind λk=>(qR r).map λt=>(k,v)::t
 |_::_=>none
theorem Bc:∀{ds:List D}{es:List (Key×D)},qR ds=some es->∀p∈es,∃k,d9 k=some p.1/\D.tup [k,p.2]∈ds
 |[],es,h,p,hp=>by cases h;cases hp
 |d::r,es,h,p,hp=>by
  unfold qR at h;split at h
  .rename_i e;cases e
  .rename_i k v t e
   cases e;cases h1:d9 k with
   |none=>simp[h1]at h
   |some O=>
    cases h2:qR r with
    |none=>simp[h1,h2]at h
    |some w=>
     obtain rfl:(O,v)::w=es:=by simpa[h1,h2]using h
     rcases Xj.mp hp with z|z
     .subst z;exact⟨k,h1,by simp⟩
     .obtain⟨k2,g1,g2⟩:=Bc h2 p z
      exact⟨k2,g1,by simp[g2]⟩
  .cases h
theorem La{k:D}{q:Key}(h:d9 k=some q)(r:Rep G H W k x L):L=[]:=by
 cases k<;>simp[d9]at h<;>rw[Rep]at r<;>exact r.2
theorem uC{H:Hp}{W:Wn}:∀{ds:List D}{es:List (Key×D)}{ys:List V}{N:List Addr},qR ds=some es->aD G H W ds ys N->∃prs:List (Key×V),List.map (·.1) es=List.map (·.1) prs/\aD G H W (List.map (·.2) es) (List.map (·.2) prs) N/\prs.length=ys.length/\∀(j:Nat)(k:Key)(v:V),prs[j]? =some (k,v)->∃p:Addr,ys[j]? =some (V.ref p)/\H p=some (.tup [kV k,v])
 |[],es,ys,N,h,r=>by
  cases h;obtain⟨rfl,rfl⟩:=r.inv0;exact⟨[],rfl,.nil,rfl,λj k v e=>by simp at e⟩
 |d::r,es,ys,N,h,rr=>by
  unfold qR at h;split at h
  .rename_i e;cases e
  .rename_i k v t e
   cases e;cases h1:d9 k with
   |none=>simp[h1]at h
   |some O=>
    cases h2:qR r with
    |none=>simp[h1,h2]at h
    |some w=>
     obtain rfl:(O,v)::w=es:=by simpa[h1,h2]using h
     obtain⟨x,zs,N1,N2,rfl,rfl,J,Y⟩:=rr.inv;obtain⟨prs,F,I,g3,q⟩:=uC h2 Y;rw[Rep]at J;obtain⟨a,xs,rfl,U,a2⟩:=J;obtain⟨y1,y2,A,B,rfl,rfl,a0,a1⟩:=a2.inv2;have Z:=La h1 a0;subst Z;have:=mR a0 h1;subst this;refine⟨(O,y2)::prs,by simp[F],.cons a1 I,by simp[g3],λj k v e=>?_⟩;cases j with
     |zero=>
      simp at e;obtain⟨rfl,rfl⟩:=e;exact⟨a,rfl,U⟩
     |succ j=>exact q j k v (by simpa using e)
  .cases h
theorem cP.at2(h:cP B H W a o m L M)(J:(m== .scr)=false):H a=some o:=h.at (by intro z;rw[z]at J;cases J)
def u_:List D->Option D
 |[.lst m ds]=>if(m== .scr)=false/\ds.length<=50000 then(qR ds).map λes=>.dct .own (bH [] [] es).1 (bH [] [] es).2 else none
 |_=>none
theorem Nj(Y:∀c,(X c).calm=true):CaB X G (.type "dict") u_:=⟨_,λc=>tE (Y c),λds d e xs H W L0 r nd hn w Q q=>by
 unfold u_ at e;split at e
 .rename_i m ds
  split at e
  .rename_i hm
   cases h1:qR ds with
   |none=>simp[h1]at e
   |some es=>
    obtain rfl:D.dct .own (bH [] [] es).1 (bH [] [] es).2=d:=by simpa[h1]using e
    obtain⟨x,rfl,rx⟩:=r.inv1;rw[Rep]at rx;obtain⟨a,ys,M,rfl,O,hs⟩:=rx;obtain⟨prs,g1,I,J,g4⟩:=uC h1 O;have a1:M.Nodup:=hs.sub.nodup nd;obtain⟨⟨p1,p2⟩,M',V,p4,p5⟩:=oJ (kvs:=[]) (M:=[]) g1 I .nil (by simp) (by simpa using a1);refine⟨a,ys,prs,rfl,hs.at2 hm.1,J,by rw[J,←O.length];exact hm.2,g4,λp F=>?_⟩;have B:Same H (upd H p (.dK (putAll [] prs))):=Same.new F;have np:p∉M':=λz=>by obtain⟨o,N,_⟩:=V.dom p z;rw[F]at N;cases N
    have a0:∀a∈M',a∈L0:=λa Z=>(p5 a Z).elim (λz=>by cases z) λz=>hs.sub.subset z;refine q (.ref p) _ (p::M') B ?_ (λa Z=>(Xj.mp Z).elim (λz=>.inr (by rw[z];exact F)) λz=>.inl (a0 a z)) (List.nodup_cons.mpr ⟨np,p4⟩);rw[Rep];exact⟨p,putAll [] prs,M',rfl,⟨p1,p1▸p2⟩,V.up ⟨B,λb u U f=>⟨λz=>z.elim (λz=>(Xj.mp z).elim (λz=>by rw[z,F]at U;cases U) λz=>f.1 (hn b (a0 b z)).1) λz=>f.1 z.1,f.2⟩,λ_ _ _ f=>f⟩,aN,rfl⟩
  .cases e
 .cases e⟩
def iu:D->List D->Option (D×D)
 |.dct .own ks ds,[.lst m es]=>if(m== .scr)=false/\ks.length+es.length<=50000 then(qR es).map λps=>(.dct .own (bH ks ds ps).1 (bH ks ds ps).2,.non)else none
 |.dct .own ks ds,[.dct m ks2 es]=>if(m== .scr)=false/\ks.length+ks2.length<=50000 then some (.dct .own (bH ks ds (ks2.zip es)).1 (bH ks ds (ks2.zip es)).2,.non)else none
 |_,_=>none
theorem wA(h1:az ds=true)(h2:aB ds=true):clean (.dct .own ks ds)=true:=by simp[clean,aA,au,h1,h2]
theorem Ay{prs:List (Key×V)}{es:List (Key×D)}{M0 N N0:List Addr}(B:List.map (·.1) es=List.map (·.1) prs)(h1:aD G H W (List.map (·.2) es) (List.map (·.2) prs) N)(hs:∀b∈N,b∈N0)(O:aD G H W ds (List.map (·.2) kvs) M0)(hn:(List.map (·.1) kvs).Nodup)(a2:N.Nodup)(nd:((a::M0)++N0).Nodup)
  (Y:az ds=true/\aB ds=true) (ce:∀p∈es,aA p.2=true/\au p.2=true)
  (q:∀x H' M' R,(∀b u,H b=some u->b∉a::M0->H' b=some u)->(∀W',Evo H H' W W'->Rep G H' W' (.dct .own (bH (List.map (·.1) kvs) ds es).1 (bH (List.map (·.1) kvs) ds es).2) (.ref a) M'/\Rep G H' W' .non x R)->(M'++R).Nodup->(∀b∈M'++R,b∈a::M0∨b∈N0∨H b=none)->clean (.dct .own (bH (List.map (·.1) kvs) ds es).1 (bH (List.map (·.1) kvs) ds es).2)=true->clean .non=true->Q x H'):Q .non (upd H a (.dK (putAll kvs prs))):=by
 have J:=Xx.mp nd;have Z:=Yo.mp J.1;have a1:(M0++N).Nodup:=dm Z.2 a2 λb z1 z2=>J.2.2 b (XQ _ z1) b (hs b z2) rfl;obtain⟨⟨p1,p2⟩,M',p3,p4,p5⟩:=oJ B h1 O hn a1;have a0:a∉M':=λz=>(p5 a z).elim Z.1 λz=>J.2.2 a (by simp) a (hs a z) rfl;have k1:az (bH (List.map (·.1) kvs) ds es).2=true:=bh (jQ (λd=>aA d=true) (lL Y.1) λp F=>(ce p F).1);have k2:aB (bH (List.map (·.1) kvs) ds es).2=true:=a_ (jQ (λd=>au d=true) (lH Y.2) λp F=>(ce p F).2);refine q .non _ (a::M') [] (λb u U n=>by rw[aJ (show b≠a from λz=>n (by rw[z];simp))];exact U) (λW' I=>⟨?_,pL⟩) (by rw[XJ];exact List.nodup_cons.mpr ⟨a0,p4⟩) (λb U=>?_) (wA k1 k2) rfl
 .rw[Rep]
  refine⟨a,putAll kvs prs,M',rfl,⟨p1,p1▸p2⟩,p3.mono I (.inl k1) (.inl k2) λc Y u hu=>?_,aN,rfl⟩;rw[aJ (show c≠a from λz=>a0 (z▸Y))];exact hu
 .rw[XJ]at U
  rcases Xj.mp U with z|z
  .exact .inl (by simp[z])
  .exact(p5 b z).imp (λz=>XQ _ z) λz=>.inl (hs b z)
theorem Ob(h:ks.length=ds.length):List.map (·.1) (ks.zip ds)=ks:=ae1 1.10
theorem Qz(h:ks.length=ds.length):List.map (·.2) (ks.zip ds)=ds:=ae2 1.10
theorem Cj:MuV G Fz iu:=λd es d' res h v xs H W M N r re nd hM Y c1 I Q q=>by
 unfold iu at h;split at h
 .rename_i ks ds m es
  split at h
  .rename_i hm
   cases h1:qR es with
   |none=>simp[h1]at h
   |some ps=>
    obtain⟨rfl,rfl⟩:D.dct .own (bH ks ds ps).1 (bH ks ds ps).2=d'/\D.non=res:=by simpa[h1]using h
    rw[Rep]at r;obtain⟨a,kvs,M0,rfl,⟨rfl,a0⟩,O,Z,rfl⟩:=r;obtain⟨x,rfl,rx⟩:=re.inv1;rw[Rep]at rx;obtain⟨b,ys,N1,rfl,V,hs⟩:=rx;obtain⟨prs,g1,g2,g3,g4⟩:=uC h1 V;have kc:az ds=true/\aB ds=true:=by simp[clean,aA,au]at Y;exact Y
    have ke:az es=true/\aB es=true:=by simp[az,aB,aA,au]at c1 I;exact⟨c1.2,I.2⟩
    have J:=Xx.mp nd;refine⟨a,kvs,rfl,Z,.inl ⟨b,ys,prs,rfl,hs.at2 hm.1,g3,by rw[g3,←V.length];simpa using hm.2,g4,Ay g1 g2 (λc Y=>hs.sub.subset Y) O a0 (hs.sub.nodup J.2.1) nd kc (λp F=>?_) q⟩⟩;obtain⟨k,_,B⟩:=Bc h1 p F;have z1:=lL ke.1 _ B;have z2:=lH ke.2 _ B;simp[aA,au,az,aB]at z1 z2;exact⟨z1.2,z2.2⟩
  .cases h
 .rename_i ks ds m ks2 es
  split at h
  .rename_i hm
   cases h;rw[Rep]at r;obtain⟨a,kvs,M0,rfl,⟨rfl,a0⟩,O,Z,rfl⟩:=r;obtain⟨x,rfl,rx⟩:=re.inv1;rw[Rep]at rx;obtain⟨b,more,N1,rfl,⟨rfl,a3⟩,V,hs⟩:=rx;have kc:az ds=true/\aB ds=true:=by simp[clean,aA,au]at Y;exact Y
   have ke:az es=true/\aB es=true:=by simp[az,aB,aA,au]at c1 I;exact⟨c1.2,I.2⟩
   have a1:(List.map (·.1) more).length=es.length:=by rw[V.length];simp
   have U:H b=some (.dK more):=hs.at2 hm.1;have J:=Xx.mp nd;have a2:b≠a:=by
    cases m with
    |own=>exact λz=>J.2.2 a (by simp) a (by rw[hs.2,z];simp) rfl
    |frz=>exact λz=>hM a (by simp) (z▸hs.2.1)
    |brw=>simp[az,aA]at c1
    |bro=>simp[aB,au]at I
    |scr=>exact absurd hm.1 1.27
   refine⟨a,kvs,rfl,Z,.inr ⟨b,more,rfl,a2,U,by simpa using hm.2,Ay (es:=(List.map (·.1) more).zip es) (Ob a1) (by rw[Qz a1];exact V) (λc Y=>hs.sub.subset Y) O a0 (hs.sub.nodup J.2.1) nd kc (λp F=>?_) q⟩⟩;have B:=(ab1 F).2;exact⟨lL ke.1 _ B,lH ke.2 _ B⟩
  .cases h
 .cases h
theorem S_{op:D->List D->Option (D×D)}(I:T="dict")(h:∀d es q,op d es=some q->∃ks ds,d= .dct .own ks ds):Ij G T op:=λd es q e v H W L r=>by
 obtain⟨ks,ds,rfl⟩:=h d es q e;rw[Rep]at r;obtain⟨a,xs,M,rfl,B,O,hs⟩:=r;exact .inr (.inr (.inl ⟨I,.inl ⟨_,hs.1⟩⟩))
theorem u9(Y:∀c,(X c).calm=true):MuB X G "dict" "dict.update" iu:=⟨_,λc=>GX (Y c),Cj,S_ rfl λd es q e=>by
 unfold iu at e;split at e
 .exact⟨_,_,rfl⟩
 .exact⟨_,_,rfl⟩
 .cases e⟩
def eMt(g:D->List D->Option D)(O:En->Option D)(f:En->Option (List D)):En->Option D:=λρ=>(O ρ).bind λx=>(f ρ).bind λds=>g x ds
theorem Wd{id:String}{U:Str}{g:D->List D->Option D}{o:Expr}{O:En->Option D}{f:En->Option (List D)}(m:MtB X G T id g)(Y:adT T)(slot:Slot T U id)(J:typeOf (.builtin id)=pure (.type "method_descriptor"))(N:PV X G ob o O)(Z:PVA X G ob (e::es) f)(q:∀c,aa1 o U (X c).env (eval o (X c).env)=eval o (X c).env:=by intro _;rfl)(F:∀c,((ZK cpos (Xy (e::es) (X c).env)).all (λx=>!x.1)&&(backToKw cpos (adq [] (X c).env)).all (λx=>x.1.isSome)
  &&decide ((e::es).length+([]:List acb).length+(if([]:List acb).isEmpty then 0 else 1)<30))=true:=by intro _;rfl) (B:(apos.endLine==cpos.line)=true:=by rfl) (hs:∀c,Xy (e::es) (X c).env=(false,eval e (X c).env)::Xy es (X c).env:=by intro _;rfl) (V:∀c,(ZK cpos (Xy es (X c).env)).any (·.1)=false:=by intro _;rfl) (I:∀c,(X c).K=G.K:=by intro _;rfl) :
 PV X G ob (.Call (.Attribute o U apos) (e::es) [] cpos) (eMt g O f):=let⟨r,m1,m2,m3⟩:=m.ex;let⟨t,a1,a2⟩:=N.ex;let⟨u,b1,b2⟩:=Z.ex;⟨_,λc=>(by rw[←I c];exact K5 Y slot J (m1 c) (a1 c) (b1 c) (q c) (F c) B (hs c) (V c)),Vr m2 m3 a2 b2⟩
def yf(a b:Str):Option (List Str):=
 if(decide (a.length<b.length)||decide (aa6 a<aa6 b))=false/\(b.length==0)=false/\(Yv a b 0 a.length (a.length+1)).isEmpty=false/\a.length<=Xp/\(abl a (Yv a b 0 a.length (a.length+1)) b.length).length<=Xp
 then some (abl a (Yv a b 0 a.length (a.length+1)) b.length)else none
def uJ:D->List D->Option D
 |.str a,[.str b]=>(yf a b).map λl=>.lst .own (l.map D.str)
 |_,_=>none
theorem Ba:∀l:List Str,aD G H W (l.map D.str) (l.map V.str) []
 |[]=>.nil
 |x::r=>aD.cons (M:=[]) (M':=[]) (by rw[Rep];exact⟨rfl,rfl⟩) (Ba r)
theorem Ha:MtB X G "str" "str.split" uJ:=⟨_,λc=>Nx,λdx ds d e x xs H W B Y rx r nd hn w Q q=>(by
 unfold uJ at e;split at e
 .rename_i a b
  cases h1:yf a b with
  |none=>simp[h1]at e
  |some l=>
   obtain rfl:D.lst .own (l.map D.str)=d:=by simpa[h1]using e
   obtain⟨y,rfl,J⟩:=r.inv1;obtain⟨rfl,rfl⟩:=bN rx;obtain⟨rfl,rfl⟩:=bN J;unfold yf at h1;split at h1
   .rename_i hh
    cases h1;refine⟨a,b,_,rfl,rfl,hh.1,hh.2.1,hh.2.2.1,hh.2.2.2.1,rfl,hh.2.2.2.2,λp F=>?_⟩;refine q (.ref p) _ [p] (Same.new F) ?_ (λa Z=>.inr (by rw[show a=p by simpa using Z];exact F)) (by simp);rw[Rep];exact⟨p,_,[],rfl,Ba _,aN,rfl⟩
   .cases h1
 .cases e),λdx ds d e x H W B rx=>by
 unfold uJ at e;split at e
 .obtain⟨rfl,rfl⟩:=bN rx
  exact rfl
 .cases e⟩
def RfO(G:Gc)(ob:Nat->Bool)(t:TO)(f:En->Option (Option Int)):Prop:=∀(ρ:En)(o:Option Int),f ρ=some o->∀(σ:L2.St)(H:Hp)(W:Wn),Rel G H W ob ρ σ->WOk H W->∀Q:Option Int->Hp->Prop,(∀H',Same H H'->Q o H')->t σ H Q
structure PVO{ι:Type}(X:ι->Cx)(G:Gc)(ob:Nat->Bool)(e:Option Expr)(f:En->Option (Option Int)):Prop where
 mk::(ex:∃t,(∀c,PO (X c) e t)/\RfO G ob t f)
def p_:En->Option (Option Int):=λ_=>some none
def n6(f:En->Option D):En->Option (Option Int):=λρ=>(f ρ).bind λd=>match d with
 |.int i=>some (some i)
 |_=>none
theorem qi:PVO X G ob none p_:=⟨_,λc=>QJ,λρ o e σ H W I w Q q=>by cases e;exact q H (Same.refl H)⟩
variable{f:En->Option D}
theorem qu(h:PV X G ob e f):PVO X G ob (some e) (n6 f):=let⟨t,a1,a2⟩:=h.ex;⟨_,λc=>Qk (a1 c),λρ o e σ H W I w Q q=>by
 unfold n6 at e;cases h1:f ρ with
 |none=>simp[h1]at e
 |some d=>
  rw[h1]at e;simp![Mx]at e;split at e
  .cases e
   refine a2 ρ _ h1 σ H W I w _ λv H' L s r fr nd=>?_;obtain⟨rfl,rfl⟩:=aV r;exact⟨_,rfl,q H' s⟩
  .cases e⟩
def SlV(G:Gc)(r:V->Option Int->Option Int->Hp->VK->Prop)(g:D->Option Int->Option Int->Option D):Prop:=∀(dx:D)(lo hi:Option Int)(d:D),g dx lo hi=some d->∀(x:V)(H:Hp)(W:Wn)(B:List Addr),Rep G H W dx x B->B.Nodup->(∀a∈B,W.tmp a)->WOk H W->∀Q:VK,Done G H W B d Q->r x lo hi H Q
structure SlB{ι:Type}(X:ι->Cx)(G:Gc)(g:D->Option Int->Option Int->Option D):Prop where
 ex:∃r,(∀c,SlR (X c) r)/\SlV G r g
def G7(g:D->Option Int->Option Int->Option D)(f:En->Option D)(F B:En->Option (Option Int)):En->Option D:=λρ=>(f ρ).bind λx=>(F ρ).bind λl=>(B ρ).bind λh=>g x l h
def F_(g:D->Option Int->Option Int->Option D)(f:En->Option (D×En))(F B:En->Option (Option Int)):En->Option (D×En):=λρ=>(f ρ).bind λp=>(F p.2).bind λl=>(B p.2).bind λh=>(g p.1 l h).map λd=>(d,p.2)
variable{r:V->Option Int->Option Int->Hp->VK->Prop}{g:D->Option Int->Option Int->Option D}
theorem Wf{tl th:TO}{F fh:En->Option (Option Int)}(N:SlV G r g)(h:RfE G ob te f)(hl:RfO G ob tl F)(hh:RfO G ob th fh):RfE G ob (tSl r te tl th) (G7 g f F fh):=λρ d e σ H W rl w Q q=>by
 unfold G7 at e;cases h1:f ρ with
 |none=>simp[h1]at e
 |some x=>
  cases h2:F ρ with
  |none=>simp[h1,h2]at e
  |some l=>
   cases O:fh ρ with
   |none=>simp[h1,h2,O]at e
   |some u=>
    have e:g x l u=some d:=by simpa[h1,h2,O]using e
    refine h ρ x h1 σ H W rl w _ λv H1 L B r1 fr nd=>?_;have u1:Up H H1 W (W.add L):=.add B fr;have w1:WOk H1 (W.add L):=w.add B r1.dom;refine hl ρ l h2 σ H1 _ (rl.up u1) w1 _ λH2 Y=>?_;have u2:Up H1 H2 (W.add L) (W.add L):=.same Y;have w2:WOk H2 (W.add L):=λa Z=>let⟨o,N,hm⟩:=w1 a Z;⟨o,Y a o N,hm⟩;refine hh ρ u O σ H2 _ ((rl.up u1).up u2) w2 _ λI J=>?_;have u3:Up H2 I (W.add L) (W.add L):=.same J;have w3:WOk I (W.add L):=λa Z=>let⟨o,N,hm⟩:=w2 a Z;⟨o,J a o N,hm⟩;have ss:=(B.trans Y).trans J;refine N x l u d e v I _ L ((r1.up u2).up u3) nd (w.tmp fr) w3 Q λv' H4 L4 s4 r4 f4 n4=>?_;refine q v' H4 L4 (ss.trans s4) ?_ (λa Z=>(f4 a Z).elim (fr a) λz=>ss.none' z) n4;exact r4.up ⟨Same.refl _,λb u U f=>⟨λz=>z.elim (λz=>f.1 (.inl z)) λz=>f.1 (.inr ⟨.inr z,WOk.new w fr z⟩),f.2⟩,λ_ _ _ f=>f⟩
theorem TY{tl th:TO}{f:En->Option (D×En)}{fl fh:En->Option (Option Int)}(N:SlV G r g)(h:kj G ob te f)(hl:RfO G ob tl fl)(hh:RfO G ob th fh):kj G ob (tSl r te tl th) (F_ g f fl fh):=λρ d F e σ H S Fr s Q q=>by
 unfold F_ at e;cases h1:f ρ with
 |none=>simp[h1]at e
 |some p=>
  obtain⟨x,ρ1⟩:=p;cases h2:fl ρ1 with
  |none=>simp[h1,h2]at e
  |some l=>
   cases O:fh ρ1 with
   |none=>simp[h1,h2,O]at e
   |some u=>
    cases h4:g x l u with
    |none=>simp[h1,h2,O,h4]at e
    |some d'=>
     obtain⟨rfl,rfl⟩:d'=d/\ρ1=F:=by simpa[h1,h2,O,h4]using e
     refine h ρ x _ h1 σ H S Fr s _ λv H1 L S1 B rx nd ef=>?_;refine hl _ l h2 σ H1 _ B.rel B.wok _ λH2 k2=>?_;have Y:=B.grow k2 λa z=>.inl z;refine hh _ u O σ H2 _ Y.rel Y.wok _ λI k3=>?_;have J:=Y.grow k3 λa z=>.inl z;have a0:Eff ob H I S S1 L:=⟨λb u U n=>k3 b u (k2 b u (ef.kp b u U n)),ef.sn,ef.gr,ef.fm⟩;refine N x l u _ h4 v I _ L ((rx.up (.same k2)).up (.same k3)) nd (λa Z=>J.tmp (.inl Z)) J.wok Q λv' H4 L4 s4 r4 f4 n4=>?_;obtain⟨q1,q2,q3⟩:=M7 J a0 s4 r4 f4 s;exact q v' H4 L4 S1 q1 q2 n4 q3
def cutD(ds:List D)(lo hi:Option Int):List D:=(ds.drop (HT.sIx ds.length 0 lo)).take (HT.sIx ds.length ds.length hi-HT.sIx ds.length 0 lo)
def gSl:D->Option Int->Option Int->Option D
 |.lst _ ds,lo,hi=>some (.lst .own (cutD ds lo hi))
 |.tup ds,lo,hi=>some (.tup (cutD ds lo hi))
 |_,_,_=>none
theorem aD.cut(h:aD G H W ds xs L)(lo hi:Option Int):∃M,aD G H W (cutD ds lo hi) (uQ xs lo hi) M/\Zn M L:=by
 unfold cutD uQ;rw[h.length];obtain⟨A,B,_,h2,rfl⟩:=h.takeDrop (HT.sIx xs.length 0 lo);obtain⟨Z,N,O,_,rfl⟩:=h2.takeDrop (HT.sIx xs.length xs.length hi-HT.sIx xs.length 0 lo);exact⟨Z,O,(aay Z N).trans (Zq A _)⟩
theorem slb(I:∀c,(X c).K=G.K:=by intro _;rfl):SlB X G gSl:=⟨λx lo hi H Q=>Vn G.K x lo hi H Q∨VD G.K x lo hi H Q,λc=>by rw[←I c];exact SlR.or N8 Tg,λdx lo hi d e x H W B rx nd hn w Q q=>by
 unfold gSl at e;split at e
 .cases e
  rw[Rep]at rx;obtain⟨a,xs,M,rfl,O,hs⟩:=rx;obtain⟨M',h1,h2⟩:=O.cut lo hi;exact .inl ⟨a,xs,rfl,hs.sq,λp F=>Hu h1 (h2.trans hs.sub) nd hn F q⟩
 .rename_i ds
  cases e;have V:=rx;rw[Rep]at rx;obtain⟨a,xs,rfl,U,O⟩:=rx;obtain⟨M',h1,h2⟩:=O.cut lo hi;refine .inr ⟨a,xs,rfl,SqT.of U,λJ=>?_,λp F=>xr h1 h2 nd hn F q⟩;rw[J]at h1;refine oG (d:=.tup (cutD ds lo hi)) (x:=.ref a) (M:=M') ?_ h2 nd hn q;rw[Rep];exact⟨a,xs,rfl,U,h1⟩
 .cases e⟩
def eSl:=G7 gSl
def JX:=F_ gSl
theorem Bh{lo hi:Option Expr}{F B:En->Option (Option Int)}(o:SlB X G gSl)(h:PV X G ob e f)(Z:PVO X G ob lo F)(q:PVO X G ob hi B):PV X G ob (.Subscript e (.Slice lo hi none p2) pos) (eSl f F B):=let⟨r,o1,o2⟩:=o.ex;let⟨t,a1,a2⟩:=h.ex;let⟨u,b1,b2⟩:=Z.ex;let⟨v,c1,c2⟩:=q.ex;⟨_,λc=>Bd (o1 c) (a1 c) (b1 c) (c1 c),Wf o2 a2 b2 c2⟩
theorem wJ{lo hi:Option Expr}{f:En->Option (D×En)}{F B:En->Option (Option Int)}(o:SlB X G gSl)(h:PVe X G ob e f)(Z:PVO X G ob lo F)(q:PVO X G ob hi B):PVe X G ob (.Subscript e (.Slice lo hi none p2) pos) (JX f F B):=let⟨r,o1,o2⟩:=o.ex;let⟨t,a1,a2⟩:=h.ex;let⟨u,b1,b2⟩:=Z.ex;let⟨v,c1,c2⟩:=q.ex;⟨_,λc=>Bd (o1 c) (a1 c) (b1 c) (c1 c),TY o2 a2 b2 c2⟩
variable{bs:List Bool}
theorem range_all:((X3 bs.length).all λi=>bs.getD i true)=bs.all id:=by
 induction bs with
 |nil=>rfl
 |cons b r U=>
  rw[XN,adv,aa0,aev,aa0,←U];rfl
variable{B:List Value}
theorem Vx(J:Vals (bs.map V.bl) B){i:Nat}{v:Value}(h:B.toArray[i]? =some v):v= .bool (bs.getD i true):=by
 have h:B[i]? =some v:=by simpa using h
 have Z:=J.length;rw[Xq]at Z;have hi:i<bs.length:=by rw[Z];exact(qb.mp h).1
 obtain⟨u,h1,h2⟩:=J.get (show(bs.map V.bl)[i]? =some (V.bl bs[i])by rw[List.getElem?_map,Xk hi];rfl);rw[h]at h1;cases h1;cases h2;simp[List.getD,hi]
variable{X:Cx}
theorem Il{s:zb}{xs:List V}(I:Inv X pins σ H s)(U:s.heap.IsList a B.toArray) :
  a≠s.heap.objs.size:=by
 obtain⟨o,h,_⟩:=U;exact XS (Xm h)
theorem Hf(Y:X.calm=true):dO X (.builtin "all") (λxs H Q=>∃a bs,xs=[.ref a]/\SqL X.K H a (List.map V.bl bs)/\Q (.bl (List.all bs id)) H):=by
 intro pins s σ H xs us Q I r h;obtain⟨a,bs,rfl,N,q⟩:=h;obtain⟨u,rfl,O⟩:=vals1 r;cases O;obtain⟨B,J,U,hz⟩:=I.list N;have hh:X.A.handled=none:=I.ok.hd Y;have F:a≠s.heap.objs.size:=Il (xs:=[]) I U.isList;have Z:=J.length;rw[Xq]at Z;refine call_all_walk (abx U.isList ⟨s.heap.objs.size,[s.heap.objs.size,a],[s.heap.objs.size],B.toArray.size,_,_,λi=>bs.getD i true,rfl,Walks.list (show X.A.in1.handled=none from hh) s.heap.objs.size a F B.toArray,⟨⟨_,Xr _ rfl,rfl,rfl⟩,U.isList.push _⟩,λi v s2 Q2 E2 hP hQ=>?_,λh' tk kp=>?_⟩)
 .rw[Vx J hP]
  exact aaO hQ
 .rw[List.size_toArray,←Z,range_all]
  exact⟨.bl _,H,I.kept (t':=tk) λb o e=>kp b o (by simp;exact XS (Xm e)) (za _ e),rfl,q⟩
def Js(K:Xl):R2:=λx y H Q=>Vw K x y H Q∨∃a xs,x= .ref a/\SqL K H a xs/\y= .int (-1)/\∀p,H p=none->Q (.ref p) (upd H p (.lst xs.reverse))
variable{es:Expr}{ts:TE}
theorem Lr(V:PE X e te)(hs:PE X es ts):PE X (.Subscript e (.Slice none none (some es) p2) pos) (tOp (Js X.K) te ts):=by
 intro pins s σ H Q I h;refine Subscript_ (thn (V pins s σ H _ I h) λv s1 ⟨x,H1,I1,N,F⟩=>?_);refine wpAny_Slice ?_;rw[ad7];refine Xg (Xg (wpAny_evalPart_some (thn (hs pins s1 σ H1 _ I1 F) λvs s2 ⟨y,H2,I2,r2,q2⟩=>?_)));rcases q2 with q2|⟨a,xs,rfl,J,rfl,q⟩
 .have I4:Inv X pins σ H2 {s2 with heap:=s2.heap.push {cls:=.type "slice",data:=.fields #[.none,.none,vs]}}:=I2.kept (t':=s2.toks) λb ob q=>za _ q
  have Z:afj (s2.heap.push {cls:=.type "slice",data:=.fields #[.none,.none,vs]}) s2.heap.objs.size .none .none vs:=acj ..;obtain⟨a,xs,rfl,J,q⟩:=q2;cases N;obtain⟨B,r,U,hz⟩:=I4.tuple J;have O:=r.length;show wpAny 1.11 X.A (acv e (.Slice none none (some es) p2) (.ref a) (.ref s2.heap.objs.size)) (EP X pins σ Q) X.xe {s2 with heap:=s2.heap.push {cls:=.type "slice",data:=.fields #[.none,.none,vs]}};refine adS (ops:=[.ref a,.ref s2.heap.objs.size]) U.typeIs Ys.lookup ?_ (by with_unfolding_all rfl);rcases q with⟨rfl,q⟩|⟨rfl,q⟩
  .obtain⟨t,rfl⟩:=r2
   have e1:Yr none none ((some (1:Int)).getD 1) (B.length:Int)=(0,(B.length:Int)):=rfl;have e2:Yk 0 (B.length:Int) ((some (1:Int)).getD 1)=B.length:=by
    show Yk ((0:Nat):Int) (B.length:Int) 1=B.length;rw[HT.places_gen];omega
   refine iD (items:=B) (st:=some 1) U Z .none .none (.int 1 t) 1.27 e1 e2 (λ_=>⟨.ref a,H2,I4,rfl,q⟩) (λY=>absurd ⟨rfl,rfl,rfl⟩ Y) ?_;exact Yz (t7 _ _ _ _) 1.10
  .obtain⟨t,rfl⟩:=r2
   have e1:Yr none none ((some (-1:Int)).getD 1) (B.length:Int)=((B.length:Int)-1,-1):=rfl;have e2:Yk ((B.length:Int)-1) (-1) ((some (-1:Int)).getD 1)=B.length:=by
    show(if(-1:Int)>0 then _ else(if(B.length:Int)-1> -1 then((B.length:Int)-1-(-1)-1) / (- (-1))+1 else 0)).toNat=B.length;rw[Xz 1.27,show(- (-1:Int))=1 by decide,Int.ediv_one];split<;>omega
   refine iD (items:=B) (st:=some (-1)) U Z .none .none (.int (-1) t) 1.27 e1 e2 (λY=>absurd Y.2.1 1.27) (λ_=>?_) ?_
   .show EP X pins σ Q (.ref _) {s2 with heap:=Heap.push _ {cls:=.type "tuple",data:=.seq (mQ B ((B.length:Int)-1) (-1) B.length).toArray}}
    rw[JP];refine⟨.ref _,_,I4.laid (t':=s2.toks) (o:=.tup xs.reverse) (λb ob q=>za _ q) (Xn _) ?_,rfl,q _ (I4.hok.fresh (Xn _))⟩;exact⟨by rw[aa7];exact hz,_,r.reverse,lE.new _ _⟩
   .exact Yz (t7 _ _ _ _) 1.10
 .have I4:Inv X pins σ H2 {s2 with heap:=s2.heap.push {cls:=.type "slice",data:=.fields #[.none,.none,vs]}}:=I2.kept (t':=s2.toks) λb ob q=>za _ q
  have Z:afj (s2.heap.push {cls:=.type "slice",data:=.fields #[.none,.none,vs]}) s2.heap.objs.size .none .none vs:=acj ..;cases N;obtain⟨t,rfl⟩:=r2;obtain⟨B,r,U,hz⟩:=I4.list J;have O:=r.length;show wpAny 1.11 X.A (acv e (.Slice none none (some es) p2) (.ref a) (.ref s2.heap.objs.size)) (EP X pins σ Q) X.xe {s2 with heap:=s2.heap.push {cls:=.type "slice",data:=.fields #[.none,.none,.int (-1) t]}};refine adS (ops:=[.ref a,.ref s2.heap.objs.size]) U.isList.typeIs acC.lookup ?_ (by with_unfolding_all rfl);refine acT U.isList Z .none .none (.int (-1) t) 1.27 ?_ (by rw[List.size_toArray];omega);rw[PySem.W.krv_pick];refine⟨.ref _,_,I4.laid (t':=s2.toks) (o:=.lst xs.reverse) (λb ob q=>za _ q) (Xn _) ?_,rfl,q _ (I4.hok.fresh (Xn _))⟩;exact⟨by rw[aa7];exact hz,_,0,r.reverse,Xr _ rfl⟩
def jM:D->D->Option D
 |.lst _ ds,.int i=>if i= -1 then some (.lst .own ds.reverse)else none
 |.tup ds,.int i=>if i= -1 then some (.tup ds.reverse)else if i=1 then some (.tup ds)else none
 |_,_=>none
theorem Ny:OpV G (Js G.K) jM:=λdx dy d e x y H W Lx Y rx J nd hn w Q q=>by
 unfold jM at e;split at e
 .split at e
  .rename_i hi
   subst hi;cases e;obtain⟨rfl,rfl⟩:=aV J;rw[Rep]at rx;obtain⟨a,xs,M,rfl,O,hs⟩:=rx;obtain⟨M',h1,pm⟩:=O.revL;refine .inr ⟨a,xs,rfl,hs.sq,rfl,λp F=>?_⟩;have B:Same H (upd H p (.lst xs.reverse)):=Same.new F;have hM:∀a∈M',a∈Lx++[]:=λa Z=>by rw[XJ];exact hs.sub.subset (pm.mem_iff.mp Z)
   have np:p∉M':=λz=>by obtain⟨o,N,_⟩:=h1.dom p z;rw[F]at N;cases N
   have I:M'.Nodup:=pm.nodup_iff.mpr (hs.sub.nodup (Xx.mp nd).1);refine q (.ref p) _ (p::M') B ?_ (λa Z=>(Xj.mp Z).elim (λz=>.inr (by rw[z];exact F)) λz=>.inl (hM a z)) (List.nodup_cons.mpr ⟨np,I⟩);rw[Rep];exact⟨p,_,M',rfl,h1.up ⟨B,λb u U f=>⟨λz=>z.elim (λz=>(Xj.mp z).elim (λz=>by rw[z,F]at U;cases U) λz=>f.1 (hn b (hM b z)).1) λz=>f.1 z.1,f.2⟩,λ_ _ _ f=>f⟩,aN,rfl⟩
  .cases e
 .obtain⟨rfl,rfl⟩:=aV J
  have V:=rx;rw[Rep]at rx;obtain⟨a,xs,rfl,ht,O⟩:=rx;split at e
  .rename_i hi
   subst hi;cases e;obtain⟨M',h1,pm⟩:=O.revL;refine .inl ⟨a,xs,rfl,SqT.of ht,.inr ⟨rfl,λp F=>?_⟩⟩;have B:Same H (upd H p (.tup xs.reverse)):=Same.new F;have hM:∀a∈M',a∈Lx++[]:=λa Z=>by rw[XJ];exact pm.mem_iff.mp Z
   have I:M'.Nodup:=pm.nodup_iff.mpr (Xx.mp nd).1;refine q (.ref p) _ M' B ?_ (λa Z=>.inl (hM a Z)) I;rw[Rep];exact⟨p,_,rfl,aN,h1.up ⟨B,λb u U f=>⟨λz=>z.elim (λz=>f.1 (hn b (hM b z)).1) λz=>f.1 z.1,f.2⟩,λ_ _ _ f=>f⟩⟩
  .split at e
   .rename_i hi
    subst hi;cases e;exact .inl ⟨a,xs,rfl,SqT.of ht,.inl ⟨rfl,oG V (aay _ _) nd hn q⟩⟩
   .cases e
 .cases e
variable{X:ι->Cx}
theorem QG{g:En->Option D}(Z:PV X G ob e f)(U:PV X G ob es g)(I:∀c,(X c).K=G.K:=by intro _;rfl):PV X G ob (.Subscript e (.Slice none none (some es) p2) pos) (e2 jM f g):=let⟨t,a1,a2⟩:=Z.ex;let⟨u,b1,b2⟩:=U.ex;⟨_,λc=>(by rw[←I c];exact Lr (a1 c) (b1 c)),Al Ny a2 b2⟩
def B_:List D->Option (List Bool)
 |[]=>some []
 |.bl b::r=>(B_ r).map λt=>b::t
 |_::_=>none
theorem zq:∀{ds:List D}{bs:List Bool}{xs:List V}{L:List Addr},B_ ds=some bs->aD G H W ds xs L->xs=bs.map V.bl
 |[],ks,xs,L,h,r=>by cases h;exact r.inv0.1
 |d::t,ks,xs,L,h,r=>by
  obtain⟨x,ys,M,M',rfl,rfl,h1,h2⟩:=r.inv;cases d<;>simp[B_]at h;obtain⟨w,O,rfl⟩:=h;rw[Rep]at h1;rw[zq O h2,h1.1];rfl
def Mg:List D->Option D
 |[.lst _ ds]=>(B_ ds).map λbs=>.bl (bs.all id)
 |_=>none
theorem QD(Y:∀c,(X c).calm=true)(I:∀c,(X c).K=G.K:=by intro _;rfl):CaB X G (.builtin "all") Mg:=⟨λxs H Q=>∃a bs,xs=[.ref a]/\SqL G.K H a (List.map V.bl bs)/\Q (.bl (List.all bs id)) H,λc=>by rw[←I c];exact Hf (Y c),λds d e xs H W B r nd hn w Q q=>by
 unfold Mg at e;split at e
 .rename_i m ds
  cases h1:B_ ds with
  |none=>simp[h1]at e
  |some ks=>
   obtain rfl:D.bl (ks.all id)=d:=by simpa[h1]using e
   obtain⟨x,rfl,rx⟩:=r.inv1;rw[Rep]at rx;obtain⟨a,ys,M,rfl,O,hs⟩:=rx;have:=zq h1 O;subst this;exact⟨a,ks,rfl,hs.sq,q.scal λ_=>gH⟩
 .cases e⟩
def yJ:List D->Option D
 |[.non]=>some (.str "None")
 |[.bl b]=>some (.str (if b then "True" else "False"))
 |[.int i]=>if i.natAbs.log2<1920 then some (.str (toString i))else none
 |[.str x]=>some (.str x)
 |[d]=>if ik d=true/\(pyD (dt d)).depth<=50/\(pyD (dt d)).showable=true/\(pyD (dt d)).shown.length<=Xp then some (.str (pyD (dt d)).shown)else none
 |_=>none
theorem Gn:dO Y (.type "str") (λxs H Q=>(xs=[.non]/\Q (.str "None") H)∨(∃b:Bool,xs=[.bl b]/\Q (.str (if b then "True" else "False")) H)∨∃x,xs=[.str x]/\Q (.str x) H):=by
 intro pins s σ H xs us Q I r h;rcases h with⟨rfl,q⟩|⟨b,rfl,q⟩|⟨x,rfl,q⟩
 .obtain⟨u,rfl,ru⟩:=vals1 r
  cases ru;exact P.str_of_none ⟨.str _,H,I.tok _,⟨_,rfl⟩,q⟩
 .obtain⟨u,rfl,ru⟩:=vals1 r
  cases ru;exact P.str_of_bool ⟨.str _,H,I.tok _,⟨_,rfl⟩,q⟩
 .obtain⟨u,rfl,ru⟩:=vals1 r
  obtain⟨t,rfl⟩:=ru;exact P.str_of_str ⟨.str _,H,I,⟨_,rfl⟩,q⟩
def Wr(K:Xl)(A:Yy):List V->Hp->VK->Prop:=λxs H Q=>(((xs=[.non]/\Q (.str "None") H)∨(∃b:Bool,xs=[.bl b]/\Q (.str (if b then "True" else "False")) H)∨∃x,xs=[.str x]/\Q (.str x) H)∨∃i,xs=[.int i]/\i.natAbs.log2<1920/\Q (.str (toString i)) H)∨Rk K A xs H Q
theorem mz{x:Str}:Rep G H W (.str x) (.str x) []:=by rw[Rep];exact⟨rfl,rfl⟩
theorem Ft(A:Yy)(Z:∀c,(X c).A=A)(F:A.guards=some [])(V:A.units+64<cLine)(I:∀c,(X c).K=G.K:=by intro _;rfl):CaB X G (.type "str") yJ:=⟨Wr G.K A,λc=>by rw[←I c,←Z c];exact dO.or (dO.or Gn yD) Ht,λds d e xs H W Y r nd hn w Q q=>by
 unfold yJ at e;split at e
 .cases e
  obtain⟨x,rfl,rx⟩:=r.inv1;rw[Rep]at rx;obtain⟨rfl,rfl⟩:=rx;exact .inl (.inl (.inl ⟨rfl,q.scal λ_=>mz⟩))
 .cases e
  obtain⟨x,rfl,rx⟩:=r.inv1;obtain⟨rfl,rfl⟩:=oH rx;exact .inl (.inl (.inr (.inl ⟨_,rfl,q.scal λ_=>mz⟩)))
 .split at e
  .cases e
   obtain⟨x,rfl,rx⟩:=r.inv1;obtain⟨rfl,rfl⟩:=aV rx;exact .inl (.inr ⟨_,rfl,‹_›,q.scal λ_=>mz⟩)
  .cases e
 .cases e
  obtain⟨x,rfl,rx⟩:=r.inv1;obtain⟨rfl,rfl⟩:=bN rx;exact .inl (.inl (.inr (.inr ⟨_,rfl,q.scal λ_=>mz⟩)))
 .rename_i d0 n1 n2 n3 n4
  split at e
  .rename_i hd
   cases e;obtain⟨x,rfl,rx⟩:=r.inv1;have U:=rx.brs hd.1;have J:∃a,x= .ref a:=by
    cases d0 with
    |non=>exact absurd rfl n1
    |bl b=>exact absurd rfl (n2 b)
    |int b=>exact absurd rfl (n3 b)
    |str b=>exact absurd rfl (n4 b)
    |tup ds=>rw[Rep]at rx;obtain⟨a,_,rfl,_⟩:=rx;exact⟨a,rfl⟩
    |lst m ds=>rw[Rep]at rx;obtain⟨a,_,_,rfl,_⟩:=rx;exact⟨a,rfl⟩
    |ty n=>simp[ik]at hd
    |dct m ks ds=>simp[ik]at hd
    |ins m c fs ds=>simp[ik]at hd
   obtain⟨a,rfl⟩:=J;exact .inr ⟨a,dt d0,rfl,U,F,by omega,hd.2.2.1,hd.2.2.2,q.scal λ_=>mz⟩
  .cases e
 .cases e⟩
def GD(g:Int->Int->Int)(i:Nat)(f:En->Option D):En->Option Fl:=λρ=>match ρ[i]? with
 |some (some (.int m))=>(f ρ).bind λd=>match d with
  |.int n=>some (.nx (ρ.set i (some (.int (g m n)))))
  |_=>none
 |_=>none
theorem Ot{g:Int->Int->Int}{i:Nat}(Z:P i=false)(h:RfE G ob te f):RfS G ob P (Vo i te (ipI g)) (GD g i f):=λρ r e σ H S Fr s E q=>by
 unfold GD at e;split at e
 .rename_i m h1
  cases h2:f ρ with
  |none=>simp[h2]at e
  |some d=>
   rw[h2]at e;simp![Mx]at e;split at e
   .rename_i n
    cases e;obtain⟨v,O,V,g3⟩:=s.sl i _ h1;obtain⟨rfl,Y⟩:=aV V;refine⟨.int m,O,h ρ _ h2 σ H _ s.rel s.wok _ λy H1 L N J fr nd=>?_⟩;obtain⟨rfl,rfl⟩:=aV J;refine⟨m,n,rfl,rfl,?_⟩;have B:Sta G H1 ob ρ σ S (plus [] Fr):=by rw[iZ];exact s.grow N λa z=>.inl z
    obtain⟨S',F,q2⟩:=B.store (i:=i) (d:=.int (g m n)) (v:=.int (g m n)) (by rw[Rep];exact⟨rfl,rfl⟩) rfl List.nodup_nil (by simp);refine q _ H1 S' F ⟨λb u U _ _=>N b u U,λj a z=>(q2 j a z).elim .inl λz=>(by cases z),λj I=>?_⟩;rw[List.getElem?_set_ne];intro z;rw[z,I]at Z;cases Z
   .cases e
 .cases e
variable{c:Expr}
theorem su(i:Nat){x:Str}(Y:∀c,(X c).N.Nodup)(V:PV X G ob e f)(Z:P i=false:=by rfl)(hi:∀c,(X c).N[i]? =some x:=by intro _;rfl)(J:∀c,Loc (X c).env.scope x:=by intro _;first|exact ZZ rfl|exact Ze rfl)(O:∀c,(X c).fn x=true∨(X c).env.scope.names.lookup x=some .local:=by intro _;first|exact .inl rfl|exact .inr rfl):PVS X G ob P (.AugAssign (.Name x pos') .Add e pos) (GD (λi j=>i+j) i f):=let⟨t,a1,a2⟩:=V.ex;⟨_,λc=>R9 (Y c) (hi c) (J c) (a1 c) Sq (O c),Ot Z a2⟩
def S8(G:Gc)(ob:Nat->Bool)(wi:TI)(f:En->Option (List D×En)):Prop:=∀(ρ:En)(items:List D)(F:En),f ρ=some (items,F)->∀(σ:L2.St)(H:Hp)(S:Ad)(Fr:Addr->Prop),Sta G H ob ρ σ S Fr->∀R:It->Hp->Prop,
 (∀J H' S',Sta G H' ob F σ S' Fr->Eff ob H H' S S' []->Wk G J (LtB true H' (wn ob S' Fr)) items->R J H')->wi σ H R
structure V6{ι:Type}(X:ι->Cx)(G:Gc)(ob:Nat->Bool)(tg it:Expr)(f:En->Option (List D×En)):Prop where
 mk::(ex:∃t,(∀c,PI (X c) tg it t)/\S8 G ob t f)
def zZ(f:En->Option (List D×En)):En->Option (List D×En):=λρ=>(f ρ).bind λp=>match p.1 with
 |[.int j]=>if -(2 ^ 62)<=j/\j<2 ^ 62 then some (jF 0 j.toNat,p.2)else none
 |_=>none
variable{f:En->Option (List D×En)}
theorem QF{t:TA}(h:By G ob t f):S8 G ob (Nu t) (zZ f):=λρ items F e σ H S Fr s R q=>by
 unfold zZ at e;cases h1:f ρ with
 |none=>simp[h1]at e
 |some p=>
  obtain⟨ds,ρ1⟩:=p;rw[h1]at e;simp![Mx]at e;split at e
  .rename_i j
   split at e
   .rename_i hj
    obtain⟨rfl,rfl⟩:jF 0 j.toNat=items/\ρ1=F:=by simpa using e
    refine h ρ _ _ h1 σ H S Fr s _ λxs H' L S' s' rx nd I=>?_;obtain⟨x,rfl,V⟩:=rx.inv1;obtain⟨rfl,rfl⟩:=aV V;rw[iZ]at s';exact⟨j,rfl,by omega,by omega,q _ H' S' s' I NP⟩
   .cases e
  .cases e
def zL(it:En->Option (List D×En))(tg:D->En->Option En)(V:En->Option Fl):En->Option Fl:=λρ=>(it ρ).bind λp=>forL tg V p.1 p.2
variable{it:En->Option (List D×En)}
theorem Kq{g:TG}{V:En->Option Fl}(hi:S8 G ob wi it)(F:RfG G ob P g tg)(U:RfS G ob P tb V):RfS G ob P (Ua wi g tb) (zL it tg V):=λρ0 r e σ H0 S0 Fr s0 E q=>by
 unfold zL at e;cases h1:it ρ0 with
 |none=>simp[h1]at e
 |some p=>
  obtain⟨items,ρ⟩:=p;have e:forL tg V items ρ=some r:=by simpa[h1]using e
  refine hi ρ0 items ρ h1 σ H0 S0 Fr s0 _ λJ H1 S s1 ef wk=>?_;have m1:Mv P H0 H1 σ σ S0 S []:=ef.mv;show 3
  .refine .inr ⟨wk.go i items[i] (by simp[N]) H2 _ (a0 (ρ2:=ρ2) m2),λB H'=>(i+1)+(m-1)=items.length/\∃ρ2 S2,Sta G H' ob ρ2 B S2 Fr/\Mv P H1 H' σ B S S2 []/\forL tg V (items.drop (i+1)) ρ2=some r,λB H' h=>⟨m-1,by omega,h⟩,λx I hy=>?_⟩
   obtain⟨s3,rx⟩:=wk.yld i items[i] (by simp[N]) H2 _ (a0 (ρ2:=ρ2) m2) x I hy;rw[←ZQ N,forL]at e2;cases O:tg items[i] ρ2 with
   |none=>simp[O]at e2
   |some a3=>
    rw[O]at e2;simp![Mx]at e2;have a5:Sta G I ob ρ2 σ2 S2 Fr:=Y.grow s3 λa z=>.inl z;refine F items[i] ρ2 a3 O x σ2 I S2 [] Fr (by rw[iZ];exact a5) (by rw[iZ];exact rx) List.nodup_nil (by simp) _ λa4 H4 S4 s4 m4=>?_;have a2:Mv P H1 H4 σ a4 S S4 []:=(m2.trans (S2:=S2) ⟨λb u h _ _=>s3 b u h,λi a z=>.inl ⟨i,z⟩,.refl⟩).trans m4;cases Z:V a3 with
    |none=>rw[Z]at e2;cases e2
    |some fl=>
     rw[Z]at e2;refine U a3 fl Z a4 H4 S4 Fr s4 _ ?_;cases fl with
     |nx a1=>exact λB H' S' s' m'=>⟨by omega,a1,S',s',a2.trans m',e2⟩
     |cnt a1=>exact λB H' S' s' m'=>⟨by omega,a1,S',s',a2.trans m',e2⟩
     |brk a1=>cases e2;exact λB H' S' s' m'=>q1 B H' S' s' (a2.trans m')
     |ret d a1=>cases e2;exact q1.from a2
  .have hl:i=items.length:=by omega
   rw[hl,Z8,forL]at e2;cases e2;subst hl;exact .inl ⟨wk.stop H2 _ (a0 (ρ2:=ρ2) m2),q1 σ2 H2 S2 Y m2⟩
theorem Kh{tg iter:Expr}{V:List Stmt}{g:D->En->Option En}{f:En->Option Fl}(F:∀c,adb (model (X c).prog (X c).w) (X c).A (X c).env (X c).xe)(Y:∀c,(X c).calm=true)(hi:V6 X G ob tg iter it)(q:PVG X G ob P tg g)(U:rC X G ob P V f)(hs:∀c,∀x,YZ iter (X c).env x=pure x:=by intro _;intro _;rfl):PVS X G ob P (.For tg iter V [] pos) (zL it g f):=let⟨v,c1,c2⟩:=hi.ex;let⟨t,a1,a2⟩:=q.ex;let⟨u,b1,b2⟩:=U.ex;⟨_,λc=>Jl (F c) (Y c) (c1 c) (a1 c) (b1 c) (hs c),Kq c2 a2 b2⟩
theorem PJ{tg a:Expr}{p:Pos}(F:∀c,Gl (X c) "range")(J:∀c,(X c).mg "range"=none)(Z:v5 X G ob [a] f)(hs:∀c,Xy [a] (X c).env=[(false,eval a (X c).env)]:=by intro _;rfl):V6 X G ob tg (.Call (.Name "range" p) [a] [] pos) (zZ f):=let⟨t,a1,a2⟩:=Z.ex;⟨_,λc=>wI (F c) (J c) (a1 c) (hs c),QF a2⟩
def Vd(own:Nat->Bool)(cap:List (Option Nat)):Bool:=(X3 cap.length).all λi=>!own i||(match cap[i]? with
 |some none=>true
 |_=>false)
theorem fZ{own:Nat->Bool}{cap:List (Option Nat)}(h:Vd own cap=true):∀i:Nat,own i=true->cap[i]?≠none->cap[i]? =some none:=λi N hn=>by
 have hi:i<cap.length:=by
  by_cases z:i<cap.length
  .exact z
  .exact absurd (List.getElem?_eq_none 1.10) hn
 have:=abP.mp h i (YF.mpr hi);rw[N]at this;simp![acx,Bool.false_or]at this;split at this
 .assumption
 .cases this
def Qa(cap:List (Option Nat)):Bool:=(X3 cap.length).all λi=>(X3 cap.length).all λk=>match cap[i]?,cap[k]? with
 |some (some a),some (some b)=>!(a==b)||i==k
 |_,_=>true
theorem N7{cap:List (Option Nat)}(h:Qa cap=true):oX cap:=λi k j h1 h2=>by
 have hi:i<cap.length:=(qb.mp h1).1;have B:k<cap.length:=(qb.mp h2).1;have:=abP.mp (abP.mp h i (YF.mpr hi)) k (YF.mpr B);rw[h1,h2]at this;simpa using this
def Wp(o:Option α)(Q:α->Prop):Prop:=∃a,o=some a/\Q a
variable{a:α}{Q:α->Prop}
theorem aC:Wp (some a) Q↔Q a:=⟨λ⟨b,e,q⟩=>by cases e;exact q,λq=>⟨a,rfl,q⟩⟩
theorem yd:Wp (none:Option α) Q↔False:=⟨λ⟨b,e,q⟩=>(by cases e),λz=>z.elim⟩
variable{o:Option α}{R:β->Prop}
theorem aR{f:α->Option β}:Wp (o.bind f) R↔Wp o λa=>Wp (f a) R:=by
 cases o with
 |none=>simp[yd]
 |some a=>simp[aC]
variable{f:α->β}
theorem dJ:Wp (o.map f) R↔Wp o λa=>R (f a):=by
 cases o with
 |none=>simp[yd]
 |some a=>simp[aC]
theorem w_ite{c:Prop}[Decidable c]{a b:Option α}:Wp (if c then a else b) Q↔(if c then Wp a Q else Wp b Q):=by
 split<;>exact Iff.rfl
theorem Wp.mono{U:α->Prop}(h:Wp o Q)(k:∀a,Q a->U a):Wp o U:=let⟨a,e,q⟩:=h;⟨a,e,k a q⟩
theorem Wp.eq(h:Wp o λx=>x=a):o=some a:=let⟨b,e,q⟩:=h;by rw[e,q]
theorem lU(h:o=some a)(q:Q a):Wp o Q:=⟨a,h,q⟩
variable{Q:Fl->Prop}
theorem JN{f g:En->Option Fl}:Wp (bu f g ρ) Q↔Wp (f ρ) λr=>match r with
 |.nx F=>Wp (g F) Q
 |.ret d F=>Q (.ret d F)
 |.brk F=>Q (.brk F)
 |.cnt F=>Q (.cnt F):=by
 unfold bu;cases f ρ with
 |none=>simp[yd]
 |some r=>cases r<;>simp[aC]
theorem Rj{V:En->Option Fl}(I:Nat->En->Prop):∀{items:List D}{ρ:En}{k:Nat},I k ρ->
  (∀(i:Nat)(d:D)(ρ:En),items[i]? =some d->I (k+i) ρ->Wp (tg d ρ) λρ1=>Wp (V ρ1) λr=>match r with
   |.nx ρ2=>I (k+i+1) ρ2
   |.cnt ρ2=>I (k+i+1) ρ2
   |.brk ρ2=>Q (.nx ρ2)
   |.ret d ρ2=>Q (.ret d ρ2))->
  (∀ρ,I (k+items.length) ρ->Q (.nx ρ))->Wp (forL tg V items ρ) Q
 |[],ρ,k,h0,_,h=>by rw[forL];exact aC.mpr (h ρ h0)
 |d::r,ρ,k,h0,hs,h=>by
  rw[forL];obtain⟨ρ1,e1,w⟩:=hs 0 d ρ rfl h0;obtain⟨F,e2,w⟩:=w;rw[e1,Mx,e2];have U:∀{ρ2:En},I (k+1) ρ2->Wp (forL tg V r ρ2) Q:=λB=>Rj I B (λi d ρ hi B=>by
   have:=hs (i+1) d ρ (by simpa using hi) (by rw[show k+(i+1)=k+1+i by omega];exact B);rw[show k+(i+1)+1=k+1+i+1 by omega]at this;exact this) λρ B=>h ρ (by rw[XN,show k+(r.length+1)=k+1+r.length by omega];exact B)
  cases F with
  |nx ρ2=>exact U w
  |cnt ρ2=>exact U w
  |brk ρ2=>exact aC.mpr w
  |ret d ρ2=>exact aC.mpr w
variable{c:En->Option Bool}
theorem jf{tg:D->En->Option En}{c:En->Option Bool}{e:En->Option D}{ρ0:En}{p:D->Bool}{f:D->D}:∀{items:List D},(∀d∈items,Wp (tg d ρ0) λρ1=>c ρ1=some (p d)/\(p d=true->e ρ1=some (f d)))->gh tg c e ρ0 items=some ((items.filter p).map f)
 |[],_=>rfl
 |d::r,h=>by
  obtain⟨ρ1,e1,h1,h2⟩:=h d (by simp);have U:=jf (tg:=tg) (c:=c) (e:=e) (ρ0:=ρ0) (p:=p) (f:=f) (items:=r) λx J=>h x (by simp[J]);rw[gh];cases F:p d with
  |false=>simp[e1,h1,F,U]
  |true=>simp[e1,h1,F,h2 F,U]
variable{Q:List D×En->Prop}{e:En->Option (D×En)}
theorem D_{cap:List (Option Nat)}(I:Nat->List D->En->Prop):∀{items:List D}{ρ:En}{k:Nat}{acc:List D},I k acc ρ->
  (∀(i:Nat)(d:D)(acc:List D)(ρ:En),items[i]? =some d->I (k+i) acc ρ->Wp (tg d (iw cap ρ)) λρ1=>Wp (c ρ1) λb=>if b=true then Wp (e ρ1) λp=>clean p.1=true/\I (k+i+1) (acc++[p.1]) (iz cap p.2 ρ)else I (k+i+1) acc ρ)->
  (∀ys ρ,I (k+items.length) ys ρ->Q (ys,ρ))->Wp (j0 cap tg c e items ρ) λt=>Q (acc++t.1,t.2)
 |[],ρ,k,acc,h0,_,h=>by rw[j0];exact aC.mpr (by rw[XJ];exact h acc ρ h0)
 |d::r,ρ,k,acc,h0,hs,h=>by
  rw[j0];obtain⟨ρ1,e1,b,e2,w⟩:=hs 0 d acc ρ rfl h0;rw[e1,Mx,e2,Mx];have F:∀{ρ2:En}{acc:List D},I (k+1) acc ρ2->Wp (j0 cap tg c e r ρ2) λt=>Q (acc++t.1,t.2):=λB=>D_ I B (λi d acc ρ hi B=>by
   have:=hs (i+1) d acc ρ (by simpa using hi) (by rw[show k+(i+1)=k+1+i by omega];exact B);rw[show k+(i+1)+1=k+1+i+1 by omega]at this;exact this) λys ρ B=>h ys ρ (by rw[XN,show k+(r.length+1)=k+1+r.length by omega];exact B)
  cases b with
  |false=>
   simp![Ye,YJ]at w⊢;exact F w
  |true=>
   simp![XX]at w⊢;obtain⟨p,q,Y,B⟩:=w;rw[q,Mx,Xu Y];rw[dJ];refine(F B).mono λt U=>?_;simpa using U
theorem cL(l:List Str):az (l.map D.str)=true:=bh λd hd=>by obtain⟨x,_,rfl⟩:=zc.mp hd;rfl
theorem cG(l:List Str):aB (l.map D.str)=true:=a_ λd hd=>by obtain⟨x,_,rfl⟩:=zc.mp hd;rfl
theorem dh(b:Bool)(l:List Str):dW b (l.map D.str)=l.map D.str:=by rw[bK,Xh];rfl
theorem fX(l:List Str):fzL (l.map D.str)=l.map D.str:=by rw[fY,Xh];rfl
theorem eQ(l:List Str):gn (l.map D.str)=l.map D.str:=by rw[dH,Xh];rfl
variable{l:List α}
theorem jr{α β:Type}{f:α->β}{l:List α}(V:0<=i)(h1:i<l.length):∃x,x∈l/\l[i.toNat]? =some x/\atI (l.map f) i=some (f x):=by
 have:i.toNat<l.length:=by omega
 refine⟨l[i.toNat],ZW _,by simp[this],?_⟩;unfold atI ixN;rw[Xu V,Xu (by simpa using h1)];simp[this]
theorem Oh{f:D->D}:(jF 0 n).map f=(X3 n).map λ(k:Nat)=>f (.int (k:Int)):=by
 unfold jF;rw[Xh];apply XM;intro k _;simp
theorem QT(h:d∈jF 0 n):∃k:Nat,k<n/\d= .int (k:Int):=by
 unfold jF at h;obtain⟨k,B,rfl⟩:=zc.mp h;exact⟨k,YF.mp B,by simp⟩
theorem ye{lo:Int}:(jF lo n).length=n:=by simp[jF]
theorem filter_tt(l:List α):l.filter (λ_=>true)=l:=by simp
theorem Gf{i:Nat}(h:(jF 0 n)[i]? =some d):i<n/\d= .int (i:Int):=by
 have hi:i<n:=by have:=(qb.mp h).1;simpa[jF]using this
 refine⟨hi,?_⟩;unfold jF at h;rw[List.getElem?_map,ab8 hi]at h;simpa using h.symm
theorem QQ(h:k∈ks):∃j,eY ks k=some j/\j<ks.length:=by
 cases e:eY ks k with
 |none=>exact absurd h (ug e)
 |some j=>exact⟨j,rfl,t6 e⟩
theorem Ng(h:ks.length=ds.length):(gG ks ds k d).1.length=(gG ks ds k d).2.length/\∀x,x∈(gG ks ds k d).1↔x∈ks∨x=k:=by
 unfold gG;cases e:eY ks k with
 |none=>exact⟨by simp[h],λx=>by simp⟩
 |some j=>
  refine⟨by simpa using h,λx=>⟨.inl,λz=>z.elim id λz=>?_⟩⟩;obtain⟨Z,B,_⟩:=Ym.mp e;have:ks[j]=k:=by simpa using B
  rw[z,←this];exact ZW _
theorem vp:∀{es:List (Key×D)}{ks:List Key}{ds:List D},ks.length=ds.length->(bH ks ds es).1.length=(bH ks ds es).2.length/\∀x,x∈(bH ks ds es).1↔x∈ks∨∃p∈es,p.1=x
 |[],ks,ds,h=>⟨h,λx=>by simp[bH]⟩
 |p::r,ks,ds,h=>by
  obtain⟨h1,h2⟩:=Ng (k:=p.1) (d:=p.2) h;obtain⟨O,F⟩:=vp (es:=r) h1;rw[bH];refine⟨O,λx=>?_⟩;rw[F,h2];constructor
  .rintro((z|z)|⟨q,hq,z⟩)
   .exact .inl z
   .exact .inr ⟨p,by simp,z.symm⟩
   .exact .inr ⟨q,by simp[hq],z⟩
  .rintro(z|⟨q,hq,z⟩)
   .exact .inl (.inl z)
   .rcases Xj.mp hq with y|y
    .subst y;exact .inl (.inr z.symm)
    .exact .inr ⟨q,y,z⟩
def pD(p:Str×Int):D:=.tup [.str p.1,.int p.2]
theorem Ex:∀ps:List (Str×Int),qR (ps.map pD)=some (ps.map λp=>(XF p.1,.int p.2))
 |[]=>rfl
 |p::r=>by simp[qR,pD,d9,Ex r]
abbrev Jt:=Str×Str×Int
def jD(j:Jt):D:=.tup [.str j.1,.str j.2.1,.int j.2.2]
theorem jJ(l:List Jt):az (l.map jD)=true:=bh λd hd=>by obtain⟨x,_,rfl⟩:=zc.mp hd;rfl
theorem jO(l:List Jt):aB (l.map jD)=true:=a_ λd hd=>by obtain⟨x,_,rfl⟩:=zc.mp hd;rfl
theorem ou(b:Bool)(l:List Jt):dW b (l.map jD)=l.map jD:=by rw[bK,Xh];rfl
theorem oA(l:List Jt):fzL (l.map jD)=l.map jD:=by rw[fY,Xh];rfl
theorem lZ(l:List Jt):gn (l.map jD)=l.map jD:=by rw[dH,Xh];rfl
theorem x_:∀l:List Jt,jl (l.map jD)=true
 |[]=>rfl
 |j::r=>by simp[jl,jD,ik,x_ r]
theorem nF:∀l:List Str,jl (l.map D.str)=true
 |[]=>rfl
 |j::r=>by simp[jl,ik,nF r]
theorem qI{l:List Jt}:gNe (.lst m (l.map jD)) (.lst .own [])=some (.bl (!l.isEmpty)):=by
 unfold gNe;have h1:=x_ l;rw[Xu ⟨by simpa[ik]using h1,rfl,.lst (by simp[dtL])⟩];cases l with
 |nil=>rfl
 |cons j r=>rfl
theorem eq_int{j:Int}:gEq (.int i) (.int j)=some (.bl (decide (i=j))):=by
 unfold gEq;rw[Xu ⟨rfl,rfl,.sc (.int i j)⟩];simp[dt,eqD];exact aba.mpr (by simp)
variable{items:List D}
theorem J5{cap:List (Option Nat)}(I:Nat->List D->En->Prop)(V:I 0 [] ρ)
  (hs:∀(i:Nat)(d:D)(acc:List D)(ρ:En),items[i]? =some d->I i acc ρ->Wp (tg d (iw cap ρ)) λρ1=>Wp (c ρ1) λb=>if b=true then Wp (e ρ1) λp=>clean p.1=true/\I (i+1) (acc++[p.1]) (iz cap p.2 ρ)else I (i+1) acc ρ)
  (h:∀ys ρ,I items.length ys ρ->Q (ys,ρ)):Wp (j0 cap tg c e items ρ) Q:=by
 have:=D_ (cap:=cap) (tg:=tg) (c:=c) (e:=e) (Q:=Q) I (items:=items) (ρ:=ρ) (k:=0) (acc:=[]) V (λi d acc ρ hi B=>by
  rw[Z4]at B⊢;exact hs i d acc ρ hi B) λys ρ B=>h ys ρ (by rw[Z4]at B;exact B)
 simpa using this
variable{Q:Fl->Prop}
theorem il{V:En->Option Fl}(I:Nat->En->Prop)(q:I 0 ρ)
  (hs:∀(i:Nat)(d:D)(ρ:En),items[i]? =some d->I i ρ->Wp (tg d ρ) λρ1=>Wp (V ρ1) λr=>match r with
   |.nx ρ2=>I (i+1) ρ2
   |.cnt ρ2=>I (i+1) ρ2
   |.brk ρ2=>Q (.nx ρ2)
   |.ret d ρ2=>Q (.ret d ρ2))
  (h:∀ρ,I items.length ρ->Q (.nx ρ)):Wp (forL tg V items ρ) Q:=
 Rj (k:=0) I q (λi d ρ hi B=>by
  rw[Z4]at B⊢;exact hs i d ρ hi B) λρ B=>h ρ (by rw[Z4]at B;exact B)
theorem bf{f g:En->Option Fl}(P:En->Prop)(h1:∀U:Fl->Prop,(∀F,P F->U (.nx F))->Wp (f ρ) U)(h2:∀F,P F->Wp (g F) Q):Wp (bu f g ρ) Q:=by
 rw[JN];exact h1 _ λF h=>h2 F h
theorem KR{f g:En->Option Fl}(P:En->Prop)(R:D->Prop)(h1:∀U:Fl->Prop,(∀F,P F->U (.nx F))->(∀d F,R d->U (.ret d F))->Wp (f ρ) U)(h2:∀F,P F->Wp (g F) Q)(O:∀d F,R d->Q (.ret d F)):Wp (bu f g ρ) Q:=by
 rw[JN];exact h1 _ (λF h=>h2 F h) λd F h=>O d F h
theorem Hj(j:Jt):aA (jD j)=true:=rfl
theorem Hc(j:Jt):au (jD j)=true:=rfl
theorem Hb(b:Bool)(j:Jt):view b (jD j)=jD j:=rfl
theorem G4(j:Jt):fz (jD j)=jD j:=rfl
theorem Hi(j:Jt):fzo (jD j)=jD j:=rfl
theorem wy(j:Jt):gSl (jD j) none (some 2)=some (.tup [.str j.1,.str j.2.1]):=rfl
theorem qx(m:Mk)(l:List Jt):cT [.lst m (l.map jD)]=some (.int l.length):=by simp[cT]
theorem len_strs(m:Mk)(l:List Str):cT [.lst m (l.map D.str)]=some (.int l.length):=by simp[cT]
theorem mZ(l:List Jt):cT [.tup (l.map jD)]=some (.int l.length):=by simp[cT]
theorem jz(l:List Str):cT [.tup (l.map D.str)]=some (.int l.length):=by simp[cT]
theorem Dj{l:List D}:gIx (.lst m l) (.int i)=atI l i:=rfl
theorem Gi{l:List D}:gIx (.tup l) (.int i)=atI l i:=rfl
open PySem PySem.W PyProof.Rows
def Tr(b:Nat->Nat->Bool)(n:Nat):KasT α->(α->Prop)->Prop
 |.ret a,Q=>Q a
 |.ask i j k,Q=>i<n/\j<n/\Tr b n (k (b i j)) Q
variable{b:Nat->Nat->Bool}
theorem Tr.bind{f:α->KasT β}{Q:β->Prop}:∀{t:KasT α},Tr b n t (λa=>Tr b n (f a) Q)->Tr b n (t.bind f) Q
 |.ret _,h=>h
 |.ask _ _ _,⟨h1,h2,h3⟩=>⟨h1,h2,Tr.bind h3⟩
theorem Tr.mono{Q U:α->Prop}(N:∀a,Q a->U a):∀{t:KasT α},Tr b n t Q->Tr b n t U
 |.ret _,h=>N _ h
 |.ask _ _ _,⟨h1,h2,h3⟩=>⟨h1,h2,Tr.mono N h3⟩
theorem Tr.wp{q:Nat->Nat->(Bool->zb->Prop)->zb->Prop}{s:zb}{Q:α->Prop}(Y:∀i j C,i<n->j<n->C (b i j) s->q i j C s):∀{t:KasT α},Tr b n t Q->t.kasWp q (λa s'=>s'=s/\Q a) s
 |.ret _,h=>⟨rfl,h⟩
 |.ask _ _ _,⟨h1,h2,h3⟩=>Y _ _ _ h1 h2 (Tr.wp Y h3)
def je(n:Nat)(p:Array Nat):Prop:=Yt p.toList (X3 n)
variable{p:Array Nat}
theorem je.size(h:je n p):p.size=n:=by
 have:=List.Perm.length_eq h;simpa using this
theorem je.lt(h:je n p)(hn:0<n)(i:Nat):p.getD i 0<n:=by
 by_cases hi:i<p.size
 .have hm:p[i]∈p.toList:=by simp
  have:=YF.mp (aeN h |>.mp hm);simpa[Array.getD,hi]using this
 .simpa[Array.getD,hi]using hn
theorem je.of{q:Array Nat}(h:je n p)(F:Array.Perm q p):je n q:=(Array.perm_iff_toList_perm.mp F).trans h
section
variable(ρ:Nat->Int)
def rk(p:Array Nat)(i:Nat):Int:=ρ (p.getD i 0)
def Up1(p:Array Nat)(k:Nat):Prop:=∀i j,i<=j->j<k->rk ρ p i<=rk ρ p j
def Dn1(p:Array Nat)(k:Nat):Prop:=∀i j,i<=j->j<k->rk ρ p j<=rk ρ p i
abbrev bk:Nat->Nat->Bool:=λi j=>decide (ρ i<ρ j)
end
section
variable{ρ:Nat->Int}{n:Nat}(hn:0<n)
theorem zB{p q:Array Nat}{i j:Nat}(h:p[i]? =q[j]?):rk ρ p i=rk ρ q j:=by
 unfold rk;rw[aac,aac,h]
theorem Di{p:Array Nat}{i j:Nat}(I:j<=p.size)(k:Nat):rk ρ (kas_rev p i j) k=if i<=k/\k<j then rk ρ p (i+j-1-k)else rk ρ p k:=by
 have e:=getElem?_mirror_all (xs:=p) (i:=i) I k;unfold kas_rev;split
 .rename_i h;rw[Xu h]at e;exact zB e
 .rename_i h;rw[Xz h]at e;exact zB e
theorem iY{p:Array Nat}{i j:Nat}(I:j<=p.size)(h:∀k,i<=k->k<j->rk ρ p k=rk ρ p (j-1))(k:Nat):rk ρ (kas_rev p i j) k=rk ρ p k:=by
 rw[Di I];split
 .rw[h _ 1.10 1.10,h k 1.10 1.10]
 .rfl
include hn
theorem Ks{p:Array Nat}(F:je n p):∀(f a:Nat),1<=a->Up1 ρ p a->Tr (bk ρ) n (kas_asc p f a) λm=>a<=m/\m<=a+f/\Up1 ρ p m
 |0,a,_,h=>⟨Xn _,Xn _,h⟩
 |f+1,a,ha,h=>by
  refine⟨F.lt hn _,F.lt hn _,?_⟩;by_cases c:rk ρ p a<rk ρ p (a-1)
  .have e:bk ρ (p.getD a 0) (p.getD (a-1) 0)=true:=YL c
   rw[e];exact⟨Xn _,by omega,h⟩
  .have e:bk ρ (p.getD a 0) (p.getD (a-1) 0)=false:=X8 c
   rw[e];refine Tr.mono (λm J=>⟨by omega,by omega,J.2.2⟩) (Ks F f (a+1) 1.10 λi j O I=>?_);by_cases N:j<a
   .exact h i j O N
   .obtain rfl:j=a:=by omega
    by_cases hi:i=j
    .subst hi;exact ZR _
    .exact ab3 (h i (j-1) 1.10 1.10) 1.10
def DsQ(ρ:Nat->Int)(n a f:Nat)(t:Array Nat×Nat×Nat):Prop:=je n t.1/\a<=t.2.1/\t.2.1<=a+f/\Dn1 ρ t.1 t.2.1/\t.2.2+1<=t.2.1/\∀i,t.2.1-(t.2.2+1)<=i->i<t.2.1->rk ρ t.1 i=rk ρ t.1 (t.2.1-1)
theorem yh:∀(f:Nat)(p:Array Nat)(a q:Nat),je n p->1<=a->a+f<=n->Dn1 ρ p a->q+1<=a->(∀i,a-(q+1)<=i->i<a->rk ρ p i=rk ρ p (a-1))->Tr (bk ρ) n (kas_desc f p a q) (DsQ ρ n a f)
 |0,p,a,q,hp,ha,_,h,hq,he=>⟨hp,Xn _,Xn _,h,hq,he⟩
 |f+1,p,a,q,hp,ha,hf,h,hq,he=>by
  have Y:=hp.size;refine⟨hp.lt hn _,hp.lt hn _,?_⟩;by_cases c:rk ρ p a<rk ρ p (a-1)
  .have e:bk ρ (p.getD a 0) (p.getD (a-1) 0)=true:=YL c
   have J:∀V:Array Nat,je n V->(∀k,rk ρ V k=rk ρ p k)->Tr (bk ρ) n (kas_desc f V (a+1) 0) (DsQ ρ n a (f+1)):=λV a0 B=>by
    refine Tr.mono (λt U=>⟨U.1,by have:=U.2.1;omega,by have:=U.2.2.1;omega,U.2.2.2⟩) (yh f V (a+1) 0 a0 1.10 1.10 (λi j O I=>?_) 1.10 λi h1 h2=>by rw[show i=a+1-1 by omega]);rw[B,B];by_cases N:j<a
    .exact h i j O N
    .obtain rfl:j=a:=by omega
     by_cases hi:i=j
     .subst hi;exact ZR _
     .exact ab3 1.10 (h i (j-1) 1.10 1.10)
   rw[e];simp![XX];by_cases Z:q>0
   .rw[Xu Z]
    exact J _ (hp.of (adw _ _ _ _)) (iY 1.10 he)
   .rw[Xz Z]
    exact J _ hp λ_=>rfl
  .have e:bk ρ (p.getD a 0) (p.getD (a-1) 0)=false:=X8 c
   rw[e];simp![Ye,YJ];refine⟨hp.lt hn _,hp.lt hn _,?_⟩;by_cases c2:rk ρ p (a-1)<rk ρ p a
   .have e:bk ρ (p.getD (a-1) 0) (p.getD a 0)=true:=YL c2
    rw[e];exact⟨hp,Xn _,by show a<=a+(f+1);omega,h,hq,he⟩
   .have e:bk ρ (p.getD (a-1) 0) (p.getD a 0)=false:=X8 c2
    have F:rk ρ p a=rk ρ p (a-1):=by omega
    rw[e];simp![Ye,YJ];refine Tr.mono (λt U=>⟨U.1,by have:=U.2.1;omega,by have:=U.2.2.1;omega,U.2.2.2⟩) (yh f p (a+1) (q+1) hp 1.10 1.10 (λi j O I=>?_) 1.10 λi h1 h2=>?_)
    .by_cases N:j<a
     .exact h i j O N
     .obtain rfl:j=a:=by omega
      by_cases hi:i=j
      .subst hi;exact ZR _
      .rw[F];exact h i (j-1) 1.10 1.10
    .rw[show a+1-1=a by omega]
     by_cases hi:i=a
     .rw[hi]
     .rw[F];exact he i 1.10 1.10
def CtQ(ρ:Nat->Int)(n q:Nat)(t:Nat×Array Nat):Prop:=je n t.2/\1<=t.1/\t.1<=q/\Up1 ρ t.2 t.1
theorem Fx{p:Array Nat}{a q:Nat}(F:je n p)(Z:1<=a)(N:a<=q)(B:q<=n)(h:Dn1 ρ p a):Tr (bk ρ) n (kas_tail3 a q p) (CtQ ρ n q):=by
 have Y:=F.size;have U:je n (kas_rev p 0 a):=F.of (adw _ _ _ _);refine Tr.bind (Tr.mono (λm J=>?_) (Ks hn U (q-a) a Z λi j O I=>?_))
 .exact⟨U,by show 1<=m;omega,by show m<=q;omega,J.2.2⟩
 .rw[Di 1.10,Di 1.10,Xu 1.10,Xu 1.10]
  exact h _ _ 1.10 1.10
theorem Eu{p:Array Nat}{a q:Nat}(F:je n p)(N:a+1<=q)(B:q<=n)(h:Dn1 ρ p (a+1)):Tr (bk ρ) n (kas_descPart a q p) (CtQ ρ n q):=by
 refine Tr.bind (Tr.mono (λt U=>?_) (yh hn (q-(a+1)) p (a+1) 0 F 1.10 1.10 h 1.10 λi h1 h2=>by rw[show i=a+1-1 by omega]));obtain⟨V,t2,t3⟩:=t;obtain⟨h1,h2,O,h4,Z,J⟩:=U;have Y:=h1.size;simp only at h1 h2 O h4 Z J Y⊢;split
 .refine Fx hn (h1.of (adw _ _ _ _)) 1.10 1.10 B λi j a0 I=>?_
  rw[iY 1.10 J,iY 1.10 J];exact h4 i j a0 I
 .exact Fx hn h1 1.10 1.10 B h4
theorem JG{p:Array Nat}{nr:Nat}(F:je n p)(h1:1<=nr)(a4:nr<=n):Tr (bk ρ) n (kas_count nr p) (CtQ ρ n nr):=by
 have Y:=F.size;have V:Up1 ρ p 1:=λi j a0 I=>by rw[show i=j by omega];exact ZR _
 have go:Tr (bk ρ) n (kas_asc p (nr-1) 1) λm=>1<=m/\m<=nr/\Up1 ρ p m/\(m=nr∨rk ρ p m<rk ρ p (m-1)):=by
  have:∀(f a:Nat),1<=a->a+f=nr->Up1 ρ p a->Tr (bk ρ) n (kas_asc p f a) λm=>1<=m/\m<=nr/\Up1 ρ p m/\(m=nr∨rk ρ p m<rk ρ p (m-1)):=by
   intro f
   induction f with
   |zero=>intro a Z O h;exact⟨Z,by omega,h,.inl 1.10⟩
   |succ f U=>
    intro a Z O h;refine⟨F.lt hn _,F.lt hn _,?_⟩;by_cases c:rk ρ p a<rk ρ p (a-1)
    .have e:bk ρ (p.getD a 0) (p.getD (a-1) 0)=true:=YL c
     rw[e];exact⟨Z,by omega,h,.inr c⟩
    .have e:bk ρ (p.getD a 0) (p.getD (a-1) 0)=false:=X8 c
     rw[e];refine U (a+1) 1.10 1.10 λi j a0 I=>?_;by_cases a6:j<a
     .exact h i j a0 a6
     .obtain rfl:j=a:=by omega
      by_cases hi:i=j
      .subst hi;exact ZR _
      .exact ab3 (h i (j-1) 1.10 1.10) 1.10
  exact this (nr-1) 1 (Xn _) 1.10 V
 refine Tr.bind (Tr.mono (λm J=>?_) go);obtain⟨m1,m2,m3,m4⟩:=J;by_cases a3:m=nr
 .rw[Xu (by simpa using a3)]
  exact⟨F,m1,m2,m3⟩
 .rw[Xz (by simpa using a3)]
  have a7:=m4.resolve_left a3;by_cases a5:m>1
  .rw[Xu a5]
   refine⟨F.lt hn _,F.lt hn _,?_⟩;by_cases c:rk ρ p 0<rk ρ p (m-1)
   .have e:bk ρ (p.getD 0 0) (p.getD (m-1) 0)=true:=YL c
    rw[e];exact⟨F,m1,m2,m3⟩
   .have e:bk ρ (p.getD 0 0) (p.getD (m-1) 0)=false:=X8 c
    rw[e];simp![Ye,YJ];have q:∀k,0<=k->k<m->rk ρ p k=rk ρ p (m-1):=λk _ B=>by
     have a1:=m3 0 k 1.10 B;have a2:=m3 k (m-1) 1.10 1.10;omega
    refine Eu hn (F.of (adw _ _ _ _)) 1.10 a4 λi j a0 I=>?_;rw[iY 1.10 q,iY 1.10 q];by_cases N:j<m
    .rw[q i 1.10 1.10,q j 1.10 N];exact ZR _
    .obtain rfl:j=m:=by omega
     by_cases hi:i=j
     .subst hi;exact ZR _
     .rw[q i 1.10 1.10];omega
  .rw[Xz a5]
   obtain rfl:m=1:=by omega
   refine Eu hn F 1.10 a4 λi j a0 I=>?_;by_cases hi:i=j
   .subst hi;exact ZR _
   .obtain rfl:i=0:=by omega
    obtain rfl:j=1:=by omega
    exact Int.le_of_lt a7
theorem uc{p:Array Nat}{k:Nat}(F:je n p)(h:Up1 ρ p k):∀(f l r:Nat),l<=r->r<=k->r-l<=f->(∀i,i<l->rk ρ p i<=rk ρ p k)->(∀i,r<=i->i<k->rk ρ p k<rk ρ p i)->
  Tr (bk ρ) n (kas_place p k f l r) λm=>m<=k/\(∀i,i<m->rk ρ p i<=rk ρ p k)/\∀i,m<=i->i<k->rk ρ p k<rk ρ p i
 |0,l,r,hlr,hrk,hf,h1,h2=>⟨by omega,h1,λi hi B=>h2 i 1.10 B⟩
 |f+1,l,r,hlr,hrk,hf,h1,h2=>by
  unfold kas_place;by_cases q:l>=r
  .rw[Xu q]
   exact⟨by omega,h1,λi hi B=>h2 i 1.10 B⟩
  .rw[Xz q]
   refine⟨F.lt hn _,F.lt hn _,?_⟩;by_cases c:rk ρ p k<rk ρ p ((l+r) / 2)
   .have e:bk ρ (p.getD k 0) (p.getD ((l+r) / 2) 0)=true:=YL c
    rw[e];exact uc F h f l _ 1.10 1.10 1.10 h1 λi hi B=>Int.lt_of_lt_of_le c (h _ i hi B)
   .have e:bk ρ (p.getD k 0) (p.getD ((l+r) / 2) 0)=false:=X8 c
    rw[e];exact uc F h f _ r 1.10 hrk 1.10 (λi hi=>ab3 (h i ((l+r) / 2) 1.10 1.10) 1.10) h2
theorem J9:∀(f:Nat)(p:Array Nat)(k:Nat),je n p->k+f<=n->Up1 ρ p k->Tr (bk ρ) n (kas_bin f p k) λq=>je n q/\Up1 ρ q (k+f)
 |0,p,k,hp,_,h=>⟨hp,h⟩
 |f+1,p,k,hp,hf,h=>by
  have Y:=hp.size;refine Tr.bind (Tr.mono (λl Z=>?_) (uc hn hp h k 0 k 1.10 1.10 1.10 (λi hi=>by omega) λi h1 h2=>by omega));obtain⟨l1,l2,B⟩:=Z;have U:∀i,rk ρ (bubble p k (k-l)) i=if i=l then rk ρ p k else if l<i/\i<=k then rk ρ p (i-1)else rk ρ p i:=λi=>by
   have e:=getElem?_bubble (xs:=p) (src:=k) 1.10 (k-l) 1.10 i;rw[show k-(k-l)=l by omega]at e;split
   .rename_i hi;rw[Xu hi]at e;exact zB e
   .rename_i hi
    rw[Xz hi]at e;split
    .rename_i hi2;rw[Xu hi2]at e;exact zB e
    .rename_i hi2;rw[Xz hi2]at e;exact zB e
  refine Tr.mono (λq N=>⟨N.1,by rw[show k+(f+1)=k+1+f by omega];exact N.2⟩) (J9 f (bubble p k (k-l)) (k+1) (hp.of (bubble_perm _ _ _)) 1.10 λi j O I=>?_);rw[U,U]
  repeat' split
  all_goals first
   |exact ZR _
   |(exfalso;omega)
   |exact Int.le_of_lt (B _ 1.10 1.10)
   |exact l2 _ 1.10
   |exact h _ _ 1.10 1.10
theorem Qf:Tr (bk ρ) n (kas_sort n) λp=>je n p/\Up1 ρ p n:=by
 have F:je n (aez (X3 n)):=by unfold je;exact afk _
 refine Tr.bind (Tr.mono (λt U=>?_) (JG hn F 1.10 (Xn n)));obtain⟨h1,h2,O,B⟩:=U;split
 .refine Tr.mono (λq N=>⟨N.1,?_⟩) (J9 hn (n-max t.1 1) t.2 (max t.1 1) h1 1.10 (by rw[show max t.1 1=t.1 by omega];exact B))
  have:=N.2;rwa[show max t.1 1+(n-max t.1 1)=n by omega]at this
 .rename_i hlt
  exact⟨h1,by rw[show t.1=n by omega]at B;exact B⟩
end
open PySem PySem.W PyProof.Rows PySem.SeqAt
theorem jU:plainId "list.__eq__.loop"=true:=by decide +kernel
theorem sO:adY table "list.__eq__.loop"=some Builtin.«list.__eq__.loop»:=entryFor_of_fast (by kernel_rfl)
def ltS:List Str->List Str->Bool
 |[],[]=>false
 |[],_::_=>true
 |_::_,[]=>false
 |a::r,b::q=>if a=b then ltS r q else decide (a.cps.toList<b.cps.toList)
def StA(B:Array Value)(xs:List Str):Prop:=∀i:Nat,B[i]? =none/\xs[i]? =none∨∃x t,B[i]? =some (.str x t)/\xs[i]? =some x
variable{i:Nat}
theorem Jh{xs ys:List Str}:ltS (xs.drop i) (ys.drop i)=match xs[i]?,ys[i]? with
  |none,none=>false
  |none,some _=>true
  |some _,none=>false
  |some a,some b=>if a=b then ltS (xs.drop (i+1)) (ys.drop (i+1))else decide (a.cps.toList<b.cps.toList):=by
 have d:∀zs:List Str,zs.drop i=match zs[i]? with|none=>[]|some a=>a::zs.drop (i+1):=λzs=>by
  by_cases h:i<zs.length
  .rw[aar h,Xk h]
  .rw[abE 1.10,List.getElem?_eq_none 1.10]
 rw[d xs,d ys];cases xs[i]?<;>cases ys[i]?<;>rfl
theorem Mj(l b:Addr)(B I:Array Value)(n O:Nat)(dd a1:Option Addr)(sl N:Array (Option Value))(xs ys:List Str)(h1:StA B xs)(h2:StA I ys)(J:B.size=xs.length)(V:I.size=ys.length)(k:Nat) :
  ∀i:Nat,xs.length-i=k->Meets (Builtin.«list.__eq__.loop» ⟨[.ref l,.ref b,Zv i,Zv 0],[]⟩)
   (λA R s=>s.heap.get? l=some {cls:=.type "list",dict:=dd,data:=.seq B n,slots:=sl}/\s.heap.get? b=some {cls:=.type "list",dict:=a1,data:=.seq I O,slots:=N}/\(i<=xs.length/\i<=ys.length)/\
    R (.ok (.ret (.bool (ltS (xs.drop i) (ys.drop i))))) s):=by
 induction k with
 |zero=>
  intro i hk prog w A R s h;obtain⟨F,g,d,tk,os⟩:=s;obtain⟨Z,U,hi,h⟩:=h
  wp_walk using wpAny_loadPart' Z,wpAny_loadPart' U
  have e1:xs[i]? =none:=by simp;omega
  have e2:B[((i:Nat):Int).toNat]? =none:=by simp;omega
  rw[Jh,e1]at h;rw[e2]
  wp_walk using wpAny_loadPart' Z,wpAny_loadPart' U
  show R (.ok (.ret (.bool (decide (B.size<I.size))))) _;rw[J,V];cases q:ys[i]? with
  |none=>
   rw[q]at h;have:ys.length<=i:=by simpa using q
   rw[show decide (xs.length<ys.length)=false by simp;omega];exact h
  |some y=>
   rw[q]at h;have:=(qb.mp q).1;rw[show decide (xs.length<ys.length)=true by simp;omega];exact h
 |succ k ih=>
  intro i hk prog w A R s h;obtain⟨F,g,d,tk,os⟩:=s;obtain⟨Z,U,hi,h⟩:=h
  wp_walk using wpAny_loadPart' Z,wpAny_loadPart' U
  have a2:i<xs.length:=by omega
  obtain⟨z,_⟩|⟨x,t,e1,e2⟩:=h1 i
  .simp at z;omega
  rw[Jh,e2]at h;have f1:B[((i:Nat):Int).toNat]? =some (.str x t):=by simpa using e1
  obtain⟨q,e4⟩|⟨y,u,q,e4⟩:=h2 i
  .have f2:I[((i:Nat):Int).toNat]? =none:=by simpa using q
   rw[e4]at h;rw[f1,f2]
   wp_walk using wpAny_loadPart' Z,wpAny_loadPart' U
   show R (.ok (.ret (.bool (decide (B.size<I.size))))) _;have:ys.length<=i:=by simpa using e4
   rw[show decide (B.size<I.size)=false by simp;omega];exact h
  .have f2:I[((i:Nat):Int).toNat]? =some (.str y u):=by simpa using q
   have Y:((i:Int)+1)=((i+1:Nat):Int):=by push_cast;rfl
   have a3:=(qb.mp e4).1;rw[e4]at h;rw[f1,f2];refine gD (acP ?_);by_cases a0:x=y
   .simp![a0,XX]at h
    rw[show decide (x=y)=true from YL a0]
    wp_walk
    rw[Y];exact⟨aal jU _,Z3 sO (by
     rw[Zj jU _];exact ih (i+1) 1.10 prog w A R _ ⟨Z,U,⟨by omega,by omega⟩,h⟩)⟩
   .simp![Xz a0]at h
    rw[show decide (x=y)=false from X8 a0]
    wp_walk using wpAny_loadPart' Z,wpAny_loadPart' U
    rw[f1,f2];refine gD (lt_str ?_);exact Xg h
theorem M3(l b:Addr)(B I:Array Value)(n O:Nat)(dd q:Option Addr)(sl N:Array (Option Value))(xs ys:List Str)(h1:StA B xs)(h2:StA I ys)(J:B.size=xs.length)(V:I.size=ys.length) :
  Meets (Builtin.«list.__lt__» ⟨[.ref l,.ref b],[]⟩)
   (λA R s=>s.heap.get? l=some {cls:=.type "list",dict:=dd,data:=.seq B n,slots:=sl}/\s.heap.get? b=some {cls:=.type "list",dict:=q,data:=.seq I O,slots:=N}/\R (.ok (.ret (.bool (ltS xs ys)))) s):=by
 intro prog w A R s h;obtain⟨F,g,d,tk,os⟩:=s;obtain⟨Z,U,h⟩:=h;have Y:=AutoSeq1.sub_list_list
 wp_walk using wpAny_loadPart' Z,wpAny_loadPart' U
 exact⟨aal jU _,Z3 sO (by
  rw[Zj jU _];exact Mj l b B I n O dd q sl N xs ys h1 h2 J V _ 0 rfl prog w A R _ ⟨Z,U,⟨ZP _,ZP _⟩,by simpa using h⟩)⟩
theorem CN{l b:Addr}{B I:Array Value}{xs ys:List Str}{Q:Bool->zb->Prop}(Z:s.heap.IsList l B)(U:s.heap.IsList b I)(h1:StA B xs)(h2:StA I ys)(J:B.size=xs.length)(hy:I.size=ys.length)(V:A.units<cLine)
  (h:Q (ltS xs ys) s):wpAny 1.13 A (oneLt' true (.ref l) (.ref b)) Q E s:=by
 obtain⟨⟨cls,dd,data,sl⟩,N,Y,n,hd⟩:=id Z;obtain⟨⟨a5,q,a4,a2⟩,a3,a1,O,a0⟩:=id U;simp only at Y hd a1 a0;subst Y hd a1 a0;rw[oneLt'_eq];simp![XX];refine gD (wpAny_cRoomFor V ?_);refine gD (wpAny_callSpecialIfBound?_slot (T:="list") ⟨_,N,rfl⟩ F.slot_list_lt (acI F.slot_list_lt ⟨_,N,rfl⟩ F.entry_list_lt (F.args_list_lt_2 _ _) (M3 l b B I n O dd q sl a2 xs ys h1 h2 J hy) ⟨N,a3,?_⟩));exact aaO h
variable{Q:Value->zb->Prop}{κ:SortKind}
theorem Ib{vs:List Value}{ρ:Nat->Int}(b7:vs.length<64)
  (B:2<=vs.length->∀h':Heap,(∀b o,s.heap.get? b=some o->h'.get? b=some o)->∀(E':Value->zb->Prop)(Q':SortKind->zb->Prop),Q' κ {s with heap:=h'}->wpAny 1.13 A.in1.in1 (keyKind' vs.toArray) Q' E' {s with heap:=h'})
  (Y:∀h':Heap,(∀b o,s.heap.get? b=some o->h'.get? b=some o)->∀i j,i<vs.length->j<vs.length->∀Q':Bool->zb->Prop,Q' (decide (ρ i<ρ j)) {s with heap:=h'}->wpAny 1.13 A.in1.in1 (keyLt' κ (vs.getD i Yg) (vs.getD j Yg)) Q' (λ_ _=>False) {s with heap:=h'})
  (h:∀p:Array Nat,je vs.length p->Up1 ρ p vs.length->∀(h':Heap)(c:Nat),(∀b o,s.heap.get? b=some o->h'.get? b=some o)->h'.get? s.heap.objs.size=some (adJ "list" (aez (p.toList.map λi=>vs.getD i Yg)) c)->Q (.ref s.heap.objs.size) {s with heap:=h'}) :
  wpAny 1.13 A.in1 (acO vs >>=λl=>aaS [l] (call (.builtin "list.sort") [l] []) >>=λ_=>ret l) (λfin s'=>∃v,fin= .done (.ret v)/\Q v s') E s:=by
 have b5:vs.length<=Xp:=by rw[abz];omega
 refine gD (wpAny_newList ?_ (by rw[abz];omega))
 let a:=s.heap.objs.size
 let G2:Heap:=s.heap.push (adJ "list" vs.toArray 0)
 have N:G2.objs.size=s.heap.objs.size+1:=size_push' _ _;have a8:G2.get? a=some (adJ "list" vs.toArray 0):=Xr _ rfl;show wpAny _ _ (aaS _ _ >>=_) _ _ {s with heap:=G2};refine gD (Za (aav slot_list_sort ⟨_,a8,rfl⟩ entry_list_sort ?_ (args_list_sort _)));have b0:∀b o,s.heap.get? b=some o->G2.get? b=some o:=λb o q=>za _ q
 let G3:Heap:=G2.update a (Zi λ_=>#[])
 obtain⟨e1,b4⟩:∃e1,G3.get? a=some (adJ "list" #[] e1):=⟨_,get?_update_seq a8 λ_=>#[]⟩;have z3:G3.objs.size=s.heap.objs.size+1:=by show(G2.update _ _).objs.size=_;rw[Z9,N]
 let G5:Heap:=(G3.push (adJ "tuple" vs.toArray 0)).push (adJ "list" #[] 0)
 have b3:∀b o,G3.get? b=some o->G5.get? b=some o:=λb o q=>za _ (za _ q);have a0:∀b o,s.heap.get? b=some o->G5.get? b=some o:=λb o q=>by
  have U:b<s.heap.objs.size:=Xm q;refine b3 b o ?_;show(G2.update _ _).get? b=_;rw[aeg _ _ _ _ (XS U)];exact b0 b o q
 have b1:G5.get? a=some (adJ "list" #[] e1):=b3 a _ b4;rw[list_sort_plain];refine gD (listItems_at a8 rfl ?_);refine gD (listUpdate_at a8 rfl ?_ (by rw[List.size_toArray];exact b5) (ZP _));refine gD (seqEpoch_at b4 rfl ?_);refine gD (adK ?_ (by show vs.length<=_;exact b5));refine gD (wpAny_newList ?_ (ZP _));refine Za ?_;show wpAny 1.13 A.in1.in1 _ _ _ {s with heap:=G5};dsimp only;have fin:∀(J:SortSt)(p:Array Nat),arrOf J=p.map (kas_item (vs.toArray.zip vs.toArray))->failedOf J=none->je vs.length p->Up1 ρ p vs.length->
   wpAny 1.13 A.in1.in1 (do
    let a7:=(arrOf J).map (·.2)
    let a6:=(←seqEpoch a)!=e1
    Builtin.List.listUpdate (.ref a) λ_=>a7
    if let some e:=failedOf J then rule "list.sort.comparison-raised";throw e
    if a6 then rule "list.sort.modified";raiseError "ValueError" "list modified during sort"
    ret .none) (λfin s'=>∃v,fin= .done (.ret v)/\wpAny 1.13 A.in1 (ret (.ref a)) (λfin s'=>∃v,fin= .done (.ret v)/\Q v s') E s') E {s with heap:=G5}:=λJ p b2 O F V=>by
  have a9:=kat_snds (vs:=vs) (ks:=vs) rfl b2;dsimp only;refine gD (seqEpoch_at b1 rfl ?_);have b9:p.size=vs.length:=F.size;refine gD (listUpdate_at b1 rfl ?_ (ZP _) (by rw[a9];simp![List.size_toArray,Xq,aaC];omega));rw[O];simp![bne_self_eq_false,Ye,YJ];refine Xg ⟨_,rfl,Xg ⟨_,rfl,?_⟩⟩;rw[a9];refine h p F V _ _ (λb o q=>?_) (get?_update_seq b1 _);rw[aeg _ _ _ _ (XS (Xm q))];exact a0 b o q
 by_cases a5:vs.toArray.size<2
 .rw[Xu a5,Xu a5]
  rw[List.size_toArray]at a5;refine gD (Xg ?_);rw[StateT.run_pure];refine gD (Xg ?_);refine fin _ (aez (X3 vs.length)) ?_ rfl (afk _) (λi j b8 I=>by rw[show i=j by omega];exact ZR _);have e:=kas_range (vs.toArray.zip vs.toArray);rw[show(vs.toArray.zip vs.toArray).size=vs.length by simp]at e;exact e.symm
 .rw[Xz a5,Xz a5]
  rw[List.size_toArray]at a5;refine gD (B 1.10 G5 a0 _ _ ?_);have b6:(kas_sort vs.length).kasWp (kas_ask prog w A.in1.in1 κ vs) (λp s'=>s'={s with heap:=G5}/\je vs.length p/\Up1 ρ p vs.length) {s with heap:=G5}:=
   Tr.wp (λi j C hi I hC=>Y G5 a0 i j hi I C hC) (Qf (ρ:=ρ) 1.10)
  refine gD (Y9 (kat_run (Q:=λJ s'=>∃p:Array Nat,arrOf J=p.map (kas_item (vs.toArray.zip vs.toArray))/\failedOf J=none/\s'={s with heap:=G5}/\je vs.length p/\Up1 ρ p vs.length) (E:=E)
   rfl 1.10 b7 (λp' J s' a1 Z a3 a4=>⟨p',Z,a3,a4⟩) b6) ?_ λ_ _ e=>e)
  rintro⟨⟨⟩,J⟩ s' ⟨p,b2,O,rfl,F,V⟩;exact fin J p b2 O F V
theorem qT{x:Value}(Y:∀V (U:List Value->zb->Prop),(∀vs B,wpAny 1.13 A.in1 (acO vs >>=λl=>aaS [l] (call (.builtin "list.sort") [l] []) >>=λ_=>ret l) (λfin s'=>∃v,fin= .done (.ret v)/\Q v s') V B->U vs B)->wpAny 1.13 A.in1 (collect x) U V s) :
  wpAny 1.13 A (call (.builtin "sorted") [x]) Q E s:=by
 refine Calls.call_function_entry kind_sorted plain_sorted entry_sorted (args_sorted1 _) ?_;unfold Builtin.«sorted»;refine gD (m:=checkCount "sorted" 1 1 _) (Xg ?_);exact gD (Y _ _ λvs B h=>h)
theorem O7{a b:Str}(h1:¬a.cps.toList<b.cps.toList)(h2:¬b.cps.toList<a.cps.toList):a=b:=by
 have:=strKind.total a.cps.toList b.cps.toList (by simpa using h1) (by simpa using h2);cases a;cases b;congr;exact Array.toList_inj.mp this
theorem DN(a:Str):¬a.cps.toList<a.cps.toList:=List.lt_irrefl _
theorem iG:∀a:List Str,ltS a a=false
 |[]=>rfl
 |x::r=>by simp[ltS,iG r]
theorem m9:∀a b:List Str,ltS a b=false->ltS b a=false->a=b
 |[],[],_,_=>rfl
 |[],_::_,h,_=>by simp[ltS]at h
 |_::_,[],_,h=>by simp[ltS]at h
 |x::r,y::q,h1,h2=>by
  by_cases e:x=y
  .subst e
   simp![ltS,XX]at h1 h2;rw[m9 r q h1 h2]
  .simp![ltS,Xz e,Xz (Ne.symm e),decide_eq_false_iff_not]at h1 h2
   exact absurd (O7 h1 h2) e
theorem m5:∀a b c:List Str,ltS a b=true->ltS b c=true->ltS a c=true
 |[],[],_,h,_=>by simp[ltS]at h
 |_::_,[],_,h,_=>by simp[ltS]at h
 |[],_::_,[],_,h=>by simp[ltS]at h
 |[],_::_,_::_,_,_=>rfl
 |_::_,_::_,[],_,h=>by simp[ltS]at h
 |x::r,y::q,z::p,h1,h2=>by
  by_cases e:x=y
  .subst e
   simp![ltS,XX]at h1;by_cases e2:x=z
   .subst e2
    simp![ltS,XX]at h2⊢;exact m5 r q p h1 h2
   .simp![ltS,Xz e2]at h2⊢
    exact h2
  .simp![ltS,Xz e,decide_eq_true_eq]at h1
   by_cases e2:y=z
   .subst e2
    simp![ltS,Xz e,decide_eq_true_eq];exact h1
   .simp![ltS,Xz e2,decide_eq_true_eq]at h2
    have O:=List.lt_trans h1 h2;have F:x≠z:=λB=>by subst B;exact DN _ O
    simp![ltS,Xz F,decide_eq_true_eq];exact O
theorem DX{a b c:List Str}(h:ltS a c=true)(h2:ltS b c=false):ltS a b=true:=by
 cases e:ltS a b with
 |true=>rfl
 |false=>
  cases e2:ltS b a with
  |true=>rw[m5 b a c e2 h]at h2;cases h2
  |false=>rw[m9 a b e e2,h2]at h;cases h
def below(ks:List (List Str))(a:List Str):Nat:=ks.countP λy=>ltS y a
theorem nG{p q:α->Bool}:∀{l:List α},(∀x∈l,p x=true->q x=true)->l.countP p<=l.countP q
 |[],_=>by simp
 |x::r,h=>by
  have U:=nG (l:=r) λy V=>h y (by simp[V]);rw[abQ,abQ];cases e:p x with
  |false=>simp;omega
  |true=>simp[h x (by simp) e,U]
variable{z:α}
theorem nq{p q:α->Bool}:∀{l:List α},(∀x∈l,p x=true->q x=true)->z∈l->q z=true->p z=false->l.countP p<l.countP q
 |[],_,h,_,_=>by cases h
 |x::r,h,Y,hq,hp=>by
  rw[abQ,abQ];have B:=nG (l:=r) λy V=>h y (by simp[V]);rcases Xj.mp Y with rfl|Y
  .simp[hq,hp];omega
  .have ih:=nq (l:=r) (λy V=>h y (by simp[V])) Y hq hp
   cases e:p x with
   |false=>simp;omega
   |true=>simp[h x (by simp) e];omega
variable{ks:List (List Str)}
theorem Bk{a b:List Str}(Z:a∈ks):ltS a b=decide ((below ks a:Int)<below ks b):=by
 cases e:ltS a b with
 |true=>
  have:=nq (l:=ks) (p:=λy=>ltS y a) (q:=λy=>ltS y b) (λy _ V=>m5 y a b V e) Z e (iG a);exact(YL (by unfold below;omega)).symm
 |false=>
  have:=nG (l:=ks) (p:=λy=>ltS y b) (q:=λy=>ltS y a) λy _ V=>DX V e;exact(X8 (by unfold below;omega)).symm
def Qt(K:Xl)(H:Hp)(ys:List V)(ks:List (List Str)):Prop:=ks.length=ys.length/\((∀(i:Nat)(k:List Str),ks[i]? =some k->∃x,k=[x]/\ys[i]? =some (.str x))∨∀(i:Nat)(k:List Str),ks[i]? =some k->∃b,ys[i]? =some (.ref b)/\SqL K H b (k.map V.str))
def Cr(K:Xl)(A:Yy):List V->Hp->VK->Prop:=λxs H Q=>∃a ys ks,xs=[.ref a]/\(SqL K H a ys∨SqT K H a ys)/\ys.length<64/\A.units+2<cLine/\Qt K H ys ks/\
 ∀p:List Nat,Yt p (X3 ys.length)->ZC (λi j=>ltS (ks.getD j []) (ks.getD i [])=false) p->∀l,H l=none->Q (.ref l) (upd H l (.lst (p.map λi=>ys.getD i .non)))
theorem zp(r:Vals ys us)(i:Nat):(ys[i]? =none/\us[i]? =none)∨∃y u,ys[i]? =some y/\us[i]? =some u/\RelV y u:=by
 cases e:ys[i]? with
 |none=>
  have:=r.length;exact .inl ⟨rfl,by rw[Z0]at e⊢;omega⟩
 |some y=>
  obtain⟨u,h1,h2⟩:=r.get e;exact .inr ⟨y,u,rfl,h1,h2⟩
theorem JK{xs:List Str}(r:Vals (xs.map V.str) us):StA us.toArray xs:=λi=>by
 rcases zp r i with⟨h1,h2⟩|⟨y,u,h1,h2,O⟩
 .exact .inl ⟨by simpa using h2,by simpa using h1⟩
 .rw[List.getElem?_map]at h1
  cases e:xs[i]? with
  |none=>rw[e]at h1;cases h1
  |some x=>
   rw[e]at h1;cases h1;obtain⟨t,rfl⟩:=O;exact .inr ⟨x,t,by simpa using h2,rfl⟩
theorem uY(r:Vals ys us):∀p:List Nat,(∀i∈p,i<ys.length)->Vals (p.map λi=>ys.getD i .non) (p.map λi=>us.getD i Yg)
 |[],_=>.nil
 |i::p,h=>by
  refine .cons ?_ (uY r p λj I=>h j (by simp[I]));rcases zp r i with⟨h1,h2⟩|⟨y,u,h1,h2,O⟩
  .have:=h i (by simp)
   rw[Z0]at h1;omega
  .show RelV (ys.getD i .non) (us.getD i Yg)
   rw[Yi,Yi,h1,h2];exact O
theorem Fw(x y:Str):ltS [x] [y]=decide (x.cps.toList<y.cps.toList):=by
 by_cases z:x=y
 .subst z;simp[ltS,DN]
 .simp[ltS,z]
variable{X:Cx}{Q:VK}{E:Value->zb->Prop}{s:zb}
theorem sort_keys(I:Inv X pins σ H s)(J:Vals xs B)(Z:xs.length<64)(a7:ks.length=xs.length)
  (hk:2<=B.length->∀h':Heap,(∀b o,s.heap.get? b=some o->h'.get? b=some o)->∀(E':Value->zb->Prop)(Q':SortKind->zb->Prop),Q' κ {s with heap:=h'}->wpAny 1.11 X.A.in1.in1 (keyKind' B.toArray) Q' E' {s with heap:=h'})
  (Y:∀h':Heap,(∀b o,s.heap.get? b=some o->h'.get? b=some o)->∀i j,i<B.length->j<B.length->∀Q':Bool->zb->Prop,Q' (ltS (ks.getD i []) (ks.getD j [])) {s with heap:=h'}->wpAny 1.11 X.A.in1.in1 (keyLt' κ (B.getD i Yg) (B.getD j Yg)) Q' (λ_ _=>False) {s with heap:=h'})
  (q:∀p:List Nat,Yt p (X3 xs.length)->ZC (λi j=>ltS (ks.getD j []) (ks.getD i [])=false) p->∀l,H l=none->Q (.ref l) (upd H l (.lst (p.map λi=>xs.getD i .non)))) :
  wpAny 1.11 X.A.in1 (acO B >>=λl=>ad_ [l] (call (.builtin "list.sort") [l] []) >>=λ_=>ret l) (λfin s'=>∃v,fin= .done (.ret v)/\EP X pins σ Q v s') E s:=by
 have O:=J.length;have a9:64<=Xp:=by decide
 have a0:∀i,i<B.length->ks.getD i []∈ks:=λi hi=>by
  have:i<ks.length:=by omega
  rw[show ks.getD i []=ks[i]by simp[this]];exact ZW _
 refine Ib (κ:=κ) (ρ:=λi=>(below ks (ks.getD i []):Int)) 1.10 hk (λh' ext i j hi hj Q' a5=>Y h' ext i j hi hj Q' (by rw[Bk (a0 i hi)];exact a5)) λp F a4 h' c a2 N=>?_;have U:∀i∈p.toList,i<B.length:=λi hi=>YF.mp (aeN F |>.mp hi);have a8:=F.size;refine⟨.ref s.heap.objs.size,upd H s.heap.objs.size (.lst (p.toList.map λi=>xs.getD i V.non)),I.laid (t':=s.toks) a2 (Xn _) ?_,rfl,q p.toList (by rw[O];exact F) ?_ _ (I.hok.fresh (Xn _))⟩
 .exact⟨by rw[Xq];simp![aaC];omega,p.toList.map λi=>B.getD i Yg,c,uY J p.toList λi hi=>by have:=U i hi;omega,N⟩
 .rw[Z1]
  intro i j hi hj a6;have a3:j<p.size:=by simpa using hj
  have a1:i<p.size:=by simpa using hi
  have:=a4 i j 1.10 1.10;unfold rk at this;rw[aac,aac,getElem?_pos p i a1,getElem?_pos p j a3,aaz,aaz]at this;rw[ad2,ad2,Bk (a0 p[j] (U _ (by simp)))];exact X8 (by simp only at this;omega)
theorem JW(I:Inv X pins σ H s)(J:Vals ys B)(Z:ys.length<64)(hu:X.A.units+2<cLine)(hK:Qt X.K H ys ks)
  (q:∀p:List Nat,Yt p (X3 ys.length)->ZC (λi j=>ltS (ks.getD j []) (ks.getD i [])=false) p->∀l,H l=none->Q (.ref l) (upd H l (.lst (p.map λi=>ys.getD i .non)))) :
  wpAny 1.11 X.A.in1 (acO B >>=λl=>ad_ [l] (call (.builtin "list.sort") [l] []) >>=λ_=>ret l) (λfin s'=>∃v,fin= .done (.ret v)/\EP X pins σ Q v s') E s:=by
 obtain⟨F,a0⟩:=hK;have O:=J.length;have a4:∀i,i<B.length->∃k,ks[i]? =some k/\ks.getD i []=k:=λi hi=>by
  have:i<ks.length:=by omega
  exact⟨ks[i],by simp[this],by simp[this]⟩
 rcases a0 with a0|a0
 .refine sort_keys (κ:=oneType') I J Z F (λh2 h' ext E' Q' a3=>ae3 (T:=.type "str") 1.10 (λv hv=>?_) rfl rfl a3) (λh' ext i j hi hj Q' a3=>?_) q
  .obtain⟨i,hi,rfl⟩:=YW hv
   obtain⟨k,e1,_⟩:=a4 i hi;obtain⟨x,_,e3⟩:=a0 i k e1;obtain⟨u,h1,t,h2⟩:=J.get e3;rw[Xk hi]at h1;rw[Yn h1,h2];exact adL rfl
  .obtain⟨k1,e1,g1⟩:=a4 i hi
   obtain⟨k2,e2,g2⟩:=a4 j hj;obtain⟨x,rfl,x3⟩:=a0 i k1 e1;obtain⟨y,rfl,y3⟩:=a0 j k2 e2;obtain⟨u1,a1,t1,rfl⟩:=J.get x3;obtain⟨u2,a2,t2,rfl⟩:=J.get y3;rw[Yi,Yi,a1,a2];refine oneLt_str ?_;rwa[g1,g2,Fw]at a3
 .refine sort_keys (κ:=oneType') I J Z F (λh2 h' ext E' Q' a3=>ae3 (T:=.type "list") 1.10 (λv hv=>?_) rfl rfl a3) (λh' ext i j hi hj Q' a3=>?_) q
  .obtain⟨i,hi,rfl⟩:=YW hv
   obtain⟨k,e1,_⟩:=a4 i hi;obtain⟨b,e3,U⟩:=a0 i k e1;obtain⟨u,h1,h2⟩:=J.get e3;rw[Xk hi]at h1;cases h1;obtain⟨a7,_,pb,_⟩:=I.list U;obtain⟨o,N,Y,_⟩:=pb.isList;rw[show B[i]=X5 b from h2,←Y];exact(PySem.W.Looks.ld (ext _ _ N)).andThen .now
  .obtain⟨k1,e1,g1⟩:=a4 i hi
   obtain⟨k2,e2,g2⟩:=a4 j hj;obtain⟨b1,x3,x4⟩:=a0 i k1 e1;obtain⟨b2,y3,y4⟩:=a0 j k2 e2;obtain⟨u1,a1,t1⟩:=J.get x3;obtain⟨u2,a2,t2⟩:=J.get y3;obtain⟨a5,r1,p1,_⟩:=I.list x4;obtain⟨a6,r2,p2,_⟩:=I.list y4;rw[Yi,Yi,a1,a2];rw[show u1=X5 b1 from t1,show u2=X5 b2 from t2];have x1:Heap.IsList h' b1 a5.toArray:=by obtain⟨o,N,z⟩:=p1.isList;exact⟨o,ext _ _ N,z⟩
   have x2:Heap.IsList h' b2 a6.toArray:=by obtain⟨o,N,z⟩:=p2.isList;exact⟨o,ext _ _ N,z⟩
   have l1:=r1.length;have l2:=r2.length;rw[Xq]at l1 l2;refine CN (xs:=k1) (ys:=k2) x1 x2 (JK r1) (JK r2) (by rw[List.size_toArray];omega) (by rw[List.size_toArray];omega) (by show X.A.units+1+1<cLine;omega) ?_;rwa[g1,g2]at a3
theorem xX:dO X (.builtin "sorted") (Cr X.K X.A):=by
 intro pins s σ H xs us Q I r h;obtain⟨a,ys,ks,rfl,hq,Z,V,hK,q⟩:=h;obtain⟨u,rfl,ru⟩:=vals1 r;cases ru;have a0:∀{c:String}{B:List Value},c="list"∨c="tuple"->Vals ys B->(∃o:Obj,s.heap.get? a=some o/\o.cls= .type c/\∃n,o.data= .seq B.toArray n)->wpAny 1.11 X.A (call (.builtin "sorted") [.ref a]) (EP X pins σ Q) X.xe s:=λ{c B} Y J ⟨o,N,O,n,hd⟩=>by
  have a1:B.toArray.size<=Xp:=by
   have h1:=J.length;have h2:64<=Xp:=by decide
   simp;omega
  refine qT λE' U F=>wpAny_collect_seq a Y N O hd (λh' hk=>?_) a1;rw[aeh];exact F _ _ (JW (I.kept (t':=s.toks) hk) J Z V hK q)
 rcases hq with hq|hq
 .obtain⟨B,J,pl,hz⟩:=I.list hq
  exact a0 (.inl rfl) J pl.isList
 .obtain⟨B,J,pt,hz⟩:=I.tuple hq
  exact a0 (.inr rfl) J pt
def inL(k:List Str):List (List Str)->List (List Str)
 |[]=>[k]
 |a::r=>if ltS a k=true then a::inL k r else k::a::r
def jc(l:List (List Str)):List (List Str):=l.foldr inL []
abbrev RiL(l:List (List Str)):Prop:=ZC (λa b=>ltS b a=false) l
theorem uX(k:List Str):∀l,Yt (inL k l) (k::l)
 |[]=>.refl _
 |a::r=>by
  unfold inL;split
  .exact((uX k r).cons a).trans (.swap k a r)
  .exact .refl _
theorem du:∀l,Yt (jc l) l
 |[]=>.refl _
 |a::r=>(uX a _).trans ((du r).cons a)
theorem MN{k:List Str}:∀{l},RiL l->RiL (inL k l)
 |[],_=>by simp[inL]
 |a::r,h=>by
  obtain⟨h1,h2⟩:=aad.mp h;unfold inL;split
  .rename_i c
   refine aad.mpr ⟨λb U=>?_,MN h2⟩;rcases Xj.mp ((uX k r).mem_iff.mp U)with rfl|U
   .cases e:ltS b a with
    |false=>rfl
    |true=>have:=m5 _ _ _ c e;rw[iG]at this;cases this
   .exact h1 b U
  .rename_i c
   have c:ltS a k=false:=by simpa using c
   refine aad.mpr ⟨λb U=>?_,h⟩;rcases Xj.mp U with rfl|U
   .exact c
   .cases e:ltS b k with
    |false=>rfl
    |true=>
     have:=DX e c;rw[h1 b U]at this;cases this
theorem jT:∀l,RiL (jc l)
 |[]=>.nil
 |a::r=>MN (jT r)
theorem pK:∀{l m:List (List Str)},Yt l m->RiL l->RiL m->l=m
 |[],m,h,_,_=>h.nil_eq
 |a::r,[],h,_,_=>by have:=h.length_eq;simp at this
 |a::r,b::q,h,h1,h2=>by
  obtain⟨x1,J⟩:=aad.mp h1;obtain⟨F,B⟩:=aad.mp h2;have e:a=b:=by
   rcases Xj.mp (h.mem_iff.mp (X_ (a:=a) (l:=r)))with z|z
   .exact z
   .rcases Xj.mp (h.mem_iff.mpr (X_ (a:=b) (l:=q)))with w|w
    .exact w.symm
    .exact m9 a b (F a z) (x1 b w)
  subst e;rw[pK (List.Perm.cons_inv h) J B]
def strsOf:List D->Option (List Str)
 |[]=>some []
 |.str x::r=>(strsOf r).map λt=>x::t
 |_=>none
def Aq:List D->Option (List (List Str))
 |[]=>some []
 |.str x::r=>(Aq r).map λt=>[x]::t
 |_=>none
def lstK(m:Mk):List D->Option (List (List Str))
 |[]=>some []
 |.lst m' es::r=>if m'=m then(strsOf es).bind λk=>(lstK m r).map λt=>k::t else none
 |_=>none
def fS(k:List Str):D:=.str (k.headD "")
def fL(m:Mk)(k:List Str):D:=.lst m (k.map D.str)
theorem rH:∀{ds:List D}{k:List Str},strsOf ds=some k->ds=k.map D.str
 |[],k,h=>by cases h;rfl
 |d::r,k,h=>by
  cases d<;>simp![strsOf]at h<;>try cases h
  cases e:strsOf r with
  |none=>rw[e]at h;cases h
  |some t=>rw[e]at h;cases h;rw[rH e];rfl
theorem DY:∀{ds:List D}{ks:List (List Str)},Aq ds=some ks->ds=ks.map fS/\∀k∈ks,∃x,k=[x]
 |[],k,h=>by cases h;exact⟨rfl,by simp⟩
 |d::r,k,h=>by
  cases d<;>simp![Aq]at h<;>try cases h
  cases e:Aq r with
  |none=>rw[e]at h;cases h
  |some t=>
   rw[e]at h;cases h;obtain⟨h1,h2⟩:=DY e;exact⟨by rw[h1];rfl,λk B=>(Xj.mp B).elim (λz=>⟨_,z⟩) (h2 k)⟩
theorem Ed{m:Mk}:∀{ds:List D}{ks:List (List Str)},lstK m ds=some ks->ds=ks.map (fL m)
 |[],k,h=>by cases h;rfl
 |d::r,k,h=>by
  cases d<;>simp![lstK]at h<;>try cases h
  split at h
  .rename_i hm
   subst hm;rename_i es;cases e1:strsOf es with
   |none=>rw[e1]at h;cases h
   |some F=>
    rw[e1]at h;cases e:lstK ‹_› r with
    |none=>simp[e]at h
    |some t=>
     have h:F::t=k:=by simpa[e]using h
     subst h;rw[Ed e,rH e1];rfl
  .cases h
def j4:List D->Option D
 |[.lst _ ds]=>if ds.length<64 then(match Aq ds with
  |some ks=>some (.lst .own ((jc ks).map fS))
  |none=>match ds with
   |.lst m _::_=>(lstK m ds).map λks=>.lst .own ((jc ks).map (fL m))
   |_=>none)else none
 |_=>none
theorem aD.perm{zs I:List (D×V)}(h:Yt zs I):∀{M:List Addr},aD G H W (zs.map (·.1)) (zs.map (·.2)) M->∃M',Yt M' M/\aD G H W (I.map (·.1)) (I.map (·.2)) M':=by
 induction h with
 |nil=>exact λ{M} r=>⟨M,.refl _,r⟩
 |cons x _ U=>
  intro M r;rw[Xi,Xi]at r;obtain⟨y,ys,A,B,e,rfl,N,O⟩:=r.inv;cases e;obtain⟨B',p,F⟩:=U O;exact⟨A++B',p.append_left A,.cons N F⟩
 |swap x y l=>
  intro M r;simp![Xi]at r;obtain⟨v,vs,A,B,e,rfl,N,O⟩:=r.inv;cases e;obtain⟨v,vs,C,E,e,rfl,F,q⟩:=O.inv;cases e;refine⟨C++(A++E),?_,.cons F (.cons N q)⟩;rw[←aan,←aan];exact aai.append_right E
 |trans _ _ J Z=>
  intro M r;obtain⟨M1,p1,N⟩:=J r;obtain⟨Y,p2,O⟩:=Z N;exact⟨Y,p2.trans p1,O⟩
theorem o6(l:List α)(z:α):(X3 l.length).map (λi=>l.getD i z)=l:=by
 apply List.ext_getElem
 .simp
 .intro i h1 h2
  simp[h2]
variable{p:List Nat}
theorem Mi{α:Type}{f:α->β}{l:List α}{z:α}{y:β}(h:∀i∈p,i<l.length):p.map (λi=>(l.map f).getD i y)=(p.map λi=>l.getD i z).map f:=by
 rw[Xh];refine XM λi hi=>?_;have:=h i hi;simp[this]
theorem uo{f:List Str->D}(r:aD G H W (ks.map f) ys M)(F:Yt p (X3 ys.length))(q:ZC (λi j=>ltS (ks.getD j []) (ks.getD i [])=false) p):∃M',Yt M' M/\aD G H W ((jc ks).map f) (p.map λi=>ys.getD i .non) M':=by
 have Z:=r.length;rw[Xq]at Z;have B:∀i∈p,i<ks.length:=λi hi=>by rw[Z];exact YF.mp (F.mem_iff.mp hi)
 have e1:p.map (λi=>ks.getD i [])=jc ks:=by
  refine pK ?_ (ZF.mpr q) (jT ks);have:Yt (p.map λi=>ks.getD i []) ((X3 ks.length).map λi=>ks.getD i []):=by rw[Z];exact F.map _
  rw[o6]at this;exact this.trans (du ks).symm
 let g:Nat->D×V:=λi=>((ks.map f).getD i .non,ys.getD i .non)
 have J:((X3 ys.length).map g).map (·.1)=ks.map f:=by
  rw[Xh,←Z];have:=o6 (ks.map f) D.non;rwa[Xq]at this
 have I:((X3 ys.length).map g).map (·.2)=ys:=by rw[Xh];exact o6 ys V.non
 obtain⟨M',p1,N⟩:=aD.perm (F.map g).symm (M:=M) (by rw[J,I];exact r);refine⟨M',p1,?_⟩;rw[Xh,Xh]at N;rw[←e1,←Mi (y:=D.non) B];exact N
theorem oW{Y:List Addr}{p:Addr}(O:aD G H W ds xs M)(s:∀a∈M,a∈Y)(nd:M.Nodup)(hn:∀a∈Y,W.tmp a)(F:H p=none)(q:Done G H W Y (.lst .own ds) Q):Q (.ref p) (upd H p (.lst xs)):=by
 have B:Same H (upd H p (.lst xs)):=Same.new F;have I:p∉M:=λz=>by obtain⟨o,N,_⟩:=O.dom p z;rw[F]at N;cases N
 refine q (.ref p) _ (p::M) B ?_ (λa Z=>(Xj.mp Z).elim (λz=>.inr (by rw[z];exact F)) λz=>.inl (s a z)) (List.nodup_cons.mpr ⟨I,nd⟩);rw[Rep];exact⟨p,xs,M,rfl,O.up ⟨B,λb u U f=>⟨λz=>z.elim (λz=>(Xj.mp z).elim (λz=>by rw[z,F]at U;cases U) λz=>f.1 (hn b (s b z)).1) λz=>f.1 z.1,f.2⟩,λ_ _ _ f=>f⟩,aN,rfl⟩
theorem Aj(r:aD G H W (ks.map fS) ys M)(J:∀k∈ks,∃x,k=[x]):Qt G.K H ys ks:=by
 refine⟨by have:=r.length;rwa[Xq]at this,.inl λi k e=>?_⟩;obtain⟨x,rfl⟩:=J k (Xw e);obtain⟨y,N,h1,h2,_⟩:=r.get (j:=i) (d:=fS [x]) (by rw[List.getElem?_map,e];rfl);exact⟨x,rfl,by rw[h1,(bN h2).1];rfl⟩
theorem vM:∀{k:List Str}{xs:List V}{M:List Addr},aD G H W (k.map D.str) xs M->xs=k.map V.str
 |[],xs,M,r=>r.inv0.1
 |x::k,xs,M,r=>by
  obtain⟨y,ys,A,B,rfl,_,N,O⟩:=r.inv;rw[(bN N).1,vM O];rfl
theorem J4(r:aD G H W (ks.map (fL m)) ys M):Qt G.K H ys ks:=by
 refine⟨by have:=r.length;rwa[Xq]at this,.inr λi k e=>?_⟩;obtain⟨y,N,h1,h2,_⟩:=r.get (j:=i) (d:=fL m k) (by rw[List.getElem?_map,e];rfl);unfold fL at h2;rw[Rep]at h2;obtain⟨b,xs,B,rfl,O,F⟩:=h2;rw[vM O]at F;exact⟨b,h1,F.sq⟩
theorem BJ{A:Yy}(V:A.units+2<cLine):CaV G (Cr G.K A) j4:=λds d e xs H W Y r nd hn w Q q=>by
 unfold j4 at e;split at e
 .split at e
  .rename_i hl
   obtain⟨x,rfl,rx⟩:=r.inv1;rw[Rep]at rx;obtain⟨a,ys,M,rfl,O,hs⟩:=rx;have I:=O.length;split at e
   .rename_i ks hks
    cases e;obtain⟨h1,h2⟩:=DY hks;rw[h1]at O;refine⟨a,ys,ks,rfl,.inl hs.sq,by omega,V,Aj O h2,λp F B l J=>?_⟩;obtain⟨M',p1,N⟩:=uo O F B;exact oW N (λb U=>hs.sub.subset (p1.mem_iff.mp U)) (p1.nodup_iff.mpr (hs.sub.nodup nd)) hn J q
   .split at e
    .rename_i m es rr hks
     cases e2:lstK m (D.lst m es::rr)with
     |none=>rw[e2]at e;cases e
     |some ks=>
      rw[e2]at e;cases e;rw[Ed e2]at O;refine⟨a,ys,ks,rfl,.inl hs.sq,by omega,V,J4 O,λp F B l J=>?_⟩;obtain⟨M',p1,N⟩:=uo O F B;exact oW N (λb U=>hs.sub.subset (p1.mem_iff.mp U)) (p1.nodup_iff.mpr (hs.sub.nodup nd)) hn J q
    .cases e
  .cases e
 .cases e
def uy:List D->Option D
 |[]=>some (.dct .own [] [])
 |_=>none
theorem Pz:CaV G (λxs H Q=>∀p,H p=none->Q (.ref p) (upd H p (.dK []))) uy:=λds d e xs H W Y r nd hn w Q q=>by
 unfold uy at e;split at e
 .cases e
  intro p F;have B:Same H (upd H p (.dK [])):=Same.new F;refine q (.ref p) _ [p] B ?_ (λa Z=>.inr (by rw[Xv.mp Z];exact F)) (List.nodup_cons.mpr ⟨by simp,List.nodup_nil⟩);rw[Rep];exact⟨p,[],[],rfl,⟨rfl,List.nodup_nil⟩,.nil,aN,rfl⟩
 .cases e
variable{X:ι->Cx}
theorem yO:PV X G ob (.Dict [] [] pos) (eAp uy aG):=⟨_,λc=>Jy,xf Pz Mh⟩
def rY:List Key->Option (List Str)
 |[]=>some []
 |.inr x::r=>(rY r).map (x::·)
 |_=>none
theorem Bs:∀{ks:List Key}{ys:List Str},rY ks=some ys->ks=ys.map XF
 |[],ys,h=>by cases h;rfl
 |.inr x::r,ys,h=>by
  simp![rY,aaL]at h;obtain⟨t,h1,rfl⟩:=h;rw[Bs h1];rfl
 |.inl _::r,ys,h=>by simp[rY]at h
def vU(ys:List Str):List Str:=(jc (ys.map λy=>[y])).map λk=>k.headD ""
def dg:List D->Option D
 |[.tup ds]=>if ds.length<64 then(strsOf ds).map λys=>.lst .own ((vU ys).map D.str)else none
 |ds=>j4 ds
theorem zy:∀ys:List Str,aD G H W (ys.map D.str) (ys.map V.str) []
 |[]=>.nil
 |x::r=>aD.cons (M:=[]) (M':=[]) yK (zy r)
theorem jW(A:Yy)(hA:∀c,(X c).A=A)(hu:A.units+2<cLine)(Y:∀c,(X c).calm=true)(I:∀c,(X c).K=G.K:=by intro _;rfl):CaB X G (.builtin "sorted") dg:=by
 refine⟨Cr G.K A,λc=>by rw[←I c,←hA c];exact xX,λds d e xs H W L0 r nd hn w Q q=>?_⟩;unfold dg at e;split at e
 .split at e
  .rename_i ds hl
   cases hs:strsOf ds with
   |none=>rw[hs]at e;cases e
   |some ys=>
    rw[hs]at e;cases e;rw[rH hs]at r hl;obtain⟨x,rfl,rx⟩:=r.inv1;rw[Rep]at rx;obtain⟨a,vs,rfl,U,O⟩:=rx;have B:=vM O;subst B;have r0:aD G H W ((ys.map λy=>[y]).map fS) (ys.map V.str) []:=by
     rw[Xh];exact zy ys
    refine⟨a,ys.map V.str,ys.map λy=>[y],rfl,.inr (SqT.of U),by simpa using hl,hu,Aj r0 (by simp),λp F hw l J=>?_⟩;obtain⟨M',p1,N⟩:=uo r0 F hw;have e1:(jc (ys.map λy=>[y])).map fS=(vU ys).map D.str:=by rw[vU,Xh];rfl
    rw[e1]at N;have e3:M'=[]:=p1.eq_nil;subst e3;exact oW N (λa Z=>by cases Z) List.nodup_nil hn J q
  .cases e
 .exact BJ hu _ d e xs H W L0 r nd hn w Q q
def iH(tg:D->En->Option En)(c:En->Option Bool)(fk q:En->Option D)(ρ0:En):List D->Option (List (Key×D))
 |[]=>some []
 |d::r=>(tg d ρ0).bind λρ1=>(c ρ1).bind λb=>if b=true then((fk ρ1).bind d9).bind λk=>(q ρ1).bind λx=>(iH tg c fk q ρ0 r).map λt=>(k,x)::t else iH tg c fk q ρ0 r
def pC(es:List (Key×D)):Option D:=if(es.map (·.1)).Nodup then some (.dct .own (es.map (·.1)) (es.map (·.2)))else none
def oU(cap:List (Option Nat))(it:En->Option (Bool×List D))(tg:D->En->Option En)(c:En->Option Bool)(fk q:En->Option D):En->Option D:=λρ=>(it ρ).bind λp=>if p.2.length<=1000000 then(iH tg c fk q (iw cap ρ) p.2).bind pC else none
theorem yS{ks:List Key}(h:k∉ks):eY ks k=none:=Zr.mpr λx J=>by
 have:x≠k:=λz=>h (z▸J);simpa using this
theorem Gb(e:d9 d=some k)(r:Rep G H W d x L):x=kV k/\L=[]:=by
 cases d with
 |int i=>cases e;rw[Rep]at r;exact r
 |str i=>cases e;rw[Rep]at r;exact r
 |_=>cases e
section
variable{G:Gc}{ob own:Nat->Bool}
theorem zV{cap:List (Option Nat)}{wi:TI}{g:TG}{tt:TT}{tk te:TE}{it:En->Option (Bool×List D)}{tg:D->En->Option En}{c:En->Option Bool}{fk e:En->Option D}(b5:∀i:Nat,own i=true->cap[i]?≠none->cap[i]? =some none)(hi:RfI G ob wi it)(hg:Dg G 1.24 own g tg)(ht:RfT G 1.24 tt c)(hk:RfE G 1.24 tk fk)(V:RfE G 1.24 te e):RfE G ob (CK cap wi g tt tk te) (oU cap it tg c fk e):=λρ d ee σ H W rl w Q q=>by
 unfold oU at ee;cases h1:it ρ with
 |none=>simp[h1]at ee
 |some p=>
  obtain⟨b,items⟩:=p;rw[h1]at ee;simp![Mx]at ee;split at ee
  .rename_i hlen
   cases h2:iH tg c fk e (iw cap ρ) items with
   |none=>simp[h2]at ee
   |some tot=>
    rw[h2]at ee;simp![Mx,pC]at ee;split at ee
    .rename_i hnd
     cases ee;refine hi ρ b items h1 σ H W rl w _ λJ H1 B wk=>?_;refine⟨λi m ys H2=>i+m=items.length/\ys.length<=i/\∃acc L rest,Same H1 H2/\List.map (·.1) ys=List.map (·.1) acc/\aD G H2 (W.add L) (List.map (·.2) acc) (List.map (·.2) ys) L/\(∀a∈L,H1 a=none)/\L.Nodup/\WOk H2 (W.add L)/\iH tg c fk e (iw cap ρ) (items.drop i)=some rest/\acc++rest=tot,⟨items.length,by omega,by simp,[],[],tot,Same.refl _,rfl,.nil,by simp,List.nodup_nil,?_,h2,rfl⟩,?_⟩
     .rw[qN];exact w.up B
     rintro i m ys H2 ⟨c2,c6,acc,L,rest,Y,a2,ra,fa,na,wa,I,a0⟩;have a3:Up H1 H2 W (W.add L):=Up.add Y fa
     .by_cases hil:i<items.length
      .have hdr:=(ZQ hil).symm
       rw[hdr,iH]at I;refine .inr ⟨wk.go i items[i] (by simp[hil]) H2 _ (LtB.up a3),by have:=six hlen;omega,λa4 H'=>(i+1)+(m-1)=items.length/\a4.length<=i+1/\∃acc L rest,Same H1 H'/\List.map (·.1) a4=List.map (·.1) acc/\aD G H' (W.add L) (List.map (·.2) acc) (List.map (·.2) a4) L/\(∀a∈L,H1 a=none)/\L.Nodup/\WOk H' (W.add L)/\iH tg c fk e (iw cap ρ) (items.drop (i+1))=some rest/\acc++rest=tot,λa4 H' h=>⟨m-1,by omega,h⟩,λx H3 hy=>?_⟩;obtain⟨s3,rx⟩:=wk.yld i items[i] (by simp[hil]) H2 _ (LtB.up a3) x H3 hy;cases O:tg items[i] (iw cap ρ)with
       |none=>simp[O]at I
       |some ρ1=>
        rw[O]at I;simp![Mx]at I;have b7:Rel G H3 (W.add L) 1.24 (iw cap ρ) (fH cap σ):=(rl.cap).up ((Up.same B).trans (a3.trans (Up.same s3)));have b0:=ra.up (Up.same s3 (W:=W.add L));have b2:WOk H3 (W.add L):=wa.up s3;refine hg items[i] _ ρ1 O x _ H3 (W.add L) rx b7 (by simp[iw,fH]) _ λσ2 b1 c3 k4=>⟨BV b5 k4,?_⟩;cases h4:c ρ1 with
        |none=>simp[h4]at I
        |some bb=>
         rw[h4]at I;simp![Mx]at I;refine ht ρ1 bb h4 σ2 H3 (W.add L) b1 b2 _ λH4 s4=>?_;have b3:=b1.up (Up.same s4);have a6:=b2.up s4;cases bb with
         |false=>
          simp![Ye,YJ]at I;exact v4 ⟨by omega,by omega,acc,L,rest,((Y.trans s3).trans s4),a2,b0.up (Up.same s4),fa,na,a6,I,a0⟩
         |true=>
          simp![XX]at I;cases h7:fk ρ1 with
          |none=>simp[h7]at I
          |some dk=>
          cases h8:d9 dk with
          |none=>simp[h7,h8]at I
          |some k=>
          cases h5:e ρ1 with
          |none=>simp[h5,h7,h8]at I
          |some y=>
           cases h6:iH tg c fk e (iw cap ρ) (items.drop (i+1))with
           |none=>simp[h5,h6,h7,h8]at I
           |some a1=>
            obtain rfl:(k,y)::a1=rest:=by simpa[h5,h6,h7,h8]using I
            refine qU (hk ρ1 dk h7 σ2 H4 (W.add L) b3 a6 _ λxk a9 c5 a5 b8 c1 c4=>?_);obtain⟨rfl,rfl⟩:=Gb h8 b8;refine⟨k,rfl,?_⟩;have b9:=b3.up (Up.same a5);have b6:=a6.up a5;have a8:Same H1 a9:=((Y.trans s3).trans s4).trans a5;have a7:=(b0.up (Up.same s4 (W:=W.add L))).up (Up.same a5 (W:=W.add L));refine V ρ1 y h5 σ2 a9 (W.add L) b9 b6 _ λv H5 M s5 ry fy ny=>?_;have fM:∀a∈M,H1 a=none:=λa Z=>a8.none' (fy a Z);have c0:∀a∈L,a∉M:=λa h1 h2=>by
             obtain⟨o,N,_⟩:=a7.dom a h1;rw[fy a h2]at N;cases N
            have u5:Up a9 H5 (W.add L) (W.add (L++M)):=⟨s5,λb u U f=>⟨λz=>z.elim (λz=>(W2.mp z).elim (λz=>f.1 (.inl z)) λz=>by rw[fy b z]at U;cases U) λz=>f.1 (.inr z),f.2⟩,λ_ _ _ f=>f⟩;have u6:Up H5 H5 ((W.add L).add M) (W.add (L++M)):=⟨Same.refl _,λb u U f=>⟨λz=>by
             rcases z with z|z
             .exact(W2.mp z).elim (λz=>f.1 (.inr (.inl z))) λz=>f.1 (.inl z)
             .exact f.1 (.inr (.inr z)),f.2⟩,λ_ _ _ f=>f⟩
            have b4:eY (ys.map (·.1)) k=none:=yS λz=>by
             rw[a2]at z;rw[←a0,X4]at hnd;exact(Xx.mp hnd).2.2 k z k (by simp) rfl
            rw[mV b4];refine⟨by omega,by simp;omega,acc++[(k,y)],L++M,a1,a8.trans s5,by simp[a2],?_,λa Z=>(W2.mp Z).elim (fa a) (fM a),dm na ny c0,?_,rfl,by rw[←a0];simp⟩
            .rw[X4,X4];exact(a7.up u5).append (.one (ry.up u6))
            exact w.add (B.trans (a8.trans s5)) λa Z=>(W2.mp Z).elim (λz=>let⟨o,h,m⟩:=a7.dom a z;⟨o,s5 a o h,m⟩) (ry.dom a)
      .have hl:i=items.length:=by omega
       subst hl;rw[Z8,iH]at I;cases I;refine .inl ⟨wk.stop H2 _ (LtB.up a3),Z_ (six 1.10),λp F=>?_⟩;have sm:Same H2 (upd H2 p (.dK ys)):=Same.new F;rw[XJ]at a0;subst a0;refine q (.ref p) _ (p::L) ((B.trans Y).trans sm) ?_ (λa Z=>(Xj.mp Z).elim (λz=>by rw[z];exact(B.trans Y).none' F) λz=>B.none' (fa a z)) (List.nodup_cons.mpr ⟨λz=>?_,na⟩)
       .rw[Rep]
        exact⟨p,ys,L,rfl,⟨a2,hnd⟩,ra.up ⟨sm,λb u U f=>⟨λz=>z.elim (λz=>(Xj.mp z).elim (λz=>by rw[z,F]at U;cases U) λz=>f.1 (.inl z)) λz=>f.1 (.inr z),f.2⟩,λ_ _ _ f=>f⟩,aN,rfl⟩
       .obtain⟨o,N,_⟩:=ra.dom p z
        rw[F]at N;cases N
    .cases ee
  .cases ee
end
section
variable{ι:Type}{X:ι->Cx}{G:Gc}{ob:Nat->Bool}{kx vx target iter:Expr}{ifs:List Expr}{scope:Scope}{pos pos' pos2:Pos}{N':List Str}{it:En->Option (Bool×List D)}{tg:D->En->Option En}{fc:En->Option Bool}{fk fe:En->Option D}
variable{P:Nat->Bool}{x:Str}
theorem Jc(i:Nat)(cap:List (Option Nat))(own:Nat->Bool)(hN:∀c,(X c).N.Nodup)(J:∀c,(X c).xe=NoX)(Y:∀c,(X c).calm=true)(O:∀c,cN (X c).env.scope (X c).N N' scope cap)(I:∀i:Nat,own i=true->cap[i]?≠none->cap[i]? =some none)(hi:PVI X G ob target iter it)(F:BP (InX X N' scope) G 1.24 own target tg)(U:Cw (InX X N' scope) G 1.24 ifs fc)(B:PV (InX X N' scope) G 1.24 kx fk)(V:PV (InX X N' scope) G 1.24 vx fe)
  (hP:P i=false:=by rfl) (a0:∀c,(X c).N[i]? =some x:=by intro _;rfl) (Z:∀c,Loc (X c).env.scope x:=by intro _;first|exact ZZ rfl|exact Ze rfl) (q:∀c,aaI 1.21 (some (.Name x pos')) pos2.line (X c).env=pure true:=by intro _;rfl) (hs:∀c,∀x,YZ iter (X c).env x=pure x:=by intro _ _;rfl)
  (hf:∀c,(X c).fn x=true∨(X c).env.scope.names.lookup x=some .local:=by intro _;first|exact .inl rfl|exact .inr rfl):PVS X G ob P (.Assign [.Name x pos'] 1.21 pos2) (bV (oU cap it tg fc fk fe) (tgN i)):=
 let⟨_,i1,i2⟩:=hi.ex;let⟨_,g1,g2⟩:=F.ex;let⟨_,t1,t2⟩:=U.ex;let⟨_,k1,k2⟩:=B.ex;let⟨_,e1,e2⟩:=V.ex
 ⟨_,λc=>Fj (J c) (Y c) (hN c) (a0 c) (Z c) (O c) (i1 c) (λC s H fp=>g1 (c,C,s,H,fp)) (λC s H fp=>t1 (c,C,s,H,fp)) (λC s H fp=>k1 (c,C,s,H,fp)) (λC s H fp=>e1 (c,C,s,H,fp)) (q c) (hs c) (hf c),by rw[←vC];exact jH (uU (zV I i2 g2 t2 k2 e2)) (jb hP)⟩
end
def EY:En->Option (List (Key×D)):=λ_=>some []
def uN(fk q:En->Option D)(fr:En->Option (List (Key×D))):En->Option (List (Key×D)):=λρ=>((fk ρ).bind d9).bind λk=>(q ρ).bind λx=>(fr ρ).map λr=>(k,x)::r
def Bu(f:En->Option (List (Key×D))):En->Option D:=λρ=>(f ρ).bind λes=>if es.length<=15/\az (es.map (·.2))=true/\aB (es.map (·.2))=true then pC es else none
def KN(G:Gc)(ob:Nat->Bool)(t:List (TE×TE))(f:En->Option (List (Key×D))):Prop:=∀(ρ:En)(es:List (Key×D)),f ρ=some es->∀(σ:L2.St)(H:Hp)(W:Wn),Rel G H W ob ρ σ->WOk H W->∀Q:List (V×V)->Hp->Prop,
 (∀(vs:List V) H' L,vs.length=es.length->Same H H'->aD G H' (W.add L) (es.map (·.2)) vs L->(∀a∈L,H a=none)->L.Nodup->Q ((ac0 (es.map (·.1)) vs).map λN=>(kV N.1,N.2)) H')->ym t σ H Q
structure Ow{ι:Type}(X:ι->Cx)(G:Gc)(ob:Nat->Bool)(pos:Pos)(ks:List (Option Expr))(vs:List Expr)(f:En->Option (List (Key×D))):Prop where
 mk::(ex:∃t,(∀c,PPs (X c) pos ks vs t)/\KN G ob t f)
theorem OD:KN G ob [] EY:=λρ es e σ H W I w Q q=>by
 cases e;exact q [] H [] rfl (Same.refl H) .nil (by simp) List.nodup_nil
variable{t:List (TE×TE)}
theorem Np{tk tv:TE}{fv:En->Option D}{fr:En->Option (List (Key×D))}(hk:RfE G ob tk fk)(hv:RfE G ob tv fv)(O:KN G ob t fr):KN G ob ((tk,tv)::t) (uN fk fv fr):=λρ es e σ H W I w Q q=>by
 unfold uN at e;cases h1:fk ρ with
 |none=>simp[h1]at e
 |some dk=>
 cases h2:d9 dk with
 |none=>simp[h1,h2]at e
 |some k=>
 cases h3:fv ρ with
 |none=>simp[h1,h2,h3]at e
 |some dv=>
 cases F:fr ρ with
 |none=>simp[h1,h2,h3,F]at e
 |some rs=>
  obtain rfl:(k,dv)::rs=es:=by simpa[h1,h2,h3,F]using e
  refine hk ρ dk h1 σ H W I w _ λxk H0 L0 s0 rk a0 nk=>?_;obtain⟨rfl,rfl⟩:=Gb h2 rk;refine hv ρ dv h3 σ H0 W (I.up (Up.same s0)) (w.up s0) _ λx H1 L B rx fx nx=>?_;have u1:Up H0 H1 W (W.add L):=.add B fx;have w1:WOk H1 (W.add L):=(w.up s0).add B rx.dom;refine O ρ rs F σ H1 (W.add L) ((I.up (Up.same s0)).up u1) w1 _ λys H2 M hl Y J fy ny=>?_;have V:∀a∈L,a∉M:=λa h1 h2=>by
   obtain⟨o,N,_⟩:=rx.dom a h1;rw[fy a h2]at N;cases N
  have u2:Up H1 H2 (W.add L) (W.add (L++M)):=⟨Y,λb u U f=>⟨λz=>z.elim (λz=>(W2.mp z).elim (λz=>f.1 (.inl z)) λz=>by rw[fy b z]at U;cases U) λz=>f.1 (.inr z),f.2⟩,λ_ _ _ f=>f⟩;refine q (x::ys) H2 (L++M) (by simp[hl]) ((s0.trans B).trans Y) (.cons (rx.up u2) (J.up ⟨Same.refl _,λb u U f=>⟨λz=>?_,f.2⟩,λ_ _ _ f=>f⟩)) (λa Z=>?_) (dm nx ny V)
  .rcases z with z|z
   .exact(W2.mp z).elim (λz=>f.1 (.inr (.inl z))) λz=>f.1 (.inl z)
   .exact f.1 (.inr (.inr z))
  .rcases W2.mp Z with z|z
   .exact s0.none' (fx a z)
   .exact(s0.trans B).none' (fy a z)
theorem vQ:∀{more kvs:List (Key×V)},(List.map (·.1) (kvs++more)).Nodup->mX kvs more=kvs++more
 |[],kvs,h=>by simp[mX]
 |p::r,kvs,h=>by
  have h1:putK kvs p.1 p.2=kvs++[p]:=mV (yS λz=>by
   rw[X4]at h;exact(Xx.mp h).2.2 p.1 z p.1 (by simp) rfl)
  have:=vQ (more:=r) (kvs:=kvs++[p]) (by simpa using h);show mX (putK kvs p.1 p.2) r=_;rw[h1,this];simp
variable{f:En->Option (List (Key×D))}
theorem P0(h:KN G ob t f):RfE G ob (Ri t) (Bu f):=λρ d e σ H W I w Q q=>by
 unfold Bu at e;cases h1:f ρ with
 |none=>simp[h1]at e
 |some es=>
  rw[h1]at e;simp![Mx]at e;split at e
  .rename_i hc
   unfold pC at e;split at e
   .rename_i hnd
    cases e;intro p F;have B:Same H (upd H p (.dK [])):=Same.new F;have u0:Up H (upd H p (.dK [])) W (W.add [p]):=.add B (by simpa using F);have w0:WOk (upd H p (.dK [])) (W.add [p]):=w.add B λa Z=>by
     obtain rfl:a=p:=by simpa using Z
     exact⟨_,aN,rfl⟩
    refine h ρ es h1 σ _ _ (I.up u0) w0 _ λvs H2 L hl Y O N n2=>?_;have a1:H2 p=some (.dK []):=Y p _ aN;have a0:List.map (·.1) (ac0 (es.map (·.1)) vs)=es.map (·.1):=ae1 (by simp[hl]);have J:List.map (·.2) (ac0 (es.map (·.1)) vs)=vs:=ae2 (by simp[hl]);refine⟨a1,ac0 (es.map (·.1)) vs,rfl,by simp[hl];exact hc.1,?_⟩;rw[vQ (by simpa[a0]using hnd),List.nil_append];have a2:p∉L:=λz=>by have:=N p z;rw[aN]at this;cases this
    have a6:Same H (upd H2 p (.dK (ac0 (es.map (·.1)) vs))):=λb u U=>by
     have a3:b≠p:=λz=>by rw[z,F]at U;cases U
     rw[aJ a3];exact Y b u (by rw[aJ a3];exact U)
    refine q (.ref p) _ (p::L) a6 ?_ (λa Z=>?_) (List.nodup_cons.mpr ⟨a2,n2⟩)
    .rw[Rep]
     refine⟨p,_,L,rfl,⟨a0,hnd⟩,?_,aN,rfl⟩;rw[J];have ev:Evo H2 (upd H2 p (.dK (ac0 (es.map (·.1)) vs))) ((W.add [p]).add L) (W.add (p::L)):=⟨λb u U fr=>⟨by rw[aJ λz=>fr.1 (.inr (.inl (by simp[z])))];exact U,λz=>by
      rcases z with z|z
      .rcases Xj.mp z with z|z
       .exact fr.1 (.inr (.inl (by simp[z])))
       .exact fr.1 (.inl z)
      .exact fr.1 (.inr (.inr z)),fr.2⟩,λb xs U=>by rw[aJ λz=>by rw[z,a1]at U;cases U];exact U⟩
     exact O.mono ev (.inl hc.2.1) (.inl hc.2.2) λc a5 u V=>by
      have a4:c≠p:=λz=>a2 (by rw[←z];exact a5);rw[aJ a4];exact V
    .rcases Xj.mp Z with z|z
     .rw[z];exact F
     .have:=N a z
      by_cases U:a=p
      .rw[U];exact F
      .rwa[aJ U]at this
   .cases e
  .cases e
theorem JF:Ow X G ob pos [] [] EY:=⟨_,λc=>O4,OD⟩
theorem HJ{k v:Expr}{ks:List (Option Expr)}{vs:List Expr}{q:En->Option D}{fr:En->Option (List (Key×D))}(B:PV X G ob k fk)(F:PV X G ob v q)(O:Ow X G ob pos ks vs fr):Ow X G ob pos (some k::ks) (v::vs) (uN fk q fr):=
 let⟨_,a1,a2⟩:=B.ex;let⟨_,b1,b2⟩:=F.ex;let⟨_,c1,c2⟩:=O.ex;⟨_,λc=>Nk (a1 c) (b1 c) (c1 c),Np a2 b2 c2⟩
theorem Oc{F:List Expr}(h:Ow X G ob pos J F f)(q:J.all (·.isSome)=true:=by rfl)(Z:J.length=F.length:=by rfl)(V:J≠[]:=by simp)(B:J.length<=15:=by decide):PV X G ob (.Dict J F pos) (Bu f):=
 let⟨_,a1,a2⟩:=h.ex;⟨_,λc=>Pj (a1 c) q Z V B,P0 a2⟩
def Itz(K:Xl)(a b:Addr):It:=
 ⟨λi H=>∃xs ys x y,SqL K H a xs/\SqL K H b ys/\xs[i]? =some x/\ys[i]? =some y,λi H x H'=>∃p u v,H p=none/\x= .ref p/\(∀xs,SqL K H a xs->xs[i]? =some u)/\(∀xs,SqL K H b xs->xs[i]? =some v)/\H'=upd H p (.tup [u,v]),λi H=>∃xs ys,SqL K H a xs/\SqL K H b ys/\(xs.length<=i∨ys.length<=i)⟩
theorem KH{P:X7}{K:Xl}{x1}(a b z TI TO i1 i2:Addr)(ap:ZipApart z TI TO i1 i2 a b) :
  Turn P w K (.Tuple elts x1 pos) (Itz K a b) [z,TI,TO,i1,i2] z (λi h=>IsZip h z TI TO .none/\Z6 h TI (.ref i1) (.ref i2)/\(∃u v,Z6 h TO u v)/\h.IsListIter i1 a i/\h.IsListIter i2 b i)where
 mem:=by simp
 obj:=λi h st c Y=>by
  obtain⟨h1,h2,⟨u,v,O⟩,⟨o1,q1,_,d1⟩,⟨o2,q2,_,d2⟩⟩:=st;simp![Xj,Zk,aaX]at Y;rcases Y with e|e|e|e|e<;>subst e
  .exact⟨_,h1,λv z=>by cases z⟩
  .exact⟨_,h2,λv z=>by cases z⟩
  .exact⟨_,O,λv z=>by cases z⟩
  .exact⟨o1,q1,λv z=>by rw[d1]at z;cases z⟩
  .exact⟨o2,q2,λv z=>by rw[d2]at z;cases z⟩
 keep:=λi h h' st k=>by
  obtain⟨h1,h2,⟨u,v,O⟩,h4,h5⟩:=st;exact⟨k z (by simp) _ h1,k TI (by simp) _ h2,⟨u,v,k TO (by simp) _ O⟩,h4.at λo q=>k i1 (by simp) o q,h5.at λo q=>k i2 (by simp) o q⟩
 item:=by
  intro X hP hw hK Y i pins s σ H E I hf st F;subst hP hw hK;obtain⟨xs,ys,x,y,N,a0,J,hy⟩:=F;obtain⟨B,rv,p,hz⟩:=I.list N;obtain⟨its',a1,p',a8⟩:=I.list a0;obtain⟨u,V,ru⟩:=rv.get J;obtain⟨v,hv,a9⟩:=a1.get hy;obtain⟨h1,h2,⟨u0,v0,O⟩,h4,h5⟩:=st;have a3:∀c∈[z,TI,TO,i1,i2],c<s.heap.objs.size:=λc Y=>by
   simp![Xj,Zk,aaX]at Y;obtain⟨o1,q1,_⟩:=h4;obtain⟨o2,q2,_⟩:=h5;rcases Y with e|e|e|e|e<;>subst e
   .exact Xm h1
   .exact Xm h2
   .exact Xm O
   .exact Xm q1
   .exact Xm q2
  refine wpAny_pyNext_zip_item ap h1 h2 O h4 h5 p.isList p'.isList (x:=u) (y:=v) (by simpa using V) (by simpa using hv) λh' g1 g3 g4 g5 g6 hsz k1=>?_;refine⟨.ref s.heap.objs.size,rfl,acK g1 λa2 a4 sb=>?_⟩;have a7:z<s.heap.objs.size:=a3 z (by simp);have b0:s.heap.objs.size≠z:=Y4 a7;have a5:a2.get? s.heap.objs.size=some {cls:=.type "tuple",data:=.seq #[u,v]}:=sb.extBut _ _ b0 g6;have kk:∀c o,c∉[z,TI,TO,i1,i2]->s.heap.get? c=some o->a2.get? c=some o:=λc o Y q=>by
   have n1:c≠z:=λe=>Y (by simp[e]);exact sb.extBut c o n1 (k1 c o n1 (λe=>Y (by simp[e])) (λe=>Y (by simp[e])) (λe=>Y (by simp[e])) q)
  have I2:Inv X pins σ (upd H s.heap.objs.size (.tup [x,y])) {s with heap:=a2,toks:=s.toks}:=by
   refine mH (fp:=[z,TI,TO,i1,i2]) (t':=s.toks) I hf (λb o U q=>kk b o U q) (Xn _) ?_;exact⟨by show 2<=Xp;decide,[u,v],.cons ru (.cons a9 .nil),_,a5,rfl,_,rfl,rfl⟩
  refine⟨.ref s.heap.objs.size,upd H s.heap.objs.size (.tup [x,y]),I2,rfl,⟨_,x,y,I.hok.fresh (Xn _),rfl,λys hy=>by rw[I.list_inj hy N];exact J,λys a6=>by rw[I.list_inj a6 a0];exact hy,rfl⟩,?_,λc Y=>?_⟩
  .refine⟨a4,sb.extBut _ _ ap.TIz (k1 _ _ ap.TIz ap.TITO ap.TIi1 ap.TIi2 h2),⟨u,v,sb.extBut _ _ ap.TOz g3⟩,g4.extBut sb.extBut ap.i1z,g5.extBut sb.extBut ap.i2z⟩
  .rw[aJ λe=>YQ _ (e▸a3 c Y)]
   exact(hf c Y).1
 done:=by
  intro X hP hw hK Y i pins s σ H E I hf st F;subst hP hw hK;obtain⟨xs,ys,N,a0,J⟩:=F;obtain⟨B,rv,p,hz⟩:=I.list N;obtain⟨its',a1,p',a8⟩:=I.list a0;obtain⟨h1,h2,⟨u0,v0,O⟩,h4,h5⟩:=st;have Z:=rv.length;have b1:=a1.length;refine wpAny_pyNext_zip_end (I.ok.hd Y) ap h1 h2 O h4 h5 p.isList p'.isList (J.imp (λe=>by simp;omega) λe=>by simp;omega) λh' k1=>⟨rfl,?_⟩;exact iQ (fp:=[z,TI,TO,i1,i2]) (t':=s.toks) I hf λc o Y q=>k1 c o (λe=>Y (by simp[e])) (λe=>Y (by simp[e])) (λe=>Y (by simp[e])) (λe=>Y (by simp[e])) q
 self:=λA i s Q E st h=>abR st.1 h
def Ga:D->Bool
 |.lst _ _=>true
 |_=>false
def yN(a b:List D):List D:=List.zipWith (λx y=>.tup [x,y]) a b
def itZ(f:En->Option (List D)):En->Option (Bool×List D):=λρ=>(f ρ).bind λds=>match ds with
 |[d,d']=>if Ga d=true/\Ga d'=true then(cC d).bind λp=>(cC d').map λJ=>(p.1&&J.1,yN p.2 J.2)else none
 |_=>none
theorem ph{a b:List D}(h:(yN a b)[i]? =some d):∃x y,a[i]? =some x/\b[i]? =some y/\d= .tup [x,y]:=by
 unfold yN at h;rw[List.getElem?_zipWith]at h;cases h1:a[i]? with
 |none=>simp[h1]at h
 |some x=>
  cases h2:b[i]? with
  |none=>simp[h1,h2]at h
  |some y=>exact⟨x,y,rfl,rfl,by simpa[h1,h2]using h.symm⟩
variable{b:Bool}
theorem LtB.and1{N:Bool}{I:Wn}(l:LtB (b&&N) H W H2 I):LtB b H W H2 I:=by
 cases b with
 |false=>exact l
 |true=>
  cases N with
  |true=>exact l
  |false=>exact LtB.up ((Xz X6).mp l)
theorem LtB.and2{N:Bool}{I:Wn}(l:LtB (b&&N) H W H2 I):LtB N H W H2 I:=by
 cases N with
 |false=>rw[afi]at l;exact l
 |true=>
  cases b with
  |true=>exact l
  |false=>exact LtB.up ((Xz X6).mp l)
theorem zm{es:List D}(w:WOk H W)(s:Same H H')(r:Rep G H' (W.add L) d v M)(q:∀a∈M,a∈L)(fr:∀a∈L,H a=none)(e:cC d=some (b,es))(B:Ga d=true) :
  ∃a xs,v= .ref a/\Parts G H' W b es xs/\∀H2 I,LtB b H' W H2 I->SqL G.K H2 a xs:=by
 have free:∀a∈M,W.free a:=λa Z=>⟨λz=>?_,λz=>?_,λz=>?_⟩
 .have les:Les H' (W.add L) W M:=⟨λa f=>⟨λz=>f.1 (.inr z),f.2⟩,free⟩
  cases d with
  |lst m ds=>
   simp![cC,aaP,ad9]at e;obtain⟨rfl,rfl⟩:=e;rw[Rep]at r;obtain⟨a,xs,M,rfl,O,hs⟩:=r;refine⟨a,xs,rfl,⟨aD.fzo (W:=W.add L) (W':=W) (λ_ z=>z) O (les.sub λc Y=>hs.sub.subset Y),λz=>?_⟩,λH2 I l=>Rf (wD hs les (λz=>z) (λz=>?_) l)⟩
   .simp[clean,aA,au]at z
    exact⟨eG z.1.2,d8 z.2.2⟩
   .simp[clean,aA,au]at z
    exact⟨z.1.1,z.2.1⟩
  |_=>cases B
 .obtain⟨o,ho,_⟩:=w a (.inl z);rw[fr a (q a Z)]at ho;cases ho
 .obtain⟨o,ho,_⟩:=w a (.inr (.inl z));rw[fr a (q a Z)]at ho;cases ho
 .obtain⟨o,ho,_⟩:=w a (.inr (.inr z));rw[fr a (q a Z)]at ho;cases ho
mutual
noncomputable def zx:D->Bool
 |.tup ds=>lq ds
 |.lst _ _=>false
 |.dct _ _ _=>false
 |.ins _ _ _ _=>false
 |_=>true
noncomputable def lq:List D->Bool
 |[]=>true
 |d::r=>zx d&&lq r
end
mutual
theorem L_:∀{d:D}{v:V}{L:List Addr},Rep G H W d v L->zx d=true->L=[]
 |.non,v,L,h,_=>by rw[Rep]at h;exact h.2
 |.bl _,v,L,h,_=>by rw[Rep]at h;exact h.2
 |.int _,v,L,h,_=>by rw[Rep]at h;exact h.2
 |.str _,v,L,h,_=>by rw[Rep]at h;exact h.2
 |.ty _,v,L,h,_=>by rw[Rep]at h;exact h.2
 |.tup ds,v,L,h,o=>by
  rw[Rep]at h;obtain⟨a,xs,rfl,U,O⟩:=h;exact qL O (by simpa[zx]using o)
 |.lst _ _,v,L,h,o=>by cases o
 |.dct _ _ _,v,L,h,o=>by cases o
 |.ins _ _ _ _,v,L,h,o=>by cases o
theorem qL:∀{ds:List D}{vs:List V}{L:List Addr},aD G H W ds vs L->lq ds=true->L=[]
 |[],vs,L,h,_=>h.inv0.2
 |d::r,vs,L,h,o=>by
  obtain⟨x,ys,M,M',rfl,rfl,h1,h2⟩:=h.inv;simp[lq]at o;rw[L_ h1 o.1,qL h2 o.2];rfl
end
mutual
theorem Bx:∀{d:D},cz d=true->aA d=true/\au d=true
 |.non,_=>⟨rfl,rfl⟩|.bl _,_=>⟨rfl,rfl⟩|.int _,_=>⟨rfl,rfl⟩|.str _,_=>⟨rfl,rfl⟩|.ty _,_=>⟨rfl,rfl⟩
 |.tup ds,h=>by simp[cz]at h;obtain⟨a,b⟩:=fK h;exact⟨by simp[aA,a],by simp[au,b]⟩
 |.lst m ds,h=>by simp[cz]at h;obtain⟨a,b⟩:=fK h.2;exact⟨by simp[aA,a,h.1],by simp[au,b,h.1]⟩
 |.dct m _ ds,h=>by simp[cz]at h;obtain⟨a,b⟩:=fK h.2;exact⟨by simp[aA,a,h.1],by simp[au,b,h.1]⟩
 |.ins m _ _ ds,h=>by simp[cz]at h;obtain⟨a,b⟩:=fK h.2;exact⟨by simp[aA,a,h.1],by simp[au,b,h.1]⟩
theorem fK:∀{ds:List D},bG ds=true->az ds=true/\aB ds=true
 |[],_=>⟨rfl,rfl⟩
 |d::r,h=>by simp[bG]at h;obtain⟨a,b⟩:=Bx h.1;obtain⟨c,e⟩:=fK h.2;exact⟨by simp[az,a,c],by simp[aB,b,e]⟩
end
def Wg:Wn:=⟨λ_=>True,λ_=>True,λ_=>True⟩
theorem Ln(r:aD G H W ds xs L)(N:bG ds=true)(U:∀b ys,H b=some (.tup ys)->H' b=some (.tup ys))(q:∀c∈L,∀u,H c=some u->H' c=some u):aD G H' W' ds xs L:=
 ((r.own (W':=Wg) N).mono (W':=Wg) ⟨λb u _ f=>absurd trivial f.1,U⟩ (.inl (fK N).1) (.inl (fK N).2) q).own N
end Jb
namespace PySem
open PySem.Builtin PySem.Builtin.List PySem.Builtin.SmallTypes
section
variable{prog:Program}{w:World}{A:Around}{E:Value->Shared->Prop}{z TI TO i1 i2 l1 l2 p:Addr}{k:Nat}{xs ys:Array Value}{x y u v:Value}{b:Bool}{h:Heap}{g:Array GenState}{d:Drawn}{tk:Nat}{os:OsState}
theorem zH{M:Model}{A:Yy}{E:Value->zb->Prop}{s:zb}{a:Addr}{Q:Option Obj->zb->Prop}(h:Q (s.heap.get? a) s):wpAny M A (Sem.loadIfAlive a Sem.pure) Q E s:=by
 intro B q p;rw[Sem.wp_loadIfAlive];exact h
theorem F.jb_sub_stop:aew (.type "StopIteration") (.type "StopIteration")=pure true:=by rw[Z7];kernel_rfl
end
end PySem
namespace Jb
open PySem PySem.Spec PyProof.Rows L2
theorem Ka{K:Xl}{k:Nat}{G:Gc}:gw P w K mg base CX0 k f fd ps (spP G λ_=>none):=
 ⟨λvs H Q E ⟨ds,Fr,r,_,_,_,d,e,_⟩=>(by cases e),λA outer s H args us vs Q E O V U B ⟨ds,Fr,r,_,_,_,d,e,_⟩=>(by cases e)⟩
mutual
theorem JT:∀{d:D},zx d=true->cz d=true
 |.non,_=>rfl
 |.bl _,_=>rfl
 |.int _,_=>rfl
 |.str _,_=>rfl
 |.ty _,_=>rfl
 |.tup ds,h=>by simp![zx]at h;simp![cz];exact rB h
 |.lst _ _,h=>by cases h
 |.dct _ _ _,h=>by cases h
 |.ins _ _ _ _,h=>by cases h
theorem rB:∀{ds:List D},lq ds=true->bG ds=true
 |[],_=>rfl
 |d::r,h=>by
  simp![lq,XR]at h;simp![bG,XR];exact⟨JT h.1,rB h.2⟩
end
def nmA(U:List (Str×Int))(i:Nat):Str:=(U.map (·.1)).getD i ""
variable{X:Cx}
theorem wu{σ:L2.St}{H:Hp}{s:zb}{xs:List V}{B:List Value}{E:Value->zb->Prop}{Q:VK}(I:Inv X pins σ H s)(rv:Vals xs B)(a7:xs.length=U.length)(J:∀(i:Nat)(a:Str)(n:Int),U[i]? =some (a,n)->∃b,xs[i]? =some (.ref b)/\SqT X.K H b [.str a,.int n])(hn:(U.map (·.1)).Nodup)(Z:U.length<64)
  (q:∀p:List Nat,Yt p (X3 U.length)->ZC (λi j=>ltS [nmA U j] [nmA U i]=false) p->∀l,H l=none->Q (.ref l) (upd H l (.lst (p.map λi=>xs.getD i V.non)))) :
  wpAny 1.11 X.A.in1 (acO B >>=λl=>ad_ [l] (call (.builtin "list.sort") [l] []) >>=λ_=>ret l) (λfin s'=>∃v,fin= .done (.ret v)/\EP X pins σ Q v s') E s:=by
 let ks:List (List Str):=U.map λx=>[x.1]
 have a8:U.length=B.length:=by have:=rv.length;omega
 have b2:64<=Xp:=by decide
 have a1:∀i,i<B.length->∃(a:Str)(n:Int)(b:Addr)(o:Obj)(t t':Tok)(m:Nat),U[i]? =some (a,n)/\nmA U i=a/\ks.getD i []=[a]/\[a]∈ks/\B[i]? =some (.ref b)/\s.heap.get? b=some o/\o.cls= .type "tuple"/\o.data= .seq #[.str a t,.int n t'] m:=λi hi=>by
  have O:i<U.length:=by omega
  obtain⟨b,h1,h2⟩:=J i U[i].1 U[i].2 (by rw[Xk O]);obtain⟨u,h3,h4⟩:=rv.get h1;cases h4;obtain⟨js,rj,⟨o,N,Y,m,hd⟩,_⟩:=I.tuple h2;cases rj with
  |cons r1 rj=>
   cases rj with
   |cons r2 rj=>
    cases rj;obtain⟨t,rfl⟩:=r1;obtain⟨t',rfl⟩:=r2;refine⟨U[i].1,U[i].2,b,o,t,t',m,by rw[Xk O],by simp[nmA,O],by simp[ks,O],zc.mpr ⟨U[i],ZW _,rfl⟩,h3,N,Y,hd⟩
 refine sort_keys (κ:=PyProof.Rows.tuples' true) (ks:=ks) I rv 1.10 (by simp[ks];omega) (λh2 h' ext E' Q' a0=>?_) (λh' ext i j hi hj Q' a0=>?_) λp F hw=>q p (by rw[←a7];exact F) ?_
 .have hT:∀(l:List Value),(∀v∈l,v∈B)->∃fs,adh h' l fs/\fs.length=l.length/\∀f∈fs,∃a t,f= .str a t:=by
   intro l
   induction l with
   |nil=>intro _;exact⟨[],by rw[adh];trivial,rfl,by simp⟩
   |cons v r ih=>
    intro hv;obtain⟨fs,f1,f2,f3⟩:=ih λx J=>hv x (by simp[J]);obtain⟨i,hi,e⟩:=YW (hv v (by simp));obtain⟨a,n,b,o,t,t',m,_,_,_,_,e2,e3,e4,e5⟩:=a1 i hi;rw[Xk hi,e]at e2;cases e2;refine⟨.str a t::fs,?_,by simp[f2],λf hf=>(Xj.mp hf).elim (λz=>⟨a,t,z⟩) (f3 f)⟩;rw[adh];exact⟨⟨b,o,_,m,rfl,ext b o e3,e4,e5,rfl⟩,f1⟩
  obtain⟨fs,f1,f2,f3⟩:=hT B λ_ h=>h;refine PySem.W.kat_kind (T:=.type "str") f1 1.10 (λv hv=>?_) rfl a0;obtain⟨a,t,rfl⟩:=f3 v hv;exact adL rfl
 .obtain⟨a,n,b,o,t,t',m,r1,r2,g1,m1,e1,e2,e3,e4⟩:=a1 i hi
  obtain⟨a',n',b',o',u,u',m',a2,b1,a5,a9,a3,a4,b0,a6⟩:=a1 j hj;rw[Yi,Yi,e1,a3];refine PySem.W.kat_lt (s:={s with heap:=h'}) (ext b o e2) e4 (ext b' o' a4) a6 ?_;refine ae4 (acP ?_);by_cases ea:a=a'
  .have eij:i=j:=by
    have h1:(U.map (·.1))[i]? =some a:=by rw[List.getElem?_map,r1];rfl
    have h2:(U.map (·.1))[j]? =some a':=by rw[List.getElem?_map,a2];rfl
    obtain⟨z1,z2⟩:=qb.mp h1;obtain⟨z3,z4⟩:=qb.mp h2;exact(abL hn).mp (z2.trans (ea.trans z4.symm))
   subst eij;rw[r1]at a2;cases a2;rw[YL ea];refine ae8 (ae4 (wpAny_eqBool_int ?_));rw[show(n==n)=true by simp];refine ae8 ?_;rw[iG]at a0;refine PySem.W.kat_nil ?_;exact a0
  .rw[X8 ea]
   refine PySem.W.kat_no (oneLt_str ?_);rwa[g1,a5,Fw]at a0
 .refine aaA (λ{i j} h1 h2 h=>?_) hw
  have e:∀k∈p,ks.getD k []=[nmA U k]:=λk hk=>by
   have:=YF.mp (F.mem_iff.mp hk);obtain⟨_,_,_,_,_,_,_,_,z1,z2,_⟩:=a1 k 1.10;rw[z1,z2]
  rwa[e i h1,e j h2]at h
end Jb
namespace PySem
open PySem.Builtin PySem.Builtin.List
section
variable{prog:Program}{w:World}{A:Around}{E:Value->Shared->Prop}{it dd p:Addr}{i n ep:Nat}{b:Bool}{h:Heap}{g:Array GenState}{d:Drawn}{tk:Nat}{os:OsState}{K:Type}[DecidableEq K]{knd:KeyKind prog w K}{kvs:List (K×Value)}{ok ov:Value}
def Ef(h:Heap)(it dd:Addr)(i n ep:Nat)(ok ov:Value)(p:Addr)(b:Bool):Prop:=h.get? it=some {cls:=.type "dict_itemiterator",data:=.fields #[Zv p,.bool b,.ref dd,.int i 0,.int n 0,.int ep 0,ok,ov]}/\∃o,h.get? p=some o
theorem F.jb_lk_items_len:acH (.type "dict_items") "__len__"=pure (some (.builtin "dict_items.__len__")):=by rw[aah,Zt];kernel_rfl
theorem F.jb_sub_items:aew (.type "dict_items") (.type "dict_items")=pure true:=by rw[Z7];kernel_rfl
theorem pairs_at:∀{es:List DictEntry}{kvs:List (K×Value)}{i:Nat}{k:K}{v:Value},Pairs knd es kvs->kvs[i]? =some (k,v)->∃e,es[i]? =some e/\knd.is k e.key=true/\e.val=v
 |_,_,i,k,v,.nil,h=>by simp at h
 |_,_,0,k,v,.cons h1 h2 _,h=>by cases h;exact⟨_,rfl,h1,h2⟩
 |_,_,i+1,k,v,.cons _ _ r,h=>by
  obtain⟨e,a,b,c⟩:=pairs_at r (i:=i) (by simpa using h);exact⟨e,by simpa using a,b,c⟩
theorem J7{Q:Option Value->zb->Prop}{k:K}{v:Value}(hz:Ef h it dd i kvs.length ep ok ov p b)(hp:p≠it)(hD:adx knd h dd kvs ep)(B:kvs[i]? =some (k,v))
  (hq:∀(J:Value) h' b6,knd.is k J=true->Ef h' it dd (i+1) kvs.length ep ok ov p true->h'.get? h.objs.size=some {cls:=.type "tuple",data:=.seq #[J,v]}->h'.objs.size=h.objs.size+1->(∀c o,c≠it->h.get? c=some o->h'.get? c=some o)->Q (some (.ref h.objs.size)) ⟨h',g,d,b6,os⟩) :
  wpAny 1.13 A (aaa (.ref it)) Q E ⟨h,g,d,tk,os⟩:=by
 have Z:(⟨h,g,d,tk,os⟩:zb).TypeIs (.ref it) "dict_itemiterator":=⟨_,hz.1,rfl⟩;unfold aaa;refine gD (aak ?_);refine Yw Z Y7 ?_;obtain⟨U,op,b7⟩:=hz
 show 1
 refine ZD Y7.plain ab4 (Y7.check _ _ _ _ _ _ _ _ Z (abY _) ?_);unfold Builtin.«dict_itemiterator.__next__»;show wpAny _ _ (aaB "__next__" _ >>=_) _ _ _;refine gD ?_;unfold aaB;refine gD ?_;obtain⟨o,es,N,b8,a8,c0,a5,b9⟩:=hD;have hsz:es.size=kvs.length:=by
  have:=a5.length;simpa using this
 show 1
 rw[a8];refine Xg ?_;show wpAny _ _ (if((es.size:Int)!=(kvs.length:Int))=true then _ else _) _ _ _;rw[hsz,Xz (by simp)]
 show 1
 rw[a8];refine Xg ?_;show wpAny _ _ (if((ep:Int)!=(ep:Int))=true then _ else _) _ _ _;rw[Xz (by simp)];refine Xg ?_;have hi:i<kvs.length:=(qb.mp B).1;obtain⟨e,V,a9,b5⟩:=pairs_at a5 B;have b2:es[((i:Nat):Int).toNat]? =some e:=by rw[YH];simpa using V
 dsimp only;rw[Xz 1.10,b2];dsimp only;refine gD ?_;show wpAny _ _ (typeNameOfWhole (.ref it) >>=_) _ _ _;refine gD (ab5 Z ?_);refine Xg ?_;refine gD (abF Z ?_);refine gD (abo (i:=3) U rfl (by show 3<8;decide) ?_);obtain⟨h1,a1⟩:∃h1,h1=h.update it (abK λx=>x.setIfInBounds 3 (Zv (if(["dict_reversekeyiterator","dict_reversevalueiterator","dict_reverseitemiterator"].any λt=>[Y8 "dict_itemiterator",Y8 "object"].contains (Y8 t))=true then(i:Int)-1 else(i:Int)+1))):=⟨_,rfl⟩;have a3:h1.get? it=some {cls:=.type "dict_itemiterator",data:=.fields #[Zv p,.bool b,.ref dd,.int ((i+1:Nat):Int) 0,.int (kvs.length:Int) 0,.int ep 0,ok,ov]}:=by
  rw[a1];have e1:(((i+1:Nat)):Int)=(i:Int)+1:=by omega
  rw[e1];exact ZX _ U rfl
 have a6:∀c,c≠it->h1.get? c=h.get? c:=λc Y=>by rw[a1];exact Yd h _ (Ne.symm Y)
 have I:h1.objs.size=h.objs.size:=by rw[a1];exact Z9 ..
 show wpAny _ _ _ _ _ ⟨h.update it (abK λx=>x.setIfInBounds 3 (Zv (if(["dict_reversekeyiterator","dict_reversevalueiterator","dict_reverseitemiterator"].any λt=>[Y8 "dict_itemiterator",Y8 "object"].contains (Y8 t))=true then(i:Int)-1 else(i:Int)+1))),g,d,tk,os⟩;rw[←a1];clear a1;have a4:(⟨h1,g,d,tk,os⟩:zb).TypeIs (.ref it) "dict_itemiterator":=⟨_,a3,rfl⟩;refine gD (Za ?_);show wpAny _ _ (Dict_items.isOneOf (.ref it) _ >>=_) _ _ _;refine gD (abF a4 ?_);show wpAny _ _ (if false=true then _ else _) _ _ _;rw[Xz X6];refine gD (abF a4 ?_);show wpAny _ _ (if false=true then _ else _) _ _ _;rw[Xz X6];unfold Dict_items.pairFromOwner;refine gD (adK ?_ (by show 2<=Xp;decide));obtain⟨h2,a0⟩:∃h2,h2=h1.push {cls:=.type "tuple",data:=.seq [e.key,e.val].toArray}:=⟨_,rfl⟩;have a2:h2.get? it=some {cls:=.type "dict_itemiterator",data:=.fields #[Zv p,.bool b,.ref dd,.int ((i+1:Nat):Int) 0,.int (kvs.length:Int) 0,.int ep 0,ok,ov]}:=by rw[a0];exact za _ a3
 have a7:h2.get? p=some op:=by rw[a0];exact za _ ((a6 p hp).trans b7)
 have b4:h2.get? h.objs.size=some {cls:=.type "tuple",data:=.seq #[e.key,v]}:=by rw[a0,←I,←b5];exact Xr _ rfl
 have b0:∀c o,c≠it->h.get? c=some o->h2.get? c=some o:=λc o Y q=>by rw[a0];exact za _ ((a6 c Y).trans q)
 have b1:h2.objs.size=h.objs.size+1:=by rw[a0,YM,I]
 show wpAny _ _ _ _ _ ⟨h1.push {cls:=.type "tuple",data:=.seq [e.key,e.val].toArray},g,d,tk,os⟩;rw[←a0];clear a0;refine gD ?_;unfold Dict_items.ownedTupleIsFree;refine gD (ZL a2 rfl (x:=Zv p) rfl ?_);show wpAny _ _ (PySem.loadIfAlive (p:Int).toNat >>=_) _ _ _;refine gD (zH ?_);rw[show(p:Int).toNat=p from YH p];show wpAny _ _ (if(h2.get? p).isNone=true then _ else _) _ _ _;rw[a7];rw[show(some op:Option Obj).isNone=false from rfl,Xz X6];refine gD (ZL a2 rfl (x:=.bool b) rfl ?_);refine L2.thn (Q:=λa s'=>a=false/\∃O,s'=⟨O,g,d,tk,os⟩/\O.objs.size=h2.objs.size/\(∀c,c≠it->O.get? c=h2.get? c)/\O.get? it=some {cls:=.type "dict_itemiterator",data:=.fields #[Zv p,.bool true,.ref dd,.int ((i+1:Nat):Int) 0,.int (kvs.length:Int) 0,.int ep 0,ok,ov]}) ?_ ?_
 .cases b with
  |true=>exact Xg ⟨rfl,h2,rfl,rfl,λ_ _=>rfl,a2⟩
  |false=>
   refine gD (abo a2 rfl (by show 1<8;decide) ?_);exact Xg ⟨rfl,_,rfl,Z9 ..,λc Y=>Yd h2 _ (Ne.symm Y),ZX _ a2 rfl⟩
 .rintro a s' ⟨rfl,O,rfl,hs3,hk3,hz7⟩
  show wpAny _ _ (if false=true then _ else _) _ _ _;rw[Xz X6];refine Xg ?_;refine Xg ?_;refine Xg ?_;have b3:it<h.objs.size:=Xm U;show Q (some (.ref h1.objs.size)) _;rw[I];refine hq e.key O tk a9 ⟨hz7,op,(hk3 p hp).trans a7⟩ ((hk3 _ (Y4 b3)).trans b4) (hs3.trans b1) λc o Y q=>(hk3 c Y).trans (b0 c o Y q)
theorem Ov{Q:Option Value->zb->Prop}(q:A.handled=none)(hz:Ef h it dd i kvs.length ep ok ov p b)(I:adx knd h dd kvs ep)(B:kvs[i]? =none)
  (hq:∀h',(∀c o,c≠it->h.get? c=some o->h'.get? c=some o)->Q none ⟨h',g,d,tk,os⟩) :
  wpAny 1.13 A (aaa (.ref it)) Q E ⟨h,g,d,tk,os⟩:=by
 have Z:(⟨h,g,d,tk,os⟩:zb).TypeIs (.ref it) "dict_itemiterator":=⟨_,hz.1,rfl⟩;unfold aaa;refine gD (aak ?_);refine Yw Z Y7 ?_;obtain⟨U,op,J⟩:=hz
 show 1
 refine ZD Y7.plain ab4 (Y7.check _ _ _ _ _ _ _ _ Z (abY _) ?_);unfold Builtin.«dict_itemiterator.__next__»;show wpAny _ _ (aaB "__next__" _ >>=_) _ _ _;refine gD ?_;unfold aaB;refine gD ?_;obtain⟨o,es,N,a3,O,a4,a2,V⟩:=I;have hsz:es.size=kvs.length:=by
  have:=a2.length;simpa using this
 show 1
 rw[O];refine Xg ?_;show wpAny _ _ (if((es.size:Int)!=(kvs.length:Int))=true then _ else _) _ _ _;rw[hsz,Xz (by simp)]
 show 1
 rw[O];refine Xg ?_;show wpAny _ _ (if((ep:Int)!=(ep:Int))=true then _ else _) _ _ _;rw[Xz (by simp)];refine Xg ?_;have a0:es[((i:Nat):Int).toNat]? =none:=by
  rw[YH];have:kvs.length<=i:=by simpa using B
  simp;omega
 dsimp only;rw[Xz 1.10,a0];dsimp only;refine gD ?_;show wpAny _ _ (typeNameOfWhole (.ref it) >>=_) _ _ _;refine gD (ab5 Z ?_);refine Xg ?_;refine gD (abo (i:=2) U rfl (by show 2<8;decide) ?_)
 show 1
 unfold raiseNew;refine gD (acy ?_);rw[show A.in1.handled=none from q];dsimp only;refine abC ?_;have a1:Shared.TypeIs ⟨((h.update it (abK λx=>x.setIfInBounds 2 Yg)).push {cls:=Y8 "tuple",data:=Data.seq #[]}).push {cls:=Y8 "StopIteration",data:=Data.fields (#[X5 (h.update it (abK λx=>x.setIfInBounds 2 Yg)).objs.size,Yg,Yg,Yg,abZ false,if((afd "StopIteration").elim false λt=>t.mro.contains "StopIteration"||t.mro.contains "SystemExit")=true then[].headD Yg else Yg]++ownMembersOf (Y8 "StopIteration") [])},g,d,tk,os⟩ (.ref ((h.update it (abK λx=>x.setIfInBounds 2 Yg)).push {cls:=Y8 "tuple",data:=Data.seq #[]}).objs.size) "StopIteration":=⟨_,Xr _ rfl,rfl⟩;refine gD (ZV a1 F.jb_sub_stop ?_);exact Xg (hq _ λc o Y e=>za _ (za _ ((Yd h _ (Ne.symm Y)).trans e)))
theorem Cm{Q:Bool->zb->Prop}{v:Addr}(I:(⟨h,g,d,tk,os⟩:zb).TypeIs (.ref v) "dict_items")
  (N:Q false ⟨h,g,d,tk,os⟩):wpAny 1.13 A (listLengthHint (.ref v)) Q E ⟨h,g,d,tk,os⟩:=by
 unfold listLengthHint;refine gD (wpAny_specialOf I F.jb_lk_items_len ?_);have Z:splitId "dict_items.__len__"=some ("dict_items","__len__"):=by decide +kernel
 dsimp only;rw[Z];refine gD (ZV I F.jb_sub_items ?_);rw[Xz 1.27];refine(show wpAny _ _ (if true=true then(typeOf (.ref v) >>=_)else _) _ _ _ from ?_);rw[Xu rfl];refine gD (aab I ?_);exact Xg N
end
section
variable{prog:Program}{w:World}{A:Around}{E:Value->Shared->Prop}{it dd p:Addr}{i n ep:Nat}{b:Bool}{h:Heap}{g:Array GenState}{d:Drawn}{tk:Nat}{os:OsState}{K:Type}[DecidableEq K]{knd:KeyKind prog w K}{kvs:List (K×Value)}{ok ov:Value}
def ISt(h:Heap)(it dd:Addr)(i n ep:Nat):Prop:=(∃ok ov,IsItemIter h it dd i n ep ok ov)∨∃ok ov p b,p≠it/\Ef h it dd i n ep ok ov p b
theorem N_{Q:Option Value->zb->Prop}{k:K}{v:Value}(st:ISt h it dd i kvs.length ep)(I:adx knd h dd kvs ep)(B:kvs[i]? =some (k,v))
  (N:∀(J:Value) h' O,knd.is k J=true->ISt h' it dd (i+1) kvs.length ep->h'.get? h.objs.size=some {cls:=.type "tuple",data:=.seq #[J,v]}->h'.objs.size=h.objs.size+1->(∀c o,c≠it->h.get? c=some o->h'.get? c=some o)->Q (some (.ref h.objs.size)) ⟨h',g,d,O,os⟩) :
  wpAny 1.13 A (aaa (.ref it)) Q E ⟨h,g,d,tk,os⟩:=by
 rcases st with⟨ok,ov,z⟩|⟨ok,ov,p,b,F,z⟩
 .refine wpAny_pyNext_items_item (s:=⟨h,g,d,tk,os⟩) z I B λJ h' U Z q a4 V=>?_
  have Y:it<h.objs.size:=Xm z;exact N J h' tk U (.inr ⟨J,v,h.objs.size,false,Y4 Y,Z,_,q⟩) q a4 V
 .exact J7 z F I B λJ h' O U Z q a4 V=>N J h' O U (.inr ⟨ok,ov,p,true,F,Z⟩) q a4 V
theorem RN{Q:Option Value->zb->Prop}(q:A.handled=none)(st:ISt h it dd i kvs.length ep)(I:adx knd h dd kvs ep)(B:kvs[i]? =none)
  (N:∀h',(∀c o,c≠it->h.get? c=some o->h'.get? c=some o)->Q none ⟨h',g,d,tk,os⟩) :
  wpAny 1.13 A (aaa (.ref it)) Q E ⟨h,g,d,tk,os⟩:=by
 rcases st with⟨ok,ov,z⟩|⟨ok,ov,p,b,F,z⟩
 .exact wpAny_pyNext_items_end (s:=⟨h,g,d,tk,os⟩) q z I B λh' U=>N h' λc o Y e=>U c o Y e
 .exact Ov q z I B N
theorem ISt.keep{h':Heap}{D:Addr}(st:ISt h it dd i n ep)(kp:∀c o,c≠D->h.get? c=some o->h'.get? c=some o)(hn:it≠D)(I:∃o,h'.get? D=some o):ISt h' it dd i n ep:=by
 rcases st with⟨ok,ov,z⟩|⟨ok,ov,p,b,F,z,o,q⟩
 .exact .inl ⟨ok,ov,kp _ _ hn z⟩
 .refine .inr ⟨ok,ov,p,b,F,kp _ _ hn z,?_⟩
  by_cases e:p=D
  .rw[e];exact I
  .exact⟨o,kp _ _ e q⟩
end
end PySem
namespace Jb
open PySem PySem.Spec PyProof.Rows L2
section
variable{X:Cx}{pins:List (Addr×Obj)}{σ:L2.St}{it dd D:Addr}{ep:Nat}
theorem HQ{R:Result->zb->Prop}{A:Yy}(hh:A.handled=none)(n1:it≠D)(n2:dd≠it)(n3:dd≠D){kvs:List (Key×V)}{vs:List (Key×Value)}(rel:KV kvs vs):∀(m k:Nat)(acc:List Value)(c:Nat)(H:Hp)(s:zb),Inv X pins σ H s->(∀b∈[it,D],jG X pins H b)->(∀b∈[it,D],b<s.heap.objs.size)->s.heap.DictAt (bA X.prog X.w) dd vs ep->k+m=vs.length->acc.length+m<=Xp->s.heap.get? D=some (LO acc.toArray c)->ISt s.heap it dd k vs.length ep->
  (∀(H':Hp)(h':Heap)(a1 c':Nat)(as:List Addr),Inv X pins σ H' {s with heap:=h',toks:=a1}->Same H H'->h'.get? D=some (LO (acc++as.map X5).toArray c')->as.length=m->as.Nodup->(∀a∈as,H a=none)->(∀(j:Nat)(a:Addr),as[j]? =some a->∃kv,kvs[k+j]? =some kv/\H' a=some (.tup [kV kv.1,kv.2]))->R (.ok (.ret (.ref D))) {s with heap:=h',toks:=a1})->
  aaH 1.11 A (.builtin "list.extend.loop" ⟨[.ref D,.ref it,.ref D],[]⟩) R s:=by
 intro m
 induction m with
 |zero=>
  intro k acc c H s I hf a0 hd B hs hD st r;refine Z3 F.jb_entry_ext ?_;rw[Zj F.jb_plain_ext _];unfold Builtin.«list.extend.loop»;dsimp only;obtain⟨h,g,d,tk,os⟩:=s;refine gD (RN (show A.in1.handled=none from hh) st hd (by simp;omega) λh' kp=>?_);refine Xg ?_;refine r H h' tk c [] ?_ (Same.refl H) (by simpa using kp D _ (Ne.symm n1) hD) rfl List.nodup_nil (by simp) (by simp);exact iQ (s:=⟨h,g,d,tk,os⟩) (t':=tk) (fp:=[it,D]) I hf λb u U e=>kp b u (λz=>U (by simp[z])) e
 |succ m ih=>
  intro k acc c H s I hf a0 hd B hs hD st r;refine Z3 F.jb_entry_ext ?_;rw[Zj F.jb_plain_ext _];unfold Builtin.«list.extend.loop»;dsimp only;obtain⟨h,g,d,tk,os⟩:=s;have a4:k<vs.length:=by omega
  have c1:vs[k]? =some (vs[k].1,vs[k].2):=by rw[Xk a4]
  have b2:k<kvs.length:=by rw[rel.length];exact a4
  have a9:kvs[k]? =some kvs[k]:=Xk b2;have a2:=qC rel a9 (Xk a4);refine gD (N_ st hd c1 λJ h1 a5 a7 c0 b5 b1 a3=>?_);dsimp only;have b0:h1.get? D=some (LO acc.toArray c):=a3 D _ (Ne.symm n1) hD;show wpAny _ _ (updateSeq D (λx=>x.push (.ref h.objs.size)) >>=_) _ _ _;refine gD (adi b0 rfl ?_ (by simp;omega) (by rw[Array.size_push];simp;omega));have q:IsL (h1.update D (Zi (·.push (.ref h.objs.size)))) D (acc.toArray.push (.ref h.objs.size)) _:=aaW (show IsL h1 D acc.toArray c from b0) (·.push (.ref h.objs.size));have k2:∀b,b≠D->(h1.update D (Zi (·.push (.ref h.objs.size)))).get? b=h1.get? b:=λb U=>Yd h1 _ (Ne.symm U);have z2:(h1.update D (Zi (·.push (.ref h.objs.size)))).objs.size=h.objs.size+1:=by rw[Z9];exact b1
  generalize h1.update D (Zi (·.push (.ref h.objs.size)))=h2 at q k2 z2⊢;obtain⟨c2,q2⟩:∃c2,h2.get? D=some (LO (acc++[X5 h.objs.size]).toArray c2):=⟨_,by rw[←aeL];exact q⟩;refine Xg ⟨aal F.jb_plain_ext _,?_⟩;have hn:H h.objs.size=none:=I.hok.fresh (Xn _);have b8:D<h.objs.size:=a0 D (by simp);have b4:RelV (kV kvs[k].1) J:=by
   have O:rW kvs[k].1 J=true:=by rw[a2.1];exact a7
   cases e:kvs[k].1 with
   |inl i=>
    rw[e]at O;rcases cB O with⟨j,t,z,rfl⟩|⟨x',t,z,rfl⟩
    .cases z;exact⟨t,rfl⟩
    .cases z
   |inr x=>
    rw[e]at O;rcases cB O with⟨j,t,z,_⟩|⟨x',t,z,rfl⟩
    .cases z
    .cases z;exact⟨t,rfl⟩
  have I2:Inv X pins σ (upd H h.objs.size (.tup [kV kvs[k].1,kvs[k].2])) {(⟨h,g,d,tk,os⟩:zb)with heap:=h2,toks:=a5}:=by
   refine mH (s:=⟨h,g,d,tk,os⟩) (fp:=[it,D]) (t':=a5) I hf (λb o U e=>?_) (Xn _) ?_
   .rw[k2 b λz=>U (by simp[z])]
    exact a3 b o (λz=>U (by simp[z])) e
   .refine⟨by show 2<=Xp;decide,[J,vs[k].2],.cons b4 (.cons a2.2 .nil),{cls:=.type "tuple",data:=.seq #[J,vs[k].2]},?_,rfl,0,rfl,rfl⟩
    rw[k2 _ (Y4 b8)];exact b5
  have sm:Same H (upd H h.objs.size (.tup [kV kvs[k].1,kvs[k].2])):=Same.new hn;have b7:h2.DictAt (bA X.prog X.w) dd vs ep:=by
   obtain⟨o,es,N,rest⟩:=hd;exact⟨o,es,(k2 dd n3).trans (a3 dd o n2 N),rest⟩
  refine ih (k+1) (acc++[.ref h.objs.size]) c2 _ _ I2 (λb U=>⟨by rw[aJ (XS (a0 b U))];exact(hf b U).1,(hf b U).2⟩) (λb U=>XC (a0 b U) (by show h.objs.size<=h2.objs.size;omega)) b7 1.10 (by simp;omega) q2 (c0.keep (λc o Y e=>(k2 c Y).trans e) n1 ⟨_,q2⟩) ?_;intro H' h' a1 c' as I' a8 b3 b6 nd a6 hg;have b9:H' h.objs.size=some (.tup [kV kvs[k].1,kvs[k].2]):=a8 _ _ aN;refine r H' h' a1 c' (h.objs.size::as) I' (sm.trans a8) (by simpa using b3) (by simp[b6]) (List.nodup_cons.mpr ⟨λz=>?_,nd⟩) (λa Z=>?_) λj a hj=>?_
  .have:=a6 _ z
   rw[aN]at this;cases this
  .rcases Xj.mp Z with e|e
   .rw[e];exact hn
   .have:=a6 a e
    cases e2:H a with
    |none=>rfl
    |some o=>rw[sm a o e2]at this;cases this
  .cases j with
   |zero=>
    cases hj;exact⟨_,a9,b9⟩
   |succ j=>
    rw[show k+(j+1)=k+1+j by omega];exact hg j a (by simpa using hj)
end
variable{A:Yy}{E:Value->zb->Prop}
open PySem.Builtin.List in
theorem HS{prog:X7}{D:Addr}{g:Array adO}{os:OsState}{c:Nat}{Q:acn->zb->Prop}{m:Sem acn}(I:h.get? D=some (LO #[] c))
  (N:∀h' B,(∀x,x≠D->h'.get? x=h.get? x)->h'.objs.size=h.objs.size->h'.get? D=some (LO #[] B)->wpAny 1.13 A m Q E ⟨h',g,d,tk,os⟩) :
  wpAny 1.13 A (if b=true then(do rule "list.extend.makes-room";let _ ←listTouch (.ref D);m)else m) Q E ⟨h,g,d,tk,os⟩:=by
 cases b with
 |false=>rw[Xz X6];exact N h c (λ_ _=>rfl) rfl I
 |true=>
  rw[Xu rfl];refine gD (abn ?_);unfold listTouch;refine gD (gD ?_);show wpAny _ _ (updateSeq D (λx=>x.push .none)) _ _ _;refine adi I rfl ?_ 1.27 1.27;have q:IsL (h.update D (Zi (·.push .none))) D (#[].push .none) _:=aaW (show IsL h D #[] c from I) (·.push .none);show wpAny _ _ (updateSeq D (λx=>x.pop)) _ _ _;refine adi q rfl ?_ 1.27 1.27;have Y:IsL ((h.update D (Zi (·.push .none))).update D (Zi (·.pop))) D ((#[].push .none).pop) _:=aaW q (·.pop);exact N _ _ (λx J=>(Yd _ _ (Ne.symm J)).trans (Yd h _ (Ne.symm J))) (by rw[Z9,Z9]) Y
variable{X:Cx}{σ:L2.St}{H:Hp}{v dd:Addr}
theorem v7{Q:List Value->zb->Prop}{kvs:List (Key×V)}{vs:List (Key×Value)}(q:A.handled=none)(I:Inv X pins σ H s)(rel:KV kvs vs)(hv:s.heap.IsItemsView v dd)(hd:s.heap.DictAt (bA X.prog X.w) dd vs ep)(hz:vs.length<=Xp)
  (hQ:∀(H':Hp)(s':zb)(as:List Addr),Inv X pins σ H' s'->Same H H'->as.length=vs.length->as.Nodup->(∀a∈as,H a=none)->(∀(j:Nat)(a:Addr),as[j]? =some a->∃N,kvs[j]? =some N/\H' a=some (.tup [kV N.1,N.2]))->Q (as.map X5) s'):wpAny 1.11 A (collect (.ref v)) Q E s:=by
 obtain⟨h,g,d,tk,os⟩:=s;have a2:dd<h.objs.size:=let⟨_,_,e,_⟩:=hd;Xm e;have a6:v<h.objs.size:=let⟨_,e,_⟩:=hv;Xm e;unfold collect;refine gD (wpAny_runValue (Z3 F.entry_proto_collect ?_));rw[Zj F.plain_proto_collect _];show wpAny _ A.in1 (acO [] >>=λl=>again (.builtin "list.__iadd__" ⟨[l,.ref v],[]⟩)) _ _ _;refine gD (YX ?_);refine Xg ⟨aal aeO _,Z3 F.entry_list_iadd ?_⟩;rw[Zj aeO _];show wpAny _ A.in1 (acp (.ref h.objs.size) (.ref v) (.ref h.objs.size)) _ _ ⟨h.push {cls:=.type "list",data:=.seq ([]:List Value).toArray},g,d,tk,os⟩;have a3:(h.push {cls:=.type "list",data:=.seq ([]:List Value).toArray}).get? h.objs.size=some (LO #[] 0):=Xr _ rfl;have k0:∀b o,h.get? b=some o->(h.push {cls:=.type "list",data:=.seq ([]:List Value).toArray}).get? b=some o:=λb o e=>za _ e;have s0:(h.push {cls:=.type "list",data:=.seq ([]:List Value).toArray}).objs.size=h.objs.size+1:=YM ..;generalize h.push {cls:=.type "list",data:=.seq ([]:List Value).toArray}=h0 at a3 k0 s0⊢;have U:h0.IsItemsView v dd:=let⟨o,a,b⟩:=hv;⟨o,k0 _ _ a,b⟩;have a8:h0.DictAt (bA X.prog X.w) dd vs ep:=let⟨o,es,a,b⟩:=hd;⟨o,es,k0 _ _ a,b⟩;have hT:(⟨h0,g,d,tk,os⟩:zb).TypeIs (.ref v) "dict_items":=let⟨o,a,b,_⟩:=U;⟨o,a,b⟩;unfold acp;refine gD (aab hT ?_);have a7:ac1 (.ref h.objs.size) (.ref v)=false:=by
  unfold ac1;have:¬h.objs.size=v:=Y4 a6;simp[this]
 rw[a7,Xz 1.27];refine gD (wpAny_pyIter_items U a8 ?_);have a1:IsItemIter (h0.push {cls:=.type "dict_itemiterator",data:=.fields #[.none,.bool false,.ref dd,.int 0 0,.int (vs.length:Int) 0,.int (ep:Int) 0,.none,.none]}) h0.objs.size dd 0 vs.length ep .none .none:=Xr _ rfl;show wpAny _ _ _ _ _ ⟨h0.push {cls:=.type "dict_itemiterator",data:=.fields #[.none,.bool false,.ref dd,.int 0 0,.int (vs.length:Int) 0,.int (ep:Int) 0,.none,.none]},g,d,tk,os⟩;have k1:∀b o,h0.get? b=some o->(h0.push {cls:=.type "dict_itemiterator",data:=.fields #[.none,.bool false,.ref dd,.int 0 0,.int (vs.length:Int) 0,.int (ep:Int) 0,.none,.none]}).get? b=some o:=λb o e=>za _ e;have B:(h0.push {cls:=.type "dict_itemiterator",data:=.fields #[.none,.bool false,.ref dd,.int 0 0,.int (vs.length:Int) 0,.int (ep:Int) 0,.none,.none]}).objs.size=h.objs.size+2:=by rw[YM,s0]
 generalize h0.push {cls:=.type "dict_itemiterator",data:=.fields #[.none,.bool false,.ref dd,.int 0 0,.int (vs.length:Int) 0,.int (ep:Int) 0,.none,.none]}=h1 at a1 k1 B⊢;refine gD (Za (Cm (let⟨o,a,b⟩:=hT;⟨o,k1 _ _ a,b⟩) ?_));rw[s0]at a1⊢;refine HS (D:=h.objs.size) (k1 _ _ a3) λh2 c2 J s2 a9=>?_;refine Xg ⟨aal F.jb_plain_ext _,?_⟩;have nn:h.objs.size+1≠h.objs.size:=acX _;have a4:∀b o,h.get? b=some o->h2.get? b=some o:=λb o e=>by
  rw[J b (XS (Xm e))];exact k1 _ _ (k0 _ _ e)
 have a0:∀c∈[h.objs.size+1,h.objs.size],h.objs.size<=c/\c<h2.objs.size:=λc Y=>by
  simp![Xj,Zk,aaX]at Y;rcases Y with e|e<;>rw[e]<;>(constructor<;>omega)
 refine HQ (X:=X) (pins:=pins) (σ:=σ) (A:=A) (D:=h.objs.size) (it:=h.objs.size+1) q nn (XS (abu a2)) (XS a2) rel vs.length 0 [] c2 H ⟨h2,g,d,tk,os⟩ (I.kept (t':=tk) a4) (λc Y=>I.fpOk (a0 c Y).1 (I.hok.fresh (a0 c Y).1)) (λc Y=>(a0 c Y).2) (let⟨o,es,a,b⟩:=hd;⟨o,es,a4 _ _ a,b⟩) 1.10 (by simpa using hz) a9 (.inl ⟨.none,.none,(J _ nn).trans a1⟩) ?_;intro H' h' O c' as I' sm a5 Z nd hn hg;show wpAny _ A (load h.objs.size >>=_) _ _ ⟨h',g,d,O,os⟩;refine gD (adR a5 ?_);refine Xg ?_;have:=hQ H' ⟨h',g,d,O,os⟩ as I' sm Z nd hn (λj a hj=>by simpa using hg j a hj);simpa using this
def R0(r:Str×Int):Key×V:=(XF r.1,V.int r.2)
def Jv(te:TE):TE:=λσ H Q=>te σ H λx H1=>∃(a:Addr)(U:List (Str×Int)),x= .ref a/\Rd H1 a (.dK (U.map R0))/\(U.map (·.1)).Nodup/\U.length<64/\
 ∀(H2:Hp)(J:List Addr)(p:List Nat)(l:Addr),Same H1 H2->J.length=U.length->J.Nodup->(∀c∈J,H1 c=none)->(∀(j:Nat)(c:Addr),J[j]? =some c->∃r,U[j]? =some r/\H2 c=some (.tup [.str r.1,.int r.2]))->Yt p (X3 U.length)->ZC (λi j=>ltS [nmA U j] [nmA U i]=false) p->H2 l=none->Q (.ref l) (upd H2 l (.lst (p.map λi=>(J.map V.ref).getD i V.non)))
variable{te:TE}{p1:Pos}
theorem J8(hg:Gl X "sorted")(J:X.mg "sorted"=none)(Y:X.calm=true)(he:PE X e te)(a1:aa1 e "items" X.env (eval e X.env)=eval e X.env:=by rfl)(a2:(apos.endLine==cpos.line)=true:=by rfl) :
  PE X (.Call (.Name "sorted" p1) [.Call (.Attribute e "items" apos) [] [] cpos] [] pos) (Jv te):=by
 intro pins s σ H Q I h;refine abg (mO I hg J acf ?_);refine ab2 ?_ rfl rfl;show wpAny _ _ (spliced ((false,eval (.Call (.Attribute e "items" apos) [] [] cpos) X.env)::ZK pos (Xy [] X.env))) _ _ s;refine aep ?_;refine wpAny_Call_method0_late a1 a2 (thn (he pins s σ H _ I h) λu B ⟨x,H1,I1,rx,a,U,ex,a7,hn,Z,q⟩=>?_);subst ex;cases rx;obtain⟨hz,a8,vs,rel,dd⟩:=uw I1.hok a7;obtain⟨ep,ob,es,g,xx,d,N,r2,r3⟩:=dd.dictAt;have b1:B.heap.DictAt (bA X.prog X.w) a vs ep:=⟨ob,es,g,xx,d,N,r2,r3⟩;have a6:U.length=vs.length:=by have:=rel.length;simpa using this
 refine⟨"dict","dict.items",F.plainAttrs_dict,aeP,F.type_dict_items,dd.typeIs,λb e2=>?_,adt rfl (PySem.evalArgs_none ?_)⟩
 .cases e2;exact⟨ob,g,xx.2.1⟩
 refine aex aeP dd.typeIs F.entry_dict_items (F.args_dict_items_1 _) (meets_dict_items (bA X.prog X.w) a a8) ⟨⟨vs,dd⟩,?_⟩;refine aeI ?_;obtain⟨h0,g0,d0,tk,os⟩:=B;have hh:X.A.in1.handled=none:=I1.ok.hd Y;have I2:Inv X pins σ H1 {(⟨h0,g0,d0,tk,os⟩:zb)with heap:=h0.push {cls:=.type "dict_items",data:=.fields #[.ref a]},toks:=tk}:=I1.kept (t':=tk) λb o e=>za _ e;refine qT λE' Q' a9=>v7 (A:=X.A.in1) hh I2 rel ⟨_,Xr _ rfl,rfl,rfl⟩ ⟨ob,es,za _ g,xx,d,N,r2,r3⟩ (Yz (Z_ (a6▸Z)) 1.27) λH2 s2 as I3 sm b0 nd a3 hg=>?_;have a0:∀(j:Nat)(c:Addr),as[j]? =some c->∃r,U[j]? =some r/\H2 c=some (.tup [.str r.1,.int r.2]):=λj c hj=>by
  obtain⟨kv,e1,e2⟩:=hg j c hj;rw[List.getElem?_map]at e1;cases O:U[j]? with
  |none=>simp[O]at e1
  |some r=>
   rw[O]at e1;cases e1;exact⟨r,rfl,e2⟩
 have hv:Vals (as.map V.ref) (as.map X5):=by
  clear hg a0 nd a3 b0
  induction as with
  |nil=>exact .nil
  |cons c r ih=>exact .cons (show RelV (V.ref c) (X5 c)from rfl) ih
 refine a9 _ _ (wu I3 hv (by simp;omega) (λi x n O=>?_) hn Z λp hp hw l a5=>q H2 as p l sm 1.10 nd a3 a0 hp hw a5);have a4:i<as.length:=by have:=(qb.mp O).1;omega
 obtain⟨r,e1,e2⟩:=a0 i as[i] (Xk a4);rw[O]at e1;cases e1;exact⟨as[i],by simp[a4],.inl (.inl e2)⟩
def Iv(K:Xl):List V->Hp->VK->Prop:=λZ H Q=>∃(a:Addr)(xs:List V)(U:List (Str×Int)),Z=[.ref a]/\SqL K H a xs/\xs.length=U.length/\(∀(i:Nat)(x:Str)(n:Int),U[i]? =some (x,n)->∃b,xs[i]? =some (.ref b)/\SqT K H b [.str x,.int n])/\(U.map (·.1)).Nodup/\U.length<64/\
 ∀p:List Nat,Yt p (X3 U.length)->ZC (λi j=>ltS [nmA U j] [nmA U i]=false) p->∀l,H l=none->Q (.ref l) (upd H l (.lst (p.map λi=>xs.getD i V.non)))
theorem yx:dO X (.builtin "sorted") (Iv X.K):=by
 intro pins s σ H ws us Q I r h;obtain⟨a,xs,U,rfl,hq,a0,J,hn,Z,q⟩:=h;obtain⟨u,rfl,O⟩:=vals1 r;cases O;obtain⟨B,rv,pl,hz⟩:=I.list hq;obtain⟨o,N,Y,n,hd⟩:=pl.isList;have a1:B.toArray.size<=Xp:=by have:=rv.length;simp;omega
 refine qT λV Q' F=>wpAny_collect_seq a (.inl rfl) N Y hd (λh' hk=>?_) a1;rw[aeh];exact F _ _ (wu (I.kept (t':=s.toks) hk) rv a0 J hn Z q)
def rwD(p:Str×Int):D:=.tup [.str p.1,.int p.2]
def rowsOf:List D->Option (List (Str×Int))
 |[]=>some []
 |.tup [.str x,.int n]::r=>(rowsOf r).map ((x,n)::·)
 |_=>none
theorem wL:∀{ds:List D}{B:List (Str×Int)},rowsOf ds=some B->ds=B.map rwD
 |[],B,h=>by cases h;rfl
 |d::r,B,h=>by
  unfold rowsOf at h;split at h
  .rename_i e;cases e
  .rename_i x n r' e
   cases e;simp![aaL]at h;obtain⟨t,h1,rfl⟩:=h;rw[wL h1];rfl
  .cases h
def wz(U:List (Str×Int))(x:Str):Int:=((U.find? λr=>decide (r.1=x)).map (·.2)).getD 0
def gZ(U:List (Str×Int)):List (Str×Int):=(vU (U.map (·.1))).map λx=>(x,wz U x)
theorem Fi:∀{U:List (Str×Int)}{i:Nat}{r:Str×Int},(U.map (·.1)).Nodup->U[i]? =some r->U.find? (λq=>decide (q.1=r.1))=some r
 |[],i,r,_,h=>by simp at h
 |q::t,0,r,hn,h=>by cases h;simp
 |q::t,i+1,r,hn,h=>by
  rw[Xi,Yo]at hn;have h':t[i]? =some r:=by simpa using h
  have J:r.1∈t.map (·.1):=zc.mpr ⟨r,Xw h',rfl⟩;have Y:¬q.1=r.1:=λz=>hn.1 (z▸J);rw[Y5];simp![Y,decide_false];exact Fi hn.2 h'
variable{p:List Nat}
theorem JC(hn:(U.map (·.1)).Nodup)(F:Yt p (X3 U.length))(q:ZC (λi j=>ltS [nmA U j] [nmA U i]=false) p):(p.map λi=>U.getD i ("",0))=gZ U:=by
 have hi:∀i∈p,i<U.length:=λi h=>YF.mp (F.mem_iff.mp h);have I:∀i,i<U.length->nmA U i=(U.getD i ("",0)).1:=λi h=>by simp[nmA,h]
 have e1:(p.map λi=>[nmA U i])=jc ((U.map (·.1)).map λy=>[y]):=by
  refine pK ?_ ?_ (jT _)
  .refine adk ?_ (du _).symm
   refine(F.map λi=>[nmA U i]).trans ?_;have:((X3 U.length).map λi=>[nmA U i])=(U.map (·.1)).map λy=>[y]:=by
    apply abv;intro k;simp![List.getElem?_map];by_cases B:k<U.length
    .rw[ab8 B];simp[nmA,B]
    .rw[List.getElem?_eq_none (by simpa using B),List.getElem?_eq_none (by simpa using B)];rfl
   rw[this]
  .exact ZF.mpr q
 have e2:(p.map λi=>nmA U i)=vU (U.map (·.1)):=by
  unfold vU;rw[←e1,Xh];rfl
 unfold gZ;rw[←e2,Xh];refine XM λi h=>?_;have Z:=hi i h;have J:U[i]? =some (U.getD i ("",0)):=by simp[Z]
 have O:=Fi hn J;simp![YG,wz,I i Z,O,Yb,aaz]
variable{G:Gc}{W:Wn}
theorem rE{ds:List D}{xs:List V}(r:aD G H W ds xs []):∀p:List Nat,(∀i∈p,i<ds.length)->aD G H W (p.map λi=>ds.getD i .non) (p.map λi=>xs.getD i V.non) []
 |[],_=>.nil
 |i::p,h=>by
  have Z:=h i (by simp);obtain⟨x,M,h1,h2,O⟩:=r.get (j:=i) (d:=ds[i]) (Xk Z);obtain rfl:M=[]:=by simpa using O
  refine aD.cons (M:=[]) (M':=[]) ?_ (rE r p λj I=>h j (by simp[I]));have e1:ds.getD i .non=ds[i]:=by simp[Z]
  have e2:xs.getD i V.non=x:=by simp[Yi,h1]
  show Rep G H W (ds.getD i .non) (xs.getD i V.non) [];rw[e1,e2];exact h2
theorem Ge:∀B:List (Str×Int),lq (B.map rwD)=true
 |[]=>rfl
 |r::q=>by rw[Xi,lq,Ge q];rfl
theorem vA(hn:(U.map (·.1)).Nodup)(F:Yt p (X3 U.length))(q:ZC (λi j=>ltS [nmA U j] [nmA U i]=false) p):(p.map λi=>(U.map rwD).getD i .non)=(gZ U).map rwD:=by
 rw[←JC hn F q,Xh];refine XM λi hi=>?_;have N:i<U.length:=YF.mp (F.mem_iff.mp hi);simp![YG];rw[Yi,List.getElem?_map,Yi,Xk N];rfl
def j8:List D->Option D
 |[.lst m ds]=>match rowsOf ds with
  |some (r::rs)=>if((r::rs).map (·.1)).Nodup/\rs.length<60 then some (.lst .own ((gZ (r::rs)).map rwD))else none
  |_=>dg [.lst m ds]
 |ds=>dg ds
variable{X:ι->Cx}
theorem Bl(A:Yy)(hA:∀c,(X c).A=A)(hu:A.units+2<cLine)(Y:∀c,(X c).calm=true)(hK:∀c,(X c).K=G.K:=by intro _;rfl):CaB X G (.builtin "sorted") j8:=by
 obtain⟨r,o1,o2⟩:=(jW (X:=X) (G:=G) A hA hu Y hK).ex;refine⟨λxs H Q=>Iv G.K xs H Q∨r xs H Q,λc pins s σ H xs us Q I J h=>?_,λds d e xs H W L0 rp nd hn w Q q=>?_⟩
 .rcases h with h|h
  .rw[←hK c]at h;exact yx pins s σ H xs us Q I J h
  .exact o1 c pins s σ H xs us Q I J h
 unfold j8 at e;split at e
 .rename_i m ds
  split at e
  .rename_i r0 rs hro
   split at e
   .rename_i hcd
    cases e;refine .inl ?_;have a0:=wL hro;obtain⟨x,yr,M,M',rfl,rfl,q1,q2⟩:=rp.inv;obtain⟨rfl,rfl⟩:=q2.inv0;rw[Rep]at q1;obtain⟨a,ys,M1,rfl,N,B⟩:=q1;have a1:lq ds=true:=by rw[a0];exact Ge _
    have z1:=qL N a1;subst z1;have a4:ys.length=(r0::rs).length:=by rw[←N.length,a0,Xq]
    refine⟨a,ys,r0::rs,rfl,B.sq,a4,λi x n O=>?_,hcd.1,by simp;omega,λp F hw l Z=>?_⟩
    .obtain⟨v,M,h1,h2,h3⟩:=N.get (j:=i) (d:=rwD (x,n)) (by rw[a0,List.getElem?_map,O];rfl)
     have h2:Rep G H W (.tup [.str x,.int n]) v M:=h2;rw[Rep]at h2;obtain⟨b,zs,rfl,U,hz⟩:=h2;obtain⟨x1,y1,_,_,rfl,_,w1,w2⟩:=hz.inv;obtain⟨x2,y2,_,_,rfl,_,w3,w4⟩:=w2.inv;obtain⟨rfl,_⟩:=w4.inv0;rw[Rep]at w1;rw[Rep]at w3;obtain⟨rfl,_⟩:=w1;obtain⟨rfl,_⟩:=w3;exact⟨b,h1,.inl (.inl U)⟩
    .refine q (.ref l) _ [l] (Same.new Z) ?_ (λc a3=>.inr (by rw[Xv.mp a3];exact Z)) (List.nodup_cons.mpr ⟨by simp,List.nodup_nil⟩)
     rw[Rep];refine⟨l,_,[],rfl,?_,aN,rfl⟩;have a2:∀i∈p,i<ds.length:=λi h=>by rw[a0,Xq];exact YF.mp (F.mem_iff.mp h)
     have hk:=Ln (H':=upd H l (.lst (p.map λi=>ys.getD i V.non))) (W':=(W.drop (M++[])).add [l]) N (rB a1) (λb zs h=>by rw[aJ (aY h Z)];exact h) (by simp);have:=rE hk p a2;have e3:(p.map λi=>ds.getD i .non)=(gZ (r0::rs)).map rwD:=by rw[a0];exact vA hcd.1 F hw
     rw[e3]at this;exact this
   .cases e
  .exact .inr (o2 _ d e xs H W L0 rp nd hn w Q q)
 .exact .inr (o2 _ d e xs H W L0 rp nd hn w Q q)
theorem zR:∀{ns:List Int}{vs:List V}{M:List Addr},aD G H W (ns.map D.int) vs M->vs=ns.map V.int
 |[],vs,M,r=>r.inv0.1
 |n::t,vs,M,r=>by
  obtain⟨x,I,B,Y,rfl,rfl,F,q⟩:=aD.inv (r:=t.map D.int) r;rw[Rep]at F;rw[F.1,zR q];rfl
theorem zE:∀{U:List (Str×Int)}{J:List Addr},J.length=U.length->(∀(j:Nat)(c:Addr),J[j]? =some c->∃r,U[j]? =some r/\H c=some (.tup [.str r.1,.int r.2]))->aD G H W (U.map rwD) (J.map V.ref) []
 |[],[],_,_=>.nil
 |[],c::J,h,_=>by cases h
 |r::U,[],h,_=>by cases h
 |r::U,c::J,h,hh=>by
  obtain⟨F,e,Y⟩:=hh 0 c rfl;cases e;refine aD.cons (M:=[]) (M':=[]) ?_ (zE (by simpa using h) λj B e=>by simpa using hh (j+1) B (by simpa using e));show Rep G H W (.tup [.str r.1,.int r.2]) (.ref c) [];rw[Rep];refine⟨c,_,rfl,Y,?_⟩;refine aD.cons (M:=[]) (M':=[]) (by rw[Rep];exact⟨rfl,rfl⟩) (aD.cons (M:=[]) (M':=[]) (by rw[Rep];exact⟨rfl,rfl⟩) .nil)
theorem MJ:∀{kvs:List (Key×V)}{ys:List Str}{ns:List Int},kvs.map (·.1)=ys.map XF->kvs.map (·.2)=ns.map V.int->kvs=(ys.zip ns).map R0/\(ys.zip ns).map (·.1)=ys
 |[],[],ns,_,_=>⟨rfl,rfl⟩
 |[],y::ys,ns,h,_=>by cases h
 |q::t,[],ns,h,_=>by cases h
 |q::t,y::ys,[],_,h=>by cases h
 |q::t,y::ys,n::ns,h1,h2=>by
  simp![Xi,aa_]at h1 h2;obtain⟨e1,e2⟩:=MJ h1.2 h2.2;obtain⟨a,b⟩:=q;simp![aeA,Xi,←e1,e2,R0];simp only at h1 h2;rw[h1.1,h2.1];exact⟨rfl,trivial⟩
def uW:List D->Option (List Int)
 |[]=>some []
 |.int i::r=>(uW r).map (i::·)
 |_=>none
theorem Ai:∀{ds:List D}{ns:List Int},uW ds=some ns->ds=ns.map D.int
 |[],ns,h=>by cases h;rfl
 |d::r,ns,h=>by
  cases d<;>simp![uW]at h<;>try cases h
  simp![aaL]at h;obtain⟨t,h1,rfl⟩:=h;rw[Ai h1];rfl
def t8:D->Option D
 |.dct m ks ds=>(rY ks).bind λys=>(uW ds).bind λns=>if(m== .scr)=false/\ys.length<64 then some (.lst .own ((gZ (ys.zip ns)).map rwD))else none
 |_=>none
def eSI(f:En->Option D):En->Option D:=λρ=>(f ρ).bind t8
variable{f:En->Option D}
theorem Ja(h:RfE G ob te f):RfE G ob (Jv te) (eSI f):=λρ d e σ H W I w Q q=>by
 cases h1:f ρ with
 |none=>simp[eSI,h1]at e
 |some x=>
  have e:t8 x=some d:=by simpa[eSI,h1]using e
  refine h ρ x h1 σ H W I w _ λv H' L s rx fr nd=>?_;unfold t8 at e;split at e
  .rename_i m ks ds
   cases B:rY ks with
   |none=>simp[B]at e
   |some ys=>
   cases hd:uW ds with
   |none=>simp[B,hd]at e
   |some ns=>
   simp![B,hd,Mx]at e;split at e
   .rename_i hcd
    cases e;rw[Rep]at rx;obtain⟨a,kvs,M,rfl,⟨U,a2⟩,a0,st⟩:=rx;have a1:=Bs B;have a4:=Ai hd;rw[a4]at a0;obtain⟨e1,e2⟩:=MJ (U.trans a1) (zR a0);have V:((ys.zip ns).map (·.1)).Nodup:=by
     rw[e2];rw[a1]at a2;exact List.Pairwise.imp (λh z=>h (congrArg XF z)) (ZF.mp a2)
    have O:(ys.zip ns).length<64:=by have:=congrArg Zz e2;rw[Xq]at this;rw[this];exact hcd.2
    refine⟨a,ys.zip ns,rfl,.inl (by rw[←e1];exact st.at2 hcd.1),V,O,λH2 J p l Y a3 a6 a7 has F hw Z=>?_⟩;refine q (.ref l) _ [l] (s.trans (Y.trans (Same.new Z))) ?_ (λc a5=>?_) (List.nodup_cons.mpr ⟨by simp,List.nodup_nil⟩)
    .rw[Rep]
     refine⟨l,_,[],rfl,?_,aN,rfl⟩;rw[←vA V F hw];refine rE (zE a3 λj c e=>?_) p λi hi=>by rw[Xq];exact YF.mp (F.mem_iff.mp hi)
     obtain⟨r,z1,z2⟩:=has j c e;exact⟨r,z1,by rw[aJ (aY z2 Z)];exact z2⟩
    .rw[Xv.mp a5]
     cases N:H l with
     |none=>rfl
     |some o=>exact absurd ((s.trans Y) _ _ N) (by rw[Z];exact nofun)
   .cases e
  .cases e
theorem Ju(F:∀c,Gl (X c) "sorted")(J:∀c,(X c).mg "sorted"=none)(V:PV X G ob e f)(B:(apos.endLine==cpos.line)=true:=by rfl)(q:∀c,aa1 e "items" (X c).env (eval e (X c).env)=eval e (X c).env:=by intro _;rfl)(Y:∀c,(X c).calm=true:=by intro _;rfl) :
  PV X G ob (.Call (.Name "sorted" p1) [.Call (.Attribute e "items" apos) [] [] cpos] [] pos) (eSI f):=
 let⟨t,a1,a2⟩:=V.ex
 ⟨_,λc=>J8 (F c) (J c) (Y c) (a1 c) (q c) B,Ja a2⟩
end Jb
namespace PySem
open PySem.Builtin PySem.Builtin.SmallTypes PyProof.Rows
namespace F
theorem pA:Manifest.owners.lookup (String.ofList ['d','e','s','r','e','v','e','r'].reverse)=some Manifest.sig_reversed:=by kernel_rfl
theorem jb_lk_tup_rev:acH (.type "tuple") "__reversed__"=pure none:=by rw[aah,Zt];kernel_rfl
theorem jb_sub_tup_dict:aew (.type "tuple") (.type "dict")=pure false:=by rw[Z7];kernel_rfl
theorem jb_slot_rev_next:Slot "reversed" "__next__" "reversed.__next__" :=
 .of (owner:="reversed") (n:="__next__") (by rw[aah,Zt];kernel_rfl) (by decide +kernel) (by decide +kernel) (by decide +kernel)
  (by first|exact .inl (by decide +kernel)|exact .inr (by decide +kernel)) (by rw[Z7];kernel_rfl)
theorem jb_entry_rev_next:adY table "reversed.__next__"=some Builtin.«reversed.__next__»:=acV (by kernel_rfl)
theorem jb_args_rev_next(a:Value):argsOk "reversed.__next__" ⟨[a],[]⟩:=by
 unfold argsOk;rw[signature?_of (id:="reversed.__next__") (n:=['_','_','t','x','e','n','_','_']) (o:=['d','e','s','r','e','v','e','r']) (by kernel_rfl) pA];kernel_rfl
theorem jb_slot_rev_iter:Slot "reversed" "__iter__" "reversed.__iter__" :=
 .of (owner:="reversed") (n:="__iter__") (by rw[aah,Zt];kernel_rfl) (by decide +kernel) (by decide +kernel) (by decide +kernel)
  (by first|exact .inl (by decide +kernel)|exact .inr (by decide +kernel)) (by rw[Z7];kernel_rfl)
theorem jb_args_rev_iter(a:Value):argsOk "reversed.__iter__" ⟨[a],[]⟩:=by
 unfold argsOk;rw[signature?_of (id:="reversed.__iter__") (n:=['_','_','r','e','t','i','_','_']) (o:=['d','e','s','r','e','v','e','r']) (by kernel_rfl) pA];kernel_rfl
theorem jb_entry_rev_iter:adY table "reversed.__iter__"=some Builtin.«dict_keyiterator.__iter__»:=
 entryFor_alias (id':="dict_keyiterator.__iter__") (by kernel_rfl) (by first|rfl|decide +kernel|(unfold String.splitOn;simp +decide [String.splitOnAux])) (by decide +kernel) (by kernel_rfl)
theorem rJ:Slot "reversed" "__init__" "object.__init__" :=
 .of (owner:="object") (n:="__init__") (by rw[aah,Zt];kernel_rfl) (by decide +kernel) (by decide +kernel) (by decide +kernel)
  (by first|exact .inl (by decide +kernel)|exact .inr (by decide +kernel)) (by rw[Z7];kernel_rfl)
theorem jb_called_rev:TypeCalled "reversed" "reversed.__new__" "object.__init__" :=
 ⟨by decide +kernel,by decide +kernel,⟨_,_,mro_reversed⟩,madeBy_type mro_reversed lookup_reversed_new (by decide +kernel),by decide +kernel,by rw[Z7];kernel_rfl,rJ⟩
end F
section
variable{prog:Program}{w:World}{A:Around}{E:Value->Shared->Prop}{it t:Addr}{items:Array Value}{h:Heap}{g:Array GenState}{d:Drawn}{tk:Nat}{os:OsState}
def RvO(t:Addr)(i:Int):Obj:={cls:=.type "reversed",data:=.fields #[.ref t,Zv i]}
theorem vR{Q:acn->zb->Prop}(J:h.IsTuple t items)(U:(items.size:Int)<2 ^ 63)
  (N:Q (.done (.ret (.ref h.objs.size))) ⟨h.push (RvO t ((items.size:Int)-1)),g,d,tk+1+1,os⟩):wpAny 1.13 A (Builtin.«reversed.__new__» ⟨[.type "reversed",.ref t],[]⟩) Q E ⟨h,g,d,tk,os⟩:=by
 have I:(⟨h,g,d,tk,os⟩:zb).TypeIs (.ref t) "tuple":=J.typeIs;have V:=F.sub_reversed_self;have Y:=F.jb_lk_tup_rev;have B:=F.jb_sub_tup_dict;have O:=Ys.lookup;have q:IsTup (⟨h,g,d,tk,os⟩:zb).heap t items:=J
 repeat(any_goals(first|assumption|(with_reducible refine gD (PyProof.Rows.len_tuple q U ?_))|wp_step))
theorem nR{Q:Value->zb->Prop}(q:h.IsTuple t items)(U:(items.size:Int)<2 ^ 63)
  (N:Q (.ref h.objs.size) ⟨h.push (RvO t ((items.size:Int)-1)),g,d,tk+1+1,os⟩) :
  wpAny 1.13 A (call (.type "reversed") [.ref t]) Q E ⟨h,g,d,tk,os⟩:=by
 refine adI F.jb_called_rev 1.27 (F.typeCall_reversed_1 _) (F.newCall_reversed_1 _) (λobj=>ad0 _ _) F.entry_reversed_new (S:=λZ R s'=>s'=⟨h,g,d,tk,os⟩/\R (.ok (.ret (.ref h.objs.size))) ⟨h.push (RvO t ((items.size:Int)-1)),g,d,tk+1+1,os⟩) ?_ ⟨rfl,⟨⟨_,Xr _ rfl,rfl⟩,N⟩⟩;rintro Z R s' ⟨rfl,O⟩;exact vR q U O
theorem Gq{Q:Option Value->zb->Prop}{i:Nat}{x:Value}(N:h.get? it=some (RvO t (i:Int)))(Z:h.IsTuple t items)(a0:t≠it)(J:items[i]? =some x)(U:(items.size:Int)<2 ^ 63)
  (V:∀h',h'.get? it=some (RvO t ((i:Int)-1))->aaR it h h'->Q (some x) ⟨h',g,d,tk+1,os⟩):wpAny 1.13 A (aaa (.ref it)) Q E ⟨h,g,d,tk,os⟩:=by
 have I:(⟨h,g,d,tk,os⟩:zb).TypeIs (.ref it) "reversed":=⟨_,N,rfl⟩;have O:(⟨h,g,d,tk,os⟩:zb).TypeIs (.ref t) "tuple":=Z.typeIs;unfold aaa;refine gD (aak (Yw (name:=ZM "__next__") I F.jb_slot_rev_next
  (aav F.jb_slot_rev_next I F.jb_entry_rev_next ?_ (F.jb_args_rev_next _))))
 unfold Builtin.«reversed.__next__»;refine gD (aa4 (a:=(X5 it,[])) rfl ?_)
 try dsimp only
 refine gD (ZL N rfl (x:=.ref t) rfl ?_);refine gD (ZL N rfl (x:=Zv (i:Int)) rfl ?_);show wpAny _ _ (if(i:Int)<0 then _ else _) _ _ _;rw[Xz 1.10];show wpAny _ _ (specialOf (.ref t) "__getitem__" >>=_) _ _ _;refine gD (wpAny_specialOf O slot_tuple_getitem.lookup ?_);rw[Xz 1.27];have q:IsTup h t items:=Z;have Y:i<items.size:=(Array.getElem?_eq_some_iff.mp J).1;have B:aes (i:Int) items.size=some i:=ado 1.10 (by simpa using Y);refine gD (wpAny_mkInt ?_);refine gD (aak (PyProof.Rows.getItem_tuple q 1.10 1.10 B J ?_))
 show 1
 refine⟨x,rfl,Xg (V _ ?_ (Heap.SameBut.update ..))⟩;exact ZX _ N rfl
theorem JS{Q:Option Value->zb->Prop}(q:A.handled=none)(N:h.get? it=some (RvO t (-1)))
  (V:∀h',(∀b o,b≠it->h.get? b=some o->h'.get? b=some o)->Q none ⟨h',g,d,tk,os⟩):wpAny 1.13 A (aaa (.ref it)) Q E ⟨h,g,d,tk,os⟩:=by
 have I:(⟨h,g,d,tk,os⟩:zb).TypeIs (.ref it) "reversed":=⟨_,N,rfl⟩;unfold aaa;refine gD (aak (Yw (name:=ZM "__next__") I F.jb_slot_rev_next
  (aav F.jb_slot_rev_next I F.jb_entry_rev_next ?_ (F.jb_args_rev_next _))))
 unfold Builtin.«reversed.__next__»;refine gD (aa4 (a:=(X5 it,[])) rfl ?_)
 try dsimp only
 refine gD (ZL N rfl (x:=.ref t) rfl ?_);refine gD (ZL N rfl (x:=Zv (-1)) rfl ?_);show wpAny _ _ (if(-1:Int)<0 then _ else _) _ _ _;rw[Xu 1.27];have B:A.in1.handled=none:=q
 show 1
 simp![raiseNew];refine gD (acy ?_);rw[B];refine gD (Xg (abC ?_));refine gD (ZV (T:="StopIteration") (b:=true) ⟨_,Xr _ rfl,rfl⟩ isSubtype_stop ?_);refine Xg (V _ λb o U e=>?_);exact za _ (za _ ((Yd _ _ (Ne.symm U)).trans ((Yd _ _ (Ne.symm U)).trans e)))
theorem wN{Q:Value->zb->Prop}{i:Int}(N:h.get? it=some (RvO t i))(q:Q (.ref it) ⟨h,g,d,tk,os⟩):wpAny 1.13 A (pyIter (.ref it)) Q E ⟨h,g,d,tk,os⟩:=by
 have I:(⟨h,g,d,tk,os⟩:zb).TypeIs (.ref it) "reversed":=⟨_,N,rfl⟩;refine wpAny_pyIter_slot I F.jb_slot_rev_iter (aav F.jb_slot_rev_iter I F.jb_entry_rev_iter ?_ (F.jb_args_rev_iter _));show wpAny _ _ (ret (.ref it)) _ _ _;exact Xg ⟨_,rfl,"reversed",_,I,F.jb_slot_rev_next.lookup,q⟩
end
end PySem
namespace Jb
open PySem PySem.Spec PyProof.Rows L2
def Wi(K:Xl)(a:Addr)(n:Nat):It:=
 ⟨λi H=>∃xs x,SqT K H a xs/\xs.length=n/\i<n/\xs[n-1-i]? =some x,λi H x H'=>H'=H/\∀xs,SqT K H a xs->xs[n-1-i]? =some x,λi H=>∃xs,SqT K H a xs/\xs.length=n/\n<=i⟩
theorem H_{K:Xl}(a it:Addr)(n:Nat)(a1:a≠it) :
  Turn P w K tg (Wi K a n) [it] it (λi h=>i<=n/\h.get? it=some (RvO a ((n:Int)-1-(i:Int))))where
 mem:=by simp
 obj:=λi h st b U=>by
  obtain rfl:b=it:=by simpa using U
  exact⟨_,st.2,λv z=>by cases z⟩
 keep:=λi h h' st k=>⟨st.1,k it (by simp) _ st.2⟩
 item:=by
  intro X hP q hK Y i pins s σ H E I O st F;subst hP q hK;obtain⟨xs,x,hq,hn,hi,J⟩:=F;obtain⟨B,rv,p,hz⟩:=I.tuple hq;obtain⟨u,V,ru⟩:=rv.get J;obtain⟨f0,f1,f2,f3,f4,f5⟩:=O it (by simp);obtain⟨h0,g,d,tk,os⟩:=s;obtain⟨a2,N⟩:=st;have e:(n:Int)-1-(i:Int)=((n-1-i:Nat):Int):=by omega
  rw[e]at N;have Z:=rv.length;have a3:(B.toArray.size:Int)<2 ^ 63:=by
   have:Xp<2 ^ 63:=by decide
   simp;omega
  refine Gq (items:=B.toArray) (x:=u) N p a1 (by simpa using V) a3 λh' a0 sb=>?_;have I1:Inv X pins σ H ⟨h',g,d,tk+1,os⟩:=I.turned (t':=tk+1) (λb o U e=>(sb.2 b U).trans e) f0 f1 f3 f4 f5;refine⟨u,rfl,zJ (s:=⟨h',g,d,tk+1,os⟩) a0 rfl rfl 1.27 ⟨x,H,I1,ru,⟨rfl,λys hy=>by rw[I.tuple_inj hy hq];exact J⟩,⟨by omega,?_⟩,λb U=>(O b U).1⟩⟩;have e2:(n:Int)-1-((i+1:Nat):Int)=((n-1-i:Nat):Int)-1:=by omega
  rw[e2];exact a0
 done:=by
  intro X hP q hK Y i pins s σ H E I O st F;subst hP q hK;obtain⟨xs,hq,hn,hi⟩:=F;obtain⟨f0,f1,f2,f3,f4,f5⟩:=O it (by simp);obtain⟨h0,g,d,tk,os⟩:=s;obtain⟨a2,N⟩:=st;have e:(n:Int)-1-(i:Int)= -1:=by omega
  rw[e]at N;exact JS (I.ok.hd Y) N λh' eb=>⟨rfl,I.turned (t':=tk) (λb o U e=>eb b o U e) f0 f1 f3 f4 f5⟩
 self:=λA i s Q E st h=>wN st.2 h
def QW(K:Xl)(ta:TA):TI:=λσ H R=>ta σ H λvs H1=>∃a xs,vs=[.ref a]/\SqT K H1 a xs/\R (Wi K a xs.length) H1
variable{X:Cx}{ta:TA}{p:Pos}
theorem NZ(F:Gl X "reversed")(J:X.mg "reversed"=none)(Z:PA X [e] ta)(hs:Xy [e] X.env=[(false,eval e X.env)]:=by rfl):PI X tg (.Call (.Name "reversed" p) [e] [] pos) (QW X.K ta):=by
 intro pins s σ H R I h;refine Call_ (mO I F J boot_reversed (ZJ (thn (Z pos pins s σ H _ I h) λus s1 ⟨vs,H1,O,r1,q1⟩=>?_) hs rfl));obtain⟨a,xs,ev,N,q⟩:=q1;subst ev;obtain⟨u,rfl,ru⟩:=vals1 r1;cases ru;obtain⟨B,rv,pl,hz⟩:=O.tuple N;obtain⟨V,g,d,tk,os⟩:=s1;have hl:=rv.length;have a1:(B.toArray.size:Int)<2 ^ 63:=by
  have:Xp<2 ^ 63:=by decide
  simp;omega
 refine nR (items:=B.toArray) pl a1 ?_;refine wN (Xr _ rfl) ?_;have U:Inv X pins σ H1 ⟨V.push (RvO a ((B.toArray.size:Int)-1)),g,d,tk+1+1,os⟩:=O.kept (t':=tk+1+1) (λb o e=>za _ e);have a0:a<V.objs.size:=let⟨_,h1,_⟩:=pl;Xm h1;refine⟨V.objs.size,[V.objs.size],_,_,H1,rfl,U,H_ a _ xs.length (XS a0),⟨ZP _,?_⟩,λc Y=>?_,q⟩
 .have e3:(xs.length:Int)-1-((0:Nat):Int)=(B.toArray.size:Int)-1:=by simp;omega
  rw[e3];exact Xr _ rfl
 .have hb2:V.objs.size<=c:=by rw[Xv.mp Y];exact Xn _
  exact O.fpOk hb2 (O.hok.fresh hb2)
end Jb
namespace PySem
open PySem.Builtin PySem.Builtin.List PySem.Builtin.SmallTypes
section
variable{prog:Program}{w:World}{A:Around}{E:Value->Shared->Prop}{z TI TO i1 i2 l1 l2 p:Addr}{k:Nat}{xs ys:Array Value}{x y u v:Value}{b:Bool}{h:Heap}{g:Array GenState}{d:Drawn}{tk:Nat}{os:OsState}
theorem Hl{Q:Option Value->zb->Prop}(q:A.handled=none)(ap:ZipApart z TI TO i1 i2 l1 l2)(hz:IsZip h z TI TO .none)(hT:Z6 h TI (.ref i1) (.ref i2))(hO:Z6 h TO u v)(B:h.IsTupleIter i1 l1 k)(Y:h.IsTupleIter i2 l2 k)(p1:h.IsTuple l1 xs)(p2:h.IsTuple l2 ys)(J:xs[k]? =some x)(V:ys[k]? =some y)
  (N:∀h' b4,IsZip h' z TI TO (Zv h.objs.size)->Z6 h' TI (.ref i1) (.ref i2)->Z6 h' TO x y->h'.IsTupleIter i1 l1 (k+1)->h'.IsTupleIter i2 l2 (k+1)->Z6 h' h.objs.size x y->(∀c o,c≠z->c≠TO->c≠i1->c≠i2->h.get? c=some o->h'.get? c=some o)->Q (some (.ref h.objs.size)) ⟨h',g,d,b4,os⟩) :
  wpAny 1.13 A (aaa (.ref z)) Q E ⟨h,g,d,tk,os⟩:=by
 have a8:(⟨h,g,d,tk,os⟩:zb).TypeIs (.ref z) "zip":=⟨_,hz,rfl⟩;unfold aaa;refine gD (aak ?_);refine Yw a8 aaJ ?_
 show 1
 refine ZD aaJ.plain F.entry_zip_next (aaJ.check _ _ _ _ _ _ _ _ a8 (aeQ _) ?_);unfold Builtin.«zip.__next__»
 iterate 56 (first|assumption|wp_step)
 refine aae hz (by simp) λh1 a5 I=>?_;have a5:IsZip h1 z TI TO .ellipsis:=a5;have k1:∀c o,c≠z->h.get? c=some o->h1.get? c=some o:=λc o n e=>I.extBut c o n e;refine gD ?_;simp![ae5,ae9,adg,afl];have U:h1.IsTupleIter i1 l1 k:=B.at λo e=>k1 _ o ap.i1z e;have a2:h1.IsTuple l1 xs:=p1.extBut I.extBut ap.l1z;refine gD (gD (acA (gD (m:=nextOf (.ref i1)) (fJ U a2 J λh2 b0 a6=>Xg ?_))));have k2:∀c o,c≠z->c≠i1->h.get? c=some o->h2.get? c=some o:=λc o n n' e=>a6.extBut c o n' (k1 c o n e);have o2:Z6 h2 TO u v:=k2 _ _ ap.TOz ap.TOi1 hO;refine gD (aat o2 rfl ?_);refine gD (ab6 o2 λO o3 a4=>?_);have o3:Z6 O TO x v:=o3;have k3:∀c o,c≠z->c≠i1->c≠TO->h.get? c=some o->O.get? c=some o:=λc o n n' m e=>a4.extBut c o m (k2 c o n n' e);refine gD (aeU (Xg ?_));have b1:O.IsTupleIter i2 l2 k:=Y.at λo e=>k3 _ o ap.i2z (Ne.symm ap.i12) (Ne.symm ap.TOi2) e;have b2:O.IsTuple l2 ys:=let⟨o,e,r⟩:=p2;⟨o,k3 _ o ap.l2z ap.l2i1 ap.l2TO e,r⟩;refine gD (gD (acA (gD (m:=nextOf (.ref i2)) (fJ b1 b2 V λh4 b3 a0=>Xg ?_))));have o4:Z6 h4 TO x v:=a0.extBut _ _ ap.TOi2 o3;refine gD (aat o4 rfl ?_);refine gD (ab6 o4 λZ o5 a3=>?_);have o5:Z6 Z TO x y:=o5;refine gD (aeU (Xg (Xg ?_)));refine gD (aat o5 rfl ?_);refine gD (adK ?_ (by show 2<=Xp;decide));have e5:Z.objs.size=h.objs.size:=by rw[a3.1,a0.1,a4.1,a6.1,I.1]
 have k5:∀c o,c≠z->c≠TO->c≠i1->c≠i2->h.get? c=some o->Z.get? c=some o:=λc o n1 n2 n3 n4 e=>a3.extBut c o n2 (a0.extBut c o n4 (k3 c o n1 n3 n2 e));have z5:IsZip Z z TI TO .ellipsis:=a3.extBut _ _ (Ne.symm ap.TOz) (a0.extBut _ _ (Ne.symm ap.i2z) (a4.extBut _ _ (Ne.symm ap.TOz) (a6.extBut _ _ (Ne.symm ap.i1z) a5)));have zl:z<Z.objs.size:=Xm z5;refine gD ?_;unfold ownedTupleHandOut;have z6:IsZip (Z.push {cls:=.type "tuple",data:=.seq #[x,y]}) z TI TO .ellipsis:=za _ z5;refine gD (aae z6 (by simp) λh7 z7 a7=>?_);have z7:IsZip h7 z TI TO (Zv Z.objs.size):=z7;refine aae z7 (by simp) λh8 z8 a9=>?_;have z8:IsZip h8 z TI TO (Zv Z.objs.size):=z8;have k8:∀c o,c≠z->Z.get? c=some o->h8.get? c=some o:=λc o n e=>a9.extBut c o n (a7.extBut c o n (za _ e));have n8:Z6 h8 Z.objs.size x y:=a9.extBut _ _ (Y4 zl) (a7.extBut _ _ (Y4 zl) (Xr _ rfl));have t1:Z.IsTupleIter i1 l1 (k+1):=b0.at λo e=>a3.extBut _ o (Ne.symm ap.TOi1) (a0.extBut _ o ap.i12 (a4.extBut _ o (Ne.symm ap.TOi1) e));have t2:Z.IsTupleIter i2 l2 (k+1):=b3.at λo e=>a3.extBut _ o (Ne.symm ap.TOi2) e;refine Xg ?_;refine Xg ?_;show Q (some (.ref Z.objs.size)) ⟨h8,g,d,tk,os⟩;rw[e5]at z8 n8⊢;exact N h8 tk z8 (k8 _ _ ap.TIz (k5 _ _ ap.TIz ap.TITO ap.TIi1 ap.TIi2 hT)) (k8 _ _ ap.TOz o5) (t1.at λo e=>k8 _ o ap.i1z e) (t2.at λo e=>k8 _ o ap.i2z e) n8 λc o n1 n2 n3 n4 e=>k8 c o n1 (k5 c o n1 n2 n3 n4 e)
theorem M8{Q:Option Value->zb->Prop}(hh:A.handled=none)(ap:ZipApart z TI TO i1 i2 l1 l2)(hz:IsZip h z TI TO .none)(hT:Z6 h TI (.ref i1) (.ref i2))(hO:Z6 h TO u v)(B:h.IsTupleIter i1 l1 k)(s2:h.IsTupleIter i2 l2 k)(p1:h.IsTuple l1 xs)(p2:h.IsTuple l2 ys)(hn:xs.size<=k∨ys.size<=k)
  (N:∀h',(∀c o,c≠z->c≠TO->c≠i1->c≠i2->h.get? c=some o->h'.get? c=some o)->Q none ⟨h',g,d,tk,os⟩) :
  wpAny 1.13 A (aaa (.ref z)) Q E ⟨h,g,d,tk,os⟩:=by
 have a8:(⟨h,g,d,tk,os⟩:zb).TypeIs (.ref z) "zip":=⟨_,hz,rfl⟩;have a7:A.in1.handled=none:=hh;unfold aaa;refine gD (aak ?_);refine Yw a8 aaJ ?_
 show 1
 refine ZD aaJ.plain F.entry_zip_next (aaJ.check _ _ _ _ _ _ _ _ a8 (aeQ _) ?_);unfold Builtin.«zip.__next__»
 iterate 56 (first|assumption|wp_step)
 refine aae hz (by simp) λh1 a4 I=>?_;have a4:IsZip h1 z TI TO .ellipsis:=a4;have k1:∀c o,c≠z->h.get? c=some o->h1.get? c=some o:=λc o n e=>I.extBut c o n e;refine gD ?_;simp![ae5,ae9,adg,afl];have U:h1.IsTupleIter i1 l1 k:=B.at λo e=>k1 _ o ap.i1z e;have a2:h1.IsTuple l1 xs:=p1.extBut I.extBut ap.l1z;refine gD (gD (acA ?_));by_cases J:k<xs.size
 .refine gD (m:=nextOf (.ref i1)) (fJ U a2 (x:=xs[k]) (by simp[J]) λh2 a9 a5=>Xg ?_)
  have hy:ys.size<=k:=hn.resolve_left (Nat.not_le.mpr J);have k2:∀c o,c≠z->c≠i1->h.get? c=some o->h2.get? c=some o:=λc o n n' e=>a5.extBut c o n' (k1 c o n e);have o2:Z6 h2 TO u v:=k2 _ _ ap.TOz ap.TOi1 hO;refine gD (aat o2 rfl ?_);refine gD (ab6 o2 λO o3 a6=>?_);have k3:∀c o,c≠z->c≠i1->c≠TO->h.get? c=some o->O.get? c=some o:=λc o n n' m e=>a6.extBut c o m (k2 c o n n' e);refine gD (aeU (Xg ?_));have b1:O.IsTupleIter i2 l2 k:=s2.at λo e=>k3 _ o ap.i2z (Ne.symm ap.i12) (Ne.symm ap.TOi2) e;have b2:O.IsTuple l2 ys:=let⟨o,e,r⟩:=p2;⟨o,k3 _ o ap.l2z ap.l2i1 ap.l2TO e,r⟩;refine gD (gD (acA (gD (m:=nextOf (.ref i2)) ((Draws.tupleEnd a7 i2 l2 k ys (ady hy)).done _ _ _ ⟨rfl,b1,b2⟩ λh4 ee a0 hE=>?_))));obtain⟨oe,V,Y⟩:=hE;have z4:IsZip h4 z TI TO .ellipsis:=a0 _ _ (Ne.symm ap.i2z) (a6.extBut _ _ (Ne.symm ap.TOz) (a5.extBut _ _ (Ne.symm ap.i1z) a4));have ne:ee≠z:=λq=>by subst q;rw[z4]at V;cases V;simp at Y
  refine aae z4 (by simp) λZ z5 a3=>?_;refine gD (ZV (T:="StopIteration") (b:=true) ⟨oe,a3.extBut _ _ ne V,Y⟩ F.jb_sub_stop ?_);exact Xg (N _ λc o n1 n2 n3 n4 e=>a3.extBut c o n1 (a0 c o n4 (k3 c o n1 n3 n2 e)))
 .refine gD (m:=nextOf (.ref i1)) ((Draws.tupleEnd a7 i1 l1 k xs (ady (Nat.not_lt.mp J))).done _ _ _ ⟨rfl,U,a2⟩ λh4 ee a0 hE=>?_)
  obtain⟨oe,V,Y⟩:=hE;have z4:IsZip h4 z TI TO .ellipsis:=a0 _ _ (Ne.symm ap.i1z) a4;have ne:ee≠z:=λq=>by subst q;rw[z4]at V;cases V;simp at Y
  refine aae z4 (by simp) λZ z5 a3=>?_;refine gD (ZV (T:="StopIteration") (b:=true) ⟨oe,a3.extBut _ _ ne V,Y⟩ F.jb_sub_stop ?_);exact Xg (N _ λc o n1 n2 n3 n4 e=>a3.extBut c o n1 (a0 c o n3 (k1 c o n1 e)))
def tI(l:Addr):Obj:={cls:=.type "tuple_iterator",data:=.fields #[.ref l,.int 0 0]}
def tZa(h:Heap)(l1:Addr):Heap:=h.push (tI l1)
def tZb(h:Heap)(l1 l2:Addr):Heap:=(tZa h l1).push (tI l2)
def tZc(h:Heap)(l1 l2:Addr):Heap:=(tZb h l1 l2).push {cls:=.type "tuple",data:=.seq #[.ref h.objs.size,.ref (tZa h l1).objs.size]}
def tZd(h:Heap)(l1 l2:Addr):Heap:=(tZc h l1 l2).push {cls:=.type "tuple",data:=.seq #[.none,.none]}
def tZ(h:Heap)(l1 l2:Addr):Heap:=(tZd h l1 l2).push {cls:=.type "zip",data:=.fields #[.none,.bool false,.bool false,.ref (tZb h l1 l2).objs.size,.ref (tZc h l1 l2).objs.size]}
theorem vW{Q:acn->zb->Prop}(p1:h.IsTuple l1 xs)(p2:h.IsTuple l2 ys)(N:Q (.done (.ret (.ref (tZd h l1 l2).objs.size))) ⟨tZ h l1 l2,g,d,tk,os⟩) :
  wpAny 1.13 A (Builtin.«zip.__new__» ⟨[.type "zip",.ref l1,.ref l2],[]⟩) Q E ⟨h,g,d,tk,os⟩:=by
 have V:=sub_zip;have F:(⟨h,g,d,tk,os⟩:zb).heap.IsTuple l1 xs:=p1;have q:Heap.IsTuple (Shared.heap ⟨h.push {cls:=.type "tuple_iterator",data:=.fields #[.ref l1,.int 0 0]},g,d,tk,os⟩) l2 ys:=p2.push _
 wp_walk using wpAny_pyIter_tuple F,wpAny_pyIter_tuple q
 exact N
theorem Hv{Q:Value->zb->Prop}(p1:h.IsTuple l1 xs)(p2:h.IsTuple l2 ys)
  (N:∀h',IsZip h' (h.objs.size+4) (h.objs.size+2) (h.objs.size+3) .none->Z6 h' (h.objs.size+2) (.ref h.objs.size) (.ref (h.objs.size+1))->Z6 h' (h.objs.size+3) .none .none->h'.IsTupleIter h.objs.size l1 0->h'.IsTupleIter (h.objs.size+1) l2 0->(∀c o,h.get? c=some o->h'.get? c=some o)->Q (.ref (h.objs.size+4)) ⟨h',g,d,tk,os⟩) :
  wpAny 1.13 A (call (.type "zip") [.ref l1,.ref l2]) Q E ⟨h,g,d,tk,os⟩:=by
 have U:(tZa h l1).objs.size=h.objs.size+1:=YM ..;have V:(tZb h l1 l2).objs.size=h.objs.size+2:=by rw[tZb,YM,U]
 have Y:(tZc h l1 l2).objs.size=h.objs.size+3:=by rw[tZc,YM,V]
 have zd:(tZd h l1 l2).objs.size=h.objs.size+4:=by rw[tZd,YM,Y]
 have up:∀c o,(tZb h l1 l2).get? c=some o->(tZ h l1 l2).get? c=some o:=λc o e=>za _ (za _ (za _ e));have B:(tZ h l1 l2).get? (tZd h l1 l2).objs.size=some _:=Xr _ rfl;have q:(tZ h l1 l2).get? (tZc h l1 l2).objs.size=some _:=za _ (Xr _ rfl);have J:(tZ h l1 l2).get? (tZb h l1 l2).objs.size=some _:=za _ (za _ (Xr _ rfl));have I:(tZ h l1 l2).get? (tZa h l1).objs.size=some (tI l2):=up _ _ (Xr _ rfl);have g1:(tZ h l1 l2).get? h.objs.size=some (tI l1):=up _ _ (za _ (Xr _ rfl));rw[zd,V,Y]at B;rw[Y]at q;rw[V,U]at J;rw[U]at I;refine adI F.called_zip 1.27 (F.typeCall_zip_2 _ _) (F.newCall_zip_2 _ _) (λobj=>F.args_object_init_3 _ _ _) F.entry_zip_new (S:=λZ R s'=>s'=⟨h,g,d,tk,os⟩/\R (.ok (.ret (.ref (h.objs.size+4)))) ⟨tZ h l1 l2,g,d,tk,os⟩) ?_ ⟨rfl,⟨⟨_,B,rfl⟩,N _ B J q ⟨_,g1,rfl,rfl⟩ ⟨_,I,rfl,rfl⟩ λc o e=>up c o (za _ (za _ e))⟩⟩;rintro Z R s' ⟨rfl,O⟩;rw[←zd]at O;exact vW p1 p2 O
end
end PySem
namespace Jb
open PySem PySem.Spec PyProof.Rows L2
def Vq(K:Xl)(a b:Addr):It:=
 ⟨λi H=>∃xs ys x y,SqT K H a xs/\SqT K H b ys/\xs[i]? =some x/\ys[i]? =some y,λi H x H'=>∃p u v,H p=none/\x= .ref p/\(∀xs,SqT K H a xs->xs[i]? =some u)/\(∀xs,SqT K H b xs->xs[i]? =some v)/\H'=upd H p (.tup [u,v]),λi H=>∃xs ys,SqT K H a xs/\SqT K H b ys/\(xs.length<=i∨ys.length<=i)⟩
theorem G_{K:Xl}{x1}(a b z TI TO i1 i2:Addr)(ap:ZipApart z TI TO i1 i2 a b) :
  Turn P w K (.Tuple elts x1 pos) (Vq K a b) [z,TI,TO,i1,i2] z (λi h=>IsZip h z TI TO .none/\Z6 h TI (.ref i1) (.ref i2)/\(∃u v,Z6 h TO u v)/\h.IsTupleIter i1 a i/\h.IsTupleIter i2 b i)where
 mem:=by simp
 obj:=λi h st c Y=>by
  obtain⟨h1,h2,⟨u,v,O⟩,⟨o1,q1,_,d1⟩,⟨o2,q2,_,d2⟩⟩:=st;simp![Xj,Zk,aaX]at Y;rcases Y with e|e|e|e|e<;>subst e
  .exact⟨_,h1,λv z=>by cases z⟩
  .exact⟨_,h2,λv z=>by cases z⟩
  .exact⟨_,O,λv z=>by cases z⟩
  .exact⟨o1,q1,λv z=>by rw[d1]at z;cases z⟩
  .exact⟨o2,q2,λv z=>by rw[d2]at z;cases z⟩
 keep:=λi h h' st k=>by
  obtain⟨h1,h2,⟨u,v,O⟩,h4,h5⟩:=st;exact⟨k z (by simp) _ h1,k TI (by simp) _ h2,⟨u,v,k TO (by simp) _ O⟩,h4.at λo q=>k i1 (by simp) o q,h5.at λo q=>k i2 (by simp) o q⟩
 item:=by
  intro X hP hw hK Y i pins s σ H E I hf st F;subst hP hw hK;obtain⟨xs,ys,x,y,N,a0,J,hy⟩:=F;obtain⟨B,rv,p,hz⟩:=I.tuple N;obtain⟨its',a1,p',a8⟩:=I.tuple a0;obtain⟨u,V,ru⟩:=rv.get J;obtain⟨v,hv,a9⟩:=a1.get hy;obtain⟨h1,h2,⟨u0,v0,O⟩,h4,h5⟩:=st;obtain⟨h0,g,d,tk,os⟩:=s;have a3:∀c∈[z,TI,TO,i1,i2],c<h0.objs.size:=λc Y=>by
   simp![Xj,Zk,aaX]at Y;obtain⟨o1,q1,_⟩:=h4;obtain⟨o2,q2,_⟩:=h5;rcases Y with e|e|e|e|e<;>subst e
   .exact Xm h1
   .exact Xm h2
   .exact Xm O
   .exact Xm q1
   .exact Xm q2
  refine Hl (xs:=B.toArray) (ys:=its'.toArray) (x:=u) (y:=v) (I.ok.hd Y) ap h1 h2 O h4 h5 p p' (by simpa using V) (by simpa using hv) λh' a4 g1 g2 g3 g4 g5 g6 k1=>?_;refine⟨.ref h0.objs.size,rfl,acK g1 λa2 a5 sb=>?_⟩;have b0:h0.objs.size≠z:=Y4 (a3 z (by simp));have a6:a2.get? h0.objs.size=some {cls:=.type "tuple",data:=.seq #[u,v]}:=sb.extBut _ _ b0 g6;have kk:∀c o,c∉[z,TI,TO,i1,i2]->h0.get? c=some o->a2.get? c=some o:=λc o Y q=>by
   have n1:c≠z:=λe=>Y (by simp[e]);exact sb.extBut c o n1 (k1 c o n1 (λe=>Y (by simp[e])) (λe=>Y (by simp[e])) (λe=>Y (by simp[e])) q)
  have I2:Inv X pins σ (upd H h0.objs.size (.tup [x,y])) ⟨a2,g,d,a4,os⟩:=by
   refine mH (fp:=[z,TI,TO,i1,i2]) (t':=a4) I hf (λb o U q=>kk b o U q) (Xn _) ?_;exact⟨by show 2<=Xp;decide,[u,v],.cons ru (.cons a9 .nil),_,a6,rfl,_,rfl,rfl⟩
  refine⟨.ref h0.objs.size,upd H h0.objs.size (.tup [x,y]),I2,rfl,⟨_,x,y,I.hok.fresh (Xn _),rfl,λys hy=>by rw[I.tuple_inj hy N];exact J,λys a7=>by rw[I.tuple_inj a7 a0];exact hy,rfl⟩,?_,λc Y=>?_⟩
  .exact⟨a5,sb.extBut _ _ ap.TIz g2,⟨u,v,sb.extBut _ _ ap.TOz g3⟩,g4.at λo e=>sb.extBut _ o ap.i1z e,g5.at λo e=>sb.extBut _ o ap.i2z e⟩
  .rw[aJ λe=>YQ _ (e▸a3 c Y)]
   exact(hf c Y).1
 done:=by
  intro X hP hw hK Y i pins s σ H E I hf st F;subst hP hw hK;obtain⟨xs,ys,N,a0,J⟩:=F;obtain⟨B,rv,p,hz⟩:=I.tuple N;obtain⟨its',a1,p',a8⟩:=I.tuple a0;obtain⟨h1,h2,⟨u0,v0,O⟩,h4,h5⟩:=st;obtain⟨h0,g,d,tk,os⟩:=s;have Z:=rv.length;have b1:=a1.length;refine M8 (xs:=B.toArray) (ys:=its'.toArray) (I.ok.hd Y) ap h1 h2 O h4 h5 p p' (J.imp (λe=>by simp;omega) λe=>by simp;omega) λh' k1=>⟨rfl,?_⟩;exact iQ (fp:=[z,TI,TO,i1,i2]) (t':=tk) I hf λc o Y q=>k1 c o (λe=>Y (by simp[e])) (λe=>Y (by simp[e])) (λe=>Y (by simp[e])) (λe=>Y (by simp[e])) q
 self:=λA i s Q E st h=>abR st.1 h
def Rt(K:Xl)(ta:TA):TI:=λσ H R=>ta σ H λvs H1=>∃a b,vs=[.ref a,.ref b]/\(((∃xs,SqL K H1 a xs)/\(∃xs,SqL K H1 b xs)/\R (Itz K a b) H1)∨((∃xs,SqT K H1 a xs)/\(∃xs,SqT K H1 b xs)/\R (Vq K a b) H1))
variable{X:Cx}
theorem Qi{a b:Expr}{ta:TA}{p:Pos}{x1}(F:Gl X "zip")(J:X.mg "zip"=none)(Z:PA X [a,b] ta)(hs:Xy [a,b] X.env=(false,eval a X.env)::Xy [b] X.env:=by rfl)(a5:Xy [b] X.env=[(false,eval b X.env)]:=by rfl):PI X (.Tuple elts x1 tpos) (.Call (.Name "zip" p) [a,b] [] pos) (Rt X.K ta):=by
 intro pins s σ H R I h;refine Call_ (mO I F J boot_zip (ZJ (thn (Z pos pins s σ H _ I h) λus B ⟨vs,H1,O,r1,q1⟩=>?_) hs (by rw[a5];rfl)));obtain⟨l,l',e,q⟩:=q1;subst e;obtain⟨u,v,rfl,ru,a8⟩:∃u v,us=[u,v]/\RelV (.ref l) u/\RelV (.ref l') v:=by
  cases r1 with
  |cons h1 t=>
   cases t with
   |cons h2 t=>cases t;exact⟨_,_,rfl,h1,h2⟩
 cases ru;cases a8;rcases q with⟨⟨xs,N⟩,⟨ys,a4⟩,q⟩|⟨⟨xs,N⟩,⟨ys,a4⟩,q⟩
 .obtain⟨its,rv,pl,hz⟩:=O.list N
  obtain⟨its',a6,a3,a7⟩:=O.list a4;have a1:l<B.heap.objs.size:=let⟨_,h1,_⟩:=pl.isList;Xm h1;have a2:l'<B.heap.objs.size:=let⟨_,h1,_⟩:=a3.isList;Xm h1;refine call_zip_2 pl.isList a3.isList λh1 g1 g2 g3 g4 g5 hsz k1=>?_;have U:Inv X pins σ H1 {B with heap:=h1}:=O.kept (t':=B.toks) k1;refine abR g1 ?_;refine⟨B.heap.objs.size+4,[B.heap.objs.size+4,B.heap.objs.size+2,B.heap.objs.size+3,B.heap.objs.size,B.heap.objs.size+1],_,_,H1,rfl,U,KH l l' _ _ _ _ _ (zipApart_new a1 a2),⟨g1,g2,⟨_,_,g3⟩,g4,g5⟩,λc Y=>?_,q⟩;have a0:B.heap.objs.size<=c:=by
   simp![Xj,Zk,aaX]at Y;rcases Y with e|e|e|e|e<;>rw[e]<;>omega
  exact O.fpOk a0 (O.hok.fresh a0)
 .obtain⟨its,rv,pl,hz⟩:=O.tuple N
  obtain⟨its',a6,a3,a7⟩:=O.tuple a4;obtain⟨V,g,d,tk,os⟩:=B;have a1:l<V.objs.size:=let⟨_,h1,_⟩:=pl;Xm h1;have a2:l'<V.objs.size:=let⟨_,h1,_⟩:=a3;Xm h1;refine Hv (xs:=its.toArray) (ys:=its'.toArray) pl a3 λh1 g1 g2 g3 g4 g5 k1=>?_;have U:Inv X pins σ H1 ⟨h1,g,d,tk,os⟩:=O.kept (t':=tk) k1;refine abR g1 ?_;refine⟨V.objs.size+4,[V.objs.size+4,V.objs.size+2,V.objs.size+3,V.objs.size,V.objs.size+1],_,_,H1,rfl,U,G_ l l' _ _ _ _ _ (zipApart_new a1 a2),⟨g1,g2,⟨_,_,g3⟩,g4,g5⟩,λc Y=>?_,q⟩;have a0:V.objs.size<=c:=by
   simp![Xj,Zk,aaX]at Y;rcases Y with e|e|e|e|e<;>rw[e]<;>omega
  exact O.fpOk a0 (O.hok.fresh a0)
def JB(f:En->Option (List D)):En->Option (Bool×List D):=λρ=>(f ρ).bind λds=>match ds with
 |[.tup es]=>some (clean (.tup es),(gn es).reverse)
 |_=>none
variable{G:Gc}{H H':Hp}{W:Wn}{ds:List D}
theorem ul{v:V}(w:WOk H W)(s:Same H H')(r:Rep G H' (W.add L) (.tup ds) v M)(q:∀a∈M,a∈L)(fr:∀a∈L,H a=none) :
  ∃a xs,v= .ref a/\Parts G H' W (clean (.tup ds)) (gn ds) xs/\∀H2 I,LtB (clean (.tup ds)) H' W H2 I->SqT G.K H2 a xs:=by
 have free:∀a∈M,W.free a:=λa Z=>⟨λz=>?_,λz=>?_,λz=>?_⟩
 .have les:Les H' (W.add L) W M:=⟨λa f=>⟨λz=>f.1 (.inr z),f.2⟩,free⟩
  rw[Rep]at r;obtain⟨a,xs,rfl,U,O⟩:=r;refine⟨a,xs,rfl,⟨aD.fzo (W:=W.add L) (W':=W) (λ_ z=>z) O les,λz=>?_⟩,λH2 I l=>l.tup U⟩;simp[clean,aA,au]at z;exact⟨eG z.1,d8 z.2⟩
 .obtain⟨o,ho,_⟩:=w a (.inl z);rw[fr a (q a Z)]at ho;cases ho
 .obtain⟨o,ho,_⟩:=w a (.inr (.inl z));rw[fr a (q a Z)]at ho;cases ho
 .obtain⟨o,ho,_⟩:=w a (.inr (.inr z));rw[fr a (q a Z)]at ho;cases ho
theorem El{l:List α}{d:α}(e:l.reverse[i]? =some d):i<l.length/\l[l.length-1-i]? =some d:=by
 have hi:i<l.length:=by have:=(qb.mp e).1;rwa[aa7]at this
 rw[adF hi]at e;exact⟨hi,e⟩
variable{t:TA}{f:En->Option (List D)}
theorem Jd(h:RfA G ob t f):RfI G ob (QW G.K t) (JB f):=λρ b items e σ H W N w R q=>by
 unfold JB at e;cases h1:f ρ with
 |none=>simp[h1]at e
 |some ds=>
  rw[h1]at e;simp![Mx]at e;split at e
  .rename_i es
   cases e;refine h ρ _ h1 σ H W N w _ λvs H' L s r fr nd=>?_;obtain⟨v,ys,M,M',rfl,rfl,B,V⟩:=r.inv;obtain⟨rfl,rfl⟩:=V.inv0;rw[XJ]at B fr;obtain⟨a,xs,rfl,p,hs⟩:=ul w s B (λa Z=>Z) fr;have F:=p.r.length;refine⟨a,xs,rfl,hs H' W (LtB.up Up.refl),q _ H' s ⟨λi d e H2 I l=>?_,λi d e H2 I l x O y=>?_,λH2 I l=>?_⟩⟩
   .obtain⟨hi,e⟩:=El e
    rw[F]at hi e;obtain⟨x,J⟩:=p.r.getV e;exact⟨xs,x,hs H2 I l,rfl,hi,J⟩
   .obtain⟨rfl,y⟩:=y
    obtain⟨hi,e⟩:=El e;rw[F]at e;exact⟨Same.refl _,p.at l e (y xs (hs _ I l))⟩
   .exact⟨xs,hs H2 I l,rfl,by rw[aa7,F];exact Xn _⟩
  .cases e
variable{X:ι->Cx}
theorem Mr{a:Expr}{p:Pos}(F:∀c,Gl (X c) "reversed")(J:∀c,(X c).mg "reversed"=none)(Z:PVA X G ob [a] f)(hs:∀c,Xy [a] (X c).env=[(false,eval a (X c).env)]:=by intro _;rfl)(I:∀c,(X c).K=G.K:=by intro _;rfl) :
  PVI X G ob tg (.Call (.Name "reversed" p) [a] [] pos) (JB f):=
 let⟨t,a1,a2⟩:=Z.ex;⟨_,λc=>(by rw[←I c];exact NZ (F c) (J c) (a1 c) (hs c)),Jd a2⟩
def Gv(f:En->Option (List D)):En->Option (Bool×List D):=λρ=>(f ρ).bind λds=>match ds with
 |[.tup es,.tup es']=>some (clean (.tup es)&&clean (.tup es'),yN (gn es) (gn es'))
 |ds=>itZ (λ_=>some ds) ρ
theorem Ld(h:RfA G ob t f):RfI G ob (Rt G.K t) (Gv f):=λρ b items e σ H W rl w R q=>by
 unfold Gv at e;cases h1:f ρ with
 |none=>simp[h1]at e
 |some ds=>
  rw[h1]at e;simp![Mx]at e;split at e
  .rename_i es a5
   cases e;refine h ρ _ h1 σ H W rl w _ λvs H' L s r fr nd=>?_;obtain⟨v,ys,M,M',rfl,rfl,B,hy⟩:=r.inv;obtain⟨v',a6,N,N',rfl,Y,a3,a4⟩:=hy.inv;obtain⟨rfl,rfl⟩:=a4.inv0;obtain⟨a,xs,rfl,p,hs⟩:=ul w s B (λa Z=>by simp[Z]) fr;obtain⟨U,a1,rfl,J,a0⟩:=ul w s a3 (λa Z=>by simp[Y,Z]) fr;refine⟨a,U,rfl,.inr ⟨⟨xs,hs H' W (LtB.up Up.refl)⟩,⟨a1,a0 H' W (LtB.up Up.refl)⟩,q _ H' s ⟨λi d e H2 I l=>?_,λi d e H2 I l x H3 y=>?_,λH2 I l=>?_⟩⟩⟩
   .obtain⟨x,y,hx,hy,_⟩:=ph e
    obtain⟨u,V⟩:=p.r.getV hx;obtain⟨u',a2⟩:=J.r.getV hy;exact⟨xs,a1,u,u',hs H2 I l.and1,a0 H2 I l.and2,V,a2⟩
   .obtain⟨x0,y0,hx,hy,rfl⟩:=ph e
    obtain⟨pa,u,u',F,rfl,V,a2,rfl⟩:=y;have sm:Same H2 (upd H2 pa (.tup [u,u'])):=Same.new F;refine⟨sm,?_⟩;rw[Rep];exact⟨pa,_,rfl,aN,.cons (M:=[]) (M':=[]) ((p.at l.and1 hx (V xs (hs _ I l.and1))).up (Up.same sm)) (.one ((J.at l.and2 hy (a2 a1 (a0 _ I l.and2))).up (Up.same sm)))⟩
   .refine⟨xs,a1,hs H2 I l.and1,a0 H2 I l.and2,?_⟩
    rw[←p.r.length,←J.r.length];unfold yN;rw[aei];omega
  .unfold itZ at e
   simp![Mx]at e;split at e
   .rename_i d d' _
    split at e
    .rename_i hl
     cases h2:cC d with
     |none=>simp[h2]at e
     |some p=>
      cases O:cC d' with
      |none=>simp[h2,O]at e
      |some J=>
       obtain⟨b1,es⟩:=p;obtain⟨b2,a5⟩:=J;obtain⟨rfl,rfl⟩:(b1&&b2)=b/\yN es a5=items:=by simpa[h2,O]using e
       refine h ρ _ h1 σ H W rl w _ λvs H' L s r fr nd=>?_;obtain⟨v,ys,M,M',rfl,rfl,B,hy⟩:=r.inv;obtain⟨v',a6,N,N',rfl,Y,a3,a4⟩:=hy.inv;obtain⟨rfl,rfl⟩:=a4.inv0;obtain⟨a,xs,rfl,p,hs⟩:=zm w s B (λa Z=>by simp[Z]) fr h2 hl.1;obtain⟨U,a1,rfl,J,a0⟩:=zm w s a3 (λa Z=>by simp[Y,Z]) fr O hl.2;refine⟨a,U,rfl,.inl ⟨⟨xs,hs H' W (LtB.up Up.refl)⟩,⟨a1,a0 H' W (LtB.up Up.refl)⟩,q _ H' s ⟨λi d e H2 I l=>?_,λi d e H2 I l x H3 y=>?_,λH2 I l=>?_⟩⟩⟩
       .obtain⟨x,y,hx,hy,_⟩:=ph e
        obtain⟨u,V⟩:=p.r.getV hx;obtain⟨u',a2⟩:=J.r.getV hy;exact⟨xs,a1,u,u',hs H2 I l.and1,a0 H2 I l.and2,V,a2⟩
       .obtain⟨x0,y0,hx,hy,rfl⟩:=ph e
        obtain⟨pa,u,u',F,rfl,V,a2,rfl⟩:=y;have sm:Same H2 (upd H2 pa (.tup [u,u'])):=Same.new F;refine⟨sm,?_⟩;rw[Rep];exact⟨pa,_,rfl,aN,.cons (M:=[]) (M':=[]) ((p.at l.and1 hx (V xs (hs _ I l.and1))).up (Up.same sm)) (.one ((J.at l.and2 hy (a2 a1 (a0 _ I l.and2))).up (Up.same sm)))⟩
       .refine⟨xs,a1,hs H2 I l.and1,a0 H2 I l.and2,?_⟩
        rw[←p.r.length,←J.r.length];unfold yN;rw[aei];omega
    .cases e
   .cases e
theorem Lk{a b:Expr}{p:Pos}(F:∀c,Gl (X c) "zip")(J:∀c,(X c).mg "zip"=none)(Z:PVA X G ob [a,b] f)(hs:∀c,Xy [a,b] (X c).env=(false,eval a (X c).env)::Xy [b] (X c).env:=by intro _;rfl)(V:∀c,Xy [b] (X c).env=[(false,eval b (X c).env)]:=by intro _;rfl)(I:∀c,(X c).K=G.K:=by intro _;rfl) :
  PVI X G ob (.Tuple elts x1 tpos) (.Call (.Name "zip" p) [a,b] [] pos) (Gv f):=
 let⟨t,a1,a2⟩:=Z.ex;⟨_,λc=>(by rw[←I c];exact Qi (F c) (J c) (a1 c) (hs c) (V c)),Ld a2⟩
variable{X:Cx}{σ:L2.St}{s:zb}{kvs:List (Key×V)}
theorem Gs{ob:Obj}(I:Inv X pins σ H s)(e:H a=some (.frz ob (.dK kvs)))(B:∀o u,X.H₀ a≠some (.frz o u)):Inv X pins σ (upd H a (.dK kvs)) s where
 ok:=I.ok
 os:=I.os
 bare:=I.bare
 base:=⟨I.base.keep,I.base.slot,λb o g n J=>by rw[aJ (λz=>by have:=I.base.free b o g n J;rw[z,e]at this;cases this)];exact I.base.free b o g n J,I.base.there,
  λb xs g=>by rw[aJ (jN (I.base.tups b xs g) e (by intro z;cases z))];exact I.base.tups b xs g,λb o u g=>by rw[aJ (λz=>by subst z;exact B o u g)];exact I.base.frzs b o u g,
  λb ps g=>let⟨more,z⟩:=I.base.tbls b ps g;⟨more,by rw[aJ (jN z e (by intro z;cases z))];exact z⟩⟩
 loc:=I.loc
 cell:=I.cell
 free:=by rw[aJ (λz=>by have:=I.free;rw[z,e]at this;cases this)];exact I.free
 freeC:=λx c g=>by rw[aJ (λz=>by have:=I.freeC x c g;rw[z,e]at this;cases this)];exact I.freeC x c g
 pin:=λp F=>let⟨h1,h2,h3⟩:=I.pin p F;⟨h1,by rw[aJ (λz=>by rw[z,e]at h2;cases h2)];exact h2,h3⟩
 hok:=λb u g=>by
  by_cases U:b=a
  .subst U
   rw[aN]at g;cases g;obtain⟨_,q⟩:=(show bZ X.prog X.w H s.heap b (.frz ob (.dK kvs))from I.hok b _ e);exact q
  .rw[aJ U]at g
   exact(I.hok b u g).stay (λc v _ q=>q) (λc q=>by rw[aJ (jN q e (by intro z;cases z))];exact q) λc xs q=>by rw[aJ (jN q e (by intro z;cases z))];exact q
 len:=I.len
theorem Ig(I:Inv X pins σ H s)(Z:H a=some (.dK kvs)):∃ob,Inv X pins σ (upd H a (.frz ob (.dK kvs))) s/\∀o u,X.H₀ a≠some (.frz o u):=by
 obtain⟨z,hd,vs,rel,dd⟩:=xn I.hok Z;obtain⟨ep,ob,es,g,x,d,N,O,F⟩:=dd.dictAt;refine⟨ob,m7 (t':=s.toks) I (by rw[Z];exact YT) ⟨rfl,λ_ _=>rfl⟩ ⟨ob,g⟩ ⟨g,z,hd,vs,rel,dd⟩,λo u g=>?_⟩;have:=I.base.frzs a o u g;rw[Z]at this;cases this
def JQ(tl:TE):TI:=λσ H R=>tl σ H λx H1=>∃a ob kvs,x= .ref a/\H1 a=some (.frz ob (.dK kvs))/\R (Itd a ob kvs) H1
variable{te:TE}
theorem Iw(Y:PE X e te):PI X tg e (JQ te):=by
 intro pins s σ H R I h;refine thn (Y pins s σ H _ I h) λv B ⟨x,H1,O,N,F⟩=>?_;obtain⟨a,ob,kvs,ex,Z,q⟩:=F;subst ex;cases N;obtain⟨h1,z,hd,vs,rel,dd⟩:=(show bZ X.prog X.w H1 B.heap a (.frz ob (.dK kvs))from O.hok a _ Z);obtain⟨ep,J,es,g,x,d,N,r2,r3⟩:=dd.dictAt;have e0:J=ob:=by rw[h1]at g;exact(Yn g).symm
 subst e0;have V:B.heap.DictAt (bA X.prog X.w) a vs ep:=⟨J,es,g,x,d,N,r2,r3⟩;refine wpAny_pyIter_dict hd V ?_;refine⟨B.heap.objs.size,[B.heap.objs.size],_,_,_,rfl,O.kept (t':=B.toks) λb o e=>za _ e,Gw a _ J kvs,⟨es,ep,d,_,Xr _ rfl,rfl,by rw[show kvs.length=vs.length from rel.length];rfl⟩,λb U=>?_,q⟩;have e:b=B.heap.objs.size:=by simpa using U
 subst e;exact O.fpOk (Xn _) (O.hok.fresh (Xn _))
def tGh(j:Nat)(te:TE):TE:=λσ H Q=>∃a kvs,σ[j]? =some (some (.ref a))/\H a=some (.dK kvs)/\∀ob,te σ (upd H a (.frz ob (.dK kvs))) λv H'=>H' a=some (.frz ob (.dK kvs))/\Q v (upd H' a (.dK kvs))
theorem Vy{st:Stmt}(h:PS X st (CZ te (pZ i))):PS X st (CZ (tGh j te) (pZ i)):=by
 intro pins s σ H D I F;obtain⟨a,kvs,hs,Z,k⟩:=F;obtain⟨ob,U,V⟩:=Ig I Z;refine thn (h pins s σ _ {nx:=λB H'=>H' a=some (.frz ob (.dK kvs))/\D.nx B (upd H' a (.dK kvs)),bk:=λ_ _=>False,ct:=λ_ _=>False,rt:=λ_ _=>False} U (k ob)) λf N q=>?_;cases f with
 |next=>obtain⟨B,H',J,e,q⟩:=q;exact⟨B,_,Gs J e V,q⟩
 |brk=>obtain⟨_,_,_,q⟩:=q;exact q.elim
 |cont=>obtain⟨_,_,_,q⟩:=q;exact q.elim
 |ret u=>obtain⟨_,_,_,_,_,q⟩:=q;exact q.elim
mutual
noncomputable def tG:D->Bool
 |.tup ds=>jn ds
 |.lst _ ds=>jn ds
 |.dct m _ ds=>(m== .scr)&&jn ds
 |.ins _ _ _ ds=>jn ds
 |_=>true
noncomputable def jn:List D->Bool
 |[]=>true
 |d::r=>tG d&&jn r
end
def WT(o:HO):Prop:=∀ob u,o≠.frz ob u
structure Chg(fd:Bool)(H H':Hp):Prop where
 l:∀b xs,H b=some (.lst xs)->H' b=some (.lst xs)
 t:∀b xs,H b=some (.tup xs)->H' b=some (.tup xs)
 i:∀b C dx kv,H b=some (.ins C dx kv)->H' b=some (.ins C dx kv)
 d:fd=false->∀b kvs,H b=some (.dK kvs)->H' b=some (.dK kvs)
 r:∀b o,WT o->Rd H b o->Rd H' b o
variable{m:Mk}
theorem cP.chg{B:Addr->HO->Prop}{o:HO}(O:Rd H a o->Rd H' a o)(h:cP B H W a o m L M)(N:m≠.scr->H a=some o->H' a=some o):cP B H' W a o m L M:=by
 cases m with
 |own=>exact⟨N (by intro z;cases z) h.1,h.2⟩
 |frz=>exact⟨N (by intro z;cases z) h.1,h.2⟩
 |brw=>exact⟨N (by intro z;cases z) h.1,h.2⟩
 |bro=>exact⟨N (by intro z;cases z) h.1,h.2⟩
 |scr=>exact⟨h.1.imp (λz=>⟨O z.1,z.2⟩) id,h.2⟩
variable{fd:Bool}
mutual
theorem Rep.chg(c:Chg fd H H'):∀{d:D}{v:V}{L:List Addr},Rep G H W d v L->(fd=true->tG d=true)->Rep G H' W d v L
 |.non,v,L,h,_=>by rw[Rep]at h⊢;exact h
 |.bl _,v,L,h,_=>by rw[Rep]at h⊢;exact h
 |.int _,v,L,h,_=>by rw[Rep]at h⊢;exact h
 |.str _,v,L,h,_=>by rw[Rep]at h⊢;exact h
 |.ty _,v,L,h,_=>by rw[Rep]at h⊢;exact h
 |.tup ds,v,L,h,n=>by
  rw[Rep]at h⊢;obtain⟨a,xs,rfl,U,O⟩:=h;exact⟨a,xs,rfl,c.t a xs U,aD.chg c O λz=>by simpa[tG]using n z⟩
 |.lst m ds,v,L,h,n=>by
  rw[Rep]at h⊢;obtain⟨a,xs,M,rfl,O,hs⟩:=h;exact⟨a,xs,M,rfl,aD.chg c O λz=>by simpa[tG]using n z,hs.chg (c.r a _ (λ_ _ z=>by cases z)) λ_=>c.l a xs⟩
 |.dct m ks ds,v,L,h,n=>by
  rw[Rep]at h⊢;obtain⟨a,xs,M,rfl,B,O,hs⟩:=h;refine⟨a,xs,M,rfl,B,aD.chg c O λz=>?_,hs.chg (c.r a _ (λ_ _ z=>by cases z)) λJ=>?_⟩
  .have:=n z
   rw[tG,XR]at this;exact this.2
  .cases fd with
   |false=>exact c.d rfl a xs
   |true=>
    have:=n rfl;rw[tG,XR]at this;cases m<;>first|exact absurd rfl J|(have q:=this.1;cases q)
 |.ins m cc fs ds,v,L,h,n=>by
  rw[Rep]at h⊢;obtain⟨a,C,dx,xs,M,rfl,F,B,O,hs⟩:=h;exact⟨a,C,dx,xs,M,rfl,F,B,aD.chg c O λz=>by simpa[tG]using n z,hs.chg (c.r a _ (λ_ _ z=>by cases z)) λ_=>c.i a C dx xs⟩
theorem aD.chg(c:Chg fd H H'):∀{ds:List D}{vs:List V}{L:List Addr},aD G H W ds vs L->(fd=true->jn ds=true)->aD G H' W ds vs L
 |[],vs,L,h,_=>by rw[aD]at h⊢;exact h
 |d::r,vs,L,h,n=>by
  obtain⟨x,ys,M,M',rfl,rfl,h1,h2⟩:=h.inv;have J:fd=true->tG d=true/\jn r=true:=λz=>by have:=n z;rwa[jn,XR]at this
  exact .cons (Rep.chg c h1 λz=>(J z).1) (aD.chg c h2 λz=>(J z).2)
end
theorem G8{ob:Obj}(Z:H a=some (.dK kvs)):Chg true H (upd H a (.frz ob (.dK kvs)))where
 l:=λb xs e=>by rw[aJ (jN e Z (by intro z;cases z))];exact e
 t:=λb xs e=>by rw[aJ (jN e Z (by intro z;cases z))];exact e
 i:=λb C dx N e=>by rw[aJ (jN e Z (by intro z;cases z))];exact e
 d:=λz=>by cases z
 r:=λb o n h=>by
  by_cases U:b=a
  .subst U
   rcases h with h|⟨u,h⟩
   .rw[Z]at h;cases h;exact .inr ⟨ob,aN⟩
   .rw[Z]at h;cases h
  .rcases h with h|⟨u,h⟩
   .exact .inl (by rw[aJ U];exact h)
   .exact .inr ⟨u,by rw[aJ U];exact h⟩
theorem Nf{ob:Obj}(Z:H a=some (.frz ob (.dK kvs))):Chg false H (upd H a (.dK kvs))where
 l:=λb xs e=>by rw[aJ (jN e Z (by intro z;cases z))];exact e
 t:=λb xs e=>by rw[aJ (jN e Z (by intro z;cases z))];exact e
 i:=λb C dx N e=>by rw[aJ (jN e Z (by intro z;cases z))];exact e
 d:=λ_ b N e=>by rw[aJ (jN e Z (by intro z;cases z))];exact e
 r:=λb o n h=>by
  by_cases U:b=a
  .subst U
   rcases h with h|⟨u,h⟩
   .rw[Z]at h;cases h;exact absurd rfl (n _ _)
   .rw[Z]at h;cases h;exact .inl aN
  .rcases h with h|⟨u,h⟩
   .exact .inl (by rw[aJ U];exact h)
   .exact .inr ⟨u,by rw[aJ U];exact h⟩
def kD:Key->D
 |.inl i=>.int i
 |.inr x=>.str x
def d_:Option D->Option D
 |some d=>if tG d=true then some d else none
 |none=>none
def CP(j:Nat)(ρ:En):Option (List Key×En):=match ρ[j]? with
 |some (some (.dct .frz ks ds))=>if jn ds=true then some (ks,(ρ.map d_).set j (some (.dct .scr ks ds)))else none
 |_=>none
def lw(j:Nat)(cap:List (Option Nat))(tg:D->En->Option En)(c:En->Option Bool)(fk q:En->Option D):En->Option D:=λρ=>(CP j ρ).bind λp=>oU cap (λ_=>some (false,p.1.map kD)) tg c fk q p.2
def wiF(a:Addr)(ob:Obj)(kvs:List (Key×V)):TI:=λ_ H R=>H a=some (.frz ob (.dK kvs))->R (Itd a ob kvs) H
theorem Gj:RfI G ob (wiF a o kvs) (λ_=>some (false,(kvs.map (·.1)).map kD)):=λρ b items e σ H W B w R q F=>by
 cases e;refine q _ H (Same.refl _) ⟨λi d e H2 I l=>?_,λi d e H2 I l x J y=>?_,λH2 I l=>?_⟩
 .have u:Up H H2 W I:=by simpa[LtB]using l
  exact⟨u.s a _ F,by have:=(qb.mp e).1;simpa using this⟩
 .obtain⟨rfl,p,hp,rfl⟩:=y
  have:kD p.1=d:=by simpa[hp]using e
  subst this;refine⟨Same.refl _,?_⟩;obtain⟨k,_⟩:=p;cases k<;>· show Rep _ _ _ (kD _) (kV _) _;simp![kD,kV];rw[Rep];exact⟨rfl,rfl⟩
 .have u:Up H H2 W I:=by simpa[LtB]using l
  exact⟨u.s a _ F,by simp⟩
variable{tg:D->En->Option En}{own:Nat->Bool}{fk:En->Option D}
theorem Gm{cap:List (Option Nat)}{g:TG}{tt:TT}{tk:TE}{c:En->Option Bool}{e:En->Option D}(a4:∀i:Nat,own i=true->cap[i]?≠none->cap[i]? =some none)(F:Dg G 1.24 own g tg)(ht:RfT G 1.24 tt c)(B:RfE G 1.24 tk fk)(V:RfE G 1.24 te e) :
  RfE G ob (tGh j (CK cap (JQ (Jm j)) g tt tk te)) (lw j cap tg c fk e):=λρ d ee σ H W I w Q q=>by
 unfold lw CP at ee;split at ee
 .rename_i ks ds hj
  split at ee
  .rename_i hfd
   simp![Mx]at ee;obtain⟨v,L0,hv,a2,_⟩:=I j _ hj;rw[Rep]at a2;obtain⟨a,kvs,M,rfl,⟨rfl,a6⟩,O,Z,a0,rfl,rfl⟩:=a2;refine⟨a,kvs,hv,Z,λo=>?_⟩;have cs:=G8 (ob:=o) Z;have a5:Rel G (upd H a (.frz o (.dK kvs))) W ob ((ρ.map d_).set j (some (.dct .scr (kvs.map (·.1)) ds))) σ:=λi d' N=>by
    by_cases a3:i=j
    .subst a3
     rw[Zo (by rw[Xq];exact(qb.mp hj).1)]at N;cases N;refine⟨.ref a,[],hv,?_,λ_ c Y=>by cases Y⟩;rw[Rep];exact⟨a,kvs,[],rfl,⟨rfl,a6⟩,aD.chg cs O λ_=>hfd,.inl ⟨.inr ⟨o,aN⟩,a0⟩,rfl,rfl⟩
    .rw[List.getElem?_set_ne (λz=>a3 z.symm),List.getElem?_map]at N
     cases h5:ρ[i]? with
     |none=>rw[h5]at N;cases N
     |some x=>
      rw[h5]at N;cases x with
      |none=>cases N
      |some d1=>
       have e2:d_ (some d1)=some d':=by simpa using N
       unfold d_ at e2;simp only at e2;split at e2
       .rename_i hn
        cases e2;obtain⟨v',L',h6,h7,h8⟩:=I i _ h5;exact⟨v',L',h6,Rep.chg cs h7 λ_=>hn,h8⟩
       .cases e2
   have w':WOk (upd H a (.frz o (.dK kvs))) W:=λb U=>by
    have a1:b≠a:=λz=>by subst z;rcases U with h|h|h;exact a0.1 h;exact a0.2.1 h;exact a0.2.2 h
    obtain⟨u,h6,h7⟩:=w b U;exact⟨u,by rw[aJ a1];exact h6,h7⟩
   have J:=zV (own:=own) a4 (Gj (G:=G) (ob:=ob) (a:=a) (o:=o) (kvs:=kvs)) F ht B V _ d ee σ (upd H a (.frz o (.dK kvs))) W a5 w' (λv H'=>H' a=some (.frz o (.dK kvs))/\Q v (upd H' a (.dK kvs))) (λv H' L s rx fr nd=>by
    have h9:=s a _ aN;refine⟨h9,q v _ L (λb u U=>?_) (Rep.chg (Nf h9) rx λz=>by cases z) (λb U=>?_) nd⟩
    .by_cases a1:b=a
     .subst a1;rw[Z]at U;cases U;exact aN
     .rw[aJ a1];exact s b u (by rw[aJ a1];exact U)
    .have:=fr b U
     by_cases a1:b=a
     .subst a1;rw[aN]at this;cases this
     .rwa[aJ a1]at this)
   exact⟨.ref a,hv,a,o,kvs,rfl,aN,J aN⟩
  .cases ee
 .cases ee
variable{P:Nat->Bool}{X:ι->Cx}{ypos:Pos}{fc:En->Option Bool}{fe:En->Option D}
theorem Hz(i j:Nat)(cap:List (Option Nat))(own:Nat->Bool)(hN:∀c,(X c).N.Nodup)(J:∀c,(X c).xe=NoX)(Y:∀c,(X c).calm=true)(O:∀c,cN (X c).env.scope (X c).N N' scope cap)(I:∀i:Nat,own i=true->cap[i]?≠none->cap[i]? =some none)(F:BP (InX X N' scope) G 1.24 own target tg)(U:Cw (InX X N' scope) G 1.24 ifs fc)(B:PV (InX X N' scope) G 1.24 kx fk)(V:PV (InX X N' scope) G 1.24 vx fe)
  (a1:∀c,(X c).N[j]? =some y:=by intro _;rfl) (hv:∀c,Vis (X c).env.scope y:=by intro _;first|exact ZZ rfl|exact Ze (ZZ rfl)|exact Ze (Ze rfl)) (hd:(y==("__debug__":Str))=false:=by decide) (a0:(y==("__classdict__":Str))=false:=by decide)
  (hP:P i=false:=by rfl) (a2:∀c,(X c).N[i]? =some x:=by intro _;rfl) (Z:∀c,Loc (X c).env.scope x:=by intro _;first|exact ZZ rfl|exact Ze rfl) (q:∀c,aaI (.DictComp kx vx [⟨target,.Name y ypos,ifs,0⟩] scope pos) (some (.Name x pos')) pos2.line (X c).env=pure true:=by intro _;rfl) (hs:∀c,∀x,YZ (.Name y ypos) (X c).env x=pure x:=by intro _ _;rfl)
  (hf:∀c,(X c).fn x=true∨(X c).env.scope.names.lookup x=some .local:=by intro _;first|exact .inl rfl|exact .inr rfl):PVS X G ob P (.Assign [.Name x pos'] (.DictComp kx vx [⟨target,.Name y ypos,ifs,0⟩] scope pos) pos2) (bV (lw j cap tg fc fk fe) (tgN i)):=
 let⟨_,g1,g2⟩:=F.ex;let⟨_,t1,t2⟩:=U.ex;let⟨_,k1,k2⟩:=B.ex;let⟨_,e1,e2⟩:=V.ex
 ⟨_,λc=>Vy (j:=j) (Fj (J c) (Y c) (hN c) (a2 c) (Z c) (O c) (Iw (IK (a1 c) (hv c) hd a0)) (λC s H fp=>g1 (c,C,s,H,fp)) (λC s H fp=>t1 (c,C,s,H,fp)) (λC s H fp=>k1 (c,C,s,H,fp)) (λC s H fp=>e1 (c,C,s,H,fp)) (q c) (hs c) (hf c)),by rw[←vC];exact jH (uU (Gm I g2 t2 k2 e2)) (jb hP)⟩
def aQ(Frec:List D->Option D):List D->Option D:=fnP 2 2 ((bu (sIf (nT (eAp b_ (ak 1.16 (ak (eAp bC (ak (eC (.ty "list")) (ak (eC (.ty "tuple")) aG))) aG)))) (bu (sIf (eOr (uE (nT (eAp b_ (ak 1.15 (ak (eAp bC (ak (eC (.ty "list")) (ak (eC (.ty "tuple")) aG))) aG))))) (eB (e2 gNe (eAp b_ (ak 1.15 (ak (eC (.ty "list")) aG))) (eAp b_ (ak 1.16 (ak (eC (.ty "list")) aG)))))) (gO (eC (.bl false))) fB)
 (gO (Bo (e2 gEq (eAp cT (ak 1.15 aG)) (eAp cT (ak 1.16 aG))) (eAp Mg (ak (iC [none,none] (Gv (ak 1.15 (ak 1.16 aG))) (tpT 2 (aM (tpN 0) (aM (tpN 1) bO))) eTT (eAp (bz Frec) (ak 1.15 (ak 1.16 aG)))) aG))))) fB)
 (bu (sIf (eOr (eB (e2 gIs 1.16 (eC .non))) (nT (eAp b_ (ak 1.16 (ak (eC (.ty "str")) aG))))) (gO (Bo (e2 gEq 1.15 1.16) (e2 gEq (eAp b_ (ak 1.15 (ak (eC (.ty "str")) aG))) (eAp b_ (ak 1.16 (ak (eC (.ty "str")) aG)))))) fB)
 (gO (Bo (eAp b_ (ak 1.15 (ak (eC (.ty "int")) aG))) (Bo (e2 gEq (eAp b_ (ak 1.15 (ak (eC (.ty "bool")) aG))) (eAp b_ (ak 1.16 (ak (eC (.ty "bool")) aG)))) (e2 gEq 1.15 1.16)))))))
def bR:List D->Option D:=(aQ (aQ (aQ (aQ (λ_=>none)))))
def dw:List D->Option D:=fnP 2 4 ((bu (bV (eC (.int 0)) (tgN 2))
 (bu (sIf (eB (e2 gLt 1.16 (eAp cT (ak 1.15 aG)))) (bV (e2 gIx 1.15 1.16) (tgN 2)) fB)
 (bu (bV (e2 gf (eAp nQ (ak (ao false 2) aG)) (eAp ql (ak (e2 gGe (eAp nQ (ak (ao false 2) aG)) (e2 lX (eC (.int 10)) (eC (.int 18)))) aG))) (tgN 3))
 (gO (eAp bI (ak (ao false 3) (ak (e2 ji (e2 gf (e2 cg (e2 cg (e2 ji (ao false 2) (eC (.int 2147483647))) (e2 gf (eC (.int 7919)) 1.16)) (eC (.int 11))) (eC (.int 48271))) (eC (.int 2147483629))) aG))))))))
def aL:List D->Option (D×List D):=fnI (λi=>i==0) 2 4 ((bu (sIf (eB (e2 gGt (e2 gIx (ao true 0) (eC (.int 0))) (eC (.int 0)))) (bu (bV (e2 ji (e2 gIx (ao true 0) (eC (.int 0))) 1.16) (tgN 2))
 (bu (bV (e2 jL (e2 gIx (ao true 0) (eC (.int 0))) 1.16) (jZ dZ 0 (gF 0) (eC (.int 0))))
 (jk 2))) fB)
 (bu (bV (e2 ji (e2 cg (e2 gf (e2 gIx (ao true 0) (eC (.int 1))) (eC (.int 48271))) (eC (.int 39373))) (eC (.int 2147483647))) (jZ dZ 0 (gF 0) (eC (.int 1))))
 (bu (bV (e2 ji (e2 gf (e2 gIx (ao true 0) (eC (.int 1))) (e2 cg (e2 ji (e2 gIx (ao true 0) (eC (.int 1))) (eC (.int 40009))) (eC (.int 7)))) (eC (.int 2147483587))) (tgN 3))
 (gO (e2 ji (e2 jL (ao false 3) (eC (.int 64))) 1.16))))))
def dU:List D->Option (D×List D):=fnI (λi=>i==0) 1 4 ((bu (bV (eMt uJ (eC (.str "b aa zebra c quartzes ab m knows d mm likes z a ba abcdefgh y")) (ak (eC (.str " ")) aG)) (tgN 1))
 (bu (fQ (eIo aL [0] (gA (ak (eC (.int 16)) aG))) (tgN 2))
 (bu (fQ (ee2 gIx (vB bI (gQ (eIo aL [0] (gA (ak (eC (.int 3)) aG))) (gQ (ee2 cg (eUp (eC (.int 10))) (eIo aL [0] (gA (ak (eC (.int 5)) aG)))) (gQ (ee2 cg (eUp (eC (.int 4))) (eIo aL [0] (gA (ak (eC (.int 5)) aG)))) (gA aG))))) (vB jo (gQ (eUp (eC (.int 2))) (gQ (eIo aL [0] (gA (ak (eC (.int 8)) aG))) (gA aG))))) (tgN 3))
 (gO (iC [none,some 1,some 2] (wg (ak (ao false 3) aG)) (tpN 0) eTT (e2 gIx 1.16 (e2 ji (e2 cg (ao false 2) (e2 gf (eC (.int 5)) 1.15)) (eC (.int 16))))))))))
def eV:List D->Option (D×List D):=fnI (λi=>i==0) 1 1 ((vz (ee2 gIx (eUp (eAp bI (ak (eC (.int 0)) (ak (eC (.int 0)) (ak (eC (.int 0)) (ak (eC (.int 2)) (ak (eC (.int 3)) (ak (eC (.int 7)) (ak (eC (.int 1000)) (ak (eC (.int 1)) aG)))))))))) (eIo aL [0] (gA (ak (eC (.int 8)) aG))))))
def cQ:List D->Option (D×List D):=fnI (λi=>i==0) 3 12 ((bu (bV (eAp bI aG) (tgN 3))
 (bu (fQ (ee2 gIx (eUp (eAp bI (ak (eC (.int 3)) (ak (eC (.int 3)) (ak (eC (.int 12)) (ak (eC (.int 12)) (ak (eC (.int 12)) (ak (e2 gf (eC (.int 4)) (e2 lX (eC (.int 10)) (eC (.int 11)))) aG)))))))) (eIo aL [0] (gA (ak (eC (.int 6)) aG)))) (tgN 4))
 (bu (fQ (vB u_ (gQ (vh [none,some 4,some 0] (itS 1.16) (tgN 0) eTT (vB bC (gQ (eUp 1.15) (gQ (ee2 gm (eIo aL [2] (gA (ak (e2 gf (eC (.int 2)) 1.16) aG))) (eUp 1.16)) (gA aG))))) (gA aG))) (tgN 5))
 (bu (fQ (ee2 gIx (eUp (eAp bI (ak (eC (.int 0)) (ak (eC (.int 0)) (ak (eC (.int 3)) (ak (eC (.int 12)) aG)))))) (eIo aL [0] (gA (ak (eC (.int 4)) aG)))) (tgN 6))
 (bu (zL (zZ (gQ (eIo aL [0] (gA (ak (e2 cg (e2 gf (eC (.int 2)) (eAp cT (ak 1.16 aG))) (eC (.int 1))) aG))) (gA aG))) (tgN 7) (bu (vo (gQ (ee2 gIx (eUp 1.16) (eIo aL [0] (gA (ak (eAp cT (ak 1.16 aG)) aG)))) (gQ (ee2 gIx (eUp 1.16) (eIo aL [0] (gA (ak (eAp cT (ak 1.16 aG)) aG)))) (gA aG))) (aM (tgN 8) (aM (tgN 9) bO)))
 (bu (fQ (eIo aL [0] (gA (ak (eC (.int 9)) aG))) (tgN 10))
 (bu (sIf (eB (e2 gEq (ao false 10) (eC (.int 0)))) (bV (ao false 8) (tgN 9)) fB)
 (bu (sIf (j_ (eB (e2 gEq (ao false 10) (eC (.int 1)))) (eB (e2 gNe (ao false 3) (eAp bI aG)))) (fQ (JX (ee2 gIx (eUp (ao false 3)) (eIo aL [0] (gA (ak (eAp cT (ak (ao false 3) aG)) aG)))) p_ (n6 (eC (.int 2)))) (tgT 2 (aM (tgN 8) (aM (tgN 9) bO)))) fB)
 (bu (sIf (j_ (eB (e2 gEq (ao false 10) (eC (.int 2)))) (eB (e2 gNe (ao false 3) (eAp bI aG)))) (fQ (JX (ee2 gIx (eUp (ao false 3)) (eIo aL [0] (gA (ak (eAp cT (ak (ao false 3) aG)) aG)))) p_ (n6 (eC (.int 2)))) (tgT 2 (aM (tgN 9) (aM (tgN 8) bO)))) fB)
 (bu (fQ (ee2 cg (eUp (e2 gm (e2 gIx (ao false 5) (ao false 9)) (e2 gIx (ao false 5) (ao false 8)))) (ee2 gf (eUp (ao false 2)) (ee2 gm (eIo aL [0] (gA (ak (eC (.int 5)) aG))) (eUp (eC (.int 2)))))) (tgN 11))
 (bu (C_ (Bm (oO (eB (e2 gGt (ao false 6) (eC (.int 0))))) (eeB (ee2 gEq (eIo aL [0] (gA (ak (ao false 6) aG))) (eUp (eC (.int 0)))))) (fQ (ee2 cg (eUp (ao false 11)) (ee2 gIx (eUp (eAp bI (ak (eC (.int 1)) (ak (e1 jP (eC (.int 1))) (ak (eC (.int 2)) (ak (e2 lX (eC (.int 10)) (eC (.int 11))) aG)))))) (eIo aL [0] (gA (ak (eC (.int 4)) aG))))) (tgN 11)) fB)
 (km bj 3 (gF 3) (ak (eAp bC (ak (ao false 8) (ak (ao false 9) (ak (ao false 11) aG)))) aG))))))))))
 (jk 3)))))))
def aZ:List D->Option D:=fnP 2 8 ((bu (bV (iC [none] (itS 1.15) (tpN 0) eTT (eAp bI (ak 1.15 aG))) (tgN 2))
 (bu (gj (itS 1.16) (tgT 3 (aM (tgN 3) (aM (tgN 4) (aM (tgN 5) bO)))) (bu (sFz 2 (bV (e2 gIx (iC [none,some 3] (itS (ao false 2)) (tpN 0) (eB (e2 gIn 1.16 1.15)) 1.15) (eC (.int 0))) (tgN 6)))
 (bu (bV (e2 gIx (iC [none,some 4] (itS (ao false 2)) (tpN 0) (eB (e2 gIn 1.16 1.15)) 1.15) (eC (.int 0))) (tgN 7))
 (sIf (eB (e2 gNe (ao false 6) (ao false 7))) (bV (e2 cg (iC [none,some 6,some 7] (itS (ao false 2)) (tpN 0) (j_ (eB (e2 gNe 1.15 1.16)) (eB (e2 gNe 1.15 (ao false 2)))) 1.15) (eAp bI (ak (e2 cg (ao false 6) (ao false 7)) aG))) (tgN 2)) fB))))
 (gO (eAp dg (ak (iC [none] (itS (ao false 2)) (tpN 0) eTT (eAp dg (ak 1.15 aG))) aG))))))
def bw:List D->Option D:=fnP 2 2 ((bu (sIf (eB (e2 gEq 1.15 (eC (.int 0)))) (jk 1) fB)
 (gO (e2 gm 1.16 (e2 gf (e2 jL 1.16 1.15) 1.15)))))
def cI:List D->Option D:=fnP 3 9 ((bu (bV (eAp uy aG) (tgN 3))
 (bu (gj (itS (eAp (bz aZ) (ak 1.15 (ak 1.16 aG)))) (tgN 4) (bu (bV (eC (.int 0)) (jZ dZ 3 (gF 3) (e2 gIx (ao false 4) (eC (.int 0)))))
 (sFz 4 (gj (itS (ao false 4)) (tgN 5) (gj (itS 1.16) (tgT 3 (aM (tgN 6) (aM (tgN 7) (aM (tgN 8) bO)))) (bu (sIf (j_ (eB (e2 gIn (ao false 6) (ao false 3))) (eB (e2 gU (ao false 7) (ao false 3)))) (bV (e2 cg (e2 gIx (ao false 3) (ao false 6)) (ao false 8)) (jZ dZ 3 (gF 3) (ao false 7))) fB)
 (sIf (j_ (eB (e2 gIn (ao false 7) (ao false 3))) (eB (e2 gU (ao false 6) (ao false 3)))) (bV (e2 gm (e2 gIx (ao false 3) (ao false 7)) (ao false 8)) (jZ dZ 3 (gF 3) (ao false 6))) fB)))))))
 (bu (gj (itS 1.16) (tgT 3 (aM (tgN 6) (aM (tgN 7) (aM (tgN 8) bO)))) (sIf (eB (e2 gNe (eAp (bz bw) (ak (ao false 2) (ak (e2 gm (e2 gm (e2 gIx (ao false 3) (ao false 7)) (e2 gIx (ao false 3) (ao false 6))) (ao false 8)) aG))) (eC (.int 0)))) (gO (eC .non)) fB))
 (jk 3)))))
def cR:List D->Option D:=fnP 2 7 ((bu (bV (oU [none] (itS 1.15) (tpN 0) eTT 1.15 (eAp bI aG)) (tgN 2))
 (bu (gj (itE (ak 1.16 aG)) (tgT 2 (aM (tgN 3) (aM (tgT 3 (aM (tgN 4) (aM (tgN 5) (aM (tgN 6) bO)))) bO))) (bu (km bj 2 (uV 2 (gF 2) (ao false 4)) (ak (eAp bC (ak (ao false 3) (ak (eC (.int 1)) (ak (ao false 5) aG)))) aG))
 (km bj 2 (uV 2 (gF 2) (ao false 5)) (ak (eAp bC (ak (ao false 3) (ak (e1 jP (eC (.int 1))) (ak (ao false 4) aG)))) aG))))
 (jk 2))))
def dY:List D->Option D:=fnP 2 8 ((bu (bV (Bu (uN 1.16 (eAp bC aG) EY)) (tgN 2))
 (bu (bV (eAp bI (ak 1.16 aG)) (tgN 3))
 (bu (jC (oO (nT (ao true 3))) (bu (fQ (oK j5 3 (gF 3) (ak (eC (.int 0)) aG)) (tgN 4))
 (gj (itS (e2 gIx 1.15 (ao false 4))) (tgT 3 (aM (tgN 5) (aM (tgN 6) (aM (tgN 7) bO)))) (sIf (eB (e2 gU (ao false 7) (ao false 2))) (bu (bV (e2 cg (e2 gIx (ao false 2) (ao false 4)) (eAp bC (ak (eAp bC (ak (ao false 5) (ak (ao false 6) aG))) aG))) (jZ dZ 2 (gF 2) (ao false 7)))
 (km bj 3 (gF 3) (ak (ao false 7) aG))) fB))) 1000000)
 (jk 2)))))
def fV:List D->Option D:=fnP 2 7 ((bu (bV (eAp (bz cR) (ak 1.15 (ak 1.16 aG))) (tgN 2))
 (bu (bV (eAp uy aG) (tgN 3))
 (bu (bV (eAp bI aG) (tgN 4))
 (bu (gj (itS (eAp dg (ak 1.15 aG))) (tgN 5) (sIf (eB (e2 gU (ao false 5) (ao false 3))) (bu (bV (eAp (bz dY) (ak (ao false 2) (ak (ao false 5) aG))) (tgN 6))
 (bu (sFz 6 (km iu 3 (gF 3) (ak (ao false 6) aG)))
 (km bj 4 (gF 4) (ak (ao false 6) aG)))) fB))
 (jk 4))))))
def cu:List D->Option D:=fnP 2 2 ((bu (sIf (eB (e2 gEq 1.15 (eC (.int 0)))) (jk 1) fB)
 (gO (e2 ji 1.16 1.15))))
def bU:List D->Option D:=fnP 3 9 ((bu (bV (eC (.int 0)) (tgN 3))
 (bu (gj (itS (ao false 2)) (tgT 2 (aM (tgN 4) (aM (tgN 5) bO))) (bu (bV (e2 gIx 1.15 (ao false 4)) (tgT 3 (aM (tgN 6) (aM (tgN 7) (aM (tgN 8) bO)))))
 (GD (λi j=>i+j) 3 (e2 gf (ao false 5) (ao false 8)))))
 (gO (eAp (bz cu) (ak 1.16 (ak (ao false 3) aG)))))))
def dF:List D->Option D:=fnP 2 4 ((bu (bV (eC (.int 0)) (tgN 2))
 (bu (jC (oO (j_ (eB (e2 gLt (ao false 2) (eAp cT (ak 1.15 aG)))) (j_ (eB (e2 gLt (ao false 2) (eAp cT (ak 1.16 aG)))) (eB (e2 gEq (e2 gIx 1.15 (ao false 2)) (e2 gIx 1.16 (ao false 2))))))) (GD (λi j=>i+j) 2 (eC (.int 1))) 1000000)
 (bu (bV (iC [none,none] (JB (ak (eSl 1.15 (n6 (ao false 2)) p_) aG)) (tpT 2 (aM (tpN 0) (aM (tpN 1) bO))) eTT (eAp bC (ak 1.15 (ak (e1 jP 1.16) aG)))) (tgN 3))
 (gO (e2 cg (eAp fU (ak (ao false 3) aG)) (eSl 1.16 (n6 (ao false 2)) p_)))))))
def bB:List D->Option D:=fnP 3 10 ((bu (bV (eAp uy aG) (tgN 3))
 (bu (gj (itS (eAp (bz fV) (ak 1.15 (ak 1.16 aG)))) (tgN 4) (km iu 3 (gF 3) (ak (ao false 4) aG)))
 (bu (sFz 3 (bV (lw 3 [none,some 1,some 2,some 3] (tpN 0) eTT 1.15 (eAp (bz bU) (ak 1.16 (ak (ao false 2) (ak (e2 gIx (ao false 3) 1.15) aG))))) (tgN 5)))
 (bu (gj (itE (ak 1.16 aG)) (tgT 2 (aM (tgN 6) (aM (tgT 3 (aM (tgN 7) (aM (tgN 8) (aM (tgN 9) bO)))) bO))) 1.20)
 (gO (eAp bC (ak (eC (.str "numbers")) (ak (eSI (ao false 5)) aG)))))))))
def lC:List D->Option D:=fnP 1 11 ((bu (gj (wg (ak (e2 cg (eC (.int 1)) (eAp jo (ak (eC (.int 12)) (ak (eAp cT (ak 1.15 aG)) aG)))) aG)) (tgN 1) (bu (bV (eAp (bz dw) (ak 1.15 (ak 1.16 aG))) (tgN 2))
 (bu (fQ (eIo dU [2] (gA aG)) (tgN 3))
 (bu (fQ (eIo eV [2] (gA aG)) (tgN 4))
 (bu (fQ (eIo cQ [2] (gA (ak (ao false 3) (ak (ao false 4) aG)))) (tgN 5))
 (bu (bV (eAp (bz cI) (ak (ao false 3) (ak (ao false 5) (ak (ao false 4) aG)))) (tgN 6))
 (bu (bV (eAp yJ (ak (eAp bI (ak (ao false 3) (ak (ao false 5) aG))) aG)) (tgN 7))
 (bu (bV (eAp (bz bB) (ak (ao false 3) (ak (ao false 5) (ak (ao false 4) aG)))) (tgN 8))
 (bu (sIf (eOr (eB (e2 gNe (eAp yJ (ak (eAp bI (ak (ao false 3) (ak (ao false 5) aG))) aG)) (ao false 7))) (uE (nT (eAp b_ (ak (ao false 8) (ak (eC (.ty "tuple")) aG)))))) (gO (eC (.bl false))) fB)
 (sIf (eB (e2 gIs (ao false 6) (eC .non))) (sIf (eB (e2 gNe (e2 gIx (ao false 8) (eC (.int 0))) (eC (.str "ring")))) (gO (eC (.bl false))) fB) (bu (bV (eAp bC (ak (eC (.str "numbers")) (ak (eAp j8 (ak (iC [none,some 4,some 6] (itS (ao false 3)) (tpN 0) eTT (eAp bC (ak 1.15 (ak (eAp (bz bw) (ak 1.16 (ak (e2 gIx (ao false 2) 1.15) aG))) aG)))) aG)) aG))) (tgN 9))
 (bu (sIf (uE (nT (eAp (bz bR) (ak (ao false 8) (ak (ao false 9) aG))))) (gO (eC (.bl false))) fB)
 (bu (km bj 8 (uV 8 (gF 8) (eC (.int 1))) (ak (eAp bC (ak (eC (.str "z")) (ak (eC (.int 1)) aG))) aG))
 (bu (bV (eAp fU (ak (iC [none,none,none] (itS (e2 jM (ao false 5) (e1 jP (eC (.int 1))))) (tpT 3 (aM (tpN 0) (aM (tpN 1) (aM (tpN 2) bO)))) eTT (eAp bC (ak 1.16 (ak 1.15 (ak (e1 jP (ao false 2)) aG))))) aG)) (tgN 10))
 (sIf (uE (nT (eAp (bz bR) (ak (eAp (bz bB) (ak (eAp fU (ak (ao false 3) aG)) (ak (ao false 10) (ak (ao false 4) aG)))) (ak (ao false 9) aG))))) (gO (eC (.bl false))) fB)))))))))))))))
 (gO (eAp (bz bR) (ak (eAp (bz bB) (ak (eAp bI aG) (ak (eAp bI aG) (ak (eC (.int 3)) aG)))) (ak (eAp bC (ak (eC (.str "numbers")) (ak (eAp bI aG) aG))) aG))))))
noncomputable abbrev tp(a b:Int):D:=.lst .own [.int a,.int b]
def Dr(a b m:Int)(q:D×List D):Prop:=∃r U N:Int,q=(.int r,[tp U N,.int m])/\0<=r/\r<m/\0<=U
local macro_rules
 |`(tactic|simp_arith[$xs,*])=>`(tactic|simp[aC,yd,aR,dJ,w_ite,JN,bV,fQ,vo,sIf,C_,gO,vz,jk,fB,gj,zL,sFz,pX,km,oK,upS,tgN,tgT,aM,bO,jZ,tpN,tpT,gF,uV,ao,eC,aG,ak,eAp,eUp,oO,gA,ee2,gQ,vB,e2,e1,eB,eeB,nT,j_,eOr,uE,Bm,Bo,eTT,isB,wg,itS,itE,zZ,cC,iC,vh,eSl,JX,G7,F_,p_,n6,eMt,GD,eIo,objs,mK,bz,gk,gq,clean,aA,au,az,aB,jK,jB,view,dW,mkV,mkF,fz,fzL,fzo,gn,mkO,fnP,fnI,en0,outs,iw,iz,obC,truth,$xs,*])
theorem Ku{a b m:Int}(Z:0<=a)(q:0<m)(B:m<2 ^ 60):Wp (aL [tp a b,.int m]) (Dr a b m):=by
 have h2:m<18446744073709551616:=by omega
 have J:∀x:Int,-18446744073709551616<x % 40009+7/\x % 40009+7<18446744073709551616:=λx=>by omega
 by_cases h:0<a
 .simp_arith[aL,cg,gm,gf,jL,ji,lX,jP,gLt,gGt,gGe,gIx,bI,bC,cT,nQ,ql,jo,gIs,lO,atI,ixN,bj,dZ,gSl,jM,fU,h,q,h2,J]
  exact⟨_,_,_,rfl,ae_ _ 1.10,aeB _ q,Int.ediv_nonneg Z 1.10⟩
 .simp_arith[aL,cg,gm,gf,jL,ji,lX,jP,gLt,gGt,gGe,gIx,bI,bC,cT,nQ,ql,jo,gIs,lO,atI,ixN,bj,dZ,gSl,jM,fU,h,q,h2,J]
  exact⟨_,_,_,rfl,ae_ _ 1.10,aeB _ q,Z⟩
theorem qD{a b m:Int}(Z:0<=a)(J:0<m)(B:m<2 ^ 60):∃r U N,aL [tp a b,.int m]=some (.int r,[tp U N,.int m])/\0<=r/\r<m/\0<=U:=by
 obtain⟨q,e,r,U,N,rfl,h⟩:=Ku (b:=b) Z J B;exact⟨r,U,N,e,h⟩
theorem jA{a b m:Int}{Q:D×List D->Prop}(Z:0<=a)(J:0<m)(B:m<2 ^ 60)(h:∀r U N,0<=r->r<m->0<=U->Q (.int r,[tp U N,.int m])):Wp (aL [tp a b,.int m]) Q:=by
 refine(Ku (b:=b) Z J B).mono ?_;rintro _ ⟨r,U,N,rfl,h1,h2,O⟩;exact h r U N h1 h2 O
def Tn(q:D×List D):Prop:=∃t U N:Int,q=(.int t,[tp U N])/\0<=t/\t<=1000/\0<=U
theorem Sx{a b:Int}(Z:0<=a):Wp (eV [tp a b]) Tn:=by
 obtain⟨r,U,N,e,h1,h2,q⟩:=qD (b:=b) Z (show(0:Int)<8 by decide) 1.27;have O:r=0∨r=1∨r=2∨r=3∨r=4∨r=5∨r=6∨r=7:=by omega
 rcases O with rfl|rfl|rfl|rfl|rfl|rfl|rfl|rfl<;>simp_arith[eV,cg,gm,gf,jL,ji,lX,jP,gLt,gGt,gGe,gIx,bI,bC,cT,nQ,ql,jo,gIs,lO,atI,ixN,bj,dZ,gSl,jM,fU,e]<;>exact⟨_,_,_,rfl,by decide,by decide,q⟩
def qe:List Str:=["b","aa","zebra","c","quartzes","ab","m","knows","d","mm","likes","z","a","ba","abcdefgh","y"]
def Nm(q:D×List D):Prop:=∃(ns:List Str)(U N:Int),q=(.lst .own (ns.map D.str),[tp U N])/\(∀x∈ns,x∈qe∨x="")/\ns.Nodup/\ns.length<=14/\0<=U
theorem Ol:yf "b aa zebra c quartzes ab m knows d mm likes z a ba abcdefgh y" " "=some qe:=by decide +kernel
theorem RD:∀m:Fin 16,((X3 14).map λ(k:Nat)=>(qe[(((m.val:Int)+5*(k:Int)) % 16).toNat]?).getD "").Nodup:=by decide +kernel
theorem V5{r:Int}(V:0<=r)(O:r<16)(hn:n<=14):((X3 n).map λ(k:Nat)=>(qe[((r+5*(k:Int)) % 16).toNat]?).getD "").Nodup:=by
 obtain⟨m,rfl⟩:∃m:Nat,r=m:=⟨r.toNat,by omega⟩;have h:=RD ⟨m,by omega⟩;exact List.Nodup.sublist (List.Sublist.map _ (List.range_sublist.mpr hn)) h
theorem O9{a b:Int}(Z:0<=a):Wp (dU [tp a b]) Nm:=by
 obtain⟨N,U,b1,e1,b6,a0,b8⟩:=qD (b:=b) Z (show(0:Int)<16 by decide) 1.27;obtain⟨O,a2,I,e2,b0,c3,b7⟩:=qD (b:=b1) b8 (show(0:Int)<3 by decide) 1.27;obtain⟨r3,a3,b3,q,c1,c0,a8⟩:=qD (b:=I) b7 (show(0:Int)<5 by decide) 1.27;obtain⟨r4,a4,b4,e4,c2,c4,a9⟩:=qD (b:=b3) a8 (show(0:Int)<5 by decide) 1.27;obtain⟨r5,V,b5,e5,c5,c6,b9⟩:=qD (b:=b4) a9 (show(0:Int)<8 by decide) 1.27;simp_arith[dU,uJ,Ol,bI,cg,jo,e1,e2,q,e4,e5];clear e1 e2 q e4 e5;obtain⟨n,hn,n0,Y⟩:∃n:Int,gIx (D.lst Mk.own [D.int O,D.int (10+r3),D.int (4+r4)]) (D.int (if r5<2 then r5 else 2))=some (.int n)/\0<=n/\n<=14:=by
  have:r5=0∨r5=1∨2<=r5:=by omega
  rcases this with rfl|rfl|h
  .exact⟨O,rfl,b0,by omega⟩
  .exact⟨10+r3,rfl,by omega,by omega⟩
  .rw[Xz 1.10]
   exact⟨4+r4,rfl,by omega,by omega⟩
 simp![hn,cL,cG,aC,view,aA,au,true_and];rw[Xu 1.10,aC];refine⟨by rw[ye];omega,?_⟩;rw[jf (p:=λ_=>true) (f:=λd=>match d with|.int k=>.str ((qe[((N+5*k) % 16).toNat]?).getD "")|_=>.non)]
 .rw[aC,filter_tt,Oh]
  have e:(X3 n.toNat).map (λ(k:Nat)=>D.str ((qe[((N+5*(k:Int)) % 16).toNat]?).getD ""))=((X3 n.toNat).map λ(k:Nat)=>(qe[((N+5*(k:Int)) % 16).toNat]?).getD "").map D.str:=by rw[Xh];rfl
  show(az ((X3 n.toNat).map (λ(k:Nat)=>D.str ((qe[((N+5*(k:Int)) % 16).toNat]?).getD "")))=true/\aB ((X3 n.toNat).map (λ(k:Nat)=>D.str ((qe[((N+5*(k:Int)) % 16).toNat]?).getD "")))=true)/\Nm (D.lst Mk.own ((X3 n.toNat).map (λ(k:Nat)=>D.str ((qe[((N+5*(k:Int)) % 16).toNat]?).getD ""))),[tp V b5]);rw[e];refine⟨⟨cL _,cG _⟩,_,_,_,rfl,λx J=>?_,V5 b6 a0 1.10,by simp;omega,b9⟩;obtain⟨k,_,rfl⟩:=zc.mp J;cases F:qe[((N+5*(k:Int)) % 16).toNat]? with
  |none=>exact .inr rfl
  |some y=>exact .inl (Xw F)
 .intro d hd
  obtain⟨k,B,rfl⟩:=QT hd;have hm:(-18446744073709551616:Int)<5:=by decide
  obtain⟨x,J,a7,a6⟩:=jr (f:=D.str) (l:=qe) (i:=(N+5*(k:Int)) % 16) 1.10 (by show _<(16:Int);omega);simp[tpN,aC,eTT,e2,ao,view,dh,eC,gf,cg,ji,gIx,a7,a6]
def Jo(ns:List Str)(t:Int)(q:D×List D):Prop:=∃(js:List Jt)(U N:Int),q=(.lst .own (js.map jD),[tp U N,.lst .frz (ns.map D.str),.int t])/\(∀j∈js,j.1∈ns/\j.2.1∈ns)/\js.length<=2*ns.length/\0<=U/\∀j∈js,j.2.2.natAbs<=1000000000000
def JoI(ns:List Str)(t w:Int)(k:Nat)(acc:List D)(ρ:En):Prop:=∃(ps:List (Str×Int))(U N:Int),acc=ps.map pD/\ps.map (·.1)=ns.take k/\(∀p∈ps,p.2.natAbs<=400000000000)/\0<=U/\ρ=[some (tp U N),some 1.19,some (D.int t),some (D.lst Mk.own []),some (D.int w),none,none,none,none,none,none,none]
def JoF(ns:List Str)(t w sl:Int)(ks:List Key)(ds:List D)(k:Nat)(ρ:En):Prop:=∃(js:List Jt)(U N:Int)(q Y Z B F:Option D),ρ=[some (tp U N),some 1.19,some (D.int t),some (D.lst Mk.own (js.map jD)),some (D.int w),some (D.dct .own ks ds),some (D.int sl),q,Y,Z,B,F]/\(∀j∈js,j.1∈ns/\j.2.1∈ns)/\js.length<=k/\0<=U/\∀j∈js,j.2.2.natAbs<=1000000000000
theorem K3{ps:List (Str×Int)}{B:Nat}(Z:ps.length<=50000)(U:∀p∈ps,p.2.natAbs<=B):Wp (u_ [.lst .own (ps.map pD)]) λd=>(∃ks ds,d= .dct .own ks ds/\(∀e∈ds,∃i:Int,e= .int i/\i.natAbs<=B)/\∀x∈ps.map (·.1),∃(j:Nat)(i:Int),eY ks (.inr x)=some j/\ds[j]? =some (.int i))/\clean d=true:=by
 simp![u_];rw[Xu ⟨rfl,by simpa using Z⟩,Ex];refine aC.mpr ?_;have hok:=vp (es:=ps.map λp=>((XF p.1:Key),D.int p.2)) (ks:=[]) (ds:=[]) rfl;have I:=jQ (λd=>∃i:Int,d= .int i/\i.natAbs<=B) (es:=ps.map λp=>((XF p.1:Key),D.int p.2)) (ks:=[]) (ds:=[]) (by simp) (λq N=>by obtain⟨p,F,rfl⟩:=zc.mp N;exact⟨p.2,rfl,U p F⟩);refine⟨⟨_,_,rfl,I,λx J=>?_⟩,wA (bh λd hd=>by obtain⟨i,rfl,_⟩:=I d hd;rfl) (a_ λd hd=>by obtain⟨i,rfl,_⟩:=I d hd;rfl)⟩;obtain⟨p,F,rfl⟩:=zc.mp J;obtain⟨j,h1,h2⟩:=QQ ((hok.2 (XF p.1)).mpr (.inr ⟨_,zc.mpr ⟨p,F,rfl⟩,rfl⟩));have Y:j<(bH [] [] (ps.map λp=>((XF p.1:Key),D.int p.2))).2.length:=by rw[←hok.1];exact h2
 obtain⟨i,hi,_⟩:=I _ (ZW Y);exact⟨j,i,h1,by rw[Xk Y,hi]⟩
set_option hygiene false
local macro_rules
 |`(tactic|simp_arith![$x,*])=>`(tactic|simp only[$x,*,en0,XN,Yl,Xi,Yq,YK,XX,aR,Nat.reduceAdd,Nat.reduceSub,Yc,List.nil_append])
set_option hygiene true
theorem Cp{a b t:Int}(Z:0<=a)(f6:ns.length<=1000)(ht:0<=t/\t<=1000):Wp (cQ [tp a b,.lst .frz (ns.map D.str),.int t]) (Jo ns t):=by
 simp_arith![cQ,fnI];refine bf (λρ=>ρ=[some (tp a b),some 1.19,some (D.int t),some (D.lst Mk.own []),none,none,none,none,none,none,none,none]) (λQ hQ=>?_) ?_
 .simp_arith[bI]
  exact hQ _ rfl
 rintro _ rfl;refine bf (λρ=>∃(w a1 b1:Int),3<=w/\w<=400000000000/\0<=a1/\ρ=[some (tp a1 b1),some 1.19,some (D.int t),some (D.lst Mk.own []),some (D.int w),none,none,none,none,none,none,none]) (λQ hQ=>?_) ?_
 .simp_arith[bI,gf,lX]
  refine jA Z 1.10 1.10 λN a1 b1 p1 q1 B=>?_;obtain⟨w,q,w0,w1⟩:∃w:Int,gIx (D.lst Mk.own [D.int 3,D.int 3,D.int 12,D.int 12,D.int 12,D.int 400000000000]) (D.int N)=some (.int w)/\3<=w/\w<=400000000000:=by
   have:N=0∨N=1∨N=2∨N=3∨N=4∨N=5:=by omega
   rcases this with rfl|rfl|rfl|rfl|rfl|rfl<;>exact⟨_,rfl,by decide,by decide⟩
  simp_arith[q];exact hQ _ ⟨w,a1,b1,w0,w1,B,rfl⟩
 rintro _ ⟨w,a1,b1,w0,w1,B,rfl⟩;refine bf (λρ=>∃(ks:List Key)(ds:List D)(a' b':Int),0<=a'/\(∀e∈ds,∃i:Int,e= .int i/\i.natAbs<=400000000000)/\(∀x∈ns,∃(j:Nat)(i:Int),eY ks (.inr x)=some j/\ds[j]? =some (.int i))/\ρ=[some (tp a' b'),some 1.19,some (D.int t),some (D.lst Mk.own []),some (D.int w),some (D.dct .own ks ds),none,none,none,none,none,none]) (λQ hQ=>?_) ?_
 .simp_arith[dh,eQ,cL,cG]
  refine⟨by omega,J5 (JoI ns t w) ⟨[],a1,b1,rfl,rfl,by simp,B,rfl⟩ ?_ ?_⟩
  .rintro i d acc ρ hi ⟨ps,a2,b2,rfl,hps,hpb,Y,rfl⟩
   rw[List.getElem?_map]at hi;cases J:ns[i]? with
   |none=>simp[J]at hi
   |some x=>
    obtain rfl:D.str x=d:=by simpa[J]using hi
    simp_arith[gf,bC];refine jA Y 1.10 1.10 λr3 a3 b3 p3 q3 s3=>?_;simp_arith[gm];exact⟨ps++[(x,r3-w)],_,_,by simp[pD],by rw[X4,hps,Y_,J];rfl,λp F=>(W2.mp F).elim (hpb p) λz=>by rw[Xv.mp z];show(r3-w).natAbs<=_;omega,s3,rfl⟩
  .rintro ys ρ ⟨ps,a2,b2,rfl,hps,hpb,Y,rfl⟩
   rw[Xq,Zw]at hps;have e3:aB (ps.map pD)=true:=a_ λd hd=>by obtain⟨x,_,rfl⟩:=zc.mp hd;rfl
   have f9:ps.length=ns.length:=by rw[←hps];simp
   refine⟨e3,Wp.mono (K3 1.10 hpb) ?_⟩;rintro _ ⟨⟨ks,ds,rfl,c2,c1⟩,e5⟩;rw[hps]at c1;have d0:(aA (D.dct .own ks ds)=true/\au (D.dct .own ks ds)=true):=by simpa[clean]using e5
   exact⟨d0,hQ _ ⟨ks,ds,a2,b2,Y,c2,c1,rfl⟩⟩
 rintro _ ⟨ks,ds,a2,b2,Y,c2,c1,rfl⟩;refine bf (λρ=>∃(sl a' b':Int),0<=sl/\sl<=12/\0<=a'/\ρ=[some (tp a' b'),some 1.19,some (D.int t),some (D.lst Mk.own []),some (D.int w),some (D.dct .own ks ds),some (D.int sl),none,none,none,none,none]) (λQ hQ=>?_) ?_
 .simp_arith[bI]
  refine jA Y 1.10 1.10 λr4 a4 b4 p4 q4 s4=>?_;obtain⟨sl,d7,d4,d1⟩:∃w:Int,gIx (D.lst Mk.own [D.int 0,D.int 0,D.int 3,D.int 12]) (D.int r4)=some (.int w)/\0<=w/\w<=12:=by
   have:r4=0∨r4=1∨r4=2∨r4=3:=by omega
   rcases this with rfl|rfl|rfl|rfl<;>exact⟨_,rfl,by decide,by decide⟩
  simp_arith[d7];exact hQ _ ⟨sl,a4,b4,d4,d1,s4,rfl⟩
 rintro _ ⟨sl,a4,b4,d4,d1,s4,rfl⟩;refine bf (JoF ns t w sl ks ds (2*ns.length)) (λQ hQ=>?_) ?_
 .simp_arith[cT,dh,cg,gf]
  refine jA s4 1.10 1.10 λr5 a5 b5 p5 q5 s5=>?_;simp_arith[aC];refine⟨by omega,il (JoF ns t w sl ks ds) ⟨[],a5,b5,_,_,_,_,_,rfl,by simp,by simp,s5,by simp⟩ ?_ ?_⟩
  .rintro k d ρ hk ⟨js,a6,b6,x7,x8,x9,c6,a0,rfl,b0,c8,s6,c3⟩
   obtain⟨g6,rfl⟩:=Gf hk;have hn:0<ns.length:=by omega
   simp![tgN,clean,aA,au,aam,XX,aC,YC,Zf];refine bf (λρ=>∃(x y:Str)(a' b':Int),x∈ns/\y∈ns/\0<=a'/\ρ=[some (tp a' b'),some 1.19,some (D.int t),some (D.lst Mk.own (js.map jD)),some (D.int w),some (D.dct .own ks ds),some (D.int sl),some (D.int k),some (D.str x),some (D.str y),c6,a0]) (λQ hQ=>?_) ?_
   .simp_arith[cL,cG,dh,fX,eQ,jJ,jO,ou,oA,lZ,Hj,Hc,Hb,G4,Hi,wy,qx,len_strs,mZ,jz,Dj,Gi,eq_int,qI]
    refine jA s6 1.10 1.10 λr7 a7 b7 p7 q7 s7=>?_;obtain⟨x,J,_,f0⟩:=jr (f:=D.str) (l:=ns) p7 q7;simp_arith[cL,cG,dh,fX,eQ,jJ,jO,ou,oA,lZ,Hj,Hc,Hb,G4,Hi,wy,qx,len_strs,mZ,jz,Dj,Gi,eq_int,qI,f0];refine jA s7 1.10 1.10 λr8 a8 b8 p8 q8 s8=>?_;obtain⟨y,V,_,f1⟩:=jr (f:=D.str) (l:=ns) p8 q8;simp_arith[cL,cG,dh,fX,eQ,jJ,jO,ou,oA,lZ,Hj,Hc,Hb,G4,Hi,wy,qx,len_strs,mZ,jz,Dj,Gi,eq_int,qI,f1];exact hQ _ ⟨x,y,_,_,J,V,s8,rfl⟩
   rintro _ ⟨x,y,a7,b7,J,V,s7,rfl⟩;refine bf (λρ=>∃(v:Int)(a' b':Int),0<=a'/\ρ=[some (tp a' b'),some 1.19,some (D.int t),some (D.lst Mk.own (js.map jD)),some (D.int w),some (D.dct .own ks ds),some (D.int sl),some (D.int k),some (D.str x),some (D.str y),some (D.int v),a0]) (λQ hQ=>?_) ?_
   .simp_arith[aC]
    refine jA s7 1.10 1.10 λr8 a8 b8 p8 q8 s8=>?_;simp_arith[aC];exact hQ _ ⟨_,_,_,s8,rfl⟩
   rintro _ ⟨v,a8,b8,s8,rfl⟩;refine bf (λρ=>∃(y:Str),y∈ns/\ρ=[some (tp a8 b8),some 1.19,some (D.int t),some (D.lst Mk.own (js.map jD)),some (D.int w),some (D.dct .own ks ds),some (D.int sl),some (D.int k),some (D.str x),some (D.str y),some (D.int v),a0]) (λQ hQ=>?_) ?_
   .simp_arith[eq_int]
    split
    .exact hQ _ ⟨x,J,rfl⟩
    .exact hQ _ ⟨y,V,rfl⟩
   clear V y;rintro _ ⟨y,V,rfl⟩;have two:∀{Q:Fl->Prop}{a8 b8:Int}{x y:Str}(c:Int)(sw:Bool),x∈ns->y∈ns->0<=a8->(∀x y a' b',x∈ns->y∈ns->0<=a'->Q (.nx [some (tp a' b'),some 1.19,some (D.int t),some (D.lst Mk.own (js.map jD)),some (D.int w),some (D.dct .own ks ds),some (D.int sl),some (D.int k),some (D.str x),some (D.str y),some (D.int v),a0]))->
     Wp (sIf (j_ (eB (e2 gEq (ao false 10) (eC (.int c)))) (eB (e2 gNe (ao false 3) (eAp bI aG)))) (fQ (JX (ee2 gIx (eUp (ao false 3)) (eIo aL [0] (gA (ak (eAp cT (ak (ao false 3) aG)) aG)))) p_ (n6 (eC (.int 2)))) (tgT 2 (if sw then aM (tgN 9) (aM (tgN 8) bO)else aM (tgN 8) (aM (tgN 9) bO)))) fB [some (tp a8 b8),some 1.19,some (D.int t),some (D.lst Mk.own (js.map jD)),some (D.int w),some (D.dct .own ks ds),some (D.int sl),some (D.int k),some (D.str x),some (D.str y),some (D.int v),a0]) Q:=by
    intro Q a8 b8 x y c sw J V s8 hQ;simp_arith[cL,cG,dh,fX,eQ,jJ,jO,ou,oA,lZ,Hj,Hc,Hb,G4,Hi,wy,qx,len_strs,mZ,jz,Dj,Gi,eq_int,qI,bI];split
    .by_cases hjn:js=[]
     .subst hjn
      simp;exact hQ _ _ _ _ J V s8
     .have hjp:0<js.length:=aej.mpr hjn
      simp_arith[hjn,cL,cG,dh,fX,eQ,jJ,jO,ou,oA,lZ,Hj,Hc,Hb,G4,Hi,wy,qx,len_strs,mZ,jz,Dj,Gi,eq_int,qI];refine jA s8 1.10 1.10 λr9 a9 b9 p9 q9 s9=>?_;obtain⟨j,I,_,e6⟩:=jr (f:=jD) (l:=js) p9 q9;cases sw<;>simp_arith[cL,cG,dh,fX,eQ,jJ,jO,ou,oA,lZ,Hj,Hc,Hb,G4,Hi,wy,qx,len_strs,mZ,jz,Dj,Gi,eq_int,qI,e6]
      .exact hQ _ _ _ _ (b0 j I).1 (b0 j I).2 s9
      .exact hQ _ _ _ _ (b0 j I).2 (b0 j I).1 s9
    .exact hQ _ _ _ _ J V s8
   refine bf (λρ=>∃(x y:Str)(a' b':Int),x∈ns/\y∈ns/\0<=a'/\ρ=[some (tp a' b'),some 1.19,some (D.int t),some (D.lst Mk.own (js.map jD)),some (D.int w),some (D.dct .own ks ds),some (D.int sl),some (D.int k),some (D.str x),some (D.str y),some (D.int v),a0]) (λQ hQ=>two 1 false J V s8 λx y a' b' h1 h2 O=>hQ _ ⟨x,y,a',b',h1,h2,O,rfl⟩) ?_;clear J V x y;rintro _ ⟨x,y,a9,b9,J,V,s9,rfl⟩;refine bf (λρ=>∃(x y:Str)(a' b':Int),x∈ns/\y∈ns/\0<=a'/\ρ=[some (tp a' b'),some 1.19,some (D.int t),some (D.lst Mk.own (js.map jD)),some (D.int w),some (D.dct .own ks ds),some (D.int sl),some (D.int k),some (D.str x),some (D.str y),some (D.int v),a0]) (λQ hQ=>two 2 true J V s9 λx y a' b' h1 h2 O=>hQ _ ⟨x,y,a',b',h1,h2,O,rfl⟩) ?_;clear J V x y;rintro _ ⟨x,y,g5,g0,J,V,e7,rfl⟩;obtain⟨jx,ix,e9,d3⟩:=c1 x J;obtain⟨jy,iy,e0,d2⟩:=c1 y V;have bx:ix.natAbs<=400000000000:=by obtain⟨i,e,h⟩:=c2 _ (Xw d3);cases e;exact h
   have bY:iy.natAbs<=400000000000:=by obtain⟨i,e,h⟩:=c2 _ (Xw d2);cases e;exact h
   have d8:dW false ds=ds:=by
    rw[bK]
    conv=>rhs;rw[←Zc ds]
    exact XM λd hd=>by obtain⟨i,rfl,_⟩:=c2 d hd;rfl
   refine bf (λρ=>∃(st:Int)(a' b':Int),st.natAbs<=800000002000/\0<=a'/\ρ=[some (tp a' b'),some 1.19,some (D.int t),some (D.lst Mk.own (js.map jD)),some (D.int w),some (D.dct .own ks ds),some (D.int sl),some (D.int k),some (D.str x),some (D.str y),some (D.int v),some (D.int st)]) (λQ hQ=>?_) ?_
   .have ht1: -18446744073709551616<t/\t<18446744073709551616:=by omega
    simp_arith[gIx,d9,d8,e9,d3,e0,d2,gm];refine jA e7 1.10 1.10 λc0 e1 e8 f8 g3 c7=>?_;simp_arith[gm,gf,cg,ht1];have U:(t*(c0-2)).natAbs<=2000:=by
     have h5:c0=0∨c0=1∨c0=2∨c0=3∨c0=4:=by omega
     rcases h5 with rfl|rfl|rfl|rfl|rfl<;>omega
    exact hQ _ ⟨_,_,_,by omega,c7,rfl⟩
   rintro _ ⟨st,e1,e8,g2,c7,rfl⟩;refine bf (λρ=>∃(st:Int)(a' b':Int),st.natAbs<=1000000000000/\0<=a'/\ρ=[some (tp a' b'),some 1.19,some (D.int t),some (D.lst Mk.own (js.map jD)),some (D.int w),some (D.dct .own ks ds),some (D.int sl),some (D.int k),some (D.str x),some (D.str y),some (D.int v),some (D.int st)]) (λQ hQ=>?_) ?_
   .simp_arith[gGt]
    split
    .refine jA c7 1.10 1.10 λf4 d6 f2 g1 f3 c5=>?_
     simp_arith[eq_int];split
     .simp_arith[bI,jP,lX]
      refine jA c5 1.10 1.10 λc4 g4 f5 f7 g7 e4=>?_;have:c4=0∨c4=1∨c4=2∨c4=3:=by omega
      rcases this with rfl|rfl|rfl|rfl<;>simp_arith[gIx,atI,ixN,cg]<;>exact hQ _ ⟨_,_,_,by omega,e4,rfl⟩
     .exact hQ _ ⟨_,_,_,by omega,c5,rfl⟩
    .exact hQ _ ⟨_,_,_,by omega,c7,rfl⟩
   rintro _ ⟨c9,d6,f2,d5,c5,rfl⟩;simp_arith[bj,bC];refine⟨by omega,⟨js++[(x,y,c9)],_,_,_,_,_,_,_,by rw[X4];rfl,?_,by simp;omega,c5,λj I=>(W2.mp I).elim (c3 j) λz=>by rw[Xv.mp z];exact d5⟩⟩;intro j I;rcases W2.mp I with z|z
   .exact b0 j z
   .obtain rfl:j=(x,y,c9):=by simpa using z
    exact⟨J,V⟩
  .rintro ρ ⟨js,a6,b6,x7,x8,x9,c6,a0,rfl,b0,c8,s6,c3⟩
   rw[ye]at c8;exact hQ _ ⟨js,a6,b6,x7,x8,x9,c6,a0,rfl,b0,by omega,s6,c3⟩
 rintro _ ⟨js,a6,b6,x7,x8,x9,c6,a0,rfl,b0,c8,s6,c3⟩;simp[jk,aC,outs,dJ];exact⟨js,a6,b6,rfl,b0,c8,s6,c3⟩
inductive Tyd:D->Prop
 |non:Tyd .non
 |bl (b:Bool):Tyd (.bl b)
 |int (i:Int):Tyd (.int i)
 |str (x:Str):Tyd (.str x)
 |tup {ds:List D}:(∀e∈ds,Tyd e)->Tyd (.tup ds)
 |lst {ds:List D}:(∀e∈ds,Tyd e)->Tyd (.lst .frz ds)
theorem ir{f:D->D}(h:∀e∈ds,f e=e):ds.map f=ds:=by
 conv=>rhs;rw[←Zc ds]
 exact XM h
variable{d:D}
theorem Tyd.all(h:Tyd d):fz d=d/\fzo d=d/\(∀b,view b d=d)/\aA d=true/\au d=true/\ik d=true:=by
 induction h with
 |non=>exact⟨rfl,rfl,λ_=>rfl,rfl,rfl,rfl⟩
 |bl b=>exact⟨rfl,rfl,λ_=>rfl,rfl,rfl,rfl⟩
 |int b=>exact⟨rfl,rfl,λ_=>rfl,rfl,rfl,rfl⟩
 |str b=>exact⟨rfl,rfl,λ_=>rfl,rfl,rfl,rfl⟩
 |@tup ds _ U=>
  have hd:∀l:List D,(∀e∈l,ik e=true)->jl l=true:=λl=>by
   induction l with
   |nil=>intro _;rfl
   |cons x r q=>intro z;simp[jl,z x (by simp),q λe V=>z e (by simp[V])]
  exact⟨by rw[fz,fY,ir λe V=>(U e V).1],by rw[fzo,dH,ir λe V=>(U e V).2.1],λb=>by rw[view,bK,ir λe V=>(U e V).2.2.1 b],by rw[aA];exact bh λe V=>(U e V).2.2.2.1,by rw[au];exact a_ λe V=>(U e V).2.2.2.2.1,by rw[ik];exact hd ds λe V=>(U e V).2.2.2.2.2⟩
 |@lst ds _ U=>
  have hd:∀l:List D,(∀e∈l,ik e=true)->jl l=true:=λl=>by
   induction l with
   |nil=>intro _;rfl
   |cons x r q=>intro z;simp[jl,z x (by simp),q λe V=>z e (by simp[V])]
  refine⟨by rw[fz,fY,ir λe V=>(U e V).1];rfl,by rw[fzo,dH,ir λe V=>(U e V).2.1];rfl,λb=>by rw[view,bK,ir λe V=>(U e V).2.2.1 b];cases b<;>rfl,?_,?_,by rw[ik];exact hd ds λe V=>(U e V).2.2.2.2.2⟩
  .simp[aA,bh λe V=>(U e V).2.2.2.1]
  .simp[au,a_ λe V=>(U e V).2.2.2.2.1]
theorem Tyd.ofL(h:∀e∈ds,Tyd e):fzL ds=ds/\gn ds=ds/\(∀b,dW b ds=ds)/\az ds=true/\aB ds=true:=
 ⟨by rw[fY,ir λe V=>(h e V).all.1],by rw[dH,ir λe V=>(h e V).all.2.1],λb=>by rw[bK,ir λe V=>(h e V).all.2.2.1 b],bh λe V=>(h e V).all.2.2.2.1,a_ λe V=>(h e V).all.2.2.2.2.1⟩
def pm(s:Int):Bool:=s==1||s== -1
theorem Ep(f:D->Bool):∀ds:List D,B_ (ds.map λd=>.bl (f d))=some (ds.map f)
 |[]=>rfl
 |d::r=>by simp[B_,Ep f r]
theorem all_map(f:D->Bool)(ds:List D):Mg [.lst .own (ds.map λd=>.bl (f d))]=some (.bl (ds.all f)):=by
 simp[Mg,Ep,aev]
theorem ne_int{i j:Int}:gNe (.int i) (.int j)=some (.bl (!decide (i=j))):=by
 unfold gNe;rw[Xu ⟨rfl,rfl,.sc (.int i j)⟩];simp[dt,eqD];exact aba.mpr (by simp)
abbrev Pt:=Int×Int
def ptD(p:Pt):D:=.tup [.int p.1,.int p.2]
theorem Eg(l:List Pt):az (l.map ptD)=true:=bh λd hd=>by obtain⟨x,_,rfl⟩:=zc.mp hd;rfl
theorem FN(l:List Pt):aB (l.map ptD)=true:=a_ λd hd=>by obtain⟨x,_,rfl⟩:=zc.mp hd;rfl
theorem M5(b:Bool)(l:List Pt):dW b (l.map ptD)=l.map ptD:=by rw[bK,Xh];rfl
theorem VM(l:List Pt):fzL (l.map ptD)=l.map ptD:=by rw[fY,Xh];rfl
theorem K7(l:List Pt):gn (l.map ptD)=l.map ptD:=by rw[dH,Xh];rfl
structure JJ(J:D)(js:List Jt):Prop where
 f:fz J=J
 v:∀b,view b J=J
 b:aA J=true
 o:au J=true
 l:cT [J]=some (.int js.length)
 x:∀i,gIx J (.int i)=atI (js.map jD) i
 s:cC J=some (true,js.map jD)
 e:itE (λ_=>some [J]) []=some (true,jm 0 (js.map jD))
theorem JJ.lst(js:List Jt):JJ (.lst .frz (js.map jD)) js:=⟨by simp[fz,oA,mkF],λb=>by cases b<;>simp[view,ou,mkV],by simp[aA,jJ],by simp[au,jO],by simp[cT],λ_=>rfl,by simp[cC,clean,aA,au,jJ,jO,lZ],by simp[itE,cC,clean,aA,au,jJ,jO,lZ]⟩
theorem JJ.tup(js:List Jt):JJ (.tup (js.map jD)) js:=⟨by simp[fz,oA],λb=>by simp[view,ou],by simp[aA,jJ],by simp[au,jO],by simp[cT],λ_=>rfl,by simp[cC,clean,aA,au,jJ,jO,lZ],by simp[itE,cC,clean,aA,au,jJ,jO,lZ]⟩
def ends(j:Jt)(s:Int):Str×Str:=if s=1 then(j.1,j.2.1)else(j.2.1,j.1)
def stp(js:List Jt)(p:Pt):Option (Str×Str):=if 0<=p.1/\p.1<js.length then(js[p.1.toNat]?).map λj=>ends j p.2 else none
def lst(h:Str):List Str->Str
 |[]=>h
 |x::r=>lst x r
def mt(js:List Jt):Str->List Pt->Option (List Str)
 |_,[]=>some []
 |h,p::r=>(stp js p).bind λq=>if q.1=h then(mt js q.2 r).map λt=>q.2::t else none
theorem Es:∀(l:List Str)(h x:Str),lst h (l++[x])=x
 |[],_,_=>rfl
 |_::r,_,x=>Es r _ x
variable{js:List Jt}
theorem Ey:∀(ps:List Pt)(h:Str)(p:Pt),mt js h (ps++[p])=(mt js h ps).bind λl=>(stp js p).bind λq=>if q.1=lst h l then some (l++[q.2])else none
 |[],h,p=>by
  rw[List.nil_append,mt,mt,Mx];cases stp js p with
  |none=>rfl
  |some q=>
   simp![Mx];by_cases N:q.1=h
   .rw[Xu N,Xu (show q.1=lst h []from N)];rfl
   .rw[Xz N,Xz (show ¬q.1=lst h []from N)]
 |a::r,h,p=>by
  rw[Yc,mt,mt];cases e:stp js a with
  |none=>simp
  |some q=>
   simp![Mx];by_cases N:q.1=h
   .rw[Xu N,Xu N,Ey r q.2 p]
    cases e2:mt js q.2 r with
    |none=>simp
    |some l=>
     cases B:stp js p with
     |none=>simp
     |some u=>
      simp![Mx,Yb];by_cases V:u.1=lst q.2 l
      .rw[Xu V,Xu (show u.1=lst h (q.2::l)from V)];rfl
      .rw[Xz V,Xz (show ¬u.1=lst h (q.2::l)from V)];rfl
   .rw[Xz N,Xz N]
    rfl
theorem ne_str:gNe (.str x) (.str y)=some (.bl (!decide (x=y))):=by
 unfold gNe;rw[Xu ⟨rfl,rfl,.sc (.str x y)⟩];simp[dt,eqD];exact aba.mpr (by simp)
variable{p:Pt}
theorem JR(h:¬(0<=p.1/\p.1<js.length)):stp js p=none:=by unfold stp;rw[Xz h]
theorem pW(h:0<=p.1/\p.1<js.length):∃j,j∈js/\js[p.1.toNat]? =some j/\atI (js.map jD) p.1=some (jD j)/\stp js p=some (ends j p.2):=by
 obtain⟨j,h1,h2,O⟩:=jr (f:=jD) h.1 h.2;exact⟨j,h1,h2,O,by unfold stp;rw[Xu h,h2];rfl⟩
def tot(js:List Jt):List Pt->Int
 |[]=>0
 |p::r=>p.2*((js[p.1.toNat]?).map λj=>j.2.2).getD 0+tot js r
def inJ(js:List Jt)(ps:List Pt):Prop:=∀p∈ps,0<=p.1/\p.1<js.length
theorem Rp:∀(ps:List Pt)(h:Str)(l:List Str),mt js h ps=some l->inJ js ps
 |[],h,l,e=>by intro p F;cases F
 |a::r,h,l,e=>by
  rw[mt]at e;by_cases O:0<=a.1/\a.1<js.length
  .obtain⟨j,_,_,_,hst⟩:=pW O
   rw[hst,Mx]at e;by_cases N:(ends j a.2).1=h
   .rw[Xu N]at e
    cases e2:mt js (ends j a.2).2 r with
    |none=>simp[e2]at e
    |some t=>exact λp F=>(Xj.mp F).elim (λz=>by rw[z];exact O) (Rp r _ t e2 p)
   .rw[Xz N]at e;cases e
  .rw[JR O]at e;cases e
def StI(J:D)(js:List Jt)(t:Int)(ps:List Pt)(k:Nat)(ρ:En):Prop:=∃(c:Int)(O U F q Y:Option D),c+tot js (ps.drop k)=tot js ps/\ρ=[some J,some (.int t),some (.tup (ps.map ptD)),some (.int c),O,U,F,q,Y]
def cnt(t n:Int):Int:=if t=0 then n else n % t
theorem Dz{a:Bool}:gEq (.bl a) (.bl b)=some (.bl (a==b)):=by
 unfold gEq;rw[Xu ⟨rfl,rfl,.sc (.bl a b)⟩];simp[dt,eqD]
theorem eq_str{a:Str}:gEq (.str a) (.str a)=some (.bl true):=by
 unfold gEq;rw[Xu ⟨rfl,rfl,.sc (.str a a)⟩];simp[dt,eqD]
mutual
noncomputable def tz:D->Nat
 |.int i=>if i.natAbs<1000000000000000000 then 20 else i.natAbs+2
 |.str x=>(reprText x).length
 |.tup ds=>4+tzL ds
 |.lst _ ds=>4+tzL ds
 |_=>5
noncomputable def tzL:List D->Nat
 |[]=>0
 |d::r=>tz d+2+tzL r
end
mutual
noncomputable def dz:D->Nat
 |.tup ds=>1+dzL ds
 |.lst _ ds=>1+dzL ds
 |_=>0
noncomputable def dzL:List D->Nat
 |[]=>0
 |d::r=>max (dz d) (dzL r)
end
theorem Ew:∀(ts:List Str)(k:Nat)(a:Str),(textFrom k a ts).length<=a.length+(ts.map λt=>t.length+2).sum
 |[],k,a=>by rw[textFrom.eq_1];simp
 |t::ts,k,a=>by
  rw[textFrom.eq_2];have h1:=Ew ts (k+1) (a++ZM (if k>0 then ", " else "")++t);rw[aaQ,aaQ]at h1;have O:(ZM (if k>0 then ", " else "")).length<=2:=by split<;>decide
  rw[Xi,ZS];omega
theorem Ac:∀ts:List Str,piled ts=(ts.map λt=>t.length+2).sum
 |[]=>rfl
 |t::r=>by rw[Xi,ZS,←Ac r];simp[piled]
theorem O2(ts:List Str):(Str.join ", " ts).length<=(ts.map λt=>t.length+2).sum:=by
 cases ts with
 |nil=>decide
 |cons t r=>
  have:=join_length_add (t::r) (by simp);rw[Ac]at this;omega
theorem Ih{i:Int}(h:i.natAbs<1000000000000000000):(ZM (toString i)).length<=19:=by
 have q:∀n:Nat,n<1000000000000000000->(Nat.repr n).length<=18:=λn hn=>by
  have:=toDigits_len_pow (b:=10) (k:=18) 1.27 1.27 (n:=n) (by simpa using hn);simpa[Nat.repr]using this
 rw[ofString_len];cases i with
 |ofNat m=>exact Yz (q m h) 1.27
 |negSucc m=>
  have:=q (m+1) h;show("-"++Nat.repr (m+1)).length<=19;rw[String.length_append];have h1:"-".length=1:=by decide
  omega
mutual
theorem zj:∀{d:D},ik d=true->tz d<=1000000->(pyD (dt d)).shown.length<=tz d/\(pyD (dt d)).showable=true/\(pyD (dt d)).depth<=dz d
 |.non,_,_=>⟨by decide,rfl,by decide⟩
 |.bl b,_,_=>by cases b<;>exact⟨by decide,rfl,by decide⟩
 |.int i,_,h=>by
  rw[tz]at h;by_cases hs:i.natAbs<1000000000000000000
  .refine⟨?_,?_,by simp[dt,pyD,PyData.depth]⟩
   .have:=Ih hs
    simp![dt,pyD,ac2,tz,hs,XX];omega
   .simp![dt,pyD,abb]
    refine YL ?_;by_cases V:i.natAbs=0
    .rw[V];decide
    .exact(Nat.log2_lt V).mpr (XC (show i.natAbs<2 ^ 60 by omega) (Nat.pow_le_pow_right 1.27 1.27))
  .rw[Xz hs]at h
   omega
 |.str x,_,_=>⟨by simp[dt,pyD,ac2,tz],by simp[dt,pyD,abb],by simp[dt,pyD,PyData.depth,dz]⟩
 |.tup ds,h,hz=>by
  rw[ik]at h;rw[tz]at hz;obtain⟨h1,h2,O⟩:=rz h 1.10;refine⟨?_,by simpa[dt,pyD,abb]using h2,by simp![dt,pyD,PyData.depth,dz];omega⟩;simp![dt,pyD,ac2,tz];unfold tupleText;rw[aaQ,aaQ];have F:(ZM "(").length=1:=by decide
  have Z:(ZM (if((aaK (pyL (dtL ds))).length==1)=true then ",)" else ")")).length<=2:=by split<;>decide
  have J:=O2 (aaK (pyL (dtL ds)));omega
 |.lst m ds,h,hz=>by
  rw[ik]at h;rw[tz]at hz;obtain⟨h1,h2,O⟩:=rz h 1.10;refine⟨?_,by simpa[dt,pyD,abb]using h2,by simp![dt,pyD,PyData.depth,dz];omega⟩;simp![dt,pyD,ac2,tz];unfold listText;rw[aaQ];have F:(ZM "[").length=1:=by decide
  have Z:(ZM "]").length=1:=by decide
  have J:=Ew (aaK (pyL (dtL ds))) 0 "[";omega
 |.ty _,h,_=>by simp[ik]at h
 |.dct _ _ _,h,_=>by simp[ik]at h
 |.ins _ _ _ _,h,_=>by simp[ik]at h
theorem rz:∀{ds:List D},jl ds=true->tzL ds<=1000000->((aaK (pyL (dtL ds))).map λt=>t.length+2).sum<=tzL ds/\acq (pyL (dtL ds))=true/\adl (pyL (dtL ds))<=dzL ds
 |[],_,_=>by simp[dtL,pyL,aaK,acq,adl,tzL,dzL]
 |d::r,h,hz=>by
  rw[jl,XR]at h;rw[tzL]at hz;obtain⟨h1,h2,O⟩:=zj h.1 1.10;obtain⟨F,J,q⟩:=rz h.2 1.10;simp![dtL,pyL,aaK,acq,adl,tzL,dzL,Xi,ZS,h2,J];refine⟨by omega,rfl,?_⟩;omega
end
theorem Sw(h:ik d=true)(Y:tz d<=1000000)(hd:dz d<=50):∃x,yJ [d]=some (.str x):=by
 obtain⟨h1,h2,O⟩:=zj h Y;have hs:(1000000:Nat)<=Xp:=by decide
 cases d with
 |non=>exact⟨_,rfl⟩
 |bl b=>exact⟨_,rfl⟩
 |int i=>
  have F:i.natAbs.log2<1920:=by simpa[dt,pyD,abb]using h2
  exact⟨_,by simp![yJ];rw[Xu F]⟩
 |str x=>exact⟨_,rfl⟩
 |tup ds=>exact⟨_,by simp![yJ];rw[Xu ⟨h,by omega,h2,by omega⟩]⟩
 |lst m ds=>exact⟨_,by simp![yJ];rw[Xu ⟨h,by omega,h2,by omega⟩]⟩
 |ty n=>simp[ik]at h
 |dct m ks ds=>simp[ik]at h
 |ins m c fs ds=>simp[ik]at h
abbrev Tt:=Int×Int×Str
def tD(t:Tt):D:=.tup [.int t.1,.int t.2.1,.str t.2.2]
theorem Rw(l:List Tt):az (l.map tD)=true:=bh λd hd=>by obtain⟨x,_,rfl⟩:=zc.mp hd;rfl
theorem Q4(l:List Tt):aB (l.map tD)=true:=a_ λd hd=>by obtain⟨x,_,rfl⟩:=zc.mp hd;rfl
theorem Rv(b:Bool)(l:List Tt):dW b (l.map tD)=l.map tD:=by rw[bK,Xh];rfl
theorem Ww(l:List Tt):gn (l.map tD)=l.map tD:=by rw[dH,Xh];rfl
theorem Dm:∀{ds:List D}{m:Nat},(∀e∈ds,tz e<=m)->tzL ds<=ds.length*(m+2)
 |[],m,_=>by simp[tzL]
 |d::r,m,h=>by
  have h1:=h d (by simp);have h2:=Dm (ds:=r) λe V=>h e (by simp[V]);rw[tzL,XN,Nat.succ_mul];omega
theorem Dc:∀{ds:List D}{m:Nat},(∀e∈ds,dz e<=m)->dzL ds<=m
 |[],m,_=>by simp[dzL]
 |d::r,m,h=>by
  have h1:=h d (by simp);have h2:=Dc (ds:=r) λe V=>h e (by simp[V]);rw[dzL];omega
def one(n:Nat):Str:=⟨#[n]⟩
variable{ρ:En}
theorem Xd{j:Int}(h:f ρ=some [.int j])(h1: -(2 ^ 62)<=j)(h2:j<2 ^ 62):wg f ρ=some (true,jF 0 j.toNat):=by
 unfold wg;rw[h];simp![Mx];rw[Xu ⟨h1,h2⟩]
theorem Uz(h:f ρ=some [.int n])(hn:n<=100):wg f ρ=some (true,jF 0 n):=by
 have h1:(n:Int)<=100:=by omega
 have:=Xd h (ab3 1.27 (Int.natCast_nonneg n)) (Int.lt_of_le_of_lt h1 1.27);rw[YH]at this;exact this
theorem o8(b:Bool)(l:List Int):dW b (l.map D.int)=l.map D.int:=by rw[bK,Xh];rfl
theorem NQ(l:List Int):fzL (l.map D.int)=l.map D.int:=by rw[fY,Xh];rfl
def Tw(d:D):Prop:=∃a b:Int,d=tp a b/\0<=a
theorem S7{ns:List Int}{k:Int}(B:0<=k)(I:k<=100)(N:ns.length<=63):Wp (dw [.lst .scr (ns.map D.int),.int k]) Tw:=by
 have O:cT [.lst .scr (ns.map D.int)]=some (.int ns.length):=by simp[cT]
 have J:∀c:Int,∀Q:Fl->Prop,(∀a b F,0<=a->Q (.ret (tp a b) F))->Wp (bu (bV (e2 gf (eAp nQ (ak (ao false 2) aG)) (eAp ql (ak (e2 gGe (eAp nQ (ak (ao false 2) aG)) (e2 lX (eC (.int 10)) (eC (.int 18)))) aG))) (tgN 3)) (gO (eAp bI (ak (ao false 3) (ak (e2 ji (e2 gf (e2 cg (e2 cg (e2 ji (ao false 2) (eC (.int 2147483647))) (e2 gf (eC (.int 7919)) 1.16)) (eC (.int 11))) (eC (.int 48271))) (eC (.int 2147483629))) aG)))) [some (.lst .scr (ns.map D.int)),some (.int k),some (.int c),none]) Q:=by
  intro c Q q;simp_arith[nQ,lX,gGe,ql,gf,ji,cg,bI];have V:(0:Int)<=if c<0 then -c else c:=by split<;>omega
  generalize (if c<0 then -c else c)=u at V⊢;refine⟨.inr ?_,q _ _ _ ?_⟩
  .split<;>omega
  .split
   .omega
   .omega
 by_cases h:k<(ns.length:Int)
 .obtain⟨c,_,_,hc⟩:=jr (f:=D.int) (l:=ns) (i:=k) B h
  simp_arith![dw,fnP];refine bf (λρ=>ρ=[some (.lst .scr (ns.map D.int)),some (.int k),some (.int 0),none]) (λQ q=>by simp_arith[aC];exact q _ rfl) ?_;rintro _ rfl;refine bf (λρ=>ρ=[some (.lst .scr (ns.map D.int)),some (.int k),some (.int c),none]) (λQ q=>by simp_arith[o8,O,gLt,h,Dj,hc];exact q _ rfl) ?_;rintro _ rfl;exact J c _ λa b F Z=>aC.mpr ⟨a,b,rfl,Z⟩
 .simp_arith![dw,fnP]
  refine bf (λρ=>ρ=[some (.lst .scr (ns.map D.int)),some (.int k),some (.int 0),none]) (λQ q=>by simp_arith[aC];exact q _ rfl) ?_;rintro _ rfl;refine bf (λρ=>ρ=[some (.lst .scr (ns.map D.int)),some (.int k),some (.int 0),none]) (λQ q=>by simp_arith[o8,O,gLt,h];exact q _ rfl) ?_;rintro _ rfl;exact J 0 _ λa b F Z=>aC.mpr ⟨a,b,rfl,Z⟩
theorem qp:∀ns:List Str,dtL (ns.map D.str)=ns.map Dt.str
 |[]=>rfl
 |x::r=>by rw[Xi,dtL,qp r];rfl
theorem kW:∀ns:List Str,vV (ns.map D.str)=some (ns.map V.str)
 |[]=>rfl
 |x::r=>by simp[vV,scV,kW r]
theorem pJ:inV (.str x) (ns.map V.str)=decide (x∈ns):=by
 unfold inV;rw[List.any_map,aba,acZ,decide_eq_true_iff];simp![YG,eqV,beq_iff_eq];exact⟨λ⟨y,h1,h2⟩=>h2▸h1,λh=>⟨x,h,rfl⟩⟩
structure NK(N:D)(ns:List Str):Prop where
 f:fz N=N
 v:∀b,view b N=N
 b:aA N=true
 o:au N=true
 l:cT [N]=some (.int ns.length)
 x:∀i,gIx N (.int i)=atI (ns.map D.str) i
 i:∀y,gIn (.str y) N=some (.bl (decide (y∈ns)))
 ni:∀y,gU (.str y) N=some (.bl (!decide (y∈ns)))
 s:cC N=some (true,ns.map D.str)
theorem NK.lst(ns:List Str):NK (.lst .frz (ns.map D.str)) ns:=⟨by simp[fz,fX,mkF],λb=>by cases b<;>simp[view,dh,mkV],by simp[aA,cL],by simp[au,cG],by simp[cT],λ_=>rfl,λy=>by simp[gIn,qY,scV,kW,pJ],λy=>by simp[gU,qY,scV,kW,pJ],by simp[cC,clean,aA,au,cL,cG,eQ]⟩
theorem NK.tup(ns:List Str):NK (.tup (ns.map D.str)) ns:=⟨by simp[fz,fX],λb=>by simp[view,dh],by simp[aA,cL],by simp[au,cG],by simp[cT],λ_=>rfl,λy=>by simp[gIn,qY,scV,kW,pJ],λy=>by simp[gU,qY,scV,kW,pJ],by simp[cC,clean,aA,au,cL,cG,eQ]⟩
abbrev Gz:=Bool×List Str
def mkB(b:Bool):Mk:=if b then .own else .frz
def zD(z:Gz):D:=.lst (mkB z.1) (z.2.map D.str)
def fr(g:List Str):D:=.lst .frz (g.map D.str)
theorem RB(l:List Gz):fzL (l.map zD)=(l.map (·.2)).map fr:=by
 rw[fY,Xh,Xh];refine XM λz _=>?_;simp![YG,zD,fr,fz,fX];cases z.1<;>rfl
theorem Eo(l:List Gz):az (l.map zD)=true:=bh λd hd=>by
 obtain⟨z,_,rfl⟩:=zc.mp hd;simp![zD,aA,cL];cases z.1<;>rfl
theorem Ec(l:List Gz):aB (l.map zD)=true:=a_ λd hd=>by
 obtain⟨z,_,rfl⟩:=zc.mp hd;simp![zD,au,cG];cases z.1<;>rfl
theorem oR(b:Bool)(g:List Str):view b (fr g)=fr g:=by cases b<;>simp[fr,view,dh,mkV]
theorem rQ(b:Bool)(l:List (List Str)):dW b (l.map fr)=l.map fr:=by
 rw[bK,Xh];exact XM λg _=>oR b g
theorem xm(l:List (List Str)):gn (l.map fr)=l.map fr:=by
 rw[dH,Xh];refine XM λg _=>?_;simp[fr,fzo,eQ,mkO]
theorem xH(g:List Str):aA (fr g)=true/\au (fr g)=true:=by simp[fr,aA,au,cL,cG]
theorem Ae:∀a b:List Str,eqL (a.map Dt.str) (b.map Dt.str)=decide (a=b)
 |[],[]=>rfl
 |[],_::_=>rfl
 |_::_,[]=>rfl
 |x::r,y::q=>by
  rw[Xi,Xi,eqL,Ae r q,aba];simp[eqD]
theorem Mf:∀f s:List Str,∀p∈(f.map Dt.str).zip (s.map Dt.str),Sc p.1 p.2
 |[],_,_,h=>by simp at h
 |_::_,[],_,h=>by simp at h
 |x::r,y::q,p,h=>by
  rw[Xi,Xi,aeA,Xj]at h;rcases h with rfl|h
  .exact .str x y
  .exact Mf r q p h
variable{f:List Str}
theorem Ml{s:List Str}:gNe (fr f) (fr s)=some (.bl (!decide (f=s))):=by
 unfold gNe;rw[Xu ⟨nF f,nF s,.lst (by rw[qp,qp];exact Mf f s)⟩];simp[fr,dt,qp,eqD,Ae]
theorem iV:∀g:List Str,strsOf (g.map D.str)=some g
 |[]=>rfl
 |y::r=>by simp[strsOf,iV r]
def Wt(gs:List (List Str)):Nat:=(gs.map λg=>g.length+1).sum
theorem R_(a b:List (List Str)):Wt (a++b)=Wt a+Wt b:=by simp[Wt]
theorem vO:∀{gs:List (List Str)}{g:List Str},g∈gs->g.length+1<=Wt gs
 |x::r,g,h=>by
  simp![Wt,Xi,ZS];rcases Xj.mp h with rfl|z
  .omega
  .have:=vO z;unfold Wt at this;omega
theorem Ce:∀gs:List (List Str),gs.length<=Wt gs
 |[]=>by simp
 |x::r=>by have:=Ce r;simp![Wt,Xi,ZS,XN]at this⊢;omega
theorem Q0(p:List Str->Bool):∀gs:List (List Str),Wt (gs.filter p)<=Wt gs
 |[]=>by simp
 |x::r=>by
  have:=Q0 p r;rw[aaY];split<;>simp![Wt,Xi,ZS]at this⊢<;>omega
theorem Cu{f:List Str}:∀{gs:List (List Str)},f∈gs->Wt (gs.filter λg=>!decide (g=f))+(f.length+1)<=Wt gs
 |x::r,h=>by
  by_cases J:x=f
  .subst J
   have:=Q0 (λg=>!decide (g=x)) r;rw[aaY,Xz (by simp)];simp![Wt,Xi,ZS]at this⊢;omega
  .have:=Cu ((Xj.mp h).resolve_left λz=>J z.symm)
   rw[aaY,Xu (by simpa using J)];simp![Wt,Xi,ZS]at this⊢;omega
theorem Sg{s:List Str}(O:f∈gs)(hs:s∈gs)(hn:f≠s):Wt (gs.filter λg=>!decide (g=f)&& !decide (g=s))+(f.length+1)+(s.length+1)<=Wt gs:=by
 have h1:=Cu O;have h2:=Cu (gs:=gs.filter λg=>!decide (g=f)) (YD.mpr ⟨hs,by simpa using λz=>hn z.symm⟩);rw[aeC]at h2;have e:(gs.filter λg=>!decide (g=f)&& !decide (g=s))=gs.filter λg=>!decide (g=s)&& !decide (g=f):=by
  congr 1;funext g;exact Bool.and_comm _ _
 rw[e];omega
structure Gr(ns:List Str)(gs:List (List Str)):Prop where
 i:∀g∈gs,∀x∈g,x∈ns
 c:∀x∈ns,∃g∈gs,x∈g
 w:Wt gs<=30
theorem Gr.merge{s:List Str}(h:Gr ns gs)(O:f∈gs)(hs:s∈gs)(hn:f≠s):Gr ns ((gs.filter λg=>!decide (g=f)&& !decide (g=s))++[f++s])where
 i:=λg F x J=>by
  rcases W2.mp F with z|z
  .exact h.i g (YD.mp z).1 x J
  .obtain rfl:=Xv.mp z
   exact(W2.mp J).elim (h.i f O x) (h.i s hs x)
 c:=λx J=>by
  obtain⟨g,F,q⟩:=h.c x J;by_cases h1:g=f
  .exact⟨f++s,by simp,Xo _ (h1▸q)⟩
  .by_cases h2:g=s
   .exact⟨f++s,by simp,Xf _ (h2▸q)⟩
   .exact⟨g,Xo _ (YD.mpr ⟨F,by simp[h1,h2]⟩),q⟩
 w:=by
  have:=Sg O hs hn;have:=h.w;rw[R_];simp![Wt,Xi,Yq,ZS,List.sum_nil,YB]at *
  omega
theorem Vv(ns:List Str):gh (tpN 0) eTT (eAp bI (ak 1.15 aG)) [none] (ns.map D.str)=some ((ns.map λx=>((true,[x]):Gz)).map zD):=by
 rw[jf (p:=λ_=>true) (f:=λd=>.lst .own [d])]
 .rw[filter_tt,Xh,Xh]
  rfl
 .intro d hd
  obtain⟨x,_,rfl⟩:=zc.mp hd;simp_arith[bI]
theorem Pk(x:Str)(gs:List (List Str)):gh (tpN 0) (eB (e2 gIn 1.16 1.15)) 1.15 [none,some (.str x)] (gs.map fr)=some ((gs.filter λg=>decide (x∈g)).map fr):=by
 have F:∀g:List Str,gIn (.str x) (fr g)=some (.bl (decide (x∈g))):=λg=>(NK.lst g).i x;rw[jf (p:=λd=>match d with|.lst _ ds=>(strsOf ds).any (λg=>decide (x∈g))|_=>false) (f:=id)]
 .rw[Zc,afa]
  congr 2;refine aeR λg _=>?_;simp[YG,fr,iV]
 .intro d hd
  obtain⟨g,_,rfl⟩:=zc.mp hd;simp[tpN,aC,eB,e2,ao,oR,view,F,isB];simp[fr,iV]
theorem UW(f s:List Str)(gs:List (List Str)):gh (tpN 0) (j_ (eB (e2 gNe 1.15 1.16)) (eB (e2 gNe 1.15 (ao false 2)))) 1.15 [none,some (fr f),some (fr s)] (gs.map fr)=some ((gs.filter λg=>!decide (g=f)&& !decide (g=s)).map fr):=by
 have V:=iV;rw[jf (p:=λd=>match d with|.lst _ ds=>(strsOf ds).any (λg=>!decide (g=f)&& !decide (g=s))|_=>false) (f:=id)]
 .rw[Zc,afa]
  congr 2;refine aeR λg _=>?_;simp[YG,fr,V]
 .intro d hd
  obtain⟨g,_,rfl⟩:=zc.mp hd;simp[tpN,aC,j_,eB,e2,ao,oR,Ml,isB];by_cases h1:g=f<;>by_cases h2:g=s<;>simp[h1,h2,fr,V]
theorem J0(h:Gr ns gs)(J:x∈ns):∃f∈gs,x∈f/\gIx (.lst .own ((gs.filter λg=>decide (x∈g)).map fr)) (.int 0)=some (fr f):=by
 obtain⟨g,F,q⟩:=h.c x J;have B:g∈gs.filter λg=>decide (x∈g):=YD.mpr ⟨F,by simpa using q⟩;obtain⟨f,O,_,V⟩:=jr (f:=fr) (l:=gs.filter λg=>decide (x∈g)) (i:=0) (ZR 0) (by have:=abG B;omega);obtain⟨h1,h2⟩:=YD.mp O;exact⟨f,h1,by simpa using h2,V⟩
def aU(g:List Str):List Str:=(jc (g.map λx=>[x])).map λk=>k.headD ""
theorem bW(g:List Str):Yt (aU g) g:=by
 have:=(du (g.map λx=>[x])).map λk=>k.headD ("":Str);rw[Xh]at this;refine this.trans ?_;rw[show((λk:List Str=>k.headD "")∘λx=>[x])=id from rfl,Zc]
theorem wH:∀g:List Str,Aq (g.map D.str)=some (g.map λx=>[x])
 |[]=>rfl
 |x::r=>by simp[Aq,wH r]
variable{g:List Str}
theorem um(h:g.length<64):j4 [.lst m (g.map D.str)]=some (.lst .own ((aU g).map D.str)):=by
 simp![j4,Xq,h,XX,wH];rw[aU,Xh];rfl
theorem Ez:∀B:List (List Str),lstK .own (B.map (fL .own))=some B
 |[]=>rfl
 |x::r=>by
  have:=iV x;simp[lstK,fL,this,Ez r]
theorem xu(h:B.length<64):j4 [.lst .own (B.map (fL .own))]=some (.lst .own ((jc B).map (fL .own))):=by
 simp![j4,Xq,h,XX];cases B with
 |nil=>rfl
 |cons x r=>
  have:=Ez (x::r);simp![Xi,fL,Aq]at this⊢;rw[this];rfl
def Con(js:List Jt)(g:List Str):Prop:=∀P:Str->Prop,(∃x∈g,P x)->(∃y∈g,¬P y)->∃j∈js,j.1∈g/\j.2.1∈g/\((P j.1/\¬P j.2.1)∨(¬P j.1/\P j.2.1))
theorem pU(x:Str):Con js [x]:=λP ⟨a,Z,p⟩⟨b,U,q⟩=>by
 rw[Xv]at Z U;subst Z U;exact absurd p q
variable{j:Jt}
theorem nO{s:List Str}(I:j∈js)(h1:j.1∈f)(h2:j.2.1∈s)(B:Con js f)(q:Con js s):Con js (f++s):=λP ⟨a,Z,Y⟩⟨b,U,F⟩=>by
 by_cases O:(∃x∈f,P x)/\∃y∈f,¬P y
 .obtain⟨k,hk,k1,k2,k3⟩:=B P O.1 O.2
  exact⟨k,hk,Xo _ k1,Xo _ k2,k3⟩
 .by_cases hs:(∃x∈s,P x)/\∃y∈s,¬P y
  .obtain⟨k,hk,k1,k2,k3⟩:=q P hs.1 hs.2
   exact⟨k,hk,Xf _ k1,Xf _ k2,k3⟩
  .refine⟨j,I,Xo _ h1,Xf _ h2,?_⟩
   by_cases p1:P j.1
   .refine .inl ⟨p1,λp2=>?_⟩
    rcases W2.mp U with z|z
    .exact O ⟨⟨_,h1,p1⟩,⟨b,z,F⟩⟩
    .exact hs ⟨⟨_,h2,p2⟩,⟨b,z,F⟩⟩
   .refine .inr ⟨p1,abd λp2=>?_⟩
    rcases W2.mp Z with z|z
    .exact O ⟨⟨a,z,Y⟩,⟨_,h1,p1⟩⟩
    .exact hs ⟨⟨a,z,Y⟩,⟨_,h2,p2⟩⟩
theorem Ao{g':List Str}(h:Yt g' g)(c:Con js g):Con js g':=λP ⟨a,Z,Y⟩⟨b,U,F⟩=>by
 obtain⟨j,I,V,J,B⟩:=c P ⟨a,h.mem_iff.mp Z,Y⟩ ⟨b,h.mem_iff.mp U,F⟩;exact⟨j,I,h.mem_iff.mpr V,h.mem_iff.mpr J,B⟩
theorem sx:dg [.lst m ds]=j4 [.lst m ds]:=rfl
def ClC(js:List Jt)(ns:List Str)(d:D):Prop:=∃B:List (List Str),d= .lst .own (B.map (fL .own))/\(∀r∈B,0<r.length/\r.length<=30/\(∀x∈r,x∈ns)/\Con js r)/\(∀x∈ns,∃r∈B,x∈r)/\B.length<=30
def ClJ(N J:D)(js:List Jt)(ns:List Str)(k:Nat)(ρ:En):Prop:=∃(b:Bool)(zs:List Gz)(V O U F q:Option D),ρ=[some N,some J,some (.lst (mkB b) (zs.map zD)),V,O,U,F,q]/\Gr ns (zs.map (·.2))/\∀g∈zs.map (·.2),0<g.length/\Con js g
variable{N J:D}
theorem GK(hN:NK N ns)(hJ:JJ J js)(I:∀j∈js,j.1∈ns/\j.2.1∈ns)(Z:ns.length<=15):Wp (aZ [N,J]) (ClC js ns):=by
 simp_arith![aZ,fnP];refine bf (ClJ N J js ns 0) (λQ V=>?_) ?_
 .simp_arith[-cC,hN.v,hN.s]
  refine⟨by omega,lU (Vv ns) ?_⟩;rw[Eo,Ec];refine⟨by decide,V _ ⟨true,_,_,_,_,_,_,rfl,?_,λg hg=>?_⟩⟩
  rotate_left
  .rw[Xh]at hg
   obtain⟨x,_,rfl⟩:=zc.mp hg;exact⟨by simp,pU x⟩
  rw[Xh];refine⟨λg hg x hx=>?_,λx hx=>⟨[x],zc.mpr ⟨x,hx,rfl⟩,by simp⟩,?_⟩
  .obtain⟨y,hy,rfl⟩:=zc.mp hg
   obtain rfl:=Xv.mp hx;exact hy
  .have:∀l:List Str,Wt (l.map ((λz:Gz=>z.2)∘λx=>(true,[x])))=2*l.length:=by
    intro l
    induction l with
    |nil=>rfl
    |cons y r U=>simp![Wt,Xi,ZS,XN]at U⊢;rw[U];simp;omega
   rw[this];omega
 rintro ρ0 ⟨b0,b3,y3,y4,y5,y6,y7,rfl,c3,b7⟩;refine bf (ClJ N J js ns 0) (λQ V=>?_) ?_
 .simp[gj,itS,ao,hJ.v,hJ.s,aR,aC,w_ite]
  refine il (ClJ N J js ns) ⟨b0,b3,y3,y4,y5,y6,y7,rfl,c3,b7⟩ ?_ (λρ h=>V _ h);rintro k d ρ B ⟨b,zs,x3,x4,x5,x6,x7,rfl,hg,a0⟩;rw[List.getElem?_map]at B;cases a4:js[k]? with
  |none=>simp[a4]at B
  |some j=>
   obtain rfl:jD j=d:=by simpa[a4]using B
   obtain⟨b9,b5⟩:=I j (Xw a4);generalize b1:zs.map (·.2)=gs at hg a0;have c0:fz (.lst (mkB b) (zs.map zD))= .lst .frz (gs.map fr):=by
    rw[fz,RB,b1];cases b<;>rfl
   have c8:gs.length<=30:=Yz (Ce gs) hg.w;obtain⟨f,hf,b2,ef⟩:=J0 hg b9;obtain⟨s,hs,c5,es⟩:=J0 hg b5;simp[jD,tgT,aM,bO,tgN,az,aB,clean,aA,au,aC];refine bf (λρ=>ρ=[some N,some J,some (.lst .frz (gs.map fr)),some (.str j.1),some (.str j.2.1),some (.int j.2.2),some (fr f),x7]) (λQ V=>?_) ?_
   .simp_arith[-fz,c0,rQ,xm]
    refine⟨by omega,lU (Pk j.1 gs) ?_⟩;rw[ef,aC];exact⟨xH f,V _ rfl⟩
   rintro _ rfl;refine bf (λρ=>ρ=[some N,some J,some (.lst .frz (gs.map fr)),some (.str j.1),some (.str j.2.1),some (.int j.2.2),some (fr f),some (fr s)]) (λQ V=>?_) ?_
   .simp_arith[rQ,xm]
    refine⟨by omega,lU (Pk j.2.1 gs) ?_⟩;rw[es,aC];exact⟨xH s,V _ rfl⟩
   rintro _ rfl;have c6:=vO hf;have d0:=vO hs;have q:=hg.w;simp_arith[-view,oR,Ml];have a3:ClJ N J js ns (k+1) [some N,some J,some (.lst .frz (gs.map fr)),some (.str j.1),some (.str j.2.1),some (.int j.2.2),some (fr f),some (fr s)]:=⟨false,gs.map λg=>(false,g),_,_,_,_,_,by rw[Xh];rfl,by rw[Xh,show((λz:Gz=>z.2)∘λg=>(false,g))=id from rfl,Zc];exact hg,by rw[Xh,show((λz:Gz=>z.2)∘λg=>(false,g))=id from rfl,Zc];exact a0⟩;by_cases a5:f=s
   .simp![a5,XX]at a3⊢
    exact a3
   .simp![a5,YJ]
    have c7:view false (.lst .frz (gs.map fr))= .lst .frz (gs.map fr):=by rw[view,rQ];rfl
    rw[rQ,xm];refine⟨by simp;omega,lU (UW f s gs) ?_⟩;have a1:cg (fr f) (fr s)=some (.lst .own ((f++s).map D.str)):=by
     simp[fr,cg];omega
    have c9:=adM (λg=>!decide (g=f)&& !decide (g=s)) gs;have a2:cg (.lst .own ((gs.filter λg=>!decide (g=f)&& !decide (g=s)).map fr)) (.lst .own [.lst .own ((f++s).map D.str)])=some (.lst .own (((gs.filter λg=>!decide (g=f)&& !decide (g=s)).map λg=>((false,g):Gz)).map zD++[((true,f++s):Gz)].map zD)):=by
     have h1:((gs.filter λg=>!decide (g=f)&& !decide (g=s)).map fr).length+1<=1000000:=by rw[Xq];omega
     simp![cg,XN,Yl,Z4];rw[Xu ⟨by decide,by decide,h1⟩,Xh];rfl
    rw[a1,aC];simp![bI,XN,Yl,aC,XX,Z4,Nat.reduceLeDiff];rw[a2,aC,←X4];simp![aA,au,Eo,Ec];refine⟨by decide,true,_,_,_,_,_,_,rfl,?_,?_⟩
    .rw[X4,Xh,show((λz:Gz=>z.2)∘λg=>(false,g))=id from rfl,Zc]
     exact hg.merge hf hs a5
    .rw[X4,Xh,show((λz:Gz=>z.2)∘λg=>(false,g))=id from rfl,Zc]
     intro g a7;rcases W2.mp a7 with z|z
     .exact a0 g (YD.mp z).1
     .have e:g=f++s:=by simpa using z
      rw[e];exact⟨by have:=(a0 f hf).1;simp;omega,nO (Xw a4) b2 c5 (a0 f hf).2 (a0 s hs).2⟩
 rintro _ ⟨b,zs,x3,x4,x5,x6,x7,rfl,hg,a0⟩;have q:=hg.w;have b8:zs.length<=30:=by have:=Ce (zs.map (·.2));simp at this;omega
 have a9:∀z∈zs,z.2.length<64:=λz Y=>by have:=vO (aaD (f:=(·.2)) Y);omega
 have b6:view false (.lst (mkB b) (zs.map zD))= .lst (mkV false (mkB b)) (zs.map λz=>.lst (mkV false (mkB z.1)) (z.2.map D.str)):=by
  rw[view,bK,Xh];congr 1;refine XM λz _=>?_;simp[YG,zD,view,dh]
 have b4:gn (zs.map λz=>D.lst (mkV false (mkB z.1)) (z.2.map D.str))=zs.map λz=>D.lst (mkV false (mkB z.1)) (z.2.map D.str):=by
  rw[dH,Xh];refine XM λz _=>?_;simp![YG,fzo,eQ];cases z.1<;>rfl
 have c4:gh (tpN 0) eTT (eAp dg (ak 1.15 aG)) [none] (zs.map λz=>D.lst (mkV false (mkB z.1)) (z.2.map D.str))=some (((zs.map λz=>aU z.2)).map (fL .own)):=by
  rw[jf (p:=λ_=>true) (f:=λd=>match d with|.lst _ ds=>.lst .own ((aU ((strsOf ds).getD [])).map D.str)|_=>.non)]
  .rw[filter_tt,Xh,Xh]
   congr 1;refine XM λz _=>?_;have:=iV z.2;simp[YG,this,fL]
  .intro d hd
   obtain⟨z,Y,rfl⟩:=zc.mp hd;have:=iV z.2;have hv:view false (.lst (mkV false (mkB z.1)) (z.2.map D.str))= .lst (mkV false (mkB z.1)) (z.2.map D.str):=by
    rw[view,dh];cases z.1<;>rfl
   simp[tpN,aC,eTT,eAp,ak,ao,aG,hv,sx,um (a9 z Y),this]
 simp_arith[-view,-mkV,b6,b4];refine⟨by omega,lU c4 ?_⟩;rw[sx,xu (by simp;omega),aC];have a6:=du (zs.map λz=>aU z.2);have c1:∀rs:List (List Str),az (rs.map (fL .own))=true:=λrs=>bh λd hd=>by
  obtain⟨z,_,rfl⟩:=zc.mp hd;simp[fL,aA,cL]
 have c2:∀rs:List (List Str),aB (rs.map (fL .own))=true:=λrs=>a_ λd hd=>by
  obtain⟨z,_,rfl⟩:=zc.mp hd;simp[fL,au,cG]
 simp![aA,au,c1,c2];refine⟨by decide,_,rfl,λr O=>?_,λx hx=>?_,?_⟩
 .obtain⟨z,Y,rfl⟩:=zc.mp (a6.mem_iff.mp O)
  have:=vO (aaD (f:=(·.2)) Y);have F:=bW z.2;have a8:=a0 z.2 (aaD (f:=(·.2)) Y);exact⟨by rw[F.length_eq];exact a8.1,by rw[F.length_eq];omega,λx hx=>hg.i z.2 (aaD (f:=(·.2)) Y) x (F.mem_iff.mp hx),Ao F a8.2⟩
 .obtain⟨g,a7,hxg⟩:=hg.c x hx
  obtain⟨z,Y,rfl⟩:=zc.mp a7;exact⟨aU z.2,a6.mem_iff.mpr (zc.mpr ⟨z,Y,rfl⟩),(bW z.2).mem_iff.mpr hxg⟩
 .rw[a6.length_eq,Xq];exact b8
theorem yo[DecidableEq α]:∀{ks ns:List α},ks.Nodup->(∀k∈ks,k∈ns)->ks.length<=ns.length
 |[],_,_,_=>ZP _
 |k::r,ns,h,hs=>by
  have V:=hs k (.head _);have h1:=yo (ks:=r) (ns:=ns.erase k) (Yo.mp h).2 λx J=>(List.mem_erase_of_ne (show x≠k from λe=>(Yo.mp h).1 (by rw[←e];exact J))).mpr (hs x (.tail _ J));rw[List.length_erase_of_mem V]at h1;have:=abG V;simp![XN];omega
def dD(ys:List Str)(vs:List Int):D:=.dct .own (ys.map XF) (vs.map D.int)
def dB(ys:List Str)(vs:List Int):D:=.dct .brw (ys.map XF) (vs.map D.int)
theorem Lj:view false (dD ys vs)=dB ys vs:=by simp![dD,dB,view,o8];rfl
theorem Qq:aA (dD ys vs)=true/\au (dD ys vs)=true:=by
 have h1:az (vs.map D.int)=true:=bh λd hd=>by obtain⟨x,_,rfl⟩:=zc.mp hd;rfl
 have h2:aB (vs.map D.int)=true:=a_ λd hd=>by obtain⟨x,_,rfl⟩:=zc.mp hd;rfl
 simp[dD,aA,au,h1,h2]
theorem kI:(eY (ys.map XF) (XF x)).isSome=decide (x∈ys):=by
 cases e:eY (ys.map XF) (XF x)with
 |none=>
  unfold eY at e;rw[Zr]at e;refine(X8 λh=>?_).symm;have:=e (XF x) (zc.mpr ⟨x,h,rfl⟩);simp at this
 |some j=>
  obtain⟨Z,B,_⟩:=Ym.mp e;have h2:(ys.map (XF:Str->Key))[j]=XF x:=by simpa using B
  have O:XF x∈ys.map (XF:Str->Key):=h2▸ZW Z;obtain⟨y,V,F⟩:=zc.mp O;cases F;exact(YL V).symm
theorem Ro:gIn (.str x) (dB ys vs)=some (.bl (decide (x∈ys))):=by
 simp![gIn,dB,qY,d9,Yb,kI]
theorem Ry:gU (.str x) (dB ys vs)=some (.bl (!decide (x∈ys))):=by
 simp![gU,dB,qY,d9,Yb,kI]
structure DI(ns ys:List Str)(vs:List Int):Prop where
 l:ys.length=vs.length
 n:ys.Nodup
 s:∀y∈ys,y∈ns
 b:∀v∈vs,v.natAbs<=1000000000000*ys.length
variable{v:Int}
theorem DI.add(h:DI ns ys vs)(J:x∉ys)(hn:x∈ns)(B:v.natAbs<=1000000000000*(ys.length+1)):DI ns (ys++[x]) (vs++[v])where
 l:=by simp[h.l]
 n:=by
  rw[Xx];exact⟨h.n,by simp,λa Z b U e=>J (by rw[Xv.mp U]at e;exact e▸Z)⟩
 s:=λy V=>(W2.mp V).elim (h.s y) λz=>by rw[Xv.mp z];exact hn
 b:=λw q=>by
  rw[YB,adE];rcases W2.mp q with z|z
  .have:=h.b w z;omega
  .rw[Xv.mp z];exact B
theorem Dl(J:x∉ys)(Z:ys.length<1000000):dZ (dD ys vs) [.str x,.int v]=some (dD (ys++[x]) (vs++[v]),.non):=by
 have e:eY (ys.map XF) (XF x)=none:=by
  cases e:eY (ys.map XF) (XF x)with
  |none=>rfl
  |some j=>have:=kI (ys:=ys) (x:=x);rw[e]at this;exact absurd (of_decide_eq_true this.symm) J
 simp[dD,dZ,d9,Z,gG,e]
def cU(ys r:List Str):Nat:=r.countP λx=>!decide (x∈ys)
theorem V4{zs r:List Str}(h:∀y∈ys,y∈zs):cU zs r<=cU ys r:=nG λx _ J=>by
 simp![aeS,decide_eq_false_iff_not]at J⊢;exact λz=>J (h x z)
theorem Qh{zs r:List Str}(Y:Con js r)(h:∀y∈ys,y∈zs)(I:∀j∈js,(j.1∈ys->j.2.1∈zs)/\(j.2.1∈ys->j.1∈zs))(V:∃x∈r,x∈ys):cU zs r<=cU ys r-1:=by
 by_cases U:∃y∈r,¬y∈ys
 .obtain⟨j,hjm,j1,j2,j3⟩:=Y (·∈ys) V U
  have B:∃z∈r,z∉ys/\z∈zs:=by
   rcases j3 with⟨a,b⟩|⟨a,b⟩
   .exact⟨_,j2,b,(I j hjm).1 a⟩
   .exact⟨_,j1,a,(I j hjm).2 b⟩
  obtain⟨z,F,O,N⟩:=B;have:=nq (l:=r) (p:=λx=>!decide (x∈zs)) (q:=λx=>!decide (x∈ys)) (z:=z) (λx _ J=>by
   simp![aeS,decide_eq_false_iff_not]at J⊢;exact λw=>J (h x w)) F (by simpa using O) (by simpa using N)
  unfold cU;omega
 .have:cU ys r=0:=aek.mpr λx J=>by
   have:x∈ys:=abd λz=>U ⟨x,J,z⟩;simp[this]
  have:=V4 (r:=r) h;omega
theorem Cq{A B:List Str}:aU A=aU B↔Yt A B:=by
 constructor
 .intro h
  exact(bW A).symm.trans (h▸bW B)
 .intro h
  unfold aU;have h2:=h.map λx=>[x];rw[pK ((du _).trans (h2.trans (du _).symm)) (jT _) (jT _)]
structure Prt(js:List Jt)(ns:List Str)(gs:List (List Str)):Prop where
 p:Yt gs.flatten ns
 e:∀g∈gs,g≠[]
 c:∀g∈gs,Con js g
def k_(js:List Jt)(gs:List (List Str)):Prop:=∀j∈js,∃g∈gs,j.1∈g/\j.2.1∈g
theorem Prt.one(h:Prt js ns gs)(hn:ns.Nodup){g':List Str}(h1:g∈gs)(h2:g'∈gs)(x1:x∈g)(J:x∈g'):g=g':=by
 have O:gs.flatten.Nodup:=h.p.nodup_iff.mpr hn;obtain⟨_,F⟩:=abX.mp O;rw[Z1]at F;obtain⟨i,hi,rfl⟩:=YW h1;obtain⟨j,I,rfl⟩:=YW h2;rcases acG i j with z|z|z
 .exact absurd rfl (F i j hi I z x x1 x J)
 .subst z;rfl
 .exact absurd rfl (F j i I hi z x J x x1)
theorem Prt.nd1(h:Prt js ns gs)(hn:ns.Nodup)(h1:g∈gs):g.Nodup:=by
 have O:gs.flatten.Nodup:=h.p.nodup_iff.mpr hn;exact(abX.mp O).1 g h1
theorem Prt.mem(h:Prt js ns gs):x∈ns↔∃g∈gs,x∈g:=by
 rw[←h.p.mem_iff,Y6]
theorem Prt.nd(h:Prt js ns gs)(hn:ns.Nodup):gs.Nodup:=by
 have q:gs.flatten.Nodup:=h.p.nodup_iff.mpr hn;obtain⟨_,F⟩:=abX.mp q;refine aaA (λ{a b} Z U O e=>?_) F;subst e;cases a with
 |nil=>exact h.e _ Z rfl
 |cons x r=>exact O x (by simp) x (by simp) rfl
theorem Prt.ndS(h:Prt js ns gs)(hn:ns.Nodup):(gs.map aU).Nodup:=by
 have:=h.nd hn;refine ZF.mpr (aaA (λ{a b} Z U O e=>O ?_) this);have F:=Cq.mp e;cases a with
 |nil=>exact absurd rfl (h.e _ Z)
 |cons x r=>exact h.one hn Z U (x:=x) (by simp) (F.mem_iff.mp (by simp))
variable{hs:List (List Str)}
theorem Prt.sub(a:Prt js ns gs)(b:Prt js ns hs)(hn:ns.Nodup)(U:k_ js hs){h:List Str}(F:g∈gs)(q:h∈hs)(x1:x∈g)(J:x∈h):∀y∈g,y∈h:=λy V=>by
 refine abd λY=>?_;obtain⟨j,I,j1,j2,B⟩:=a.c g F (·∈h) ⟨x,x1,J⟩ ⟨y,V,Y⟩;obtain⟨h',h1,h2,O⟩:=U j I;rcases B with⟨Z,N⟩|⟨Z,N⟩
 .exact N (b.one hn h1 q h2 Z▸O)
 .exact Z (b.one hn h1 q O N▸h2)
theorem Prt.perm(a:Prt js ns gs)(B:k_ js gs)(b:Prt js ns hs)(U:k_ js hs)(hn:ns.Nodup):Yt (gs.map aU) (hs.map aU):=by
 have V:∀{gs hs:List (List Str)},Prt js ns gs->k_ js gs->Prt js ns hs->k_ js hs->∀r∈gs.map aU,r∈hs.map aU:=λ{gs hs} a B b U r O=>by
  obtain⟨g,F,rfl⟩:=zc.mp O;cases I:g with
  |nil=>exact absurd I (a.e _ F)
  |cons x t=>
  have J:x∈g:=by rw[I];simp
  obtain⟨h,q,N⟩:=b.mem.mp (a.mem.mpr ⟨g,F,J⟩);rw[←I];refine zc.mpr ⟨h,q,?_⟩;refine Cq.mpr ((aa2 (b.nd1 hn q) (a.nd1 hn F)).mpr λy=>⟨b.sub a hn B q F N J y,a.sub b hn U F q J N y⟩)
 exact(aa2 (a.ndS hn) (b.ndS hn)).mpr λr=>⟨V a B b U r,V b U a B r⟩
theorem Prt.canon(a:Prt js ns gs)(B:k_ js gs)(b:Prt js ns hs)(U:k_ js hs)(hn:ns.Nodup):jc (gs.map aU)=jc (hs.map aU):=
 pK ((du _).trans ((a.perm B b U hn).trans (du _).symm)) (jT _) (jT _)
theorem vq{g:List Str}:∀{gs:List (List Str)},gs.Nodup->g∈gs->Yt gs (g::gs.filter λx=>!decide (x=g))
 |x::r,hn,h=>by
  obtain⟨h1,h2⟩:=Yo.mp hn;by_cases J:x=g
  .subst J
   rw[aaY,Xz (by simp)];have:r.filter (λy=>!decide (y=x))=r:=List.filter_eq_self.mpr λy V=>by
    simp;exact λe=>h1 (e▸V)
   rw[this]
  .rw[aaY,Xu (by simpa using J)]
   exact((vq h2 ((Xj.mp h).resolve_left λz=>J z.symm)).cons x).trans (.swap g x _)
theorem Prt.merge{s:List Str}(h:Prt js ns gs)(hn:ns.Nodup)(O:f∈gs)(hs:s∈gs)(Y:f≠s)(I:j∈js)(h1:j.1∈f)(h2:j.2.1∈s):Prt js ns ((gs.filter λg=>!decide (g=f)&& !decide (g=s))++[f++s])where
 p:=by
  refine adk ?_ h.p;have U:=vq (h.nd hn) O;have B:(gs.filter λx=>!decide (x=f)).Nodup:=(h.nd hn).filter _;have Z:=vq B (YD.mpr ⟨hs,by simpa using λz=>Y z.symm⟩);rw[aeC]at Z;have e:(gs.filter λg=>!decide (g=f)&& !decide (g=s))=gs.filter λg=>!decide (g=s)&& !decide (g=f):=by
   congr 1;funext g;exact Bool.and_comm _ _
  rw[←e]at Z;have q:=(U.trans (Z.cons f)).flatten;refine adk ?_ q.symm;rw[aa8];simp![ZG,ac3,XJ];refine aai.trans ?_;rw[aan]
 e:=λg F=>by
  rcases W2.mp F with z|z
  .exact h.e g (YD.mp z).1
  .rw[Xv.mp z]
   intro e;exact h.e f O (List.append_eq_nil_iff.mp e).1
 c:=λg F=>by
  rcases W2.mp F with z|z
  .exact h.c g (YD.mp z).1
  .rw[Xv.mp z]
   exact nO I h1 h2 (h.c f O) (h.c s hs)
theorem Prt.start(js:List Jt)(ns:List Str):Prt js ns (ns.map λx=>[x])where
 p:=by
  have:(ns.map λx=>[x]).flatten=ns:=by
   induction ns with
   |nil=>rfl
   |cons x r U=>simp![Xi,ZG,U];rfl
  rw[this]
 e:=λg F=>by obtain⟨x,_,rfl⟩:=zc.mp F;simp
 c:=λg F=>by obtain⟨x,_,rfl⟩:=zc.mp F;exact pU x
theorem vH:∀{gs:List (List Str)},(∀g∈gs,g≠[])->gs.length<=gs.flatten.length
 |[],_=>by simp
 |g::r,h=>by
  have:=vH (gs:=r) λx J=>h x (by simp[J]);have F:0<g.length:=aej.mpr (h g (by simp));simp![ZG,YB,XN];omega
theorem Prt.len(h:Prt js ns gs):gs.length<=ns.length:=by rw[←h.p.length_eq];exact vH h.e
theorem Prt.len1(h:Prt js ns gs)(F:g∈gs):g.length<=ns.length:=by
 rw[←h.p.length_eq];have:∀{gs:List (List Str)},g∈gs->g.length<=gs.flatten.length:=by
  intro gs
  induction gs with
  |nil=>intro h;cases h
  |cons x r U=>
   intro h;simp![ZG,YB];rcases Xj.mp h with rfl|z
   .omega
   .have:=U z;omega
 exact this F
theorem Hy{s:List Str}{ps:List Jt}(h:k_ ps gs)(O:f∈gs)(hs:s∈gs)(h1:j.1∈f)(h2:j.2.1∈s):k_ (ps++[j]) ((gs.filter λg=>!decide (g=f)&& !decide (g=s))++[f++s]):=λi hi=>by
 rcases W2.mp hi with z|z
 .obtain⟨g,hg,g1,g2⟩:=h i z
  by_cases e1:g=f
  .exact⟨f++s,by simp,by simp[e1▸g1],by simp[e1▸g2]⟩
  .by_cases e2:g=s
   .exact⟨f++s,by simp,by simp[e2▸g1],by simp[e2▸g2]⟩
   .exact⟨g,Xo _ (YD.mpr ⟨hg,by simp[e1,e2]⟩),g1,g2⟩
 .rw[Xv.mp z]
  exact⟨f++s,by simp,by simp[h1],by simp[h2]⟩
theorem Mp(h:∃g∈gs,x∈g):∃f∈gs,x∈f/\gIx (.lst .own ((gs.filter λg=>decide (x∈g)).map fr)) (.int 0)=some (fr f):=by
 obtain⟨g,F,q⟩:=h;have J:g∈gs.filter λg=>decide (x∈g):=YD.mpr ⟨F,by simpa using q⟩;obtain⟨f,O,_,V⟩:=jr (f:=fr) (l:=gs.filter λg=>decide (x∈g)) (i:=0) (ZR 0) (by have:=abG J;omega);obtain⟨h1,h2⟩:=YD.mp O;exact⟨f,h1,by simpa using h2,V⟩
def ClK(js:List Jt)(ns:List Str)(d:D):Prop:=∃gs:List (List Str),d= .lst .own ((jc (gs.map aU)).map (fL .own))/\Prt js ns gs/\k_ js gs
def ClG(N J:D)(js:List Jt)(ns:List Str)(k:Nat)(ρ:En):Prop:=∃(b:Bool)(zs:List Gz)(V O U F q:Option D),ρ=[some N,some J,some (.lst (mkB b) (zs.map zD)),V,O,U,F,q]/\Prt js ns (zs.map (·.2))/\k_ (js.take k) (zs.map (·.2))
theorem Hn(hN:NK N ns)(hJ:JJ J js)(hn:ns.Nodup)(I:∀j∈js,j.1∈ns/\j.2.1∈ns)(Z:ns.length<=40):Wp (aZ [N,J]) (ClK js ns):=by
 simp_arith![aZ,fnP];refine bf (ClG N J js ns 0) (λQ V=>?_) ?_
 .simp_arith[-cC,hN.v,hN.s]
  refine⟨by omega,lU (Vv ns) ?_⟩;rw[Eo,Ec];refine⟨by decide,V _ ⟨true,_,_,_,_,_,_,rfl,?_,λj I=>by simp at I⟩⟩;rw[Xh];exact Prt.start js ns
 rintro ρ0 ⟨b0,b2,y3,y4,y5,y6,y7,rfl,c1,b6⟩;refine bf (ClG N J js ns js.length) (λQ V=>?_) ?_
 .simp[gj,itS,ao,hJ.v,hJ.s,aR,aC,w_ite]
  refine il (ClG N J js ns) ⟨b0,b2,y3,y4,y5,y6,y7,rfl,c1,b6⟩ ?_ (λρ h=>V _ (by simpa using h));rintro k d ρ B ⟨b,zs,x3,x4,x5,x6,q,rfl,F,a0⟩;rw[List.getElem?_map]at B;cases a4:js[k]? with
  |none=>simp[a4]at B
  |some j=>
   obtain rfl:jD j=d:=by simpa[a4]using B
   have a9:j∈js:=Xw a4;obtain⟨b7,b4⟩:=I j a9;have a7:js.take (k+1)=js.take k++[j]:=by rw[Y_,a4];rfl
   generalize b1:zs.map (·.2)=gs at F a0;have b8:fz (.lst (mkB b) (zs.map zD))= .lst .frz (gs.map fr):=by
    rw[fz,RB,b1];cases b<;>rfl
   have c5:gs.length<=40:=Yz F.len Z;obtain⟨f,O,a5,ef⟩:=Mp (F.mem.mp b7);obtain⟨s,hs,a6,es⟩:=Mp (F.mem.mp b4);simp[jD,tgT,aM,bO,tgN,az,aB,clean,aA,au,aC];refine bf (λρ=>ρ=[some N,some J,some (.lst .frz (gs.map fr)),some (.str j.1),some (.str j.2.1),some (.int j.2.2),some (fr f),q]) (λQ V=>?_) ?_
   .simp_arith[-fz,b8,rQ,xm]
    refine⟨by omega,lU (Pk j.1 gs) ?_⟩;rw[ef,aC];exact⟨xH f,V _ rfl⟩
   rintro _ rfl;refine bf (λρ=>ρ=[some N,some J,some (.lst .frz (gs.map fr)),some (.str j.1),some (.str j.2.1),some (.int j.2.2),some (fr f),some (fr s)]) (λQ V=>?_) ?_
   .simp_arith[rQ,xm]
    refine⟨by omega,lU (Pk j.2.1 gs) ?_⟩;rw[es,aC];exact⟨xH s,V _ rfl⟩
   rintro _ rfl;have c3:=F.len1 O;have c8:=F.len1 hs;simp_arith[-view,oR,Ml];by_cases a3:f=s
   .simp![a3,XX]
    refine⟨false,gs.map λg=>(false,g),_,_,_,_,_,by rw[Xh];rfl,?_,?_⟩
    .rw[Xh,show((λz:Gz=>z.2)∘λg=>(false,g))=id from rfl,Zc];exact F
    .rw[Xh,show((λz:Gz=>z.2)∘λg=>(false,g))=id from rfl,Zc,a7]
     intro i hi;rcases W2.mp hi with z|z
     .exact a0 i z
     .rw[Xv.mp z]
      exact⟨f,O,a5,a3▸a6⟩
   .simp![a3,YJ]
    have c4:view false (.lst .frz (gs.map fr))= .lst .frz (gs.map fr):=by rw[view,rQ];rfl
    rw[rQ,xm];refine⟨by simp;omega,lU (UW f s gs) ?_⟩;have U:cg (fr f) (fr s)=some (.lst .own ((f++s).map D.str)):=by
     simp[fr,cg];omega
    have c6:=adM (λg=>!decide (g=f)&& !decide (g=s)) gs;have a2:cg (.lst .own ((gs.filter λg=>!decide (g=f)&& !decide (g=s)).map fr)) (.lst .own [.lst .own ((f++s).map D.str)])=some (.lst .own (((gs.filter λg=>!decide (g=f)&& !decide (g=s)).map λg=>((false,g):Gz)).map zD++[((true,f++s):Gz)].map zD)):=by
     have h1:((gs.filter λg=>!decide (g=f)&& !decide (g=s)).map fr).length+1<=1000000:=by rw[Xq];omega
     simp![cg,XN,Yl,Z4];rw[Xu ⟨by decide,by decide,h1⟩,Xh];rfl
    rw[U,aC];simp![bI,XN,Yl,aC,XX,Z4,Nat.reduceLeDiff];rw[a2,aC,←X4];simp![aA,au,Eo,Ec];refine⟨by decide,true,_,_,_,_,_,_,rfl,?_,?_⟩
    .rw[X4,Xh,show((λz:Gz=>z.2)∘λg=>(false,g))=id from rfl,Zc]
     exact F.merge hn O hs a3 a9 a5 a6
    .rw[X4,Xh,show((λz:Gz=>z.2)∘λg=>(false,g))=id from rfl,Zc,a7]
     exact Hy a0 O hs a5 a6
 rintro _ ⟨b,zs,x3,x4,x5,x6,q,rfl,F,a0⟩;have c7:zs.length<=40:=by have:=F.len;simp at this;omega
 have a8:∀z∈zs,z.2.length<64:=λz Y=>by have:=F.len1 (aaD (f:=(·.2)) Y);omega
 have b5:view false (.lst (mkB b) (zs.map zD))= .lst (mkV false (mkB b)) (zs.map λz=>.lst (mkV false (mkB z.1)) (z.2.map D.str)):=by
  rw[view,bK,Xh];congr 1;refine XM λz _=>?_;simp[YG,zD,view,dh]
 have b3:gn (zs.map λz=>D.lst (mkV false (mkB z.1)) (z.2.map D.str))=zs.map λz=>D.lst (mkV false (mkB z.1)) (z.2.map D.str):=by
  rw[dH,Xh];refine XM λz _=>?_;simp![YG,fzo,eQ];cases z.1<;>rfl
 have c2:gh (tpN 0) eTT (eAp dg (ak 1.15 aG)) [none] (zs.map λz=>D.lst (mkV false (mkB z.1)) (z.2.map D.str))=some (((zs.map λz=>aU z.2)).map (fL .own)):=by
  rw[jf (p:=λ_=>true) (f:=λd=>match d with|.lst _ ds=>.lst .own ((aU ((strsOf ds).getD [])).map D.str)|_=>.non)]
  .rw[filter_tt,Xh,Xh]
   congr 1;refine XM λz _=>?_;have:=iV z.2;simp[YG,this,fL]
  .intro d hd
   obtain⟨z,Y,rfl⟩:=zc.mp hd;have:=iV z.2;have hv:view false (.lst (mkV false (mkB z.1)) (z.2.map D.str))= .lst (mkV false (mkB z.1)) (z.2.map D.str):=by
    rw[view,dh];cases z.1<;>rfl
   simp[tpN,aC,eTT,eAp,ak,ao,aG,hv,sx,um (a8 z Y),this]
 simp_arith[-view,-mkV,b5,b3];refine⟨by omega,lU c2 ?_⟩;rw[sx,xu (by simp;omega),aC];have b9:∀rs:List (List Str),az (rs.map (fL .own))=true:=λrs=>bh λd hd=>by
  obtain⟨z,_,rfl⟩:=zc.mp hd;simp[fL,aA,cL]
 have c0:∀rs:List (List Str),aB (rs.map (fL .own))=true:=λrs=>a_ λd hd=>by
  obtain⟨z,_,rfl⟩:=zc.mp hd;simp[fL,au,cG]
 simp![aA,au,b9,c0];refine⟨by decide,zs.map (·.2),by rw[Xh];rfl,F,?_⟩;rw[Zw]at a0;exact a0
def lT(l:List Tt):D:=.lst .own (l.map tD)
def lead(ns:List Str)(f:Str->List Tt):D:=.dct .own (ns.map XF) (ns.map λy=>lT (f y))
def upF(f:Str->List Tt)(x:Str)(t:Tt):Str->List Tt:=λy=>if y=x then f y++[t]else f y
def adj(js:List Jt):Nat->Str->List Tt
 |0=>λ_=>[]
 |k+1=>match js[k]? with
  |some j=>upF (upF (adj js k) j.1 (k,1,j.2.1)) j.2.1 (k,-1,j.1)
  |none=>adj js k
theorem lB(J:x∈ns):∃i,eY (ns.map XF) (XF x)=some i/\ns[i]? =some x/\i<ns.length:=by
 have h:=kI (ys:=ns) (x:=x);rw[YL J]at h;obtain⟨i,hi⟩:=acR.mp h;obtain⟨Z,B,_⟩:=Ym.mp hi;have q:i<ns.length:=by simpa using Z
 refine⟨i,hi,?_,q⟩;rw[Xk q];simpa using B
theorem RT{g g':Str->α}{a:α}(hn:ns.Nodup)(hi:ns[i]? =some x)(Z:g' x=a)(F:∀y,y≠x->g' y=g y):(ns.map g).set i a=ns.map g':=by
 apply abv;intro k;rw[aby];have N:i<ns.length:=(qb.mp hi).1;by_cases e:i=k
 .subst e
  rw[Xu rfl,Xu (by simpa using N),List.getElem?_map,hi,←Z];rfl
 .rw[Xz e,List.getElem?_map,List.getElem?_map]
  cases B:ns[k]? with
  |none=>rfl
  |some y=>
   have Y:y≠x:=λz=>by
    rw[z]at B;obtain⟨h1,h2⟩:=qb.mp hi;obtain⟨O,q⟩:=qb.mp B;exact e ((abL hn).mp (h2.trans q.symm))
   simp[F y Y]
variable{t:Tt}{f:Str->List Tt}
theorem zP{fa:En->Option (List D)}(hn:ns.Nodup)(h2:ρ[2]? =some (some (lead ns f)))(F:ao false i ρ=some (.str x))(J:x∈ns)(hl:(f x).length<1000000)(Z:fa ρ=some [tD t]) :
  km bj 2 (uV 2 (gF 2) (ao false i)) fa ρ=some (.nx (ρ.set 2 (some (lead ns (upF f x t))))):=by
 obtain⟨k,B,O,a0⟩:=lB J;have N:(ns.map λy=>lT (f y))[k]? =some (lT (f x)):=by rw[List.getElem?_map,O];rfl
 have e1:ixP (lead ns f) (.str x)=some k:=by simp[ixP,lead,d9,B,a0]
 have e2:kids (lead ns f)=ns.map λy=>lT (f y):=rfl;have q:gq [k] (lT (f x++[t])) (lead ns f)=lead ns (upF f x t):=by
  have hs:=RT (g:=λy=>lT (f y)) (g':=λy=>lT (upF f x t y)) (a:=lT (f x++[t])) hn O (by simp[upF]) (λy V=>by simp[upF,V]);rw[gq,e2,N];simp![gq];rw[hs];rfl
 have Y:gk [k] (lead ns f)=some (lT (f x)):=by simp[gk,e2,N]
 have e5:bj (lT (f x)) [tD t]=some (lT (f x++[t]),.non):=by simp[lT,bj,hl]
 have I:gk [] (lead ns f)=some (lead ns f):=rfl;have e6:uV 2 (gF 2) (ao false i) ρ=some [k]:=by
  unfold uV gF;rw[h2,F];simp![Mx,I,e1,e2,Xq,a0,XX,List.nil_append]
 have U:az [tD t]=true/\aB [tD t]=true:=⟨rfl,rfl⟩;unfold km oK;rw[e6,Z];simp![Mx];unfold upS;rw[h2];simp![Y,Mx,U.1,U.2,and_self,XX,e5,Yb,q]
theorem yl:(upF f x t y).length<=(f y).length+1:=by unfold upF;split<;>simp
theorem yC(js:List Jt)(y:Str):∀k,(adj js k y).length<=2*k
 |0=>by simp[adj]
 |k+1=>by
  have U:=yC js y k;rw[adj];cases I:js[k]? with
  |some j=>
   simp only;have h1:=yl (f:=upF (adj js k) j.1 (k,1,j.2.1)) (x:=j.2.1) (y:=y) (t:=((k:Int),-1,j.1));have h2:=yl (f:=adj js k) (x:=j.1) (y:=y) (t:=((k:Int),1,j.2.1));omega
  |none=>simp only;omega
theorem tY(js:List Jt)(y:Str){t:Tt}:∀k,t∈adj js k y↔∃(n:Nat)(j:Jt),n<k/\js[n]? =some j/\((j.1=y/\t=((n:Int),1,j.2.1))∨(j.2.1=y/\t=((n:Int),-1,j.1)))
 |0=>by simp[adj]
 |k+1=>by
  have U:=tY js y (t:=t) k;have up:∀(f:Str->List Tt)(x:Str)(u:Tt),t∈upF f x u y↔t∈f y∨(x=y/\t=u):=λf x u=>by
   unfold upF;by_cases e:y=x
   .simp[e]
   .have e':¬x=y:=λz=>e z.symm
    simp[e,e']
  rw[adj];cases I:js[k]? with
  |none=>
   simp only;rw[U];constructor
   .rintro⟨n,j,h1,h2⟩;exact⟨n,j,by omega,h2⟩
   .rintro⟨n,j,h1,h2,h3⟩
    refine⟨n,j,?_,h2,h3⟩;have:n≠k:=λz=>by rw[z,I]at h2;cases h2
    omega
  |some j=>
   simp only;rw[up,up,U];constructor
   .rintro((⟨n,i,h1,h2⟩|h)|h)
    .exact⟨n,i,by omega,h2⟩
    .exact⟨k,j,by omega,I,.inl h⟩
    .exact⟨k,j,by omega,I,.inr h⟩
   .rintro⟨n,i,h1,h2,h3⟩
    by_cases e:n=k
    .subst e
     rw[I]at h2;cases h2;rcases h3 with z|z
     .exact .inl (.inr z)
     .exact .inr z
    .exact .inl (.inl ⟨n,i,by omega,h2,h3⟩)
def EbI(N J:D)(ns:List Str)(js:List Jt)(k:Nat)(ρ:En):Prop:=∃V O U F:Option D,ρ=[some N,some J,some (lead ns (adj js k)),V,O,U,F]
theorem U7:∀ns:List Str,iH (tpN 0) eTT 1.15 (eAp bI aG) [none] (ns.map D.str)=some (ns.map λy=>((XF y:Key),D.lst .own []))
 |[]=>rfl
 |x::r=>by
  rw[Xi,iH,U7 r];simp_arith[cg,gm,gf,jL,ji,lX,jP,gLt,gGt,gGe,gIx,bI,bC,cT,nQ,ql,jo,gIs,lO,atI,ixN,bj,dZ,gSl,jM,fU,d9]
theorem T6(Y:NK N ns)(q:JJ J js)(hn:ns.Nodup)(I:∀j∈js,j.1∈ns/\j.2.1∈ns)(Z:ns.length<=1000)(a3:js.length<=1000):cR [N,J]=some (lead ns (adj js js.length)):=by
 apply Wp.eq;simp_arith![cR,fnP];refine bf (EbI N J ns js 0) (λQ V=>?_) ?_
 .have hnd:(ns.map λy=>(XF y:Key)).Nodup:=ZF.mpr (hn.imp λh e=>h (by cases e;rfl))
  simp_arith[-cC,oU,Y.v,Y.s,U7];refine⟨by omega,?_⟩;rw[pC,Xh,Xh,show((λx:Key×D=>x.1)∘λy=>((XF y:Key),D.lst .own []))=XF from rfl];rw[Xu hnd,aC];refine⟨⟨?_,?_⟩,V _ ⟨_,_,_,_,rfl⟩⟩
  .simp![aA];rw[bh λd hd=>by obtain⟨y,_,rfl⟩:=zc.mp hd;rfl];rfl
  .simp![au];rw[a_ λd hd=>by obtain⟨y,_,rfl⟩:=zc.mp hd;rfl];rfl
 rintro _ ⟨y3,y4,y5,y6,rfl⟩;refine bf (EbI N J ns js js.length) (λQ V=>?_) ?_
 .simp[gj,itE,ao,ak,aG,q.v,q.s,aR,aC,w_ite]
  refine il (EbI N J ns js) ⟨y3,y4,y5,y6,rfl⟩ ?_ (λρ h=>V _ (by rw[m8]at h;simpa using h));rintro k d ρ B ⟨x3,O,U,F,rfl⟩;rw[kY,List.getElem?_map]at B;cases a0:js[k]? with
  |none=>simp[a0]at B
  |some j=>
   obtain rfl:D.tup [.int (k:Int),jD j]=d:=by simpa[a0]using B
   obtain⟨a2,a1⟩:=I j (Xw a0);have a4:k<js.length:=(qb.mp a0).1;simp[jD,tgT,aM,bO,tgN,az,aB,clean,aA,au,aC];refine bf (λρ=>ρ=[some N,some J,some (lead ns (upF (adj js k) j.1 (k,1,j.2.1))),some (.int k),some (.str j.1),some (.str j.2.1),some (.int j.2.2)]) (λQ V=>?_) ?_
   .refine lU (zP (t:=((k:Int),1,j.2.1)) hn rfl (x:=j.1) (by simp[ao,view]) a2 (by have:=yC js j.1 k;omega) (by simp_arith[cg,gm,gf,jL,ji,lX,jP,gLt,gGt,gGe,gIx,bI,bC,cT,nQ,ql,jo,gIs,lO,atI,ixN,bj,dZ,gSl,jM,fU,tD])) (V _ rfl)
   rintro _ rfl;refine lU (zP (t:=((k:Int),-1,j.1)) hn rfl (x:=j.2.1) (by simp[ao,view]) a1 (by have:=yC js j.2.1 k;have:=yl (f:=adj js k) (x:=j.1) (y:=j.2.1) (t:=((k:Int),1,j.2.1));omega) (by simp_arith[cg,gm,gf,jL,ji,lX,jP,gLt,gGt,gGe,gIx,bI,bC,cT,nQ,ql,jo,gIs,lO,atI,ixN,bj,dZ,gSl,jM,fU,tD])) ⟨some (.int k),some (.str j.1),some (.str j.2.1),some (.int j.2.2),?_⟩;rw[adj,a0];rfl
 rintro _ ⟨x3,O,U,F,rfl⟩;simp[jk,aC]
variable{Q:Fl->Prop}
theorem tQ{c:En->Option (Bool×En)}{V:En->Option Fl}(I:Nat->En->Prop)(B:Nat)(hs:∀p ρ,I p ρ->Wp (c ρ) λb=>if b.1=true then(p<B/\Wp (V b.2) λr=>match r with
   |.nx ρ2=>I (p+1) ρ2
   |.cnt ρ2=>I (p+1) ρ2
   |.brk ρ2=>Q (.nx ρ2)
   |.ret d ρ2=>Q (.ret d ρ2))else Q (.nx b.2)):∀(q p:Nat)(ρ:En),I p ρ->B-p<q->Wp (jC c V q ρ) Q
 |0,p,ρ,_,h=>by omega
 |q+1,p,ρ,hI,h=>by
  obtain⟨⟨b,ρ1⟩,e1,w⟩:=hs p ρ hI;rw[jC,e1,Mx];cases b with
  |false=>
   simp![Ye,YJ]at w⊢;exact aC.mpr w
  |true=>
   simp![XX]at w⊢;obtain⟨F,r,e2,w⟩:=w;rw[e2];cases r with
   |nx ρ2=>exact tQ I B hs q (p+1) ρ2 w 1.10
   |cnt ρ2=>exact tQ I B hs q (p+1) ρ2 w 1.10
   |brk ρ2=>exact aC.mpr w
   |ret d ρ2=>exact aC.mpr w
abbrev Uw:=Str×List Pt
def pT(ps:List Pt):D:=.tup (ps.map ptD)
def wM(m:Mk)(us:List Uw):D:=.dct m ((us.map (·.1)).map XF) (us.map λu=>pT u.2)
theorem nU(ps:List Pt):aA (pT ps)=true/\au (pT ps)=true/\(∀b,view b (pT ps)=pT ps)/\fz (pT ps)=pT ps/\fzo (pT ps)=pT ps:=by
 refine⟨?_,?_,λb=>?_,?_,?_⟩<;>simp[pT,aA,au,Eg,FN,view,M5,fz,VM,fzo,K7]
theorem Jf(b:Bool)(us:List Uw):dW b (us.map λu=>pT u.2)=us.map λu=>pT u.2:=by
 rw[bK,Xh];exact XM λu _=>(nU u.2).2.2.1 b
theorem VP(us:List Uw):fzL (us.map λu=>pT u.2)=us.map λu=>pT u.2:=by
 rw[fY,Xh];exact XM λu _=>(nU u.2).2.2.2.1
theorem V0(us:List Uw):az (us.map λu=>pT u.2)=true:=bh λd hd=>by obtain⟨u,_,rfl⟩:=zc.mp hd;exact(nU u.2).1
theorem Vm(us:List Uw):aB (us.map λu=>pT u.2)=true:=a_ λd hd=>by obtain⟨u,_,rfl⟩:=zc.mp hd;exact(nU u.2).2.1
variable{us:List Uw}
theorem Td:view false (wM .own us)=wM .brw us:=by simp![wM,view,Jf];rfl
theorem Fb:view false (wM .frz us)=wM .frz us:=by simp![wM,view,Jf];rfl
theorem Wq(h:m≠.scr):fz (wM m us)=wM .frz us:=by
 simp![wM,fz,VP];cases m<;>first|rfl|exact absurd rfl h
theorem De(h:m= .own∨m= .frz):aA (wM m us)=true/\au (wM m us)=true:=by
 rcases h with rfl|rfl<;>simp[wM,aA,au,V0,Vm]
theorem Rq:gU (.str x) (wM m us)=some (.bl (!decide (x∈us.map (·.1)))):=by
 simp![gU,wM,qY,d9,Yb,kI]
theorem Fd(J:x∈us.map (·.1)):∃ps,(x,ps)∈us/\gIx (wM m us) (.str x)=some (pT ps):=by
 obtain⟨i,h1,h2,O⟩:=lB J;rw[List.getElem?_map]at h2;cases e:us[i]? with
 |none=>simp[e]at h2
 |some u=>
  have e2:u.1=x:=by simpa[e]using h2
  refine⟨u.2,e2▸Xw e,?_⟩;simp![gIx,wM,d9,Mx,h1,List.getElem?_map,e,Yb]
variable{ps:List Pt}
theorem T5(J:x∉us.map (·.1))(Z:us.length<1000000):dZ (wM .own us) [.str x,pT ps]=some (wM .own (us++[(x,ps)]),.non):=by
 have h1:eY ((us.map (·.1)).map XF) (XF x)=none:=by
  cases e:eY ((us.map (·.1)).map XF) (XF x)with
  |none=>rfl
  |some j=>have:=kI (ys:=us.map (·.1)) (x:=x);rw[e]at this;exact absurd (of_decide_eq_true this.symm) J
 simp![dZ,wM,d9,Mx,Xq,Z,XX,gG,h1,X4,Xi,Yq]
theorem Cz{f s:List Str}(I:j∈js)(h1:j.2.1∈f)(h2:j.1∈s)(B:Con js f)(q:Con js s):Con js (f++s):=
 Ao aai (nO I h2 h1 q B)
def iB(ns:List Str)(f:Str->List Tt):D:=.dct .frz (ns.map XF) (ns.map λy=>.lst .frz ((f y).map tD))
theorem Pu(b:Bool):view b (iB ns f)=iB ns f:=by
 simp![iB,view,bK,Xh];congr 1;refine XM λy _=>?_;simp![YG,view,Rv];rfl
theorem M6(J:x∈ns):gIx (iB ns f) (.str x)=some (.lst .frz ((f x).map tD)):=by
 obtain⟨i,h1,h2,O⟩:=lB J;simp![gIx,iB,d9,Mx,h1,List.getElem?_map,h2,Yb]
def Led(js:List Jt)(h:Str)(ps:List Pt)(y:Str):Prop:=(∃l,mt js h ps=some l/\lst h l=y)/\∀p∈ps,p.2=1∨p.2= -1
variable{h:Str}
theorem uZ{z:Str}(F:Led js h ps y)(hs:stp js p=some (y,z))(N:p.2=1∨p.2= -1):Led js h (ps++[p]) z:=by
 obtain⟨⟨l,h1,h2⟩,O⟩:=F;refine⟨⟨l++[z],?_,Es l h z⟩,λq B=>?_⟩
 .rw[Ey,h1,Mx,hs,Mx]
  simp[h2]
 .rcases W2.mp B with e|e
  .exact O q e
  .rw[Xv.mp e];exact N
structure Wy(js:List Jt)(ns:List Str)(h:Str)(us:List Uw):Prop where
 n:(us.map (·.1)).Nodup
 i:∀x∈us.map (·.1),x∈ns
 w:∀u∈us,Led js h u.2 u.1/\u.2.length<us.length
 c:Con js (us.map (·.1))
 h:∃r,us=(h,[])::r
theorem Wy.len(w:Wy js ns h us):us.length<=ns.length:=by
 have:=yo w.n w.i;simpa using this
theorem Wy.one(q:h∈ns):Wy js ns h [(h,[])]where
 n:=by simp
 i:=by simp[q]
 w:=λu V=>by
  obtain rfl:=Xv.mp V;exact⟨⟨⟨[],rfl,rfl⟩,by simp⟩,by simp⟩
 c:=pU h
 h:=⟨[],rfl⟩
theorem Qd(h:t∈adj js js.length x):stp js (t.1,t.2.1)=some (x,t.2.2)/\(t.2.1=1∨t.2.1= -1)/\∃j∈js,(j.1=x/\j.2.1=t.2.2)∨(j.2.1=x/\j.1=t.2.2):=by
 obtain⟨n,j,h1,h2,O⟩:=(tY js x js.length).mp h;have J:j∈js:=Xw h2;rcases O with⟨e1,rfl⟩|⟨e1,rfl⟩
 .refine⟨?_,.inl rfl,j,J,.inl ⟨e1,rfl⟩⟩
  unfold stp;simp only;rw[Xu ⟨by omega,by omega⟩,YH,h2];simp[ends,e1]
 .refine⟨?_,.inr rfl,j,J,.inr ⟨e1,rfl⟩⟩
  unfold stp;simp only;rw[Xu ⟨by omega,by omega⟩,YH,h2];simp[ends,e1]
theorem Wy.add(w:Wy js ns h us)(J:(x,ps)∈us)(O:t∈adj js js.length x)(I:∀j∈js,j.1∈ns/\j.2.1∈ns)(hn:t.2.2∉us.map (·.1)):Wy js ns h (us++[(t.2.2,ps++[(t.1,t.2.1)])]):=by
 obtain⟨B,Y,j,N,F⟩:=Qd O;have q:x∈us.map (·.1):=zc.mpr ⟨_,J,rfl⟩;refine⟨?_,?_,?_,?_,?_⟩
 .rw[X4,Xx]
  exact⟨w.n,by simp,λa Z b U e=>hn (by rw[show b=t.2.2 by simpa using U]at e;exact e▸Z)⟩
 .intro y hy
  rw[X4,W2]at hy;rcases hy with z|z
  .exact w.i y z
  .rw[show y=t.2.2 by simpa using z]
   rcases F with⟨_,e⟩|⟨_,e⟩
   .rw[←e];exact(I j N).2
   .rw[←e];exact(I j N).1
 .intro u hu
  rcases W2.mp hu with z|z
  .exact⟨(w.w u z).1,by have:=(w.w u z).2;simp;omega⟩
  .obtain rfl:=Xv.mp z
   exact⟨uZ (w.w _ J).1 B Y,by have:=(w.w _ J).2;simp at this⊢;omega⟩
 .rw[X4]
  rcases F with⟨e1,e2⟩|⟨e1,e2⟩
  .exact nO N (e1▸q) (by simp[e2]) w.c (pU _)
  .exact Cz N (e1▸q) (by simp[e2]) w.c (pU _)
 .obtain⟨r,e⟩:=w.h
  exact⟨r++[(t.2.2,ps++[(t.1,t.2.1)])],by rw[e];rfl⟩
def Out(t:Int)(js:List Jt)(g:Str->Int):Prop:=∀j∈js,t ∣ g j.1+j.2.2-g j.2.1
variable{t:Int}
theorem tR{g:Str->Int}(F:Out t js g):∀{ps:List Pt}{h y:Str},Led js h ps y->t ∣ g h+tot js ps-g y
 |[],h,y,⟨⟨l,h1,h2⟩,_⟩=>by
  cases h1;rw[←h2];simp[tot,lst]
 |p::r,h,y,⟨⟨l,h1,h2⟩,h3⟩=>by
  rw[mt]at h1;cases e1:stp js p with
  |none=>simp[e1]at h1
  |some q=>
   rw[e1,Mx]at h1;split at h1
   .rename_i hq
    cases e2:mt js q.2 r with
    |none=>simp[e2]at h1
    |some l'=>
     have Z:q.2::l'=l:=by simpa[e2]using h1
     have U:=tR F (ps:=r) (h:=q.2) (y:=y) ⟨⟨l',e2,by rw[←h2,←Z];rfl⟩,λJ a0=>h3 J (XQ _ a0)⟩;have B:0<=p.1/\p.1<js.length:=by
      unfold stp at e1;split at e1
      .assumption
      .cases e1
     obtain⟨j,_,O,I,V⟩:=pW B;have N:j∈js:=Xw O;have Y:=F j N;rw[V]at e1;cases e1;rw[tot,O];rcases h3 p (by simp)with s|s
     .have e3:ends j p.2=(j.1,j.2.1):=by simp[ends,s]
      rw[e3]at hq U;simp only at hq U;rw[s,←hq];have:=acg Y U;have e4:g j.1+j.2.2-g j.2.1+(g j.2.1+tot js r-g y)=g j.1+(1*((some j).map λj=>j.2.2).getD 0+tot js r)-g y:=by simp![Yb,aaz];omega
      rw[e4]at this;exact this
     .have e3:ends j p.2=(j.2.1,j.1):=by simp[ends,s]
      rw[e3]at hq U;simp only at hq U;rw[s,←hq];have:=aeV U Y;have e4:g j.1+tot js r-g y-(g j.1+j.2.2-g j.2.1)=g j.2.1+(-1*((some j).map λj=>j.2.2).getD 0+tot js r)-g y:=by simp![Yb,aaz];omega
      rw[e4]at this;exact this
   .cases h1
variable{f:Str->Int}
theorem J1{g:Str->Int}(F:Out t js g)(O:∀j∈js,∃h,g h=0/\(∃ps,Led js h ps j.1/\t ∣ f j.1-tot js ps)/\∃ps,Led js h ps j.2.1/\t ∣ f j.2.1-tot js ps):Out t js f:=λj I=>by
 obtain⟨h,V,⟨ps,l1,e1⟩,⟨J,l2,e2⟩⟩:=O j I;have B:=tR F l1;have Y:=tR F l2;have c:=F j I;rw[V]at B Y;have q:=acg e1 B;have N:=acg e2 Y;have U:=acg (aeV q N) c;have e:f j.1-tot js ps+(0+tot js ps-g j.1)-(f j.2.1-tot js J+(0+tot js J-g j.2.1))+(g j.1+j.2.2-g j.2.1)=f j.1+j.2.2-f j.2.1:=by omega
 rw[e]at U;exact U
theorem xj{n:Int}(U:0<=t):cu [.int t,.int n]=some (.int (if t=0 then n else n % t)):=by
 apply Wp.eq;by_cases V:t=0
 .simp_arith[cu,eq_int,V]
 .have:0<t:=by omega
  simp_arith[cu,eq_int,V,ji,this]
theorem t_{n:Int}(U:0<=t/\t<=1000):bw [.int t,.int n]=some (.int (if t=0 then n else n % t)):=by
 apply Wp.eq;by_cases V:t=0
 .simp_arith[bw,eq_int,V]
 .have h1:0<t:=by omega
  have h2:t<18446744073709551616:=by omega
  have O: -18446744073709551616<t:=by omega
  simp_arith[bw,eq_int,V,jL,gf,gm,h1,h2,O];have:=adN n t;rw[Int.mul_comm]at this;omega
theorem Qj(q:JJ J js)(B:inJ js ps)(F:∀p∈ps,pm p.2=true)(ht:0<=t):bU [J,.int t,.tup (ps.map ptD)]=some (.int (if t=0 then tot js ps else tot js ps % t)):=by
 apply Wp.eq;simp_arith[bU,q.v,M5,K7,Eg,FN];refine il (StI J js t ps) ⟨0,none,none,none,none,none,by simp,rfl⟩ ?_ ?_
 .rintro k d ρ hk ⟨c,x4,x5,x6,x7,x8,hc,rfl⟩
  rw[List.getElem?_map]at hk;cases V:ps[k]? with
  |none=>simp[V]at hk
  |some p=>
   obtain rfl:ptD p=d:=by simpa[V]using hk
   have Z:k<ps.length:=(qb.mp V).1;have N:ps[k]=p:=(qb.mp V).2;have Y:=Xw V;have hs:p.2=1∨p.2= -1:=by simpa[pm]using F p Y
   obtain⟨j,_,O,I,_⟩:=pW (B p Y);have U: -18446744073709551616<p.2/\p.2<18446744073709551616:=by omega
   simp_arith[ptD,q.v,q.x,I];simp_arith[jD,gf,U];refine⟨c+p.2*j.2.2,_,_,_,_,_,?_,rfl⟩;rw[aar Z,N,tot,O]at hc;simp at hc;omega
 .rintro ρ ⟨c,x4,x5,x6,x7,x8,hc,rfl⟩
  rw[Xq,Z8]at hc;have:c=tot js ps:=by simpa[tot]using hc
  subst this;simp_arith[xj ht]
theorem V9(p q:Pt):∃b,gEq (ptD p) (ptD q)=some (.bl b):=by
 refine⟨eqD (dt (ptD p)) (dt (ptD q)),?_⟩;unfold gEq;rw[Xu ⟨rfl,rfl,.tup (by simp[dtL,dt];exact⟨.int _ _,.int _ _⟩)⟩]
variable{k:Nat}
theorem FQ(h:k<ps.length):gIx (pT ps) (.int k)=some (ptD ps[k]):=by
 obtain⟨x,_,h2,O⟩:=jr (f:=ptD) (l:=ps) (i:=(k:Int)) 1.10 1.10;show atI (ps.map ptD) (k:Int)=_;rw[O];have:ps[k]? =some x:=by simpa using h2
 rw[Xk h]at this;rw[Yn this]
theorem K8(h:k<=ps.length):gSl (pT ps) (some (k:Int)) none=some (pT (ps.drop k)):=by
 show some (D.tup (cutD (ps.map ptD) (some (k:Int)) none))=_;unfold cutD pT;rw[HT.sIx_nat,HT.sIx_none,Xq,Nat.min_eq_left h,←List.map_drop,aaM (by simp)]
def TwI(a b:List Pt)(k:Nat)(ρ:En):Prop:=k<=a.length/\k<=b.length/\ρ=[some (pT a),some (pT b),some (.int k),none]
theorem Sv{a b:List Pt}(Z:a.length<=100)(U:b.length<=100):Wp (dF [pT a,pT b]) λd=>∃J,d=pT J/\J.length<=200:=by
 simp_arith![dF,fnP];refine bf (λρ=>ρ=[some (pT a),some (pT b),some (.int 0),none]) (λQ V=>?_) ?_
 .simp_arith[aC]
  exact V _ rfl
 rintro _ rfl;obtain⟨a1,a2,a3,a4,a5⟩:=nU a;obtain⟨b1,b2,b3,b4,b5⟩:=nU b;have la:cT [pT a]=some (.int a.length):=by simp[pT,cT]
 have lb:cT [pT b]=some (.int b.length):=by simp[pT,cT]
 refine bf (λρ=>∃k,TwI a b k ρ) (λQ V=>?_) ?_
 .refine tQ (TwI a b) a.length ?_ 1000000 0 _ ⟨ZP _,ZP _,rfl⟩ 1.10
  rintro k ρ ⟨h1,h2,rfl⟩;by_cases ca:k<a.length
  .by_cases cb:k<b.length
   .obtain⟨e,he⟩:=V9 a[k] b[k]
    cases e with
    |true=>
     simp[oO,j_,eB,e2,eAp,ak,aG,ao,a3,b3,view,la,lb,gLt,isB,ca,cb,FQ ca,FQ cb,he,dJ,aR,aC,w_ite];simp_arith[aC];exact⟨by omega,by omega,by simp⟩
    |false=>
     simp[oO,j_,eB,e2,eAp,ak,aG,ao,a3,b3,view,la,lb,gLt,isB,ca,cb,FQ ca,FQ cb,he,dJ,aR,aC,w_ite];exact V _ ⟨k,h1,h2,rfl⟩
   .simp[oO,j_,eB,e2,eAp,ak,aG,ao,a3,b3,view,la,lb,gLt,isB,ca,cb,dJ,aR,aC,w_ite]
    exact V _ ⟨k,h1,h2,rfl⟩
  .simp[oO,j_,eB,e2,eAp,ak,aG,ao,a3,b3,view,la,lb,gLt,isB,ca,dJ,aR,aC,w_ite]
   exact V _ ⟨k,h1,h2,rfl⟩
 rintro _ ⟨k,h1,h2,rfl⟩;obtain⟨B,I,c3,c4,c5⟩:=nU (a.drop k);obtain⟨d1,d2,d3,d4,d5⟩:=nU (b.drop k);refine bf (λρ=>∃J:List Pt,J.length<=100/\ρ=[some (pT a),some (pT b),some (.int k),some (.lst .own (J.map ptD))]) (λQ V=>?_) ?_
 .have hcl:clean (pT (a.drop k))=true:=by simp[clean,B,I]
  have a7:gn ((a.drop k).map ptD)=(a.drop k).map ptD:=K7 _;have Y:=jf (tg:=tpT 2 (aM (tpN 0) (aM (tpN 1) bO))) (c:=eTT) (e:=eAp bC (ak 1.15 (ak (e1 jP 1.16) aG))) (ρ0:=[none,none]) (p:=λ_=>true) (f:=λd=>match d with|.tup [.int x,.int y]=>ptD (x,-y)|_=>.non) (items:=((a.drop k).map ptD).reverse) (λd hd=>by
   obtain⟨q,N,rfl⟩:=zc.mp (aaZ.mp hd);simp[ptD,tpT,aM,tpN,bO,eTT,eAp,ak,aG,ao,e1,jP,bC,view,aC])
  simp[bV,iC,JB,ak,aG,eSl,G7,n6,p_,ao,a3,view,K8 h1,aR,aC];show Wp (some (clean (.tup ((a.drop k).map ptD)),(gn ((a.drop k).map ptD)).reverse)) _;rw[aC,a7];have a8:iw [none,none] [some (pT a),some (pT b),some (D.int ↑k),none]=[none,none]:=rfl;have O:((a.drop k).map ptD).reverse.length<=1000000:=by simp;omega
  simp![a8,Y,O,XX,Yb,aC,filter_tt];have a6:(((a.drop k).map ptD).reverse.map λd=>match d with|.tup [.int x,.int y]=>ptD (x,-y)|_=>.non)=(((a.drop k).reverse).map λp=>((p.1,-p.2):Pt)).map ptD:=by
   rw[←List.map_reverse,Xh,Xh];rfl
  rw[a6];have a0:((a.drop k).reverse.map λp=>((p.1,-p.2):Pt)).length<=100:=by simp;omega
  generalize ((a.drop k).reverse.map λp=>((p.1,-p.2):Pt))=J at a0⊢;simp[tgN,clean,aA,au,Eg,FN,aC];exact V _ ⟨J,a0,rfl⟩
 rintro _ ⟨J,N,rfl⟩;simp[gO,e2,eAp,ak,aG,eSl,G7,n6,p_,ao,b3,view,K8 h2,aR,aC];have e1:fU [D.lst (mkV false Mk.own) (dW false (List.map ptD J))]=some (pT J):=by rw[M5];rfl
 rw[e1,aC];have e2:cg (pT J) (pT (b.drop k))=some (pT (J++b.drop k)):=by
  unfold pT cg;simp;omega
 rw[e2,aC];obtain⟨F,g2,_⟩:=nU (J++b.drop k);simp[clean,F,g2,aC];exact⟨_,rfl,by simp;omega⟩
def ky(us:List Uw):List Str:=us.map (·.1)
def Bg(js:List Jt)(us:List Uw)(p:Nat):Prop:=∀i,i<p->∀x,(ky us)[i]? =some x->∀t∈adj js js.length x,t.2.2∈ky us
def WyD(js:List Jt)(ns:List Str)(h:Str)(d:D):Prop:=∃us,d=wM .own us/\Wy js ns h us/\∀x∈ky us,∀t∈adj js js.length x,t.2.2∈ky us
def WfI(L:D)(js:List Jt)(ns:List Str)(h:Str)(p:Nat)(ρ:En):Prop:=∃(us:List Uw)(O U F q:Option D),ρ=[some L,some (.str h),some (wM .own us),some (.lst .own (((ky us).drop p).map D.str)),O,U,F,q]/\Wy js ns h us/\p<=us.length/\Bg js us p
def WfJ(L:D)(js:List Jt)(ns:List Str)(h:Str)(p:Nat)(x:Str)(k:Nat)(ρ:En):Prop:=∃(us:List Uw)(U F q:Option D),ρ=[some L,some (.str h),some (wM .own us),some (.lst .own (((ky us).drop (p+1)).map D.str)),some (.str x),U,F,q]/\Wy js ns h us/\p+1<=us.length/\(ky us)[p]? =some x/\Bg js us p/\∀t∈(adj js js.length x).take k,t.2.2∈ky us
theorem jh(us:List Uw):(ky us).length=us.length:=by simp[ky]
theorem uA(us:List Uw)(u:Uw):ky (us++[u])=ky us++[u.1]:=by simp[ky]
theorem Wo{l:List Tt}(h:(l.map tD)[k]? =some d):∃t,l[k]? =some t/\d=tD t:=by
 rw[List.getElem?_map]at h;cases e:l[k]? with
 |none=>simp[e]at h
 |some t=>exact⟨t,rfl,by simpa[e]using h.symm⟩
theorem SJ(hh:h∈ns)(I:∀j∈js,j.1∈ns/\j.2.1∈ns)(Z:ns.length<=1000):Wp (dY [iB ns (adj js js.length),.str h]) (WyD js ns h):=by
 simp_arith![dY,fnP];refine bf (λρ=>ρ=[some (iB ns (adj js js.length)),some (.str h),some (wM .own [(h,[])]),none,none,none,none,none]) (λQ hQ=>?_) ?_
 .have:pC [((XF h:Key),D.tup [])]=some (wM .own [(h,[])]):=by
   unfold pC;rw[Xu (by simp)];rfl
  simp_arith[cg,gm,gf,jL,ji,lX,jP,gLt,gGt,gGe,gIx,bI,bC,cT,nQ,ql,jo,gIs,lO,atI,ixN,bj,dZ,gSl,jM,fU,Bu,uN,EY,d9,this];exact⟨De (.inl rfl),hQ _ rfl⟩
 rintro _ rfl;refine bf (λρ=>ρ=[some (iB ns (adj js js.length)),some (.str h),some (wM .own [(h,[])]),some (.lst .own [.str h]),none,none,none,none]) (λQ hQ=>?_) ?_
 .simp_arith[cg,gm,gf,jL,ji,lX,jP,gLt,gGt,gGe,gIx,bI,bC,cT,nQ,ql,jo,gIs,lO,atI,ixN,bj,dZ,gSl,jM,fU]
  exact hQ _ rfl
 rintro _ rfl;refine bf (λρ=>∃p,WfI (iB ns (adj js js.length)) js ns h p ρ/\∀us x4 x5 x6 x7 m,ρ=[some (iB ns (adj js js.length)),some (.str h),some (wM .own us),some m,x4,x5,x6,x7]->us.length<=p) (λQ hQ=>?_) ?_
 .refine tQ (WfI (iB ns (adj js js.length)) js ns h) ns.length ?_ 1000000 0 _ ⟨[(h,[])],none,none,none,none,rfl,Wy.one hh,by simp,λi hi=>absurd hi (afb i)⟩ 1.10
  rintro p ρ ⟨us,x4,x5,x6,x7,rfl,q,F,Y⟩;have c5:=q.len;cases e:(ky us).drop p with
  |nil=>
   have a8:us.length<=p:=by
    have:=congrArg Zz e;rw[aaV,jh]at this;simp at this;omega
   simp[oO,nT,ao,view,dW,truth,dJ,aC,e];refine hQ _ ⟨p,⟨us,x4,x5,x6,x7,by rw[e];rfl,q,F,Y⟩,?_⟩;intro c1 y4 y5 y6 y7 m e2;simp![aa_,aaP]at e2;have:=e2.2.2.1;have h2:us.map (λu=>pT u.2)=c1.map λu=>pT u.2:=by unfold wM at this;injection this
   have:=congrArg Zz h2;simp at this;omega
  |cons x r=>
   have J:(ky us)[p]? =some x:=by
    have:=congrArg (λl=>l[0]?) e;simpa using this
   have a8:p<us.length:=by have:=(qb.mp J).1;rw[jh]at this;exact this
   have O:r=(ky us).drop (p+1):=by
    have:=congrArg List.tail e;simpa using this.symm
   have b7:x∈ns:=q.i x (Xw J);have a1:((ky us).drop p).length<1000000:=by rw[aaV,jh];omega
   rw[e]at a1;simp[oO,nT,ao,view,dW,truth,dJ,aC];refine⟨by omega,?_⟩;refine bf (WfJ (iB ns (adj js js.length)) js ns h p x 0) (λQ hQ=>?_) ?_
   .have hpop:j5 (.lst .own ((x::r).map D.str)) [.int 0]=some (.lst .own (r.map D.str),.str x):=by
     simp![j5,Xq,a1,XX];simp[ixN]
    have N:upS j5 3 [] [.int 0] [some (iB ns (adj js js.length)),some (.str h),some (wM .own us),some (.lst .own ((x::r).map D.str)),x4,x5,x6,x7]=some (.str x,[some (iB ns (adj js js.length)),some (.str h),some (wM .own us),some (.lst .own (r.map D.str)),x4,x5,x6,x7]):=by
     unfold upS;simp![Yh,Yj,gk,Mx];rw[Xu ⟨rfl,rfl⟩,hpop];rfl
    simp![Xi]at N;simp[fQ,oK,gF,ak,aG,eC,dJ,aR,aC,N,tgN,aA,au,clean];exact hQ _ ⟨us,x5,x6,x7,by rw[O],q,a8,J,Y,by simp⟩
   rintro _ ⟨c2,y5,y6,y7,rfl,b5,b9,b4,b8,_⟩;have a9:cC (.lst .frz ((adj js js.length x).map tD))=some (true,(adj js js.length x).map tD):=by simp[cC,clean,aA,au,Rw,Q4,Ww]
   simp[gj,itS,e2,ao,Pu,view,aR,aC,M6 b7,a9,-List.map_drop];refine il (WfJ (iB ns (adj js js.length)) js ns h p x) ⟨c2,y5,y6,y7,rfl,b5,b9,b4,b8,by simp⟩ ?_ ?_
   .rintro k d ρ hk ⟨us1,z5,z6,z7,rfl,hw1,hp1,hx1,hc1,hd1⟩
    obtain⟨t,U,rfl⟩:=Wo hk;have c0:t∈adj js js.length x:=Xw U;have a7:(adj js js.length x).take (k+1)=(adj js js.length x).take k++[t]:=by rw[Y_,U];rfl
    have c3:=hw1.len;have b2:x∈us1.map (·.1):=Xw hx1;obtain⟨ps,b0,b3⟩:=Fd (m:=.brw) b2;have c4:ps.length<us1.length:=(hw1.w _ b0).2;simp[tD,tgT,aM,bO,tgN,az,aB,clean,aA,au,aC,-List.map_drop];simp[sIf,eB,e2,ao,Td,view,Rq,isB,aR,aC,w_ite,-List.map_drop];by_cases B:t.2.2∈us1.map (·.1)
    .have hin':∃a,(t.2.2,a)∈us1:=by obtain⟨u,V,e⟩:=zc.mp B;exact⟨u.2,by rw[←e];exact V⟩
     simp[hin',fB,aC,-List.map_drop];refine⟨us1,_,_,_,rfl,hw1,hp1,hx1,hc1,λu V=>?_⟩;rw[a7]at V;rcases W2.mp V with z|z
     .exact hd1 u z
     .rw[Xv.mp z];exact B
    .have hin':¬∃a,(t.2.2,a)∈us1:=λ⟨a,z⟩=>B (zc.mpr ⟨_,z,rfl⟩)
     simp[hin',-List.map_drop];have a5:cg (pT ps) (.tup [.tup [.int t.1,.int t.2.1]])=some (pT (ps++[(t.1,t.2.1)])):=by
      simp[pT,cg,ptD];omega
     refine bf (λρ=>ρ=[some (iB ns (adj js js.length)),some (.str h),some (wM .own (us1++[(t.2.2,ps++[(t.1,t.2.1)])])),some (.lst .own (((ky us1).drop (p+1)).map D.str)),some (.str x),some (.int t.1),some (.int t.2.1),some (.str t.2.2)]) (λQ hQ=>?_) ?_
     .have hset:=T5 (us:=us1) (x:=t.2.2) (ps:=ps++[(t.1,t.2.1)]) B 1.10
      have a4:=nU (ps++[(t.1,t.2.1)]);simp[bV,e2,ao,Td,view,b3,eAp,ak,aG,bC,a5,aR,dJ,aC,jZ,gF,upS,gk,gq,hset,az,aB,aA,au,a4.1,a4.2.1,clean,-List.map_drop];exact hQ _ rfl
     rintro _ rfl;have b6:(((ky us1).drop (p+1)).map D.str).length<1000000:=by rw[Xq,aaV,jh];omega
     have b1:bj (.lst .own (((ky us1).drop (p+1)).map D.str)) [.str t.2.2]=some (.lst .own (((ky us1).drop (p+1)).map D.str++[.str t.2.2]),.non):=by
      simp![bj,b6,XX]
     simp![km,oK,gF,ak,aG,ao,view,Yh,Yj,Mx,Yb,upS,gk,az,aB,aA,au,aam,and_self,XX,b1,gq,aC,YC,Zf];have a2:(ky (us1++[(t.2.2,ps++[(t.1,t.2.1)])])).drop (p+1)=(ky us1).drop (p+1)++[t.2.2]:=by
      rw[uA,List.drop_append_of_le_length (by rw[jh];exact hp1)]
     have a0:∀y,y∈ky us1->y∈ky (us1++[(t.2.2,ps++[(t.1,t.2.1)])]):=λy hy=>by rw[uA];exact Xo _ hy
     have a6:∀i y,i<us1.length->(ky (us1++[(t.2.2,ps++[(t.1,t.2.1)])]))[i]? =some y->(ky us1)[i]? =some y:=λi y hi e=>by
      rw[uA,XD (by rw[jh];exact hi)]at e;exact e
     refine⟨us1++[(t.2.2,ps++[(t.1,t.2.1)])],_,_,_,by rw[a2,X4];rfl,hw1.add b0 c0 I B,by simp;omega,?_,λi hi y hy u V=>a0 _ (hc1 i hi y (a6 i y 1.10 hy) u V),λu V=>?_⟩
     .rw[uA,XD (by rw[jh];omega)];exact hx1
     .rw[a7]at V
      rcases W2.mp V with z|z
      .exact a0 _ (hd1 u z)
      .rw[Xv.mp z,uA];simp
   .rintro ρ ⟨us1,z5,z6,z7,rfl,hw1,hp1,hx1,hc1,hd1⟩
    refine⟨us1,_,z5,z6,z7,rfl,hw1,hp1,λi hi y hy=>?_⟩;by_cases ei:i=p
    .subst ei
     rw[hx1]at hy;cases hy;rw[Xq,Zw]at hd1;exact hd1
    .exact hc1 i 1.10 y hy
 rintro _ ⟨p,⟨us,x4,x5,x6,x7,rfl,q,F,Y⟩,a3⟩;have c6:=a3 us _ _ _ _ _ rfl;simp[jk,aC];refine⟨us,rfl,q,λx J=>?_⟩;obtain⟨i,hi,rfl⟩:=YW J;exact Y i (by rw[jh]at hi;omega) _ (Xk hi)
theorem Wj(h:g.length<64):dg [.lst m (g.map D.str)]=some (.lst .own ((aU g).map D.str)):=um (m:=m) h
theorem W7(h:g.length<64):dg [.tup (g.map D.str)]=some (.lst .own ((aU g).map D.str)):=by
 simp![dg,Xq,h,XX,iV,Yb];rfl
theorem wB:∀l:List Str,rY (l.map XF)=some l
 |[]=>rfl
 |x::r=>by simp[rY,wB r]
theorem zW(g:List Str):ZC (λa b=>ltS [b] [a]=false) (aU g):=by
 unfold aU;have h1:=jT (g.map λx=>[x]);have h2:∀k∈jc (g.map λx=>[x]),∃x,k=[x]:=λk B=>by
  obtain⟨x,_,rfl⟩:=zc.mp ((du _).mem_iff.mp B);exact⟨x,rfl⟩
 refine ZF.mpr (aaA (λ{a b} Z U O=>?_) h1);obtain⟨x,rfl⟩:=h2 a Z;obtain⟨y,rfl⟩:=h2 b U;exact O
theorem Cv{s:Str}(hs:s∈g)(J:∀x∈g,ltS [x] [s]=false):∃t,aU g=s::t:=by
 have F:=bW g;cases e:aU g with
 |nil=>rw[e]at F;have:=F.symm.eq_nil;rw[this]at hs;cases hs
 |cons m t=>
  have O:=zW g;rw[e]at O F;have q:m∈g:=F.mem_iff.mp (by simp);have h1:=J m q;have h2:ltS [s] [m]=false:=by
   rcases Xj.mp (F.mem_iff.mpr hs)with z|z
   .rw[z];exact iG _
   .exact(aad.mp O).1 s z
  have B:=m9 [s] [m] h2 h1;exact⟨t,by rw[List.cons.inj B |>.1]⟩
theorem Jj{a b:Str}{r q:List Str}(Y:a≠b)(h:ltS [b] [a]=false):ltS (b::q) (a::r)=false:=by
 have B:¬b=a:=λz=>Y z.symm;simp![ltS,B,YJ]at h⊢;exact h
structure TrC(js:List Jt)(ns:List Str)(us:List Uw):Prop where
 w:∃h,Wy js ns h us
 c:∀x∈ky us,∀t∈adj js js.length x,t.2.2∈ky us
theorem TrC.both(h:TrC js ns us)(I:j∈js):j.1∈ky us↔j.2.1∈ky us:=by
 obtain⟨n,hn,rfl⟩:=YW I;have F:js[n]? =some js[n]:=Xk hn;constructor
 .intro z
  exact h.c _ z ((n:Int),1,js[n].2.1) ((tY js _ js.length).mpr ⟨n,js[n],hn,F,.inl ⟨rfl,rfl⟩⟩)
 .intro z
  exact h.c _ z ((n:Int),-1,js[n].1) ((tY js _ js.length).mpr ⟨n,js[n],hn,F,.inr ⟨rfl,rfl⟩⟩)
structure TrS(js:List Jt)(ns:List Str)(k:Nat)(hs:List (List Uw)):Prop where
 t:∀us∈hs,TrC js ns us/\∃(i:Nat)(s:Str)(r:List Str),i<k/\(aU ns)[i]? =some s/\aU (ky us)=s::r/\Wy js ns s us
 n:(ky hs.flatten).Nodup
 c:∀i,i<k->∀x,(aU ns)[i]? =some x->x∈ky hs.flatten
 r:RiL ((hs.map ky).map aU)
theorem jt:∀hs:List (List Uw),ky hs.flatten=(hs.map ky).flatten
 |[]=>rfl
 |u::r=>by
  have:=jt r;unfold ky at this⊢;simp![ZG,X4,Xi,this]
theorem TrS.nil(js:List Jt)(ns:List Str):TrS js ns 0 []:=⟨λ_ h=>(by cases h),List.nodup_nil,λi hi=>absurd hi (afb i),aeK⟩
variable{hs:List (List Uw)}
theorem TrS.skip(h:TrS js ns k hs)(J:(aU ns)[k]? =some x)(B:x∈ky hs.flatten):TrS js ns (k+1) hs:=by
 refine⟨λus V=>?_,h.n,λi hi y q=>?_,h.r⟩
 .obtain⟨a,i,s,r,h1,h2⟩:=h.t us V
  exact⟨a,i,s,r,by omega,h2⟩
 .by_cases e:i=k
  .subst e;rw[J]at q;cases q;exact B
  .exact h.c i 1.10 y q
theorem TrS.add(h:TrS js ns k hs)(hn:ns.Nodup)(J:(aU ns)[k]? =some x)(b1:x∉ky hs.flatten)(q:Wy js ns x us)(Y:∀y∈ky us,∀t∈adj js js.length y,t.2.2∈ky us):TrS js ns (k+1) (hs++[us])/\∀y∈ky us,y∉ky hs.flatten:=by
 have a3:x∈ky us:=by obtain⟨r,e⟩:=q.h;rw[e];simp[ky]
 have a0:∀y∈ky us,y∉ky hs.flatten:=λy V a5=>by
  rw[jt,Y6]at a5;obtain⟨l,hl,b0⟩:=a5;obtain⟨vs,a1,rfl⟩:=zc.mp hl;have a8:x∉ky vs:=λz=>b1 (by rw[jt,Y6];exact⟨_,zc.mpr ⟨vs,a1,rfl⟩,z⟩);obtain⟨j,I,j1,j2,j3⟩:=q.c (·∈ky vs) ⟨y,V,b0⟩ ⟨x,a3,a8⟩;have U:=(h.t vs a1).1.both I;rcases j3 with⟨z1,N⟩|⟨z1,N⟩
  .exact N (U.mp z1)
  .exact z1 (U.mpr N)
 have a7:(aU ns).Nodup:=(bW ns).nodup_iff.mpr hn;have hS:=Z1.mp (zW ns);have F:k<(aU ns).length:=(qb.mp J).1;have a2:(aU ns)[k]=x:=(qb.mp J).2;obtain⟨t,ht⟩:∃t,aU (ky us)=x::t:=by
  refine Cv a3 λy V=>?_;have a6:y∈aU ns:=(bW ns).mem_iff.mpr (q.i y V);obtain⟨i,hi,rfl⟩:=YW a6;rcases acG i k with z|z|z
  .exact absurd (h.c i z _ (Xk hi)) (a0 _ V)
  .subst z;rw[a2];exact iG _
  .rw[←a2];exact hS k i F hi z
 refine⟨⟨λvs B=>?_,?_,λi hi y V=>?_,?_⟩,a0⟩
 .rcases W2.mp B with z|z
  .obtain⟨a,i,s,r,h1,h2⟩:=h.t vs z
   exact⟨a,i,s,r,by omega,h2⟩
  .rw[Xv.mp z]
   exact⟨⟨⟨x,q⟩,Y⟩,k,x,t,by omega,J,ht,q⟩
 .rw[aa8,ZG,ac3,XJ]
  unfold ky;rw[X4,Xx];exact⟨h.n,q.n,λa Z b U e=>a0 b U (e▸Z)⟩
 .rw[aa8,ZG,ac3,XJ]
  unfold ky;rw[X4,W2];by_cases e:i=k
  .subst e;rw[J]at V;cases V;exact .inr a3
  .exact .inl (h.c i 1.10 y V)
 .rw[X4,X4]
  refine List.pairwise_append.mpr ⟨h.r,by simp,λa Z b U=>?_⟩;obtain⟨l,hl,rfl⟩:=zc.mp Z;obtain⟨vs,a1,rfl⟩:=zc.mp hl;obtain rfl:b=aU (ky us):=by simpa using U
  obtain⟨_,i,s,r,h1,h2,O,_⟩:=h.t vs a1;rw[O,ht];have a9:i<(aU ns).length:=(qb.mp h2).1;have a4:(aU ns)[i]=s:=(qb.mp h2).2;refine Jj (λe=>?_) (by rw[←a2,←a4];exact hS i k a9 F h1);have:=(abL a7).mp (a4.trans (e.trans a2.symm));omega
theorem TrS.fin(h:TrS js ns (aU ns).length hs)(hn:ns.Nodup)(I:∀j∈js,j.1∈ns/\j.2.1∈ns):Prt js ns (hs.map ky)/\k_ js (hs.map ky)/\RiL ((hs.map ky).map aU):=by
 have B:∀x∈ns,x∈ky hs.flatten:=λx J=>by
  obtain⟨i,hi,rfl⟩:=YW ((bW ns).mem_iff.mpr J);exact h.c i hi _ (Xk hi)
 refine⟨⟨?_,λg F=>?_,λg F=>?_⟩,λj N=>?_,h.r⟩
 .rw[←jt]
  refine(aa2 h.n hn).mpr λx=>⟨λJ=>?_,B x⟩;rw[jt,Y6]at J;obtain⟨l,Z,O⟩:=J;obtain⟨us,V,rfl⟩:=zc.mp Z;obtain⟨⟨⟨y,q⟩,_⟩,_⟩:=h.t us V;exact q.i x O
 .obtain⟨us,V,rfl⟩:=zc.mp F
  obtain⟨⟨⟨y,q⟩,_⟩,_⟩:=h.t us V;obtain⟨r,e⟩:=q.h;rw[e];simp[ky]
 .obtain⟨us,V,rfl⟩:=zc.mp F
  obtain⟨⟨⟨y,q⟩,_⟩,_⟩:=h.t us V;exact q.c
 .have h1:=B j.1 (I j N).1
  rw[jt,Y6]at h1;obtain⟨l,Z,O⟩:=h1;obtain⟨us,V,rfl⟩:=zc.mp Z;exact⟨_,Z,O,((h.t us V).1.both N).mp O⟩
theorem Eb:∀{es:List (Key×D)}{ks:List Key}{ds:List D},ks.length=ds.length->(es.map (·.1)).Nodup->(∀k∈es.map (·.1),k∉ks)->bH ks ds es=(ks++es.map (·.1),ds++es.map (·.2))
 |[],ks,ds,_,_,_=>by simp[bH]
 |p::r,ks,ds,hl,hn,hd=>by
  rw[Xi,Yo]at hn;have h1:eY ks p.1=none:=yS (hd p.1 (by simp));rw[bH,gG,h1];simp only;rw[Eb (ks:=ks++[p.1]) (ds:=ds++[p.2]) (by simp[hl]) hn.2 λk B z=>?_]
  .simp
  .rcases W2.mp z with y|y
   .exact hd k (by simp[zc.mp B]) y
   .rw[Xv.mp y]at B;exact hn.1 B
theorem Ji{vs:List Uw}(hn:(ky us).Nodup)(hd:∀y∈ky us,y∉ky vs)(Z:vs.length+us.length<=50000):iu (wM .own vs) [wM .frz us]=some (wM .own (vs++us),.non):=by
 have e1:(((us.map (·.1)).map (XF:Str->Key)).zip (us.map λu=>pT u.2))=us.map λu=>((XF u.1:Key),pT u.2):=by
  rw[Xh,List.zip_map'];rfl
 have q:∀{l:List Str}{x:Str},(XF x:Key)∈l.map XF↔x∈l:=λ{l x}=>by
  rw[zc];exact⟨λ⟨y,h1,h2⟩=>by cases h2;exact h1,λh=>⟨x,h,rfl⟩⟩
 have e2:=Eb (es:=us.map λu=>((XF u.1:Key),pT u.2)) (ks:=(vs.map (·.1)).map XF) (ds:=vs.map λu=>pT u.2) (by simp) (by
  rw[Xh];have:((λx:Key×D=>x.1)∘λu:Uw=>((XF u.1:Key),pT u.2))=XF∘λu:Uw=>u.1:=rfl;rw[this,←Xh];exact ZF.mpr (hn.imp λh e=>h (by cases e;rfl))) (λk B=>by
  rw[Xh]at B;obtain⟨u,V,rfl⟩:=zc.mp B;intro z;exact hd u.1 (zc.mpr ⟨u,V,rfl⟩) (q.mp z))
 simp![iu,wM,Xq,Z,e1,e2];simp[wM]
theorem RC(us:List Uw):cz (wM .own us)=true:=by
 have h2:∀l:List Pt,bG (l.map ptD)=true:=by
  intro l
  induction l with
  |nil=>rfl
  |cons p r U=>rw[Xi,bG,U];rfl
 have h1:bG (us.map λu=>pT u.2)=true:=by
  induction us with
  |nil=>rfl
  |cons u r U=>rw[Xi,bG,U,pT,cz,h2];rfl
 simp![wM,cz,h1];rfl
def TrD(js:List Jt)(ns:List Str)(d:D):Prop:=∃hs:List (List Uw),d= .lst .own (hs.map (wM .frz))/\TrS js ns (aU ns).length hs
structure NS(N:D)(ns:List Str):Prop where
 k:NK N ns
 s:dg [N]=some (.lst .own ((aU ns).map D.str))
theorem NS.lst{ns:List Str}(h:ns.length<=40):NS (.lst .frz (ns.map D.str)) ns:=⟨NK.lst ns,Wj 1.10⟩
theorem NS.tup{ns:List Str}(h:ns.length<=40):NS (.tup (ns.map D.str)) ns:=⟨NK.tup ns,W7 1.10⟩
def TrI(N J:D)(js:List Jt)(ns:List Str)(k:Nat)(ρ:En):Prop:=∃(hs:List (List Uw))(U F:Option D),ρ=[some N,some J,some (lead ns (adj js js.length)),some (wM .own hs.flatten),some (.lst .own (hs.map (wM .frz))),U,F]/\TrS js ns k hs
theorem Vt(hs:List (List Uw)):az (hs.map (wM .frz))=true:=bh λd hd=>by obtain⟨u,_,rfl⟩:=zc.mp hd;exact(De (.inr rfl)).1
theorem WN(hs:List (List Uw)):aB (hs.map (wM .frz))=true:=a_ λd hd=>by obtain⟨u,_,rfl⟩:=zc.mp hd;exact(De (.inr rfl)).2
theorem TrS.len(h:TrS js ns k hs):hs.flatten.length<=ns.length/\hs.length<=ns.length:=by
 have h1:(ky hs.flatten).length<=ns.length:=yo h.n λx J=>by
  rw[jt,Y6]at J;obtain⟨l,Z,O⟩:=J;obtain⟨us,V,rfl⟩:=zc.mp Z;obtain⟨⟨⟨y,q⟩,_⟩,_⟩:=h.t us V;exact q.i x O
 have h2:=vH (gs:=hs.map ky) λg F=>by
  obtain⟨us,V,rfl⟩:=zc.mp F;obtain⟨⟨⟨y,q⟩,_⟩,_⟩:=h.t us V;obtain⟨r,e⟩:=q.h;rw[e];simp[ky]
 rw[←jt,Xq]at h2;rw[jh]at h1;exact⟨h1,by rw[jh]at h2;omega⟩
theorem Py(hN:NS N ns)(hJ:JJ J js)(hn:ns.Nodup)(I:∀j∈js,j.1∈ns/\j.2.1∈ns)(Z:ns.length<=40)(a4:js.length<=1000):Wp (fV [N,J]) (TrD js ns):=by
 simp_arith![fV,fnP];refine bf (λρ=>ρ=[some N,some J,some (lead ns (adj js js.length)),none,none,none,none]) (λQ V=>?_) ?_
 .have he:=T6 hN.k hJ hn I 1.10 a4
  have O:aA (lead ns (adj js js.length))=true/\au (lead ns (adj js js.length))=true:=by
   constructor
   .simp![lead,aA];rw[bh λd hd=>by obtain⟨y,_,rfl⟩:=zc.mp hd;simp[lT,aA,Rw]];rfl
   .simp![lead,au];rw[a_ λd hd=>by obtain⟨y,_,rfl⟩:=zc.mp hd;simp[lT,au,Q4]];rfl
  simp[bV,eAp,bz,ak,aG,ao,hN.k.v,hJ.v,fzL,hN.k.f,hJ.f,he,az,aB,hN.k.b,hN.k.o,hJ.b,hJ.o,aR,dJ,aC,tgN,clean,O.1,O.2];exact V _ rfl
 rintro _ rfl;refine bf (λρ=>ρ=[some N,some J,some (lead ns (adj js js.length)),some (wM .own []),none,none,none]) (λQ V=>?_) ?_
 .simp_arith[uy]
  exact V _ rfl
 rintro _ rfl;refine bf (λρ=>ρ=[some N,some J,some (lead ns (adj js js.length)),some (wM .own []),some (.lst .own []),none,none]) (λQ V=>?_) ?_
 .simp_arith[cg,gm,gf,jL,ji,lX,jP,gLt,gGt,gGe,gIx,bI,bC,cT,nQ,ql,jo,gIs,lO,atI,ixN,bj,dZ,gSl,jM,fU,-aA,-au]
  exact V _ rfl
 rintro _ rfl;have a6:∃d,view false (lead ns (adj js js.length))=d/\fz d=iB ns (adj js js.length):=by
  refine⟨_,rfl,?_⟩;simp![lead,iB,view,fz,bK,fY,Xh];congr 1;refine XM λy _=>?_;simp![YG,lT,view,fz,Rv,fY,Xh];rfl
 obtain⟨Lv,a7,a8⟩:=a6;refine bf (TrI N J js ns (aU ns).length) (λQ V=>?_) ?_
 .have hseq:cC (.lst .own ((aU ns).map D.str))=some (true,(aU ns).map D.str):=by simp[cC,clean,aA,au,cL,cG,eQ]
  simp[gj,itS,eAp,ak,aG,ao,hN.k.v,hN.s,hseq,aR,aC,w_ite];refine il (TrI N J js ns) ⟨[],none,none,rfl,TrS.nil js ns⟩ ?_ (λρ h=>V _ (by rw[Xq]at h;exact h));rintro k d ρ B ⟨hs,x5,F,rfl,U⟩;rw[List.getElem?_map]at B;cases a0:(aU ns)[k]? with
  |none=>simp[a0]at B
  |some x=>
   obtain rfl:D.str x=d:=by simpa[a0]using B
   have a5:x∈ns:=(bW ns).mem_iff.mp (Xw a0);obtain⟨b0,b2⟩:=U.len;simp[tgN,aA,au,clean,aC];simp[sIf,eB,e2,ao,Td,view,Rq,isB,aR,aC,w_ite,-List.mem_map,-List.mem_flatten,-List.map_flatten];by_cases a1:x∈ky hs.flatten
   .have hin':x∈hs.flatten.map (·.1):=a1
    simp![hin',XX,fB,aC];exact⟨hs,_,_,rfl,U.skip a0 a1⟩
   .have hin':¬x∈hs.flatten.map (·.1):=a1
    simp![hin',YJ];obtain⟨_,e,us,rfl,q,Y⟩:=SJ a5 I 1.10;have b1:=q.len;obtain⟨a9,a2⟩:=U.add hn a0 a1 q Y;refine bf (λρ=>ρ=[some N,some J,some (lead ns (adj js js.length)),some (wM .own hs.flatten),some (.lst .own (hs.map (wM .frz))),some (.str x),some (wM .own us)]) (λQ V=>?_) ?_
    .have O:=De (us:=us) (m:=.own) (.inl rfl)
     simp[bV,eAp,bz,ak,aG,ao,a7,view,fzL,a8,fz,e,RC,aR,dJ,aC,tgN,clean,O.1,O.2];exact V _ rfl
    rintro _ rfl;refine bf (λρ=>ρ=[some N,some J,some (lead ns (adj js js.length)),some (wM .own (hs.flatten++us)),some (.lst .own (hs.map (wM .frz))),some (.str x),some (wM .frz us)]) (λQ V=>?_) ?_
    .have hup:=Ji (vs:=hs.flatten) (us:=us) q.n a2 1.10
     have O:=De (us:=us) (m:=.frz) (.inr rfl);simp[sFz,pX,Wq,km,oK,gF,ak,aG,ao,Fb,upS,gk,gq,az,aB,O.1,O.2,hup,aR,dJ,aC];exact V _ rfl
    rintro _ rfl;have O:=De (us:=us) (m:=.frz) (.inr rfl);have a3:bj (.lst .own (hs.map (wM .frz))) [wM .frz us]=some (.lst .own (hs.map (wM .frz)++[wM .frz us]),.non):=by
     simp![bj,Xq,show hs.length<1000000 by omega,XX]
    simp[km,oK,gF,ak,aG,ao,Fb,upS,gk,gq,az,aB,O.1,O.2,a3,aR,dJ,aC];refine⟨hs++[us],some (.str x),some (wM .frz us),?_,a9⟩;simp
 rintro _ ⟨hs,x5,F,rfl,U⟩;simp[jk,aC];exact⟨hs,rfl,U⟩
def nM(t:Int)(js:List Jt)(us:List Uw):D:=.dct .own ((ky us).map XF) (us.map λu=>D.int (cnt t (tot js u.2)))
def NoI(N J:D)(t:Int)(hs:List (List Uw))(k:Nat)(ρ:En):Prop:=∃O:Option D,ρ=[some N,some J,some (.int t),some (wM .own (hs.take k).flatten),O,none,none,none,none,none]
theorem WQ(us:List Uw):jn (us.map λu=>pT u.2)=true:=by
 have F:∀ps:List Pt,jn (ps.map ptD)=true:=λps=>by
  induction ps with
  |nil=>rfl
  |cons p r U=>rw[Xi,jn,U];rfl
 induction us with
 |nil=>rfl
 |cons u r U=>rw[Xi,jn,U,pT,tG,F];rfl
theorem Kd(hn:(ky us).Nodup){u:Uw}(h1:u∈us)(h2:(u.1,ps)∈us):ps=u.2:=by
 induction us with
 |nil=>cases h1
 |cons v r U=>
  rw[ky,Xi,Yo]at hn;rcases Xj.mp h1 with e1|e1
  .rcases Xj.mp h2 with e2|e2
   .rw[e1,←e2]
   .exact absurd (zc.mpr ⟨_,e2,by rw[e1]⟩) hn.1
  .rcases Xj.mp h2 with e2|e2
   .exact absurd (zc.mpr ⟨u,e1,by rw[←e2]⟩) hn.1
   .exact U hn.2 e1 e2
theorem WR{J:D}{js:List Jt}{t:Int}{us:List Uw}(q:JJ J js)(U:0<=t)(hn:(ky us).Nodup)(V:∀u∈us,∃h,Led js h u.2 u.1):∀vs:List Uw,(∀v∈vs,v∈us)->
  iH (tpN 0) eTT 1.15 (eAp (bz bU) (ak 1.16 (ak (ao false 2) (ak (e2 gIx (ao false 3) 1.15) aG)))) [none,some J,some (.int t),some (wM .scr us)] ((ky vs).map D.str)=some (vs.map λu=>((XF u.1:Key),D.int (cnt t (tot js u.2))))
 |[],_=>rfl
 |v::r,h=>by
  have B:=h v (by simp);obtain⟨ps,h1,h2⟩:=Fd (us:=us) (m:=.scr) (x:=v.1) (zc.mpr ⟨v,B,rfl⟩);have:=Kd hn B h1;subst this;obtain⟨hd,⟨l,hm,_⟩,F⟩:=V v B;have hs:=Qj (t:=t) q (Rp _ _ _ hm) (λp Z=>by rcases F p Z with e|e<;>simp[pm,e]) U;obtain⟨p1,p2,p3,N,O⟩:=nU v.2;have Y:view false (wM .scr us)=wM .scr us:=by simp![wM,view,Jf];rfl
  have I:bU [J,.int t,pT v.2]=some (.int (cnt t (tot js v.2))):=hs;rw[show ky (v::r)=v.1::ky r from rfl,Xi,iH,WR q U hn V r λx hx=>h x (by simp[hx])];simp[tpN,eTT,ao,view,d9,eAp,bz,ak,aG,e2,q.v,Y,h2,fzL,fz,q.f,N,I,az,aB,aA,au,q.b,q.o,p1,p2]
theorem xZ{g:En->Option Fl}(Y:NS N ns)(hJ:JJ J js)(hn:ns.Nodup)(I:∀j∈js,j.1∈ns/\j.2.1∈ns)(Z:ns.length<=40)(a9:js.length<=1000)(O:tG J=true)(U:0<=t)
  (h:∀hs x4,TrS js ns (aU ns).length hs->Wp (g [some N,some J,some (.int t),some (wM .frz hs.flatten),x4,some (nM t js hs.flatten),none,none,none,none]) Q) :
  Wp (bu (bV (eAp uy aG) (tgN 3)) (bu (gj (itS (eAp (bz fV) (ak 1.15 (ak 1.16 aG)))) (tgN 4) (km iu 3 (gF 3) (ak (ao false 4) aG)))
   (bu (sFz 3 (bV (lw 3 [none,some 1,some 2,some 3] (tpN 0) eTT 1.15 (eAp (bz bU) (ak 1.16 (ak (ao false 2) (ak (e2 gIx (ao false 3) 1.15) aG))))) (tgN 5))) g)) [some N,some J,some (.int t),none,none,none,none,none,none,none]) Q:=by
 refine bf (λρ=>ρ=[some N,some J,some (.int t),some (wM .own []),none,none,none,none,none,none]) (λQ hQ=>?_) ?_
 .simp_arith[uy]
  exact hQ _ rfl
 rintro _ rfl;obtain⟨_,e,hs,rfl,a1⟩:=Py Y hJ hn I Z a9;obtain⟨c2,c3⟩:=a1.len;refine bf (NoI N J t hs hs.length) (λQ hQ=>?_) ?_
 .have a0:aA (.lst .own (hs.map (wM .frz)))=true/\au (.lst .own (hs.map (wM .frz)))=true:=by simp[aA,au,Vt,WN]
  have b0:gn (hs.map (wM .frz))=hs.map (wM .frz):=by
   rw[dH,Xh];refine XM λu _=>?_;simp![YG,wM,fzo,dH,Xh];congr 1;exact XM λv _=>(nU v.2).2.2.2.2
  have a5:cC (.lst .own (hs.map (wM .frz)))=some (true,hs.map (wM .frz)):=by simp[cC,clean,a0.1,a0.2,b0]
  simp[gj,itS,eAp,bz,ak,aG,ao,Y.k.v,hJ.v,fzL,Y.k.f,hJ.f,e,az,aB,Y.k.b,Y.k.o,hJ.b,hJ.o,a0,a5,aR,dJ,aC,w_ite];refine il (NoI N J t hs) ⟨none,rfl⟩ ?_ (λρ h=>hQ _ (by rw[Xq]at h;exact h));rintro k d ρ B ⟨x4,rfl⟩;rw[List.getElem?_map]at B;cases a2:hs[k]? with
  |none=>simp[a2]at B
  |some us=>
   obtain rfl:wM .frz us=d:=by simpa[a2]using B
   have b1:k<hs.length:=(qb.mp a2).1;have b7:hs[k]=us:=(qb.mp a2).2;have a7:hs.flatten=(hs.take k).flatten++(us++(hs.drop (k+1)).flatten):=by
    conv=>lhs;rw[←abU k hs,aar b1,b7,aa8,ZG]
   have a3:=a1.n;rw[a7,ky,X4,X4]at a3;have a6:=Xx.mp a3;have c1:=Xx.mp a6.2.1;have b8:(hs.take k).flatten.length+us.length<=50000:=by
    have:=congrArg Zz a7;simp![YB]at this;omega
   have b6:=Ji (vs:=(hs.take k).flatten) (us:=us) c1.1 (λy hy c0=>a6.2.2 y c0 y (Xo _ hy) rfl) b8;have a0:=De (us:=us) (m:=.frz) (.inr rfl);simp[tgN,clean,a0.1,a0.2,km,oK,gF,ak,aG,ao,Fb,upS,gk,gq,az,aB,b6,aR,dJ,aC,-List.map_flatten];refine⟨some (wM .frz us),?_⟩;rw[Y_,a2];simp[-List.map_flatten]
 rintro _ ⟨x4,rfl⟩;rw[Zw];refine bf (λρ=>ρ=[some N,some J,some (.int t),some (wM .frz hs.flatten),x4,some (nM t js hs.flatten),none,none,none,none]) (λQ hQ=>?_) ?_
 .have hd:=WR (us:=hs.flatten) hJ U a1.n (λu V=>by
   obtain⟨us,h1,h2⟩:=Y6.mp V;obtain⟨⟨⟨h,q⟩,_⟩,_⟩:=a1.t us h1;exact⟨h,(q.w u h2).1⟩) hs.flatten (λ_ h=>h)
  have b9:CP 3 [some N,some J,some (.int t),some (wM .frz hs.flatten),x4,none,none,none,none,none]=some ((ky hs.flatten).map XF,[d_ (some N),some J,some (.int t),some (wM .scr hs.flatten),d_ x4,none,none,none,none,none]):=by
   have h5:d_ (some J)=some J:=by simp[d_,O]
   show(if jn (hs.flatten.map λu=>pT u.2)=true then some ((ky hs.flatten).map (XF:Str->Key),[d_ (some N),d_ (some J),d_ (some (D.int t)),some (wM .scr hs.flatten),d_ x4,d_ none,d_ none,d_ none,d_ none,d_ none])else none)=_;rw[Xu (WQ _),h5];rfl
  have b3:((ky hs.flatten).map (XF:Str->Key)).map kD=(ky hs.flatten).map D.str:=by rw[Xh];rfl
  have b5:pC (hs.flatten.map λu=>((XF u.1:Key),D.int (cnt t (tot js u.2))))=some (nM t js hs.flatten):=by
   have h6:(hs.flatten.map λu=>((XF u.1:Key),D.int (cnt t (tot js u.2)))).map (·.1)=(ky hs.flatten).map XF:=by rw[ky,Xh,Xh];rfl
   unfold pC;have a3:((ky hs.flatten).map (XF:Str->Key)).Nodup:=ZF.mpr (a1.n.imp λh z=>h (afo z));rw[h6,Xu a3,Xh];rfl
  have a8:((ky hs.flatten).map D.str).length<=1000000:=by rw[Xq,jh];omega
  have b4:iw [none,some 1,some 2,some 3] [d_ (some N),some J,some (.int t),some (wM .scr hs.flatten),d_ x4,none,none,none,none,none]=[none,some J,some (.int t),some (wM .scr hs.flatten)]:=rfl;have hv:lw 3 [none,some 1,some 2,some 3] (tpN 0) eTT 1.15 (eAp (bz bU) (ak 1.16 (ak (ao false 2) (ak (e2 gIx (ao false 3) 1.15) aG)))) [some N,some J,some (.int t),some (wM .frz hs.flatten),x4,none,none,none,none,none]=some (nM t js hs.flatten):=by
   unfold lw;rw[b9,Mx];unfold oU;rw[Mx];dsimp only;rw[b3,Xu a8,b4,hd,Mx];exact b5
  have a4:aA (nM t js hs.flatten)=true/\au (nM t js hs.flatten)=true:=by
   have F:az (hs.flatten.map λu=>D.int (cnt t (tot js u.2)))=true:=bh λd hd=>by obtain⟨u,_,rfl⟩:=zc.mp hd;rfl
   have q2:aB (hs.flatten.map λu=>D.int (cnt t (tot js u.2)))=true:=a_ λd hd=>by obtain⟨u,_,rfl⟩:=zc.mp hd;rfl
   simp![nM,aA,au,F,q2];exact⟨rfl,rfl⟩
  have b2:pX 3 [some N,some J,some (.int t),some (wM .own hs.flatten),x4,none,none,none,none,none]=some [some N,some J,some (.int t),some (wM .frz hs.flatten),x4,none,none,none,none,none]:=by
   simp[pX,Wq]
  unfold sFz;rw[b2,Mx];simp![bV,hv,aR,aC,Mx];simp[tgN,clean,a4.1,a4.2,aC];exact hQ _ rfl
 rintro _ rfl;exact h hs x4 a1
def num(t:Int)(js:List Jt)(us:List Uw)(x:Str):Int:=((us.find? λu=>decide (u.1=x)).map λu=>cnt t (tot js u.2)).getD 0
theorem tV{n:Int}(U:0<=t):cnt t n=0↔t ∣ n:=by
 unfold cnt;split
 .rename_i h;rw[h];exact⟨λe=>by rw[e];exact Int.dvd_refl 0,λe=>Int.zero_dvd.mp e⟩
 .exact⟨Int.dvd_of_emod_eq_zero,ac7⟩
theorem Em(h:x∈ky us):∃i u,eY ((ky us).map XF) (XF x)=some i/\us[i]? =some u/\us.find? (λu=>decide (u.1=x))=some u:=by
 induction us with
 |nil=>cases h
 |cons v r U=>
  by_cases e:v.1=x
  .refine⟨0,v,?_,rfl,by simp[e]⟩
   simp[eY,ky,e,abm]
  .have hr:x∈ky r:=by
    rw[ky,Xi]at h;rcases Xj.mp h with z|z
    .exact absurd z.symm e
    .exact z
   obtain⟨i,u,h1,h2,O⟩:=U hr;refine⟨i+1,u,?_,by simpa using h2,by simp[e,O]⟩;have q:((ky r).map (XF:Str->Key)).findIdx? (λk=>decide (k=XF x))=some i:=h1;show(((ky (v::r)).map (XF:Str->Key)).findIdx? λk=>decide (k=XF x))=some (i+1);rw[show ky (v::r)=v.1::ky r from rfl,Xi,abm,q];simp[e]
theorem Dy(h:x∈ky us):gIx (view false (nM t js us)) (.str x)=some (.int (num t js us x)):=by
 obtain⟨i,u,h1,h2,O⟩:=Em h;have B:dW false (us.map λu=>D.int (cnt t (tot js u.2)))=us.map λu=>D.int (cnt t (tot js u.2)):=by
  rw[bK,Xh];rfl
 simp![nM,view,B,gIx,d9,Mx,h1,List.getElem?_map,h2,Yb,num,O,aaz]
def NwI(N J:D)(t:Int)(js:List Jt)(us:List Uw)(k:Nat)(ρ:En):Prop:=∃O F q Y Z:Option D,ρ=[some N,some J,some (.int t),some (wM .frz us),O,some (nM t js us),F,q,Y,Z]/\∀j∈js.take k,t ∣ num t js us j.1+j.2.2-num t js us j.2.1
def NwR(t:Int)(js:List Jt)(us:List Uw)(d:D):Prop:=¬Out t js (num t js us)/\∃(x:Str)(ps:List Pt),d= .tup [.str "ring",.str x,pT ps]
theorem yX{O:Option D}(hJ:JJ J js)(U:0<=t)(hn:(ky us).Nodup)(I:∀j∈js,j.1∈ky us/\j.2.1∈ky us)(q:∀u∈us,u.2.length<=100)
  (h1:∀ρ,NwI N J t js us js.length ρ->Q (.nx ρ)) (h2:∀d ρ,NwR t js us d->Q (.ret d ρ)) :
  Wp (gj (itE (ak 1.16 aG)) (tgT 2 (aM (tgN 6) (aM (tgT 3 (aM (tgN 7) (aM (tgN 8) (aM (tgN 9) bO)))) bO))) 1.20 [some N,some J,some (.int t),some (wM .frz us),O,some (nM t js us),none,none,none,none]) Q:=by
 have V:itE (ak 1.16 aG) [some N,some J,some (.int t),some (wM .frz us),O,some (nM t js us),none,none,none,none]=some (true,jm 0 (js.map jD)):=by
  have:=hJ.e;simpa[itE,ak,ao,aG,hJ.v]using this
 simp![gj,V,Mx];simp![XX];refine il (NwI N J t js us) ⟨O,none,none,none,none,rfl,by simp⟩ ?_ (λρ h=>h1 _ (by have e:(jm 0 (js.map jD)).length=js.length:=by{have:∀(l:List D)(n:Nat),(jm n l).length=l.length:=by{intro l;induction l with|nil=>intro n;rfl|cons a r ih=>intro n;simp[jm,ih]};rw[this,Xq]};rw[e]at h;exact h));rintro k d ρ B ⟨y4,y6,y7,y8,y9,rfl,ho⟩;rw[kY,List.getElem?_map]at B;cases a0:js[k]? with
 |none=>simp[a0]at B
 |some j=>
  obtain rfl:D.tup [.int ((0+k:Nat):Int),jD j]=d:=by simpa[a0]using B
  have a7:=Xw a0;obtain⟨m1,m2⟩:=I j a7;obtain⟨o,n,st⟩:=j;have c1:=xj (t:=t) (n:=num t js us o+st-num t js us n) U;have c2:cu [.int t,.int (num t js us o+st-num t js us n)]=some (.int (cnt t (num t js us o+st-num t js us n))):=c1;obtain⟨pa,b6,a8⟩:=Fd (us:=us) (m:=.frz) (x:=n) m2;obtain⟨pb,a9,b0⟩:=Fd (us:=us) (m:=.frz) (x:=o) m1;obtain⟨_,e6,qs,rfl,b7⟩:=Sv (a:=pa) (b:=pb) (q _ b6) (q _ a9);simp[tgT,aM,tgN,bO,jD,clean,aA,au,aC];by_cases Y:cnt t (num t js us o+st-num t js us n)=0
  .simp[sIf,eB,e2,eAp,bz,ak,aG,ao,eC,view,Dy m1,Dy m2,cg,gm,fzL,fz,c2,ne_int,Y,isB,az,aB,aA,au,fB,aR,aC,w_ite]
   refine⟨y4,_,_,_,_,rfl,λj a6=>?_⟩;rw[Y_,a0]at a6;rcases W2.mp a6 with z|z
   .exact ho j z
   .obtain rfl:j=(o,n,st):=by simpa using z
    exact(tV U).mp Y
  .simp[sIf,eB,e2,eAp,bz,ak,aG,ao,eC,view,Dy m1,Dy m2,cg,gm,fzL,fz,c2,ne_int,Y,isB,az,aB,aA,au,aR,aC,w_ite]
   obtain⟨a1,Z,a3,a4,a5⟩:=nU pa;obtain⟨b1,b2,b3,b4,b5⟩:=nU pb;obtain⟨F,q2,q3,q4,q5⟩:=nU qs;have ga:cg (.tup [.tup [.int (k:Int),.int 1]]) (pT qs)=some (.tup (.tup [.int (k:Int),.int 1]::qs.map ptD)):=by
    simp[pT,cg];omega
   simp[gO,eAp,bz,ak,aG,ao,eC,e2,view,Fb,a8,b0,bC,fzL,a4,b4,e6,ga,a1,Z,b1,b2,F,q2,az,aB,aA,au,clean,Eg,FN,aR,aC,w_ite];exact h2 _ _ ⟨λhO=>Y ((tV U).mpr (hO _ a7)),_,((k:Int),1)::qs,rfl⟩
theorem TrS.all(h:TrS js ns (aU ns).length hs)(J:x∈ns):x∈ky hs.flatten:=by
 have q:x∈aU ns:=(bW ns).mem_iff.mpr J;obtain⟨i,hi,e⟩:=YW q;exact h.c i hi x (by rw[Xk hi,e])
theorem TrS.short(h:TrS js ns k hs):∀u∈hs.flatten,u.2.length<=ns.length:=λu V=>by
 obtain⟨us,h1,h2⟩:=Y6.mp V;obtain⟨⟨⟨s,q⟩,_⟩,_⟩:=h.t us h1;have:=(q.w u h2).2;have:=q.len;omega
theorem M9:∀l:List Int,uW (l.map D.int)=some l
 |[]=>rfl
 |i::r=>by rw[Xi,uW,M9 r];rfl
def oE(t:Int)(js:List Jt)(us:List Uw):List (Str×Int):=us.map λu=>(u.1,cnt t (tot js u.2))
theorem Xc(h:us.length<64):t8 (view false (nM t js us))=some (.lst .own ((gZ (oE t js us)).map rwD)):=by
 have B:dW false (us.map λu=>D.int (cnt t (tot js u.2)))=(us.map λu=>cnt t (tot js u.2)).map D.int:=by
  rw[bK,Xh,Xh];rfl
 have Y:(ky us).zip (us.map λu=>cnt t (tot js u.2))=oE t js us:=by rw[ky,List.zip_map'];rfl
 simp![nM,view,B,t8,wB,M9,Mx,Y];rw[Xu ⟨rfl,by rw[jh];exact h⟩]
def NwN(t:Int)(js:List Jt)(us:List Uw)(d:D):Prop:=Out t js (num t js us)/\d= .tup [.str "numbers",.lst .own ((gZ (oE t js us)).map rwD)]
theorem lg(Y:NS N ns)(hJ:JJ J js)(hn:ns.Nodup)(I:∀j∈js,j.1∈ns/\j.2.1∈ns)(Z:ns.length<=40)(a1:js.length<=1000)(O:tG J=true)(U:0<=t) :
  Wp (bB [N,J,.int t]) λd=>∃hs,TrS js ns (aU ns).length hs/\(NwR t js hs.flatten d∨NwN t js hs.flatten d):=by
 simp_arith![bB,fnP];refine xZ Y hJ hn I Z a1 O U λhs x4 a0=>?_;obtain⟨a4,a3⟩:=a0.len;refine KR (NwI N J t js hs.flatten js.length) (NwR t js hs.flatten) (λQ h1 h2=>yX hJ U a0.n (λj B=>⟨a0.all (I j B).1,a0.all (I j B).2⟩) (λu V=>by have:=a0.short u V;omega) h1 h2) ?_ ?_
 .rintro _ ⟨y4,y6,y7,y8,y9,rfl,ho⟩
  have a2:=Xc (t:=t) (js:=js) (us:=hs.flatten) 1.10;have F:az ((gZ (oE t js hs.flatten)).map rwD)=true:=bh λd hd=>by obtain⟨u,_,rfl⟩:=zc.mp hd;rfl
  have q:aB ((gZ (oE t js hs.flatten)).map rwD)=true:=a_ λd hd=>by obtain⟨u,_,rfl⟩:=zc.mp hd;rfl
  simp[gO,eAp,ak,aG,eC,eSI,ao,a2,bC,az,aB,aA,au,F,q,clean,aR,aC,w_ite];refine⟨hs,a0,.inr ⟨λj B=>ho j (by rw[Zw];exact B),rfl⟩⟩
 .rintro d ρ h
  simp[aC];exact⟨hs,a0,.inl h⟩
structure DJ(js:List Jt)(ns hd ys:List Str)(vs:List Int):Prop where
 d:DI ns ys vs
 p:∀(i:Nat)(y:Str)(v:Int),ys[i]? =some y->vs[i]? =some v->∃h∈hd,∃ps,Led js h ps y/\v=tot js ps
 z:∀h∈hd,∃i:Nat,ys[i]? =some h/\vs[i]? =some 0
theorem ux(js:List Jt):∀(ps:List Pt)(p:Pt),tot js (ps++[p])=tot js ps+p.2*((js[p.1.toNat]?).map λj=>j.2.2).getD 0
 |[],p=>by simp[tot]
 |q::r,p=>by rw[Yc,tot,ux js r p,tot];omega
theorem Dw(h:Str):Led js h [] h:=⟨⟨[],rfl,rfl⟩,λp F=>by cases F⟩
theorem Q7(I:js[n]? =some j):(Led js h ps j.1->∃J,Led js h J j.2.1/\tot js J=tot js ps+j.2.2)/\(Led js h ps j.2.1->∃J,Led js h J j.1/\tot js J=tot js ps-j.2.2):=by
 have Z:n<js.length:=(qb.mp I).1;have st:∀s:Int,stp js ((n:Int),s)=some (ends j s):=λs=>by
  unfold stp;rw[Xu ⟨by show(0:Int)<=(n:Int);omega,by show(n:Int)<(js.length:Int);omega⟩];show(js[((n:Int)).toNat]?).map _=_;rw[YH,I];rfl
 constructor
 .intro h1
  refine⟨ps++[((n:Int),1)],uZ h1 (by rw[st];simp[ends]) (.inl rfl),?_⟩;rw[ux,YH,I];simp
 .intro h1
  refine⟨ps++[((n:Int),-1)],uZ h1 (by rw[st];simp[ends]) (.inr rfl),?_⟩;rw[ux,YH,I];simp;omega
theorem DJ.ix{hd:List Str}(h:DJ js ns hd ys vs)(J:x∈ys):∃v:Int,gIx (dB ys vs) (.str x)=some (.int v)/\v.natAbs<=1000000000000*ys.length/\∃g∈hd,∃ps,Led js g ps x/\v=tot js ps:=by
 obtain⟨i,h1,h2,O⟩:=lB J;have Z:i<vs.length:=by have:=h.d.l;omega
 refine⟨vs[i],?_,h.d.b _ (ZW Z),h.p i x vs[i] h2 (Xk Z)⟩;simp![dB,gIx,d9,Mx,h1];simp[Z]
theorem DJ.add{js:List Jt}{ns hd ys:List Str}{vs:List Int}{x:Str}{v:Int}(h:DJ js ns hd ys vs)(J:x∉ys)(hn:x∈ns)(B:v.natAbs<=1000000000000*(ys.length+1))(F:∃g∈hd,∃ps,Led js g ps x/\v=tot js ps):DJ js ns hd (ys++[x]) (vs++[v])where
 d:=h.d.add J hn B
 p:=λi y w h1 h2=>by
  have Z:=h.d.l;by_cases hi:i<ys.length
  .rw[XD hi]at h1
   rw[XD 1.10]at h2;exact h.p i y w h1 h2
  .have e:i=ys.length:=by
    have:=(qb.mp h1).1;simp at this;omega
   subst e;simp at h1;rw[Z]at h2;simp at h2;subst h1 h2;exact F
 z:=λg q=>by
  obtain⟨i,h1,h2⟩:=h.z g q;exact⟨i,by rw[XD (qb.mp h1).1];exact h1,by rw[XD (qb.mp h2).1];exact h2⟩
theorem Ud{hd:List Str}(h:DJ js ns hd ys vs)(hn:x∈ns)(Z:ys.length<1000000):∃q O,dZ (dD ys vs) [.str x,.int 0]=some (dD q O,.non)/\DJ js ns (hd++[x]) q O/\x∈q/\∀y∈ys,y∈q:=by
 have more:∀{y:Str}{v:Int},(∃g∈hd,∃ps,Led js g ps y/\v=tot js ps)->∃g∈hd++[x],∃ps,Led js g ps y/\v=tot js ps:=λ⟨g,h1,h2⟩=>⟨g,Xo _ h1,h2⟩;by_cases J:x∈ys
 .obtain⟨j,hj,hj2,_⟩:=lB J
  have Y:j<ys.length:=(qb.mp hj2).1;have I:j<vs.length:=by have:=h.d.l;omega
  refine⟨ys,vs.set j 0,?_,⟨⟨by simp[h.d.l],h.d.n,h.d.s,λv B=>?_⟩,λi y v h1 h2=>?_,λg F=>?_⟩,J,λy V=>V⟩
  .simp[dD,dZ,d9,Z,gG,hj,List.map_set]
  .rcases acJ B with z|z
   .exact h.d.b v z
   .rw[z];simp
  .by_cases e:i=j
   .subst e
    rw[hj2]at h1;cases h1;rw[Zo I]at h2;cases h2;exact⟨x,by simp,[],Dw x,rfl⟩
   .rw[List.getElem?_set_ne (λz=>e z.symm)]at h2
    exact more (h.p i y v h1 h2)
  .rcases W2.mp F with z|z
   .obtain⟨i,h1,h2⟩:=h.z g z
    by_cases e:i=j
    .subst e;exact⟨i,h1,Zo I⟩
    .exact⟨i,h1,by rw[List.getElem?_set_ne (λz=>e z.symm)];exact h2⟩
   .rw[Xv.mp z];exact⟨j,hj2,Zo I⟩
 .have h':DJ js ns (hd++[x]) (ys++[x]) (vs++[0]):=by
   have N:=h.d.l;refine⟨h.d.add J hn (by simp),λi y v h1 h2=>?_,λg F=>?_⟩
   .by_cases hi:i<ys.length
    .rw[XD hi]at h1
     rw[XD 1.10]at h2;exact more (h.p i y v h1 h2)
    .have e:i=ys.length:=by
      have:=(qb.mp h1).1;simp at this;omega
     subst e;simp at h1;rw[N]at h2;simp at h2;subst h1 h2;exact⟨x,by simp,[],Dw x,rfl⟩
   .rcases W2.mp F with z|z
    .obtain⟨i,h1,h2⟩:=h.z g z
     exact⟨i,by rw[XD (qb.mp h1).1];exact h1,by rw[XD (qb.mp h2).1];exact h2⟩
    .rw[Xv.mp z];exact⟨ys.length,by simp,by rw[N];simp⟩
  exact⟨ys++[x],vs++[0],Dl J Z,h',by simp,λy V=>Xo _ V⟩
def hdS(r:List Str):Str:=r.headD ""
def NlI(N J:D)(t:Int)(js:List Jt)(ns:List Str)(B:List (List Str))(k:Nat)(ρ:En):Prop:=∃(ys:List Str)(vs:List Int)(V O U F q:Option D),ρ=[some N,some J,some (.int t),some (dD ys vs),V,O,U,F,q]/\DJ js ns ((B.take k).map hdS) ys vs/\∀r∈B.take k,∀x∈r,x∈ys
def NlA(N J:D)(t:Int)(js:List Jt)(ns hd:List Str)(B:List Str)(r:List Str)(k:Nat)(ρ:En):Prop:=∃(ys:List Str)(vs:List Int)(O U F q:Option D),ρ=[some N,some J,some (.int t),some (dD ys vs),some (fr r),O,U,F,q]/\DJ js ns hd ys vs/\(∀y∈B,y∈ys)/\(∃x∈r,x∈ys)/\cU ys r<=r.length-(k+1)
def NlB(N J:D)(t:Int)(js:List Jt)(ns hd:List Str)(B:List Str)(r:List Str)(O:Option D)(k:Nat)(ρ:En):Prop:=∃(ys:List Str)(vs:List Int)(U F q:Option D),ρ=[some N,some J,some (.int t),some (dD ys vs),some (fr r),O,U,F,q]/\DJ js ns hd ys vs/\(∀y∈B,y∈ys)/\∀j∈js.take k,(j.1∈B->j.2.1∈ys)/\(j.2.1∈B->j.1∈ys)
theorem Ho{gg:En->Option Fl}(Y:NK N ns)(hJ:JJ J js)(I:∀j∈js,j.1∈ns/\j.2.1∈ns)(U:∀j∈js,j.2.2.natAbs<=1000000000000)(Z:ns.length<=15)
  (h:∀(rs:List (List Str))(ys:List Str)(vs:List Int)(x3 x4 x5 x6 x7:Option D),aZ [N,J]=some (.lst .own (rs.map (fL .own)))->DJ js ns (rs.map hdS) ys vs->(∀x∈ns,x∈ys)->Wp (gg [some N,some J,some (.int t),some (dD ys vs),x3,x4,x5,x6,x7]) Q) :
  Wp (bu (bV (eAp uy aG) (tgN 3)) (bu (gj (itS (eAp (bz aZ) (ak 1.15 (ak 1.16 aG)))) (tgN 4) (bu (bV (eC (.int 0)) (jZ dZ 3 (gF 3) (e2 gIx (ao false 4) (eC (.int 0)))))
  (sFz 4 (gj (itS (ao false 4)) (tgN 5) (gj (itS 1.16) (tgT 3 (aM (tgN 6) (aM (tgN 7) (aM (tgN 8) bO)))) (bu (sIf (j_ (eB (e2 gIn (ao false 6) (ao false 3))) (eB (e2 gU (ao false 7) (ao false 3)))) (bV (e2 cg (e2 gIx (ao false 3) (ao false 6)) (ao false 8)) (jZ dZ 3 (gF 3) (ao false 7))) fB)
  (sIf (j_ (eB (e2 gIn (ao false 7) (ao false 3))) (eB (e2 gU (ao false 6) (ao false 3)))) (bV (e2 gm (e2 gIx (ao false 3) (ao false 7)) (ao false 8)) (jZ dZ 3 (gF 3) (ao false 6))) fB))))))) gg) [some N,some J,some (.int t),none,none,none,none,none,none]) Q:=by
 refine bf (λρ=>ρ=[some N,some J,some (.int t),some (dD [] []),none,none,none,none,none]) (λQ V=>?_) ?_
 .simp_arith[uy]
  exact V _ rfl
 rintro _ rfl;obtain⟨d,c0,rs,rfl,d7,d6,d9⟩:∃d,aZ [N,J]=some d/\ClC js ns d:=by
  obtain⟨d,h1,h2⟩:=GK Y hJ I Z;exact⟨d,h1,h2⟩
 have q1:az (rs.map (fL .own))=true:=bh λd hd=>by
  obtain⟨z,_,rfl⟩:=zc.mp hd;simp[fL,aA,cL]
 have q2:aB (rs.map (fL .own))=true:=a_ λd hd=>by
  obtain⟨z,_,rfl⟩:=zc.mp hd;simp[fL,au,cG]
 have q3:gn (rs.map (fL .own))=rs.map fr:=by
  rw[dH,Xh];refine XM λz _=>?_;simp[fL,fr,fzo,eQ,mkO]
 refine bf (NlI N J t js ns rs rs.length) (λQ V=>?_) ?_
 .simp[gj,itS,eAp,ak,ao,aG,bz,fzL,az,aB,Y.v,Y.f,Y.b,Y.o,hJ.v,hJ.f,hJ.b,hJ.o,c0,cC,clean,aA,au,q1,q2,q3,aR,aC,w_ite]
  refine il (NlI N J t js ns rs) ⟨[],[],none,none,none,none,none,rfl,⟨⟨rfl,by simp,by simp,by simp⟩,by simp,by simp⟩,by simp⟩ ?_ (λρ h=>V _ (by rw[Xq]at h;exact h));rintro k d ρ B ⟨ys,vs,x3,x4,x5,x6,x7,rfl,hd,a1⟩;rw[List.getElem?_map]at B;cases a6:rs[k]? with
  |none=>simp[a6]at B
  |some r=>
   obtain rfl:fr r=d:=by simpa[a6]using B
   obtain⟨r0,r1,r2,r3⟩:=d7 r (Xw a6);have b3:∀{zs:List Str}{ws:List Int},DI ns zs ws->zs.length<=15:=λh=>Yz (yo h.n h.s) Z;obtain⟨x0,b6,d2,d5⟩:∃x0∈r,gIx (fr r) (.int 0)=some (.str x0)/\hdS r=x0:=by
    cases r with
    |nil=>simp at r0
    |cons a t=>exact⟨a,.head _,by simp[fr,gIx,atI,ixN],rfl⟩
   obtain⟨a8,c3,b0,b1,b5,c7⟩:=Ud hd (r2 x0 b6) (by have:=b3 hd.d;omega);generalize d8:(rs.take k).map hdS++[x0]=HD at b1;simp![tgN,clean,(xH r).1,(xH r).2,aam,XX,aC,YC,Zf];refine bf (λρ=>ρ=[some N,some J,some (.int t),some (dD a8 c3),some (fr r),x4,x5,x6,x7]) (λQ V=>?_) ?_
   .simp_arith[oR,d2,b0,Qq]
    exact V _ rfl
   rintro _ rfl;have d1:fz (fr r)=fr r:=by simp[fr,fz,fX,mkF]
   have d3:cC (fr r)=some (true,r.map D.str):=(NK.lst r).s;have b9:cU a8 r<=r.length-(0+1):=by
    have h1:=nq (l:=r) (p:=λx=>!decide (x∈a8)) (q:=λ_=>true) (z:=x0) (λ_ _ _=>rfl) b6 rfl (by simpa using b5);rw[List.countP_true]at h1;unfold cU;omega
   simp![sFz,pX,Yh,Yj,d1,YC,Zf,aR,aC,gj,itS,ao,oR,Mx,d3,w_ite,XX];refine il (NlA N J t js ns HD ys r) ⟨a8,c3,x4,x5,x6,x7,rfl,b1,c7,⟨x0,b6,b5⟩,b9⟩ ?_ ?_
   .clear b1 c7 b5 b9 b0
    rintro m d ρ hm ⟨a0,b2,z4,z5,z6,z7,rfl,b8,b7,c8,c6⟩;obtain⟨g,F,rfl⟩:=zc.mp (Xw hm);simp![tgN,clean,aA,au,aam,XX,aC,YC,Zf];simp![gj,itS,ao,Yh,Yj,hJ.v,Mx,hJ.s,aR,aC,w_ite,XX];refine il (NlB N J t js ns HD a0 r (some (.str g))) ⟨a0,b2,z5,z6,z7,rfl,b8,λy h=>h,by simp⟩ ?_ ?_
    .rintro i d ρ hi ⟨ys3,vs3,w5,w6,w7,rfl,hd3,hs3,hcl⟩
     rw[List.getElem?_map]at hi;cases a2:js[i]? with
     |none=>simp[a2]at hi
     |some j=>
      obtain rfl:jD j=d:=by simpa[a2]using hi
      have b4:=Xw a2;have c9:∀q∈js.take (i+1),q∈js.take i∨q=j:=λq hq=>by
       rw[Y_,a2]at hq;rcases W2.mp hq with z|z
       .exact .inl z
       .exact .inr (by simpa using z)
      have e0:=U j b4;simp[jD,tgT,aM,bO,tgN,az,aB,clean,aA,au,aC];refine bf (λρ=>∃(ys:List Str)(vs:List Int),DJ js ns HD ys vs/\(∀y∈ys3,y∈ys)/\(j.1∈ys3->j.2.1∈ys)/\ρ=[some N,some J,some (.int t),some (dD ys vs),some (fr r),some (.str g),some (.str j.1),some (.str j.2.1),some (.int j.2.2)]) (λQ V=>?_) ?_
      .simp_arith[-view,Lj,show ∀x:Str,view false (.str x)= .str x from λ_=>rfl,show ∀x:Int,view false (.int x)= .int x from λ_=>rfl,Ro,Ry]
       by_cases c1:j.1∈ys3
       .by_cases c2:j.2.1∈ys3
        .simp[c1,c2]
         exact V _ ⟨ys3,vs3,hd3,λy h=>h,λ_=>c2,rfl⟩
        .obtain⟨_,hv,hvb,g0,hg0,ps,hps,rfl⟩:=hd3.ix c1
         have e1:=b3 hd3.d;simp[c1,c2,hv,aC,cg,Dl c2 (by omega:ys3.length<1000000),Qq];refine⟨⟨rfl,rfl⟩,?_⟩;exact V _ ⟨_,_,hd3.add (v:=tot js ps+j.2.2) c2 (I j b4).2 1.10 (let⟨qs,z1,z2⟩:=(Q7 a2).1 hps;⟨g0,hg0,qs,z1,z2.symm⟩),λy h=>Xo _ h,λ_=>by simp,rfl⟩
       .simp[c1]
        exact V _ ⟨ys3,vs3,hd3,λy h=>h,λz=>absurd z c1,rfl⟩
      rintro _ ⟨a4,e4,a5,a7,d0,rfl⟩;simp_arith[-view,Lj,show ∀x:Str,view false (.str x)= .str x from λ_=>rfl,show ∀x:Int,view false (.int x)= .int x from λ_=>rfl,Ro,Ry];have a3:∀(ys:List Str)(vs:List Int),DJ js ns HD ys vs->(∀y∈a4,y∈ys)->(j.2.1∈a4->j.1∈ys)->NlB N J t js ns HD a0 r (some (.str g)) (i+1) [some N,some J,some (.int t),some (dD ys vs),some (fr r),some (.str g),some (.str j.1),some (.str j.2.1),some (.int j.2.2)]:=λys vs h1 h2 h3=>⟨ys,vs,_,_,_,rfl,h1,λy h=>h2 y (a7 y (hs3 y h)),λq hq=>by
       rcases c9 q hq with z|z
       .exact⟨λa=>h2 _ (a7 _ ((hcl q z).1 a)),λa=>h2 _ (a7 _ ((hcl q z).2 a))⟩
       .rw[z];exact⟨λa=>h2 _ (d0 (hs3 _ a)),λa=>h3 (a7 _ (hs3 _ a))⟩⟩
      by_cases c1:j.2.1∈a4
      .by_cases c2:j.1∈a4
       .simp[c1,c2]
        exact a3 _ _ a5 (λy h=>h) λ_=>c2
       .obtain⟨_,hv,hvb,g0,hg0,ps,hps,rfl⟩:=a5.ix c1
        have e3:=b3 a5.d;simp[c1,c2,hv,aC,gm,Dl c2 (by omega:a4.length<1000000),Qq];refine⟨⟨rfl,rfl⟩,?_⟩;exact a3 _ _ (a5.add (v:=tot js ps-j.2.2) c2 (I j b4).1 1.10 (let⟨qs,z1,z2⟩:=(Q7 a2).2 hps;⟨g0,hg0,qs,z1,z2.symm⟩)) (λy h=>Xo _ h) λ_=>by simp
      .simp[c1]
       exact a3 _ _ a5 (λy h=>h) λz=>absurd z c1
    .rintro ρ ⟨ys3,vs3,w5,w6,w7,rfl,hd3,hs3,hcl⟩
     rw[Xq,Zw]at hcl;obtain⟨xx,a9,c4⟩:=c8;have:=Qh r3 hs3 hcl ⟨xx,a9,c4⟩;exact⟨ys3,vs3,_,_,_,_,rfl,hd3,λy h=>hs3 y (b7 y h),⟨xx,a9,hs3 _ c4⟩,by omega⟩
   .rintro ρ ⟨a0,b2,z4,z5,z6,z7,rfl,b8,b7,c8,c6⟩
    rw[Xq]at c6;have h0:cU a0 r=0:=by omega
    have c5:∀x∈r,x∈a0:=λx hx=>by
     have:=aek.mp h0 x hx;simpa using this
    have d4:(rs.take (k+1)).map hdS=HD:=by rw[Y_,a6,←d8];simp[d5]
    refine⟨a0,b2,_,_,_,_,_,rfl,d4▸b8,λq hq x hx=>?_⟩;rw[Y_,a6]at hq;rcases W2.mp hq with z|z
    .exact b7 x (a1 q z x hx)
    .rw[show q=r by simpa using z]at hx;exact c5 x hx
 rintro _ ⟨ys,vs,x3,x4,x5,x6,x7,rfl,hd,a1⟩;rw[Zw]at a1;rw[Zw]at hd;exact h rs ys vs _ _ _ _ _ c0 hd (λx hx=>by obtain⟨r,O,a9⟩:=d6 x hx;exact a1 r O x a9)
def fnd(ys:List Str)(vs:List Int)(x:Str):Int:=((eY (ys.map XF) (XF x)).bind λi=>vs[i]?).getD 0
theorem zg{hd:List Str}(h:DJ js ns hd ys vs)(J:x∈ys):gIx (dB ys vs) (.str x)=some (.int (fnd ys vs x))/\∃g∈hd,∃ps,Led js g ps x/\fnd ys vs x=tot js ps:=by
 obtain⟨i,h1,h2,O⟩:=lB J;have Z:i<vs.length:=by have:=h.d.l;omega
 have e:fnd ys vs x=vs[i]:=by simp[fnd,h1,Z]
 rw[e];refine⟨?_,h.p i x vs[i] h2 (Xk Z)⟩;simp![dB,gIx,d9,Mx,h1];simp[Z]
theorem WP{hd:List Str}{g:Str}(h:DJ js ns hd ys vs)(F:g∈hd):fnd ys vs g=0:=by
 obtain⟨i,h1,h2⟩:=h.z g F;obtain⟨k,B,J,q⟩:=lB (Xw h1);have e:k=i:=by
  have U:=(qb.mp h1);have Z:=(qb.mp J);rcases acG k i with z|z|z
  .exact absurd (Z.2.trans U.2.symm) (Z1.mp h.d.n k i Z.1 U.1 z)
  .exact z
  .exact absurd (U.2.trans Z.2.symm) (Z1.mp h.d.n i k U.1 Z.1 z)
 subst e;simp[fnd,B,h2]
def LnI(N J:D)(t:Int)(js:List Jt)(ys:List Str)(vs:List Int)(k:Nat)(ρ:En):Prop:=∃V O U F q:Option D,ρ=[some N,some J,some (.int t),some (dD ys vs),V,O,U,F,q]/\∀j∈js.take k,t ∣ fnd ys vs j.1+j.2.2-fnd ys vs j.2.1
theorem R8(hN:NK N ns)(hJ:JJ J js)(I:∀j∈js,j.1∈ns/\j.2.1∈ns)(U:∀j∈js,j.2.2.natAbs<=1000000000000)(Z:ns.length<=15)(ht:0<=t/\t<=1000) :
  Wp (cI [N,J,.int t]) λd=>∃(rs:List (List Str))(ys:List Str)(vs:List Int),aZ [N,J]=some (.lst .own (rs.map (fL .own)))/\DJ js ns (rs.map hdS) ys vs/\(∀x∈ns,x∈ys)/\((d= .non/\¬Out t js (fnd ys vs))∨(d=dD ys vs/\Out t js (fnd ys vs))):=by
 simp_arith![cI,fnP];refine Ho hN hJ I U Z λrs ys vs x3 O x5 F x7 Y hd q=>?_;refine KR (LnI N J t js ys vs js.length) (λd=>d= .non/\¬Out t js (fnd ys vs)) (λQ h1 h2=>?_) ?_ ?_
 .simp![gj,itS,ao,Yh,Yj,hJ.v,Mx,hJ.s,aR,aC,w_ite,XX]
  refine il (LnI N J t js ys vs) ⟨x3,O,x5,F,x7,rfl,by simp⟩ ?_ (λρ h=>h1 _ (by rw[Xq]at h;exact h));rintro k d ρ B ⟨y3,y4,y5,y6,y7,rfl,ho⟩;rw[List.getElem?_map]at B;cases a1:js[k]? with
  |none=>simp[a1]at B
  |some j=>
   obtain rfl:jD j=d:=by simpa[a1]using B
   have a3:=Xw a1;obtain⟨m1,m2⟩:=I j a3;obtain⟨o,n,st⟩:=j;have V:=(zg hd (q o m1)).1;have f2:=(zg hd (q n m2)).1;have c2:bw [.int t,.int (fnd ys vs n-fnd ys vs o-st)]=some (.int (cnt t (fnd ys vs n-fnd ys vs o-st))):=t_ ht;have a2:t ∣ fnd ys vs n-fnd ys vs o-st↔t ∣ fnd ys vs o+st-fnd ys vs n:=by
    have e:fnd ys vs n-fnd ys vs o-st= -(fnd ys vs o+st-fnd ys vs n):=by omega
    rw[e,Int.dvd_neg]
   simp[tgT,aM,tgN,bO,jD,clean,aA,au,aC];by_cases hz:cnt t (fnd ys vs n-fnd ys vs o-st)=0
   .simp[sIf,eB,e2,eAp,bz,ak,aG,ao,eC,Lj,show ∀x:Str,view false (.str x)= .str x from λ_=>rfl,show ∀x:Int,view false (.int x)= .int x from λ_=>rfl,V,f2,gm,fzL,fz,c2,ne_int,hz,isB,az,aB,aA,au,fB,aR,aC,w_ite]
    refine⟨_,_,_,_,_,rfl,λj a0=>?_⟩;rw[Y_,a1]at a0;rcases W2.mp a0 with z|z
    .exact ho j z
    .obtain rfl:j=(o,n,st):=by simpa using z
     exact a2.mp ((tV ht.1).mp hz)
   .simp[sIf,eB,e2,eAp,bz,ak,aG,ao,eC,Lj,show ∀x:Str,view false (.str x)= .str x from λ_=>rfl,show ∀x:Int,view false (.int x)= .int x from λ_=>rfl,V,f2,gm,fzL,fz,c2,ne_int,hz,isB,az,aB,aA,au,gO,clean,aR,aC,w_ite]
    exact h2 _ _ ⟨rfl,λhO=>hz ((tV ht.1).mpr (a2.mpr (hO _ a3)))⟩
 .rintro _ ⟨y3,y4,y5,y6,y7,rfl,ho⟩
  exact⟨_,rfl,_,rfl,rs,ys,vs,Y,hd,q,.inr ⟨rfl,λj a0=>ho j (by rw[Zw];exact a0)⟩⟩
 .rintro d ρ h
  exact⟨_,rfl,rs,ys,vs,Y,hd,q,.inl h⟩
theorem FW(hs:∀j∈js,j.1∈g↔j.2.1∈g):∀{ps:List Pt}{h y:Str},Led js h ps y->h∈g->y∈g
 |[],h,y,⟨⟨l,h1,h2⟩,_⟩,hg=>by
  cases h1;rw[←h2];exact hg
 |p::r,h,y,⟨⟨l,h1,h2⟩,h3⟩,hg=>by
  rw[mt]at h1;cases e1:stp js p with
  |none=>simp[e1]at h1
  |some q=>
   rw[e1,Mx]at h1;split at h1
   .rename_i hq
    cases e2:mt js q.2 r with
    |none=>simp[e2]at h1
    |some l'=>
     have Z:q.2::l'=l:=by simpa[e2]using h1
     have B:0<=p.1/\p.1<js.length:=by
      unfold stp at e1;split at e1
      .assumption
      .cases e1
     obtain⟨j,N,O,I,V⟩:=pW B;rw[V]at e1;cases e1;have Y:(ends j p.2).2∈g:=by
      have F:=hs j N;rw[←hq]at hg;unfold ends at hg⊢;split
      .rename_i z;simp![z,XX]at hg;exact F.mp hg
      .rename_i z;simp![z,YJ]at hg;exact F.mpr hg
     exact FW hs (ps:=r) ⟨⟨l',e2,by rw[←h2,←Z];rfl⟩,λJ U=>h3 J (XQ _ U)⟩ Y
   .cases h1
theorem Ko{n:Int}:t ∣ cnt t n-n:=by
 unfold cnt;split
 .rename_i h;rw[h,Int.sub_self];exact Int.dvd_refl 0
 .have:=adN n t
  exact⟨-(n / t),by rw[Int.mul_neg];omega⟩
theorem UG{a b:Int}(h:t ∣ a-b):cnt t a=cnt t b:=by
 unfold cnt;split
 .rename_i z;rw[z]at h;have:=Int.zero_dvd.mp h;omega
 .exact Int.emod_eq_emod_iff_emod_sub_eq_zero.mpr (ac7 h)
theorem JZ(hn:(ky us).Nodup)(J:(x,ps)∈us):num t js us x=cnt t (tot js ps):=by
 obtain⟨i,u,h1,h2,O⟩:=Em (us:=us) (x:=x) (zc.mpr ⟨_,J,rfl⟩);have V:u.1=x:=by have:=List.find?_some O;simpa using this
 have q:=Xw h2;have:=Kd hn q (ps:=ps) (by rw[V];exact J);rw[num,O,this];rfl
theorem Qs(hn:(ky us).Nodup)(N:Out t js f)(Z:Led js h ps x)(V:f h=0)(J:(x,ps)∈us):num t js us x=cnt t (f x):=by
 rw[JZ hn J];have:=tR N Z;rw[V,Int.zero_add]at this;exact UG this
variable{es:List D}
theorem U8:b_ [.lst .frz es,.tup [.ty "list",.ty "tuple"]]=some (.bl true)/\b_ [.lst .frz es,.ty "list"]=some (.bl true):=⟨rfl,rfl⟩
theorem Wb:b_ [.str x,.tup [.ty "list",.ty "tuple"]]=some (.bl false)/\b_ [.str x,.ty "str"]=some (.bl true):=⟨rfl,rfl⟩
theorem Vp{x:Int}:b_ [.int x,.tup [.ty "list",.ty "tuple"]]=some (.bl false)/\b_ [.int x,.ty "str"]=some (.bl false)/\b_ [.int x,.ty "int"]=some (.bl true)/\b_ [.int x,.ty "bool"]=some (.bl false):=⟨rfl,rfl,rfl,rfl⟩
theorem Ub:gIs (.str x) .non=some (.bl false):=rfl
theorem O1{x:Int}:gIs (.int x) .non=some (.bl false):=rfl
theorem Q5{a:Bool}:gNe (.bl a) (.bl b)=some (.bl (!(a==b))):=by
 unfold gNe;rw[Xu ⟨rfl,rfl,.sc (.bl a b)⟩];simp[dt,eqD]
theorem LC{Fr:List D->Option D}:aQ Fr [.str x,.str x]=some (.bl true):=by
 apply Wp.eq;simp_arith[aQ,bC,Wb.1,Wb.2,eq_str,Dz,Ub]
theorem T_{Fr:List D->Option D}{x:Int}:aQ Fr [.int x,.int x]=some (.bl true):=by
 apply Wp.eq;simp_arith[aQ,bC,Vp.1,Vp.2,eq_int,Dz,O1]
theorem qO:∀es:List D,yN es es=es.map λe=>.tup [e,e]
 |[]=>rfl
 |e::r=>by have:=qO r;unfold yN at this⊢;simp[this]
theorem CJ{Fr:List D->Option D}:∀{es:List D},(∀e∈es,Tyd e/\Fr [e,e]=some (.bl true))->gh (tpT 2 (aM (tpN 0) (aM (tpN 1) bO))) eTT (eAp (bz Fr) (ak 1.15 (ak 1.16 aG))) [none,none] (es.map λe=>.tup [e,e])=some (es.map λ_=>.bl true)
 |[],_=>rfl
 |e::r,h=>by
  obtain⟨h1,h2⟩:=h e (by simp);obtain⟨V,N,B,O,q,F⟩:=h1.all;rw[Xi,gh,CJ λx J=>h x (by simp[J])];simp[tpT,aM,tpN,bO,eTT,eAp,bz,ak,aG,ao,B,fzL,V,h2,az,aB,O,q,clean,aA,au]
theorem Sh{Fr:List D->Option D}(h:∀e∈es,Tyd e/\Fr [e,e]=some (.bl true))(Z:es.length<=1000):aQ Fr [.lst .frz es,.lst .frz es]=some (.bl true):=by
 obtain⟨F,I,J,q,B⟩:=Tyd.ofL λe V=>(h e V).1;have Y:=CJ h;apply Wp.eq;simp_arith[aQ,bC,cT,U8.1,U8.2,eq_int,Dz,Q5,Gv,itZ,Ga,I,J,q,B,qO,Y];refine⟨by omega,?_⟩;rw[all_map (λ_=>true) es,aC];simp[aA,au]
theorem V2:b_ [.tup es,.tup [.ty "list",.ty "tuple"]]=some (.bl true)/\b_ [.tup es,.ty "list"]=some (.bl false):=⟨rfl,rfl⟩
theorem LK{Fr:List D->Option D}(h:∀e∈es,Tyd e/\Fr [e,e]=some (.bl true))(Z:es.length<=1000):aQ Fr [.tup es,.tup es]=some (.bl true):=by
 obtain⟨F,I,J,q,B⟩:=Tyd.ofL λe V=>(h e V).1;have Y:=CJ h;apply Wp.eq;simp_arith[aQ,bC,cT,V2.1,V2.2,eq_int,Dz,Q5,Gv,F,I,J,q,B,qO,Y];refine⟨by omega,?_⟩;rw[all_map (λ_=>true) es,aC];simp[aA,au]
theorem Io:∀l:List Jt,bG (l.map jD)=true
 |[]=>rfl
 |j::r=>by simp[bG,jD,cz,Io r]
theorem Va:(""::qe:List Str).all (λx=>decide (tz (.str x)<=40))=true:=by decide +kernel
theorem Xb(h:x∈qe∨x=""):tz (.str x)<=40:=by
 have:=abP.mp Va x (h.elim (λz=>XQ _ z) λz=>by rw[z];exact X_);simpa using this
def Can(js:List Jt)(ns:List Str)(B:List (List Str)):Prop:=∃gs,B=jc (gs.map aU)/\Prt js ns gs/\k_ js gs
theorem Can.uniq{q:List (List Str)}(hn:ns.Nodup)(a:Can js ns B)(b:Can js ns q):B=q:=by
 obtain⟨gs,rfl,U,Z⟩:=a;obtain⟨hs,rfl,F,I⟩:=b;exact U.canon Z F I hn
def trn(j:Jt):Jt:=(j.2.1,j.1,-j.2.2)
theorem Can.turn(a:Can (js.reverse.map trn) ns B):Can js ns B:=by
 obtain⟨gs,rfl,U,Z⟩:=a;refine⟨gs,rfl,⟨U.p,U.e,λg F P h1 h2=>?_⟩,λj I=>?_⟩
 .obtain⟨i,hi,i1,i2,i3⟩:=U.c g F P h1 h2
  obtain⟨j,I,rfl⟩:=zc.mp hi;refine⟨j,aaZ.mp I,i2,i1,?_⟩;rcases i3 with⟨O,N⟩|⟨O,N⟩
  .exact .inr ⟨N,O⟩
  .exact .inl ⟨N,O⟩
 .obtain⟨g,F,g1,g2⟩:=Z (trn j) (zc.mpr ⟨j,aaZ.mpr I,rfl⟩)
  exact⟨g,F,g2,g1⟩
theorem call_of{F:List D->Option D}(h:F (fzL ds)=some d)(N:cz d=true):bz F ds=some d:=by
 unfold bz;rw[h,Mx,N,Bool.or_true,Xu rfl]
theorem Rb:∀l:List Jt,gh (tpT 3 (aM (tpN 0) (aM (tpN 1) (aM (tpN 2) bO)))) eTT (eAp bC (ak 1.16 (ak 1.15 (ak (e1 jP (ao false 2)) aG)))) [none,none,none] (l.map jD)=some ((l.map trn).map jD)
 |[]=>rfl
 |j::r=>by
  rw[Xi,gh,Rb r];simp[jD,trn,tpT,aM,tpN,bO,eTT,eAp,bC,ak,aG,ao,e1,jP,view,az,aB,aA,au,clean]
theorem E_:∀{a b:List Str},a.map D.str=b.map D.str->a=b
 |[],[],_=>rfl
 |[],_::_,h=>by cases h
 |_::_,[],h=>by cases h
 |x::a,y::b,h=>by
  simp![Xi,aa_,D.str.injEq]at h;rw[h.1,E_ h.2]
theorem Fv:∀{a b:List (List Str)},a.map (fL .own)=b.map (fL .own)->a=b
 |[],[],_=>rfl
 |[],_::_,h=>by cases h
 |_::_,[],h=>by cases h
 |x::a,y::b,h=>by
  simp![Xi,aa_,fL,D.lst.injEq]at h;rw[E_ h.1.2,Fv h.2]
theorem heads(F:NK N ns)(q:JJ J js)(hn:ns.Nodup)(I:∀j∈js,j.1∈ns/\j.2.1∈ns)(Z:ns.length<=40)(Y:aZ [N,J]=some (.lst .own (B.map (fL .own))))(U:TrS js ns (aU ns).length hs):B=jc ((hs.map ky).map aU):=by
 obtain⟨d,e,gs,rfl,p,c⟩:=Hn F q hn I Z;rw[Y]at e;have e1:B=jc (gs.map aU):=by
  have:=Yn e;injection this with _ h2;exact Fv h2
 obtain⟨h1,h2,O⟩:=U.fin hn I;rw[e1];exact Prt.canon p c h1 h2 hn
theorem HX(O:B=jc ((hs.map ky).map aU))(U:TrS js ns (aU ns).length hs){g:Str}(F:g∈B.map hdS):∃us∈hs,(∃r,aU (ky us)=g::r)/\Wy js ns g us:=by
 obtain⟨r,h1,rfl⟩:=zc.mp F;rw[O]at h1;have h2:=(du _).mem_iff.mp h1;obtain⟨k,I,rfl⟩:=zc.mp h2;obtain⟨us,q,rfl⟩:=zc.mp I;obtain⟨_,i,s,r,_,_,Z,J⟩:=U.t us q;refine⟨us,q,?_,?_⟩
 .rw[Z];exact⟨r,rfl⟩
 .rw[Z];exact J
theorem K6{rs:List (List Str)}(hn:ns.Nodup)(I:∀j∈js,j.1∈ns/\j.2.1∈ns)(O:rs=jc ((hs.map ky).map aU))(U:TrS js ns (aU ns).length hs){s g:Str}{q:List Str}(hu:us∈hs)(a0:aU (ky us)=s::q)(J:x∈ky us)(F:g∈rs.map hdS)(Z:Led js g ps x):g=s:=by
 obtain⟨vs,B,⟨r,N⟩,hw⟩:=HX O U F;have a1:g∈ky vs:=(bW (ky vs)).mem_iff.mp (by rw[N];exact X_ ..);have Y:x∈ky vs:=FW (λj a2=>(U.t vs B).1.both a2) Z a1;have V:ky us=ky vs:=(U.fin hn I).1.one hn (zc.mpr ⟨us,hu,rfl⟩) (zc.mpr ⟨vs,B,rfl⟩) J Y;rw[V,N]at a0;injection a0
theorem Kz(hn:ns.Nodup)(I:∀j∈js,j.1∈ns/\j.2.1∈ns)(O:B=jc ((hs.map ky).map aU))(U:TrS js ns (aU ns).length hs)(hd:DJ js ns (B.map hdS) ys vs)(a2:∀x∈ns,x∈ys)(N:Out t js (num t js hs.flatten)):Out t js (fnd ys vs):=J1 N λj a0=>by
 obtain⟨Y,n2⟩:=I j a0;obtain⟨u,V,a4⟩:=zc.mp (U.all Y);obtain⟨us,h1,h2⟩:=Y6.mp V;obtain⟨tc,i,s,q,_,_,h5,hw⟩:=U.t us h1;have a1:j.1∈ky us:=zc.mpr ⟨u,h2,a4⟩;have f_:∀{x:Str},x∈ns->x∈ky us->∃q,Led js s q x/\t ∣ fnd ys vs x-tot js q:=λ{x} a3 J=>by
  obtain⟨_,g,F,ps,Z,e⟩:=zg hd (a2 x a3);have:=K6 hn I O U h1 h5 J F Z;subst this;exact⟨ps,Z,by rw[e,Int.sub_self];exact Int.dvd_zero t⟩
 obtain⟨r0,a5⟩:=hw.h;refine⟨s,?_,f_ Y a1,f_ n2 ((tc.both a0).mp a1)⟩;rw[JZ U.n (Y6.mpr ⟨us,h1,by rw[a5];exact X_ ..⟩)];simp[tot,cnt]
theorem J2{l:List Str}(J:x∈l):wz (l.map λy=>(y,f y)) x=f x:=by
 induction l with
 |nil=>cases J
 |cons y r U=>
  unfold wz at U⊢;rw[Xi,Y5];by_cases e:y=x
  .subst e;simp
  .simp![e,decide_false]
   exact U ((Xj.mp J).resolve_left λz=>e z.symm)
theorem Qx:wz (oE t js us) x=num t js us x:=by
 unfold wz num oE
 induction us with
 |nil=>rfl
 |cons u r U=>
  rw[Xi,Y5,Y5];by_cases e:u.1=x
  .simp[e]
  .simp![e,decide_false];exact U
theorem yG(hn:ns.Nodup)(I:∀j∈js,j.1∈ns/\j.2.1∈ns)(U:TrS js ns (aU ns).length hs)(h0:∀us∈hs,∀s r,aU (ky us)=s::r->f s=0)(N:Out t js f):gZ (oE t js hs.flatten)=gZ (ns.map λx=>(x,cnt t (f x)))/\Out t js (num t js hs.flatten):=by
 have F:Yt (ky hs.flatten) ns:=by rw[jt];exact(U.fin hn I).1.p
 have a0:∀x∈ns,num t js hs.flatten x=cnt t (f x):=λx J=>by
  obtain⟨u,V,rfl⟩:=zc.mp (F.mem_iff.mpr J);obtain⟨us,h1,h2⟩:=Y6.mp V;obtain⟨tc,i,s,q,_,_,Z,hw⟩:=U.t us h1;exact Qs U.n N (hw.w u h2).1 (h0 us h1 s q Z) V
 constructor
 .have e1:(oE t js hs.flatten).map (·.1)=ky hs.flatten:=by rw[oE,ky,Xh];rfl
  have e2:(ns.map λx=>(x,cnt t (f x))).map (·.1)=ns:=by rw[Xh];exact Zc _
  have e3:vU (ky hs.flatten)=vU ns:=(Cq (A:=ky hs.flatten) (B:=ns)).mpr F;unfold gZ;rw[e1,e2,e3];refine XM λx J=>?_;have a1:x∈ns:=(bW ns).mem_iff.mp J;rw[Qx,J2 a1,a0 x a1]
 .intro j hj'
  obtain⟨Y,O⟩:=I j hj';rw[a0 _ Y,a0 _ O];have c1:t ∣ cnt t (f j.1)-f j.1:=Ko;have c2:t ∣ cnt t (f j.2.1)-f j.2.1:=Ko;have:=acg (aeV c1 c2) (N j hj');have e:cnt t (f j.1)-f j.1-(cnt t (f j.2.1)-f j.2.1)+(f j.1+j.2.2-f j.2.1)=cnt t (f j.1)+j.2.2-cnt t (f j.2.1):=by omega
  rw[e]at this;exact this
theorem QV(O:B=jc ((hs.map ky).map aU))(hd:DJ js ns (B.map hdS) ys vs):∀us∈hs,∀s r,aU (ky us)=s::r->fnd ys vs s=0:=λus V s r e=>by
 refine WP hd ?_;rw[O];exact zc.mpr ⟨s::r,(du _).mem_iff.mpr (zc.mpr ⟨ky us,zc.mpr ⟨us,V,rfl⟩,e⟩),rfl⟩
theorem N5(N:Out t js f):Out t (js.reverse.map trn) f:=λj I=>by
 obtain⟨i,hi,rfl⟩:=zc.mp I;have:=N i (aaZ.mp hi);have e:f (trn i).1+(trn i).2.2-f (trn i).2.1= -(f i.1+i.2.2-f i.2.1):=by simp![trn];omega
 rw[e,Int.dvd_neg];exact this
theorem yu(I:∀j∈js,j.1∈ns/\j.2.1∈ns):∀j∈js.reverse.map trn,j.1∈ns/\j.2.1∈ns:=λj h=>by
 obtain⟨i,hi,rfl⟩:=zc.mp h;exact(I i (aaZ.mp hi)).symm
theorem Ue{V:List (List Uw)}(hn:ns.Nodup)(I:∀j∈js,j.1∈ns/\j.2.1∈ns)(U:TrS js ns (aU ns).length hs)(q:TrS (js.reverse.map trn) ns (aU ns).length V):jc ((hs.map ky).map aU)=jc ((V.map ky).map aU):=by
 obtain⟨J,Z,_⟩:=U.fin hn I;obtain⟨F,B,_⟩:=q.fin hn (yu I);have h1:Can js ns (jc ((hs.map ky).map aU)):=⟨_,rfl,J,Z⟩;have h2:Can (js.reverse.map trn) ns (jc ((V.map ky).map aU)):=⟨_,rfl,F,B⟩;exact h1.uniq hn h2.turn
theorem uM:∀U:List (Str×Int),rowsOf (U.map rwD)=some U
 |[]=>rfl
 |r::t=>by
  rw[Xi];show(rowsOf (t.map rwD)).map ((r.1,r.2)::·)=_;rw[uM t];rfl
theorem Pb(hn:(U.map (·.1)).Nodup)(Z:U.length<60):j8 [.lst m (U.map rwD)]=some (.lst .own ((gZ U).map rwD)):=by
 cases U with
 |nil=>
  have h1:dg [.lst m (([]:List Str).map D.str)]=some (.lst .own ((aU []).map D.str)):=Wj (by simp);have h2:aU []=[]:=(bW []).eq_nil;rw[h2]at h1;have O:gZ []=[]:=by
   unfold gZ;have:vU []=[]:=(bW []).eq_nil;rw[Yq,this];rfl
  rw[O];exact h1
 |cons r t=>
  have V:=uM (r::t);unfold j8;simp![V];exact Xu ⟨hn,by simp at Z;omega⟩
theorem M_:∀l:List Jt,jn (l.map jD)=true
 |[]=>rfl
 |j::r=>by rw[Xi,jn,M_ r];rfl
theorem Kw:∀l:List (Str×Int),bG (l.map rwD)=true
 |[]=>rfl
 |j::r=>by rw[Xi,bG,Kw r];rfl
theorem JM:∀l:List Pt,bG (l.map ptD)=true
 |[]=>rfl
 |j::r=>by rw[Xi,bG,JM r];rfl
theorem Aa:∀l:List Int,bG (l.map D.int)=true
 |[]=>rfl
 |j::r=>by rw[Xi,bG,Aa r];rfl
def nD(R:List (Str×Int)):D:=.tup [.str "numbers",.lst .own (R.map rwD)]
theorem Du:cz (nD R)=true:=by simp[nD,cz,bG,Kw]
theorem Rg(R:List (Str×Int)):∀e∈R.map rwD,Tyd e:=λe V=>by
 obtain⟨r,_,rfl⟩:=zc.mp V;refine .tup λe V=>?_;simp![Xj,Zk,aaX]at V;rcases V with rfl|rfl
 .exact .str _
 .exact .int _
def HR(t:Int)(ns ys:List Str)(vs:List Int):List (Str×Int):=gZ (ns.map λx=>(x,cnt t (fnd ys vs x)))
theorem sides(hn:ns.Nodup)(I:∀j∈js,j.1∈ns/\j.2.1∈ns)(U:∀j∈js,j.2.2.natAbs<=1000000000000)(Z:ns.length<=15)(a3:js.length<=1000)(ht:0<=t/\t<=1000) :
  ∃dn df,bz cI [.lst .brw (ns.map D.str),.lst .brw (js.map jD),.int t]=some dn/\bz bB [.lst .brw (ns.map D.str),.lst .brw (js.map jD),.int t]=some df/\((dn= .non/\∃x ps,df= .tup [.str "ring",.str x,pT ps])∨∃ys vs,dn=dD ys vs/\(∀x∈ns,gIx (dB ys vs) (.str x)=some (.int (fnd ys vs x)))/\df=nD (HR t ns ys vs)/\bz bB [.tup (ns.map D.str),.tup ((js.reverse.map trn).map jD),.int t]=some (nD (HR t ns ys vs))):=by
 obtain⟨dn,e1,B,ys,vs,Y,hd,q,h1⟩:=R8 (NK.lst ns) (JJ.lst js) I U Z ht;obtain⟨df,e2,hs,a0,h2⟩:=lg (NS.lst (ns:=ns) 1.10) (JJ.lst js) hn I 1.10 a3 (M_ js) ht.1;obtain⟨d2,e3,V,a4,h3⟩:=lg (NS.tup (ns:=ns) 1.10) (JJ.tup (js.reverse.map trn)) hn (yu I) 1.10 (by simpa using a3) (M_ _) ht.1;have O:=heads (NK.lst ns) (JJ.lst js) hn I 1.10 Y a0;have ca:∀{F:List D->Option D}{d:D},F [.lst .frz (ns.map D.str),.lst .frz (js.map jD),.int t]=some d->cz d=true->bz F [.lst .brw (ns.map D.str),.lst .brw (js.map jD),.int t]=some d:=λe o=>call_of (by simp![fzL,fz,fX,oA];exact e) o;rcases h1 with⟨rfl,N⟩|⟨rfl,N⟩
 .rcases h2 with⟨_,x,ps,rfl⟩|⟨h4,_⟩
  .exact⟨_,_,ca e1 rfl,ca e2 (by simp[cz,bG,pT,JM]),.inl ⟨rfl,x,ps,rfl⟩⟩
  .exact absurd (Kz hn I O a0 hd q h4) N
 .obtain⟨a1,a2⟩:=yG hn I a0 (QV O hd) N
  obtain⟨b1,b2⟩:=yG hn (yu I) a4 (QV (O.trans (Ue hn I a0 a4)) hd) (N5 N);have f2:df=nD (HR t ns ys vs):=by
   rcases h2 with⟨h4,_⟩|⟨_,h4⟩
   .exact absurd a2 h4
   .rw[h4,a1];rfl
  have f3:d2=nD (HR t ns ys vs):=by
   rcases h3 with⟨h4,_⟩|⟨_,h4⟩
   .exact absurd b2 h4
   .rw[h4,b1];rfl
  subst f2;subst f3;exact⟨_,_,ca e1 (by simp![dD,cz,Aa];rfl),ca e2 Du,.inr ⟨ys,vs,rfl,λx J=>(zg hd (q x J)).1,rfl,call_of (by simp![fzL,fz,fX,oA];exact e3) Du⟩⟩
theorem yZ{a b:D}(Z:fz a= .tup [.str "numbers",.lst .frz (R.map rwD)])(U:fz b= .tup [.str "numbers",.lst .frz (R.map rwD)])(h:R.length<=1000):bz bR [a,b]=some (.bl true):=by
 refine call_of ?_ rfl;simp![fzL,Z,U,bR];refine LK (λe V=>?_) (by simp);simp![Xj,Zk,aaX]at V;rcases V with rfl|rfl
 .exact⟨.str _,LC⟩
 .refine⟨.lst (Rg R),Sh (λe V=>⟨Rg R e V,?_⟩) (by simpa using h)⟩
  obtain⟨r,_,rfl⟩:=zc.mp V;refine LK (λe V=>?_) (by simp);simp![Xj,Zk,aaX]at V;rcases V with rfl|rfl
  .exact⟨.str _,LC⟩
  .exact⟨.int _,T_⟩
theorem Rh(U:0<=t/\t<=1000):∀{l:List Str},(∀x∈l,gIx (dB ys vs) (.str x)=some (.int (fnd ys vs x)))->gh (tpN 0) eTT (eAp bC (ak 1.15 (ak (eAp (bz bw) (ak 1.16 (ak (e2 gIx (ao false 2) 1.15) aG))) aG))) [none,some (.int t),some (dD ys vs)] (l.map D.str)=some ((l.map λx=>(x,cnt t (fnd ys vs x))).map rwD)
 |[],_=>rfl
 |x::r,h=>by
  have I:bw [.int t,.int (fnd ys vs x)]=some (.int (cnt t (fnd ys vs x))):=t_ U;have h1:=h x (by simp);rw[Xi,gh,Rh U λx J=>h x (by simp[J])];simp[tpN,eTT,eAp,bC,bz,ak,aG,ao,e2,Lj,show ∀x:Str,view false (.str x)= .str x from λ_=>rfl,show ∀x:Int,view false (.int x)= .int x from λ_=>rfl,h1,fzL,fz,I,az,aB,aA,au,clean,rwD]
theorem VL(hs:∀x∈ns,tz (.str x)<=40)(Z:ns.length<=40)(I:∀j∈js,j.1∈ns/\j.2.1∈ns)(B:js.length<=119)(U:∀j∈js,j.2.2.natAbs<=1000000000000):∃x,yJ [.lst .own [.lst .brw (ns.map D.str),.lst .brw (js.map jD)]]=some (.str x):=by
 have h1:=Dm (ds:=ns.map D.str) (m:=40) λe V=>by obtain⟨x,J,rfl⟩:=zc.mp V;exact hs x J
 have h2:=Dm (ds:=js.map jD) (m:=120) λe V=>by
  obtain⟨j,a0,rfl⟩:=zc.mp V;have z1:=hs _ (I j a0).1;have N:=hs _ (I j a0).2;have Y:=U j a0;have q:tz (.int j.2.2)=20:=by rw[tz,Xu 1.10]
  simp![jD,tz,tzL]at z1 N⊢;rw[tz]at q;omega
 have O:=Dc (ds:=ns.map D.str) (m:=0) λe V=>by obtain⟨x,J,rfl⟩:=zc.mp V;simp[dz]
 have F:=Dc (ds:=js.map jD) (m:=1) λe V=>by obtain⟨x,J,rfl⟩:=zc.mp V;simp[jD,dz,dzL]
 have z1:(ns.map D.str).length*(40+2)<=40*42:=ad3 _ (by simpa using Z);have N:(js.map jD).length*(120+2)<=119*122:=ad3 _ (by simpa using B);exact Sw (by simp[ik,jl,nF,x_]) (by simp![tz,tzL];omega) (by simp![dz,dzL];omega)
theorem Vu(l:List (Str×Int)):az (l.map rwD)=true:=bh λd hd=>by obtain⟨x,_,rfl⟩:=zc.mp hd;rfl
theorem VF(l:List (Str×Int)):aB (l.map rwD)=true:=a_ λd hd=>by obtain⟨x,_,rfl⟩:=zc.mp hd;rfl
theorem Q_(l:List (Str×Int)):fzL (l.map rwD)=l.map rwD:=by rw[fY,Xh];rfl
theorem V3(b:Bool)(l:List (Str×Int)):dW b (l.map rwD)=l.map rwD:=by rw[bK,Xh];rfl
theorem U_:aA (nD R)=true/\au (nD R)=true:=by simp[nD,aA,au,az,aB,Vu,VF]
theorem Uj:fz (nD R)= .tup [.str "numbers",.lst .frz (R.map rwD)]:=by simp![nD,fz,fzL,Q_];rfl
theorem Ma:fz (view false (nD R))= .tup [.str "numbers",.lst .frz (R.map rwD)]:=by simp![nD,view,dW,V3,fz,fzL,Q_];rfl
theorem ww(R:List (Str×Int)):(gZ R).length=R.length:=by
 unfold gZ;have:(vU (R.map (·.1))).length=(R.map (·.1)).length:=(bW _).length_eq;rw[Xq,this,Xq]
def LwI(I:List Int)(k:Nat)(ρ:En):Prop:=∃(x1 J V O U F q Y Z B:Option D),ρ=[some (.lst .scr (I.map D.int)),x1,J,V,O,U,F,q,Y,Z,B]
noncomputable abbrev scD(I:List Int):D:=.lst .scr (I.map D.int)
theorem LR(sc:List Int)(hl:sc.length<=63):lC [.lst .scr (sc.map D.int)]=some (.bl true):=by
 apply Wp.eq;have O:cT [.lst .scr (sc.map D.int)]=some (.int sc.length):=by simp[cT]
 have d4:az (sc.map D.int)=true:=bh λd hd=>by obtain⟨x,_,rfl⟩:=zc.mp hd;rfl
 have c9:aB (sc.map D.int)=true:=a_ λd hd=>by obtain⟨x,_,rfl⟩:=zc.mp hd;rfl
 have N:wg (ak (e2 cg (eC (.int 1)) (eAp jo (ak (eC (.int 12)) (ak (eAp cT (ak 1.15 aG)) aG)))) aG) [some (.lst .scr (sc.map D.int)),none,none,none,none,none,none,none,none,none,none]=some (true,jF 0 (1+min 12 sc.length)):=by
  refine Uz ?_ 1.10;simp![ak,e2,eC,eAp,ao,aG,Yj,view,mkV,o8,Mx,O,jo,cg];congr 3;split<;>omega
 have vi:∀x:Int,view false (.int x)= .int x:=λ_=>rfl;have vx:∀x:Str,view false (.str x)= .str x:=λ_=>rfl;simp_arith![lC,fnP];refine bf (LwI sc (1+min 12 sc.length)) (λQ V=>?_) ?_
 .simp![gj,N,aR,aC,w_ite,XX]
  refine il (LwI sc) ⟨none,none,none,none,none,none,none,none,none,none,rfl⟩ ?_ (λρ h=>V _ (by rw[ye]at h;exact h));rintro k d ρ hk ⟨x1,x2,x3,x4,x5,x6,x7,x8,x9,a0,rfl⟩;obtain⟨e8,rfl⟩:=Gf hk;simp![tgN,clean,aA,au,aam,XX,aC,YC,Zf];refine bf (λρ=>∃a b:Int,0<=a/\ρ=[some (scD sc),some (.int k),some (tp a b),x3,x4,x5,x6,x7,x8,x9,a0]) (λQ V=>?_) ?_
  .simp_arith[o8,NQ,d4,c9]
   refine Wp.mono (S7 1.10 1.10 hl) ?_;rintro _ ⟨a,b,rfl,Z⟩;simp_arith[aC];exact V _ ⟨a,b,Z,rfl⟩
  rintro _ ⟨U,b1,B,rfl⟩;refine bf (λρ=>∃(ns:List Str)(a b:Int),ns.length<=14/\(∀x∈ns,tz (.str x)<=40)/\ns.Nodup/\0<=a/\ρ=[some (scD sc),some (.int k),some (tp a b),some (.lst .own (ns.map D.str)),x4,x5,x6,x7,x8,x9,a0]) (λQ V=>?_) ?_
  .simp_arith[aC]
   refine Wp.mono (O9 B) ?_;rintro _ ⟨ns,a2,b2,rfl,c8,a9,c0,s2⟩;simp_arith[cL,cG];exact V _ ⟨ns,_,_,c0,λx J=>Xb (c8 x J),a9,s2,rfl⟩
  rintro _ ⟨ns,a2,b2,c0,e0,a9,s2,rfl⟩;refine bf (λρ=>∃t a b:Int,0<=t/\t<=1000/\0<=a/\ρ=[some (scD sc),some (.int k),some (tp a b),some (.lst .own (ns.map D.str)),some (.int t),x5,x6,x7,x8,x9,a0]) (λQ V=>?_) ?_
  .simp_arith[aC]
   refine Wp.mono (Sx s2) ?_;rintro _ ⟨t,a3,b3,rfl,t0,t1,s3⟩;simp_arith[aC];exact V _ ⟨t,_,_,t0,t1,s3,rfl⟩
  rintro _ ⟨t,a3,b3,t0,t1,s3,rfl⟩;refine bf (λρ=>∃(js:List Jt)(a b:Int),(∀j∈js,j.1∈ns/\j.2.1∈ns)/\(∀j∈js,j.2.2.natAbs<=1000000000000)/\js.length<=30/\ρ=[some (scD sc),some (.int k),some (tp a b),some (.lst .own (ns.map D.str)),some (.int t),some (.lst .own (js.map jD)),x6,x7,x8,x9,a0]) (λQ V=>?_) ?_
  .have hjo:=Cp (b:=b3) (ns:=ns) s3 1.10 ⟨t0,t1⟩
   simp_arith[dh,fX,cG];refine Wp.mono hjo ?_;rintro _ ⟨js,a5,b5,rfl,a8,e4,s5,b4⟩;simp_arith[cz,bG,Io,jJ,jO];exact V _ ⟨js,_,_,a8,b4,by omega,rfl⟩
  rintro _ ⟨js,a5,b5,a8,b4,e4,rfl⟩;obtain⟨dn,df,c1,c2,b0⟩:=sides a9 a8 b4 1.10 1.10 ⟨t0,t1⟩;obtain⟨sx,b8⟩:=VL e0 1.10 a8 1.10 b4;have vN:view false (.lst .own (ns.map D.str))= .lst .brw (ns.map D.str):=by simp![view,dh];rfl
  have vJ:view false (.lst .own (js.map jD))= .lst .brw (js.map jD):=by simp![view,ou];rfl
  have d9:aA dn=true/\au dn=true:=by
   rcases b0 with⟨rfl,_⟩|⟨ys,vs,rfl,_⟩
   .exact⟨rfl,rfl⟩
   .exact Qq
  have e7:aA df=true/\au df=true:=by
   rcases b0 with⟨_,x,ps,rfl⟩|⟨ys,vs,_,_,rfl,_⟩
   .obtain⟨q1,q2,_⟩:=nU ps
    simp[aA,au,az,aB,q1,q2]
   .exact U_
  have e5:b_ [view false df,.ty "tuple"]=some (.bl true):=by
   rcases b0 with⟨_,x,ps,rfl⟩|⟨ys,vs,_,_,rfl,_⟩<;>rfl
  refine bf (λρ=>ρ=[some (scD sc),some (.int k),some (tp a5 b5),some (.lst .own (ns.map D.str)),some (.int t),some (.lst .own (js.map jD)),some dn,x7,x8,x9,a0]) (λQ V=>?_) ?_
  .simp[bV,eAp,ak,aG,ao,vi,vN,vJ,c1,aR,dJ,aC,tgN,clean,d9]
   exact V _ rfl
  rintro _ rfl;refine bf (λρ=>ρ=[some (scD sc),some (.int k),some (tp a5 b5),some (.lst .own (ns.map D.str)),some (.int t),some (.lst .own (js.map jD)),some dn,some (.str sx),x8,x9,a0]) (λQ V=>?_) ?_
  .simp[bV,eAp,ak,aG,ao,vN,vJ,bI,b8,aR,dJ,aC,tgN,clean,aA,au]
   exact V _ rfl
  rintro _ rfl;refine bf (λρ=>ρ=[some (scD sc),some (.int k),some (tp a5 b5),some (.lst .own (ns.map D.str)),some (.int t),some (.lst .own (js.map jD)),some dn,some (.str sx),some df,x9,a0]) (λQ V=>?_) ?_
  .simp[bV,eAp,ak,aG,ao,vi,vN,vJ,c2,aR,dJ,aC,tgN,clean,e7]
   exact V _ rfl
  rintro _ rfl;refine bf (λρ=>ρ=[some (scD sc),some (.int k),some (tp a5 b5),some (.lst .own (ns.map D.str)),some (.int t),some (.lst .own (js.map jD)),some dn,some (.str sx),some df,x9,a0]) (λQ V=>?_) ?_
  .simp[sIf,eOr,uE,nT,eB,eAp,e2,eC,ak,aG,ao,vN,vJ,vx,bI,b8,e5,truth,ne_str,isB,aR,dJ,aC,w_ite,fB]
   exact V _ rfl
  rintro _ rfl;rcases b0 with⟨rfl,x,ps,rfl⟩|⟨ys,vs,rfl,d5,rfl,c3⟩
  .have hi0:gIx (view false (.tup [.str "ring",.str x,pT ps])) (.int 0)=some (.str "ring"):=rfl
   simp[sIf,eB,e2,eC,ao,gIs,lO,isB,hi0,ne_str,aR,dJ,aC,w_ite,fB,show view false D.non= .non from rfl];exact⟨_,_,_,_,_,_,_,_,_,_,rfl⟩
  obtain⟨R,hR⟩:∃R,R=HR t ns ys vs:=⟨_,rfl⟩;rw[←hR]at c3⊢;have c4:R.length<=1000:=by rw[hR,HR,ww,Xq];omega
  have d0:gIs (view false (dD ys vs)) .non=some (.bl false):=rfl;simp![sIf,eB,e2,eC,ao,Yh,Yj,d0,Mx,Yb,isB,aR,dJ,aC,w_ite,Ye,YJ];refine bf (λρ=>ρ=[some (scD sc),some (.int k),some (tp a5 b5),some (.lst .own (ns.map D.str)),some (.int t),some (.lst .own (js.map jD)),some (dD ys vs),some (.str sx),some (nD R),some (nD R),a0]) (λQ V=>?_) ?_
  .have hsy:j8 [.lst .own ((ns.map λx=>(x,cnt t (fnd ys vs x))).map rwD)]=some (.lst .own (R.map rwD)):=by
    rw[hR];refine Pb ?_ (by rw[Xq];omega);rw[Xh];have:(ns.map ((λq:Str×Int=>q.1)∘λx=>(x,cnt t (fnd ys vs x))))=ns:=Zc _;rw[this];exact a9
   have b6:cC (.lst .brw (ns.map D.str))=some (false,ns.map D.str):=by simp![cC,clean,aA,au,cL,cG,eQ];rfl
   have e6:=Rh ⟨t0,t1⟩ d5;have a4:(ns.map D.str).length<=1000000:=by simp;omega
   have c5:aA (nD R)=true/\au (nD R)=true:=U_;have F:bC [.str "numbers",.lst .own (R.map rwD)]=some (nD R):=rfl;simp![bV,eAp,ak,eC,aG,iC,itS,ao,Yh,Yj,vN,b6,a4,Mx,Yb,XX,iw,Xi,Yq,ae6,id,e6,hsy,F,aR,dJ,aC,tgN,clean,c5,aam,YC,Zf];exact V _ rfl
  rintro _ rfl;refine bf (λρ=>ρ=[some (scD sc),some (.int k),some (tp a5 b5),some (.lst .own (ns.map D.str)),some (.int t),some (.lst .own (js.map jD)),some (dD ys vs),some (.str sx),some (nD R),some (nD R),a0]) (λQ V=>?_) ?_
  .have b7:bz bR [view false (nD R),view false (nD R)]=some (.bl true):=yZ Ma Ma c4
   simp![sIf,uE,nT,eAp,ak,aG,ao,Yh,Yj,b7,truth,Mx,Yb,aR,dJ,aC,w_ite,fB,acx,Ye,YJ];exact V _ rfl
  rintro _ rfl;refine bf (λρ=>∃y8,ρ=[some (scD sc),some (.int k),some (tp a5 b5),some (.lst .own (ns.map D.str)),some (.int t),some (.lst .own (js.map jD)),some (dD ys vs),some (.str sx),y8,some (nD R),a0]) (λQ V=>?_) ?_
  .have hp:uV 8 (gF 8) (eC (.int 1)) [some (scD sc),some (.int k),some (tp a5 b5),some (.lst .own (ns.map D.str)),some (.int t),some (.lst .own (js.map jD)),some (dD ys vs),some (.str sx),some (nD R),some (nD R),a0]=some [1]:=rfl
   have Z:bj (.lst .own (R.map rwD)) [.tup [.str "z",.int 1]]=some (.lst .own (R.map rwD++[.tup [.str "z",.int 1]]),.non):=by
    simp![bj,Xq];rw[Xu 1.10]
   have d2:gk [1] (nD R)=some (.lst .own (R.map rwD)):=rfl;have a7:bC [.str "z",.int 1]=some (.tup [.str "z",.int 1]):=rfl;simp![km,oK,hp,eAp,ak,eC,aG,a7,upS,Yh,Yj,d2,Z,az,aB,aA,au,Mx,Yb,aam,and_self,XX,aR,dJ,aC,YC,Zf];exact V _ ⟨_,rfl⟩
  rintro _ ⟨y8,rfl⟩;obtain⟨TJ,a6⟩:∃TJ,TJ=(js.reverse.map trn).map jD:=⟨_,rfl⟩;rw[←a6]at c3;refine bf (λρ=>ρ=[some (scD sc),some (.int k),some (tp a5 b5),some (.lst .own (ns.map D.str)),some (.int t),some (.lst .own (js.map jD)),some (dD ys vs),some (.str sx),y8,some (nD R),some (.tup TJ)]) (λQ V=>?_) ?_
  .have hst:jM (.lst .brw (js.map jD)) (.int (-1))=some (.lst .own (js.reverse.map jD)):=by simp[jM]
   have b6:cC (.lst .own (js.reverse.map jD))=some (true,js.reverse.map jD):=by simp![cC,clean,aA,au,jJ,jO,lZ];rfl
   have a4:(js.reverse.map jD).length<=1000000:=by simp;omega
   have d6:jP (.int 1)=some (.int (-1)):=rfl;have b9:=Rb js.reverse;rw[←a6]at b9;have a7:fU [.lst .own TJ]=some (.tup TJ):=rfl;have d3:az TJ=true:=by rw[a6];exact jJ _
   have e3:aB TJ=true:=by rw[a6];exact jO _
   simp![bV,eAp,ak,aG,iC,itS,e2,e1,eC,ao,Yh,Yj,vJ,d6,hst,b6,a4,b9,a7,Mx,Yb,aR,dJ,aC,XX,iw,Xi,Yq,ae6,tgN,clean,aA,au,d3,e3,aam,YC,Zf];exact V _ rfl
  rintro _ rfl;have d7:bz bR [nD R,view false (nD R)]=some (.bl true):=yZ Uj Ma c4;have a7:fU [.lst .brw (ns.map D.str)]=some (.tup (ns.map D.str)):=rfl;have d8:view false (.tup TJ)= .tup TJ:=by rw[a6];simp![view,ou]
  simp![sIf,uE,nT,eAp,ak,aG,ao,Yh,Yj,vN,vi,a7,d8,c3,d7,truth,Mx,Yb,aR,dJ,aC,w_ite,fB,acx,Ye,YJ];exact⟨_,_,_,_,_,_,_,_,_,_,rfl⟩
 rintro _ ⟨x1,x2,x3,x4,x5,x6,x7,x8,x9,a0,rfl⟩;obtain⟨d,e,hs,b7,h2⟩:=lg (t:=3) (NS.lst (ns:=[]) (by simp)) (JJ.lst []) List.nodup_nil (by simp) (by simp) (by simp) rfl 1.27;obtain⟨q1,q2⟩:=yG (t:=3) (js:=[]) (f:=λ_=>0) List.nodup_nil (by simp) b7 (λ_ _ _ _ _=>rfl) (by intro j I;cases I);have hd:d=nD []:=by
  rcases h2 with⟨h,_⟩|⟨_,h⟩
  .exact absurd q2 h
  .rw[h,q1]
   have:gZ []=[]:=List.length_eq_zero_iff.mp (ww []);rw[Yq,this];rfl
 subst hd;have Y:bz bB [.lst .own [],.lst .own [],.int 3]=some (nD []):=call_of e Du;have c6:bz bR [nD [],.tup [.str "numbers",.lst .own []]]=some (.bl true):=yZ Uj (Uj (R:=[])) (by simp);have d1:bI []=some (.lst .own []):=rfl;have c7:bC [.str "numbers",.lst .own []]=some (.tup [.str "numbers",.lst .own []]):=rfl;simp![gO,eAp,ak,eC,aG,d1,Y,c7,c6,Mx,Yb,aR,dJ,aC];simp[aC,clean,aA,au]
def top(i:Nat):Stmt:=aea.main.body.getD i (.Pass ⟨0,0,0,0⟩)
local macro_rules
 |`(tactic|trivial)=>`(tactic|exact⟨rfl,by decide +kernel,by decide +kernel,by decide +kernel,rfl,by decide +kernel⟩)
open PySem.W (Frag nsIn fnOf keepIn codeIn mg_of mg_none_of)
abbrev nl0:List Str:=["_law_found","_law_due"]
abbrev nl1:List Str:=["_law_tape_here"]
abbrev nl2:List Str:=["names","joinings"]
abbrev nl3:List Str:=["_law_names_here","_law_joinings_here","_law_groups","_law_one","_law_other","_law_step","_law_first","_law_second"]
abbrev nl4:List Str:=["_law_turn_here","_law_n"]
abbrev nl5:List Str:=["turn","n"]
abbrev nl6:List Str:=["_law_script","_law_k"]
abbrev nl7:List Str:=["_law_tape_here","_law_many"]
abbrev nl8:List Str:=["_law_tape_here","_law_names_here","_law_turn_here"]
abbrev nl9:List Str:=["_law_names_here","_law_joinings_here"]
abbrev Od:List Str:=["_law_names_here","_law_joinings_here","_law_turn_here"]
noncomputable abbrev Oz:List Str:=["leading","start"]
abbrev QS:List Str:=["joinings","turn","way"]
abbrev Qn:List Str:=["away","toward"]
abbrev Ou:List Str:=["names","joinings","turn"]
abbrev Oq:List Str:=["_law_script"]
abbrev Tz:List Str:=["_law_script","_law_k","_law_tape_here","_law_names_here","_law_turn_here","_law_joinings_here","_law_numbers_here","_law_kept","_law_found","_law_due","_law_turned"]
abbrev Vg:List Str:=["_law_tape_here","_law_some","_law_first","_law_many"]
abbrev U5:List Str:=["_law_k","_law_some","_law_first"]
abbrev U3:List Str:=["_law_tape_here","_law_names_here","_law_turn_here","_law_found","_law_wide","_law_kept","_law_slips","_law_turn_by","_law_one","_law_other","_law_way","_law_step"]
abbrev WL:List Str:=["_law_name","_law_wide","_law_tape_here"]
abbrev U9:List Str:=["_law_group","_law_first","_law_second"]
noncomputable abbrev VH:List Str:=["names","joinings","leading","number","one","other","step"]
noncomputable abbrev Ve:List Str:=["away","toward","shared","back"]
noncomputable abbrev V_:List Str:=["names","joinings","turn","ways","tree","numbers","number","one","other","step"]
abbrev U4:List Str:=["name","joinings","turn","ways"]
abbrev Vs:List Str:=["_law_name","_law_turn_here","_law_numbers_here"]
abbrev Vk:List Str:=["_law_one","_law_other","_law_step"]
abbrev ob0:Nat->Bool:=λi=>i==0
abbrev jY(P:X7)(w:World)(K:Frag)(mg:Str->Option Value)(base:Heap):Prop:=Cal P w K mg base 1 "_law_draw" nl7 (spI ⟨K,mg⟩ ob0 ob0 aL)
abbrev mF(P:X7)(w:World)(K:Frag)(mg:Str->Option Value)(base:Heap):Prop:=Cal P w K mg base 1 "_law_classes" nl9 (spP ⟨K,mg⟩ aZ)
abbrev jE(P:X7)(w:World)(K:Frag)(mg:Str->Option Value)(base:Heap):Prop:=Cal P w K mg base 1 "_law_counted" nl4 (spP ⟨K,mg⟩ bw)
abbrev mG(P:X7)(w:World)(K:Frag)(mg:Str->Option Value)(base:Heap):Prop:=Cal P w K mg base 1 "ends_by_name" nl2 (spP ⟨K,mg⟩ cR)
abbrev sW(P:X7)(w:World)(K:Frag)(mg:Str->Option Value)(base:Heap):Prop:=Cal P w K mg base 1 "ways_from" Oz (spP ⟨K,mg⟩ dY)
abbrev qZ(P:X7)(w:World)(K:Frag)(mg:Str->Option Value)(base:Heap):Prop:=Cal P w K mg base 1 "counted" nl5 (spP ⟨K,mg⟩ cu)
abbrev DW(P:X7)(w:World)(K:Frag)(mg:Str->Option Value)(base:Heap):Prop:=Cal P w K mg base 2 "trees" nl2 (spP ⟨K,mg⟩ fV)
abbrev vL(P:X7)(w:World)(K:Frag)(mg:Str->Option Value)(base:Heap):Prop:=Cal P w K mg base 2 "steps_of" QS (spP ⟨K,mg⟩ bU)
abbrev vI(P:X7)(w:World)(K:Frag)(mg:Str->Option Value)(base:Heap):Prop:=Cal P w K mg base 1 "tree_way" Qn (spP ⟨K,mg⟩ dF)
abbrev sJ(P:X7)(w:World)(K:Frag)(mg:Str->Option Value)(base:Heap):Prop:=Cal P w K mg base 4 "_law_same" nl0 (spP ⟨K,mg⟩ bR)
abbrev sE(P:X7)(w:World)(K:Frag)(mg:Str->Option Value)(base:Heap):Prop:=Cal P w K mg base 1 "_law_tape" nl6 (spP ⟨K,mg⟩ dw)
abbrev o_(P:X7)(w:World)(K:Frag)(mg:Str->Option Value)(base:Heap):Prop:=Cal P w K mg base 2 "_law_names" nl1 (spI ⟨K,mg⟩ ob0 ob0 dU)
abbrev sS(P:X7)(w:World)(K:Frag)(mg:Str->Option Value)(base:Heap):Prop:=Cal P w K mg base 2 "_law_turn" nl1 (spI ⟨K,mg⟩ ob0 ob0 eV)
abbrev lQ(P:X7)(w:World)(K:Frag)(mg:Str->Option Value)(base:Heap):Prop:=Cal P w K mg base 2 "_law_joinings" nl8 (spI ⟨K,mg⟩ ob0 ob0 cQ)
abbrev mj(P:X7)(w:World)(K:Frag)(mg:Str->Option Value)(base:Heap):Prop:=Cal P w K mg base 2 "_law_numbers" Od (spP ⟨K,mg⟩ cI)
abbrev pP(P:X7)(w:World)(K:Frag)(mg:Str->Option Value)(base:Heap):Prop:=Cal P w K mg base 3 "numbers_of" Ou (spP ⟨K,mg⟩ bB)
noncomputable abbrev gM:Stmt:=top 12
noncomputable abbrev iM:Stmt:=top 10
noncomputable abbrev iI:Stmt:=top 11
noncomputable abbrev fP:Stmt:=top 13
noncomputable abbrev iJ:Stmt:=top 14
noncomputable abbrev cV:Stmt:=top 15
noncomputable abbrev bQ:Stmt:=top 17
noncomputable abbrev eZ:Stmt:=top 16
noncomputable abbrev e_:Stmt:=top 18
noncomputable abbrev cX:Stmt:=top 4
noncomputable abbrev gY:Stmt:=top 5
noncomputable abbrev nA:Stmt:=top 6
noncomputable abbrev ju:Stmt:=top 1
noncomputable abbrev iK:Stmt:=top 2
noncomputable abbrev gR:Stmt:=top 7
noncomputable abbrev eF:Stmt:=top 8
noncomputable abbrev l_:Stmt:=top 19
structure Blt(mg:Str->Option Value):Prop where
 abs:mg "abs"=none
 all:mg "all"=none
 bool_:mg "bool"=none
 dict:mg "dict"=none
 enumerate:mg "enumerate"=none
 int_:mg "int"=none
 isinstance:mg "isinstance"=none
 len:mg "len"=none
 list_:mg "list"=none
 min:mg "min"=none
 range:mg "range"=none
 reversed:mg "reversed"=none
 sorted:mg "sorted"=none
 str_:mg "str"=none
 tuple:mg "tuple"=none
 zip:mg "zip"=none
variable{A:Yy}
theorem aP(r:jq k A):A.units+1<cLine:=by have:=r.units;omega
theorem tU(r:jq k A):A.units+2<cLine:=by have:=r.units;omega
section
variable{P:Program}{w:World}{K:Frag}{mg:Str->Option Value}{base:Heap}
theorem rZ:cD nl0 nl0 (aK gM):=⟨rfl,rfl,rfl,by decide +kernel,rfl,by decide +kernel,by decide +kernel⟩
def vD:Scope:={kind:=.function,names:=[(".0",.local),("_law_one",.local),("_law_other",.local),("_law_same",.globalImplicit)],isGenerator:=false,isCoroutine:=false}
theorem n_:(["_law_one","_law_other"]:List Str).Nodup:=by decide +kernel
theorem v8:cN (aK gM) nl0 ["_law_one","_law_other"] vD [none,none]:=by trivial
theorem jR{f:Addr}{fd:Yu}{n:Nat}{Frec:List D->Option D}(F:Fun K "_law_same" "_law_same" gM f fd)(B:Blt mg)(Y:Cal P w K mg base (0+n) "_law_same" nl0 (spP ⟨K,mg⟩ Frec)):gw P w K mg base CX0 (0+n+1) f fd nl0 (spP ⟨K,mg⟩ (aQ Frec)):=by
 have nd:∀_:Unit,_:=λ_=>rZ.nd;refine okP (k:=0+n) (ob:=(λi=>false)) (Pr:=λ_=>false) F rZ λI A outer s H E O=>?_;exact(aF (dq (lz (bc cY (λ_=>rfl) (λ_=>B.isinstance) Zd (aa 1.22 (aa (fj (aa (j9 (λ_=>rfl) (λ_=>B.list_) aeD) (aa (j9 (λ_=>rfl) (λ_=>B.tuple) ab7) aq))) aq)))) (aF (dq (pY (Ds (tX (lz (bc cY (λ_=>rfl) (λ_=>B.isinstance) Zd (aa 1.25 (aa (fj (aa (j9 (λ_=>rfl) (λ_=>B.list_) aeD) (aa (j9 (λ_=>rfl) (λ_=>B.tuple) ab7) aq))) aq))))) (xQ (bF (nZ _ (λ_=>rfl) O.units) (bc cY (λ_=>rfl) (λ_=>B.isinstance) Zd (aa 1.25 (aa (j9 (λ_=>rfl) (λ_=>B.list_) aeD) aq))) (bc cY (λ_=>rfl) (λ_=>B.isinstance) Zd (aa 1.22 (aa (j9 (λ_=>rfl) (λ_=>B.list_) aeD) aq))))))) (aO (cO zG)) cF)
  (aO (cO (yq (rP (cb_eq _ (λ_=>rfl) O.units) (bc h_ (λ_=>rfl) (λ_=>B.len) aaN (aa 1.25 aq)) (bc h_ (λ_=>rfl) (λ_=>B.len) aaN (aa 1.22 aq))) (Dh (bc (QD (λ_=>rfl)) (λ_=>rfl) (λ_=>B.all) boot_all (aa (jV [none,none] (λi=>i==0||i==1) (λ_=>rfl) (λ_=>rfl) (λ_=>v8) (fZ rfl) (Lk (λ_=>rfl) (λ_=>B.zip) (aa 1.25 (aa 1.22 aq))) (uO (λ_=>rfl) (gP (cA 0 (λ_=>n_)) (gP (cA 1 (λ_=>n_)) qP))) gB (eO (λ_=>Y) (λ_=>O.mono 1.10) (aa 1.25 (aa 1.22 aq)))) aq))))))) cF)
  (aF (dq (pY (Ds (bF Q8 1.22 CV) (xQ (lz (bc cY (λ_=>rfl) (λ_=>B.isinstance) Zd (aa 1.22 (aa (j9 (λ_=>rfl) (λ_=>B.str_) ad4) aq))))))) (aO (cO (yq (rP (cb_eq _ (λ_=>rfl) O.units) 1.25 1.22) (Dh (rP (cb_eq _ (λ_=>rfl) O.units) (bc cY (λ_=>rfl) (λ_=>B.isinstance) Zd (aa 1.25 (aa (j9 (λ_=>rfl) (λ_=>B.str_) ad4) aq))) (bc cY (λ_=>rfl) (λ_=>B.isinstance) Zd (aa 1.22 (aa (j9 (λ_=>rfl) (λ_=>B.str_) ad4) aq)))))))) cF)
  (aO (cO (yq (bc cY (λ_=>rfl) (λ_=>B.isinstance) Zd (aa 1.25 (aa (j9 (λ_=>rfl) (λ_=>B.int_) boot_int) aq))) (yq (rP (cb_eq _ (λ_=>rfl) O.units) (bc cY (λ_=>rfl) (λ_=>B.isinstance) Zd (aa 1.25 (aa (j9 (λ_=>rfl) (λ_=>B.bool_) boot_bool) aq))) (bc cY (λ_=>rfl) (λ_=>B.isinstance) Zd (aa 1.22 (aa (j9 (λ_=>rfl) (λ_=>B.bool_) boot_bool) aq)))) (Dh (rP (cb_eq _ (λ_=>rfl) O.units) 1.25 1.22))))))))
theorem sH:cD ["_law_script","_law_k","_law_cell","_law_digits"] nl6 (aK iM):=⟨rfl,rfl,rfl,by decide +kernel,rfl,by decide +kernel,by decide +kernel⟩
theorem zN{f:Addr}{fd:Yu}(F:Fun K "_law_tape" "_law_tape" iM f fd)(B:Blt mg):gw P w K mg base CX0 1 f fd nl6 (spP ⟨K,mg⟩ dw):=by
 have nd:∀_:Unit,_:=λ_=>sH.nd;refine okP (k:=0) (ob:=(λi=>false)) (Pr:=λ_=>false) F sH λI A outer s H E O=>?_;exact(aF (bL 2 nd aH)
  (aF (dq (bF Nz 1.22 (bc h_ (λ_=>rfl) (λ_=>B.len) aaN (aa 1.25 aq))) (aO (bL 2 nd (dM 1.17 1.25 1.22))) cF)
  (aF (bL 3 nd (bJ jj (bc Er (λ_=>rfl) (λ_=>B.abs) boot_abs (aa (aj false 2) aq)) (jw Pg (λ_=>rfl) (λ_=>B.int_) boot_int (aa (rP V1 (bc Er (λ_=>rfl) (λ_=>B.abs) boot_abs (aa (aj false 2) aq)) (bJ Cy aH aH)) aq))))
  (aO (cO (fG (aa (aj false 3) (aa (bJ lK (bJ jj (bJ fD (bJ fD (bJ lK (aj false 2) aH) (bJ jj aH 1.22)) aH) aH) aH) aq))))))))
theorem sI:cD ["_law_tape_here","_law_many","_law_found","_law_once"] nl7 (aK iI):=⟨rfl,rfl,rfl,by decide +kernel,rfl,by decide +kernel,by decide +kernel⟩
theorem Ah{f:Addr}{fd:Yu}(F:Fun K "_law_draw" "_law_draw" iI f fd)(B:Blt mg):gw P w K mg base CX0 1 f fd nl7 (spI ⟨K,mg⟩ ob0 ob0 aL):=by
 have nd:∀_:Unit,_:=λ_=>sI.nd;refine okI (k:=0) (ob:=ob0) (pr:=ob0) F sI λI A outer s H E O=>?_;exact(aF (dq (bF Rz (dM 1.17 (aj true 0) aH) aH) (aF (bL 2 nd (bJ lK (dM 1.17 (aj true 0) aH) 1.22))
  (aF (lF (bJ xR (dM 1.17 (aj true 0) aH) 1.22) (nP (nJ (λ_=>aP O)) (d7 0) aH))
  (aO (i_ 2)))) cF)
  (aF (lF (bJ lK (bJ fD (bJ jj (dM 1.17 (aj true 0) aH) aH) aH) aH) (nP (nJ (λ_=>aP O)) (d7 0) aH))
  (aF (bL 3 nd (bJ lK (bJ jj (dM 1.17 (aj true 0) aH) (bJ fD (bJ lK (dM 1.17 (aj true 0) aH) aH) aH)) aH))
  (aO (cO (bJ lK (bJ xR (aj false 3) aH) 1.22))))))
theorem qd:cD Vg nl1 (aK fP):=⟨rfl,rfl,rfl,by decide +kernel,rfl,by decide +kernel,by decide +kernel⟩
def tH:Scope:={kind:=.function,names:=[(".0",.local),("_law_k",.local),("_law_first",.free),("_law_some",.free)],isGenerator:=false,isCoroutine:=false}
theorem uL:(U5:List Str).Nodup:=by decide +kernel
theorem uz:cN (aK fP) Vg U5 tH [none,some 1,some 2]:=by trivial
theorem zf{f:Addr}{fd:Yu}(F:Fun K "_law_names" "_law_names" fP f fd)(B:Blt mg)(I:jY P w K mg base):gw P w K mg base CX0 2 f fd nl1 (spI ⟨K,mg⟩ ob0 ob0 dU):=by
 have nd:∀_:Unit,_:=λ_=>qd.nd;refine okI (k:=1) (ob:=ob0) (pr:=ob0) F qd λq A outer s H E O=>?_;exact(aF (bL 1 nd (Wd Ha PySem.F.plainAttrs_str PySem.F.slot_str_split PySem.F.type_str_split mq (aa mq aq)))
  (aF (eX 2 nd 1.26)
  (aF (eX 3 nd (lG 1.17 (Oj (dX 1.26 (dX (oV fD (fu aH) 1.26) (dX (oV fD (fu aH) 1.26) (bM aq))))) (HN (Am (λ_=>rfl)) (λ_=>rfl) (λ_=>B.min) boot_min (dX (fu aH) (dX 1.26 (bM aq))))))
  (aO (cO (jV [none,some 1,some 2] ob0 (λ_=>rfl) (λ_=>rfl) (λ_=>uz) (fZ rfl) (Lb (λ_=>rfl) (λ_=>B.range) (aa (aj false 3) aq)) (cA 0 (λ_=>uL)) gB (dM 1.17 1.22 (bJ lK (bJ fD (aj false 2) (bJ jj aH 1.25)) aH))))))))
theorem rT:cD nl1 nl1 (aK iJ):=⟨rfl,rfl,rfl,by decide +kernel,rfl,by decide +kernel,by decide +kernel⟩
theorem zU{f:Addr}{fd:Yu}(F:Fun K "_law_turn" "_law_turn" iJ f fd)(B:Blt mg)(I:jY P w K mg base):gw P w K mg base CX0 2 f fd nl1 (spI ⟨K,mg⟩ ob0 ob0 eV):=by
 have nd:∀_:Unit,_:=λ_=>rT.nd;refine okI (k:=1) (ob:=ob0) (pr:=ob0) F rT λq A outer s H E O=>?_;exact(aO (J_ (lG 1.17 (fu (fG (aa aH (aa aH (aa aH (aa aH (aa aH (aa aH (aa aH (aa aH aq)))))))))) 1.26)))
theorem lN:cD U3 nl8 (aK cV):=⟨rfl,rfl,rfl,by decide +kernel,rfl,by decide +kernel,by decide +kernel⟩
def oZ:Scope:={kind:=.function,names:=[(".0",.local),("_law_name",.local),("_law_draw",.globalImplicit),("_law_tape_here",.free),("_law_wide",.free)],isGenerator:=false,isCoroutine:=false}
theorem pq:(WL:List Str).Nodup:=by decide +kernel
theorem pO:cN (aK cV) U3 WL oZ [none,some 4,some 0]:=by trivial
theorem tO{f:Addr}{fd:Yu}(F:Fun K "_law_joinings" "_law_joinings" cV f fd)(B:Blt mg)(I:jY P w K mg base):gw P w K mg base CX0 2 f fd nl8 (spI ⟨K,mg⟩ ob0 ob0 cQ):=by
 have nd:∀_:Unit,_:=λ_=>lN.nd;refine okI (k:=1) (ob:=ob0) (pr:=ob0) F lN λq A outer s H E O=>?_;exact(aF (bL 3 nd (fG aq))
  (aF (eX 4 nd (lG 1.17 (fu (fG (aa aH (aa aH (aa aH (aa aH (aa aH (aa (bJ jj aH (bJ Cy aH aH)) aq)))))))) 1.26))
  (aF (eX 5 nd (Dd (Nj (λ_=>rfl)) (λ_=>rfl) (λ_=>B.dict) boot_dict (dX (MT [none,some 4,some 0] ob0 (λ_=>rfl) (λ_=>rfl) (λ_=>pO) (N7 rfl) (fZ rfl) (di 1.22) (Hx 0 (λ_=>pq)) gB (OJ (dX (fu 1.25) (dX (oV mY (dN [2] (λ_=>I) 1.12 (cJ 2 (cM (bM (aa (bJ jj aH 1.22) aq))))) (fu 1.22)) (bM aq))))) (bM aq))))
  (aF (eX 6 nd (lG 1.17 (fu (fG (aa aH (aa aH (aa aH (aa aH aq)))))) 1.26))
  (aF (Kh (λ_=>Yx) (λ_=>rfl) (PJ (λ_=>rfl) (λ_=>B.range) (dX (dN [0] (λ_=>I) 1.12 (cJ 0 (cM (bM (aa (bJ fD (bJ jj aH (bc h_ (λ_=>rfl) (λ_=>B.len) aaN (aa 1.22 aq))) aH) aq))))) (bM aq))) (aX 7 nd) (aF (KJ 8 9 (λ_=>rfl) nd (dX (lG 1.17 (fu 1.22) (dN [0] (λ_=>I) 1.12 (cJ 0 (cM (bM (aa (bc h_ (λ_=>rfl) (λ_=>B.len) aaN (aa 1.22 aq)) aq)))))) (dX (lG 1.17 (fu 1.22) (dN [0] (λ_=>I) 1.12 (cJ 0 (cM (bM (aa (bc h_ (λ_=>rfl) (λ_=>B.len) aaN (aa 1.22 aq)) aq)))))) (bM aq))))
  (aF (eX 10 nd 1.26)
  (aF (dq (bF (cb_eq _ (λ_=>rfl) O.units) (aj false 10) aH) (aO (bL 9 nd (aj false 8))) cF)
  (aF (dq (pY (lD (bF (cb_eq _ (λ_=>rfl) O.units) (aj false 10) aH) (kJ (bF (nZ _ (λ_=>rfl) O.units) (aj false 3) (fG aq))))) (aO (Ak (wJ slb (lG 1.17 (fu (aj false 3)) (dN [0] (λ_=>I) 1.12 (cJ 0 (cM (bM (aa (bc h_ (λ_=>rfl) (λ_=>B.len) aaN (aa (aj false 3) aq)) aq)))))) qi (qu aH)) (gJ (λ_=>rfl) (aW (aX 8 nd) (aW (aX 9 nd) eU))))) cF)
  (aF (dq (pY (lD (bF (cb_eq _ (λ_=>rfl) O.units) (aj false 10) aH) (kJ (bF (nZ _ (λ_=>rfl) O.units) (aj false 3) (fG aq))))) (aO (Ak (wJ slb (lG 1.17 (fu (aj false 3)) (dN [0] (λ_=>I) 1.12 (cJ 0 (cM (bM (aa (bc h_ (λ_=>rfl) (λ_=>B.len) aaN (aa (aj false 3) aq)) aq)))))) qi (qu aH)) (gJ (λ_=>rfl) (aW (aX 9 nd) (aW (aX 8 nd) eU))))) cF)
  (aF (eX 11 nd (oV fD (fu (bJ mY (dM 1.17 (aj false 5) (aj false 9)) (dM 1.17 (aj false 5) (aj false 8)))) (oV jj (fu (aj false 2)) (oV mY 1.26 (fu aH)))))
  (aF (QR (T8 (Ky (xV (bF Rz (aj false 6) aH)) (GR (Mm (cb_eq _ (λ_=>rfl) O.units) (dN [0] (λ_=>I) 1.12 (cJ 0 (cM (bM (aa (aj false 6) aq))))) (fu aH))))) (aO (eX 11 nd (oV fD (fu (aj false 11)) (lG 1.17 (fu (fG (aa aH (aa (zA vg aH) (aa aH (aa (bJ Cy aH aH) aq)))))) 1.26)))) cF)
  (aO (jX iR Zg Zx Zy (d7 3) (aa (fj (aa (aj false 8) (aa (aj false 9) (aa (aj false 11) aq)))) aq)))))))))))
  (aO (i_ 3)))))))
theorem mW:cD nl3 nl9 (aK bQ):=⟨rfl,rfl,rfl,by decide +kernel,rfl,by decide +kernel,by decide +kernel⟩
def pR:Scope:={kind:=.function,names:=[(".0",.local),("_law_name",.local)],isGenerator:=false,isCoroutine:=false}
theorem qJ:(["_law_name"]:List Str).Nodup:=by decide +kernel
theorem qX:cN (aK bQ) nl3 ["_law_name"] pR [none]:=by trivial
def o7:Scope:={kind:=.function,names:=[(".0",.local),("_law_group",.local),("_law_one",.free)],isGenerator:=false,isCoroutine:=false}
theorem rO:(["_law_group","_law_one"]:List Str).Nodup:=by decide +kernel
theorem rM:cN (aK bQ) nl3 ["_law_group","_law_one"] o7 [none,some 3]:=by trivial
def qg:Scope:={kind:=.function,names:=[(".0",.local),("_law_group",.local),("_law_other",.free)],isGenerator:=false,isCoroutine:=false}
theorem qM:(["_law_group","_law_other"]:List Str).Nodup:=by decide +kernel
theorem qW:cN (aK bQ) nl3 ["_law_group","_law_other"] qg [none,some 4]:=by trivial
def pQ:Scope:={kind:=.function,names:=[(".0",.local),("_law_group",.local),("_law_first",.free),("_law_second",.free)],isGenerator:=false,isCoroutine:=false}
theorem qw:(U9:List Str).Nodup:=by decide +kernel
theorem qF:cN (aK bQ) nl3 U9 pQ [none,some 6,some 7]:=by trivial
def pB:Scope:={kind:=.function,names:=[(".0",.local),("_law_group",.local),("sorted",.globalImplicit)],isGenerator:=false,isCoroutine:=false}
theorem qK:(["_law_group"]:List Str).Nodup:=by decide +kernel
theorem rG:cN (aK bQ) nl3 ["_law_group"] pB [none]:=by trivial
theorem uI{f:Addr}{fd:Yu}(F:Fun K "_law_classes" "_law_classes" bQ f fd)(B:Blt mg):gw P w K mg base CX0 1 f fd nl9 (spP ⟨K,mg⟩ aZ):=by
 have nd:∀_:Unit,_:=λ_=>mW.nd;refine okP (k:=0) (ob:=(λi=>false)) (Pr:=λ_=>false) F mW λI A outer s H E O=>?_;exact(aF (Ax 2 [none] ob0 nd (λ_=>rfl) (λ_=>rfl) (λ_=>qX) (fZ rfl) (di 1.25) (cA 0 (λ_=>qJ)) gB (fG (aa 1.25 aq)))
  (aF (gK (λ_=>Yx) (λ_=>rfl) (di 1.22) (gJ (λ_=>rfl) (aW (aX 3 nd) (aW (aX 4 nd) (aW (aX 5 nd) eU)))) (aF (xK 2 (bL 6 nd (dM 1.17 (jV [none,some 3] ob0 (λ_=>rfl) (λ_=>rfl) (λ_=>rM) (fZ rfl) (di (aj false 2)) (cA 0 (λ_=>rO)) (uf (bF (FP (λ_=>aP O)) 1.22 1.25)) 1.25) aH)))
  (aF (bL 7 nd (dM 1.17 (jV [none,some 4] ob0 (λ_=>rfl) (λ_=>rfl) (λ_=>qW) (fZ rfl) (di (aj false 2)) (cA 0 (λ_=>qM)) (uf (bF (FP (λ_=>aP O)) 1.22 1.25)) 1.25) aH))
  (aO (dq (bF (nZ _ (λ_=>rfl) O.units) (aj false 6) (aj false 7)) (aO (bL 2 nd (bJ fD (jV [none,some 6,some 7] ob0 (λ_=>rfl) (λ_=>rfl) (λ_=>qF) (fZ rfl) (di (aj false 2)) (cA 0 (λ_=>qw)) (uf (pY (lD (bF (nZ _ (λ_=>rfl) O.units) 1.25 1.22) (kJ (bF (nZ _ (λ_=>rfl) O.units) 1.25 (aj false 2)))))) 1.25) (fG (aa (bJ fD (aj false 6) (aj false 7)) aq))))) cF)))))
  (aO (cO (bc (jW _ (λ_=>rfl) (tU O) (λ_=>rfl)) (λ_=>rfl) (λ_=>B.sorted) acf (aa (jV [none] ob0 (λ_=>rfl) (λ_=>rfl) (λ_=>rG) (fZ rfl) (di (aj false 2)) (cA 0 (λ_=>qK)) gB (bc (jW _ (λ_=>rfl) (tU O) (λ_=>rfl)) (λ_=>rfl) (λ_=>B.sorted) acf (aa 1.25 aq))) aq))))))
theorem mU:cD nl4 nl4 (aK eZ):=⟨rfl,rfl,rfl,by decide +kernel,rfl,by decide +kernel,by decide +kernel⟩
theorem uF{f:Addr}{fd:Yu}(F:Fun K "_law_counted" "_law_counted" eZ f fd)(B:Blt mg):gw P w K mg base CX0 1 f fd nl4 (spP ⟨K,mg⟩ bw):=by
 have nd:∀_:Unit,_:=λ_=>mU.nd;refine okP (k:=0) (ob:=(λi=>false)) (Pr:=λ_=>false) F mU λI A outer s H E O=>?_;exact(aF (dq (bF (cb_eq _ (λ_=>rfl) O.units) 1.25 aH) (aO (i_ 1)) cF)
  (aO (cO (bJ mY 1.22 (bJ jj (bJ xR 1.22 1.25) 1.25)))))
theorem mL:cD ["_law_names_here","_law_joinings_here","_law_turn_here","_law_found","_law_group","_law_again","_law_one","_law_other","_law_step"] Od (aK e_):=⟨rfl,rfl,rfl,by decide +kernel,rfl,by decide +kernel,by decide +kernel⟩
theorem uG{f:Addr}{fd:Yu}(F:Fun K "_law_numbers" "_law_numbers" e_ f fd)(B:Blt mg)(q:mF P w K mg base)(J:jE P w K mg base):gw P w K mg base CX0 2 f fd Od (spP ⟨K,mg⟩ cI):=by
 have nd:∀_:Unit,_:=λ_=>mL.nd;refine okP (k:=1) (ob:=(λi=>false)) (Pr:=λ_=>false) F mL λI A outer s H E O=>?_;exact(aF (bL 3 nd yO)
  (aF (gK (λ_=>Yx) (λ_=>rfl) (di (eO (λ_=>q) 1.12 (aa 1.25 (aa 1.22 aq)))) (aX 4 nd) (aF (lF aH (nP (nJ (λ_=>aP O)) (d7 3) (dM 1.17 (aj false 4) aH)))
  (aO (xK 4 (gK (λ_=>Yx) (λ_=>rfl) (di (aj false 4)) (aX 5 nd) (aO (gK (λ_=>Yx) (λ_=>rfl) (di 1.22) (gJ (λ_=>rfl) (aW (aX 6 nd) (aW (aX 7 nd) (aW (aX 8 nd) eU)))) (aF (dq (pY (lD (bF (FP (λ_=>aP O)) (aj false 6) (aj false 3)) (kJ (bF (p6 (λ_=>aP O)) (aj false 7) (aj false 3))))) (aO (lF (bJ fD (dM 1.17 (aj false 3) (aj false 6)) (aj false 8)) (nP (nJ (λ_=>aP O)) (d7 3) (aj false 7)))) cF)
  (aO (dq (pY (lD (bF (FP (λ_=>aP O)) (aj false 7) (aj false 3)) (kJ (bF (p6 (λ_=>aP O)) (aj false 6) (aj false 3))))) (aO (lF (bJ mY (dM 1.17 (aj false 3) (aj false 7)) (aj false 8)) (nP (nJ (λ_=>aP O)) (d7 3) (aj false 6)))) cF))))))))))
  (aF (gK (λ_=>Yx) (λ_=>rfl) (di 1.22) (gJ (λ_=>rfl) (aW (aX 6 nd) (aW (aX 7 nd) (aW (aX 8 nd) eU)))) (aO (dq (bF (nZ _ (λ_=>rfl) O.units) (eO (λ_=>J) 1.12 (aa (aj false 2) (aa (bJ mY (bJ mY (dM 1.17 (aj false 3) (aj false 7)) (dM 1.17 (aj false 3) (aj false 6))) (aj false 8)) aq))) aH) (aO (cO CV)) cF)))
  (aO (i_ 3)))))
theorem lM:cD VH nl2 (aK cX):=⟨rfl,rfl,rfl,by decide +kernel,rfl,by decide +kernel,by decide +kernel⟩
def oN:Scope:={kind:=.function,names:=[(".0",.local),("name",.local)],isGenerator:=false,isCoroutine:=false}
theorem pN:(["name"]:List Str).Nodup:=by decide +kernel
theorem pF:cN (aK cX) VH ["name"] oN [none]:=by trivial
theorem sY{f:Addr}{fd:Yu}(F:Fun K "ends_by_name" "ends_by_name" cX f fd)(B:Blt mg):gw P w K mg base CX0 1 f fd nl2 (spP ⟨K,mg⟩ cR):=by
 have nd:∀_:Unit,_:=λ_=>lM.nd;refine okP (k:=0) (ob:=(λi=>false)) (Pr:=λ_=>false) F lM λI A outer s H E O=>?_;exact(aF (Jc 2 [none] ob0 nd (λ_=>rfl) (λ_=>rfl) (λ_=>pF) (fZ rfl) (di 1.25) (cA 0 (λ_=>pN)) gB 1.25 (fG aq))
  (aF (gK (λ_=>Yx) (λ_=>rfl) (zQ (λ_=>rfl) (λ_=>B.enumerate) (aa 1.22 aq)) (gJ (λ_=>rfl) (aW (aX 3 nd) (aW (gJ (λ_=>rfl) (aW (aX 4 nd) (aW (aX 5 nd) (aW (aX 6 nd) eU)))) eU))) (aF (jX iR Zg Zx Zy (yw (λ_=>aP O) (d7 2) (aj false 4)) (aa (fj (aa (aj false 3) (aa aH (aa (aj false 5) aq)))) aq))
  (aO (jX iR Zg Zx Zy (yw (λ_=>aP O) (d7 2) (aj false 5)) (aa (fj (aa (aj false 3) (aa (zA vg aH) (aa (aj false 4) aq)))) aq)))))
  (aO (i_ 2))))
theorem pH:cD ["leading","start","ways","waiting","name","number","side","end"] Oz (aK gY):=⟨rfl,rfl,rfl,by decide +kernel,rfl,by decide +kernel,by decide +kernel⟩
theorem yR{f:Addr}{fd:Yu}(F:Fun K "ways_from" "ways_from" gY f fd)(B:Blt mg):gw P w K mg base CX0 1 f fd Oz (spP ⟨K,mg⟩ dY):=by
 have nd:∀_:Unit,_:=λ_=>pH.nd;refine okP (k:=0) (ob:=(λi=>i==3)) (Pr:=λ_=>false) F pH λI A outer s H E O=>?_;exact(aF (bL 2 nd (Oc (HJ 1.22 (fj aq) JF)))
  (aF (bL 3 nd (fG (aa 1.22 aq)))
  (aF (wO 1000000 (λ_=>Yx) (xV (lz (aj true 3))) (aF (eX 4 nd (Pa HF Zg PySem.F.slot_list_pop PySem.F.type_list_pop (d7 3) (aa aH aq)))
  (aO (gK (λ_=>Yx) (λ_=>rfl) (di (dM 1.17 1.25 (aj false 4))) (gJ (λ_=>rfl) (aW (aX 5 nd) (aW (aX 6 nd) (aW (aX 7 nd) eU)))) (aO (dq (bF (p6 (λ_=>aP O)) (aj false 7) (aj false 2)) (aF (lF (bJ fD (dM 1.17 (aj false 2) (aj false 4)) (fj (aa (fj (aa (aj false 5) (aa (aj false 6) aq))) aq))) (nP (nJ (λ_=>aP O)) (d7 2) (aj false 7)))
  (aO (jX iR Zg Zx Zy (d7 3) (aa (aj false 7) aq)))) cF))))))
  (aO (i_ 2)))))
theorem zY:cD ["names","joinings","leading","placed","found","name","ways"] nl2 (aK nA):=⟨rfl,rfl,rfl,by decide +kernel,rfl,by decide +kernel,by decide +kernel⟩
theorem MK{f:Addr}{fd:Yu}(F:Fun K "trees" "trees" nA f fd)(B:Blt mg)(q:mG P w K mg base)(J:sW P w K mg base):gw P w K mg base CX0 2 f fd nl2 (spP ⟨K,mg⟩ fV):=by
 have nd:∀_:Unit,_:=λ_=>zY.nd;refine okP (k:=1) (ob:=(λi=>false)) (Pr:=λ_=>false) F zY λI A outer s H E O=>?_;exact(aF (bL 2 nd (eO (λ_=>q) 1.12 (aa 1.25 (aa 1.22 aq))))
  (aF (bL 3 nd yO)
  (aF (bL 4 nd (fG aq))
  (aF (gK (λ_=>Yx) (λ_=>rfl) (di (bc (jW _ (λ_=>rfl) (tU O) (λ_=>rfl)) (λ_=>rfl) (λ_=>B.sorted) acf (aa 1.25 aq))) (aX 5 nd) (aO (dq (bF (p6 (λ_=>aP O)) (aj false 5) (aj false 3)) (aF (bL 6 nd (eO (λ_=>J) 1.12 (aa (aj false 2) (aa (aj false 5) aq))))
  (aF (xK 6 (jX (u9 (λ_=>rfl)) ac8 ac4 ac5 (d7 3) (aa (aj false 6) aq)))
  (aO (jX iR Zg Zx Zy (d7 4) (aa (aj false 6) aq))))) cF)))
  (aO (i_ 4))))))
theorem uP:cD nl5 nl5 (aK ju):=⟨rfl,rfl,rfl,by decide +kernel,rfl,by decide +kernel,by decide +kernel⟩
theorem Dv{f:Addr}{fd:Yu}(F:Fun K "counted" "counted" ju f fd)(B:Blt mg):gw P w K mg base CX0 1 f fd nl5 (spP ⟨K,mg⟩ cu):=by
 have nd:∀_:Unit,_:=λ_=>uP.nd;refine okP (k:=0) (ob:=(λi=>false)) (Pr:=λ_=>false) F uP λI A outer s H E O=>?_;exact(aF (dq (bF (cb_eq _ (λ_=>rfl) O.units) 1.25 aH) (aO (i_ 1)) cF)
  (aO (cO (bJ lK 1.22 1.25))))
theorem rR:cD ["joinings","turn","way","total","number","side","one","other","step"] QS (aK iK):=⟨rfl,rfl,rfl,by decide +kernel,rfl,by decide +kernel,by decide +kernel⟩
theorem zT{f:Addr}{fd:Yu}(F:Fun K "steps_of" "steps_of" iK f fd)(B:Blt mg)(q:qZ P w K mg base):gw P w K mg base CX0 2 f fd QS (spP ⟨K,mg⟩ bU):=by
 have nd:∀_:Unit,_:=λ_=>rR.nd;refine okP (k:=1) (ob:=(λi=>false)) (Pr:=λ_=>false) F rR λI A outer s H E O=>?_;exact(aF (bL 3 nd aH)
  (aF (gK (λ_=>Yx) (λ_=>rfl) (di (aj false 2)) (gJ (λ_=>rfl) (aW (aX 4 nd) (aW (aX 5 nd) eU))) (aF (lF (dM 1.17 1.25 (aj false 4)) (gJ (λ_=>rfl) (aW (aX 6 nd) (aW (aX 7 nd) (aW (aX 8 nd) eU)))))
  (aO (su 3 nd (bJ jj (aj false 5) (aj false 8))))))
  (aO (cO (eO (λ_=>q) 1.12 (aa 1.22 (aa (aj false 3) aq)))))))
theorem sU:cD Ve Qn (aK gR):=⟨rfl,rfl,rfl,by decide +kernel,rfl,by decide +kernel,by decide +kernel⟩
def vy:Scope:={kind:=.function,names:=[(".0",.local),("number",.local),("side",.local)],isGenerator:=false,isCoroutine:=false}
theorem nY:(["number","side"]:List Str).Nodup:=by decide +kernel
theorem v_:cN (aK gR) Ve ["number","side"] vy [none,none]:=by trivial
theorem Be{f:Addr}{fd:Yu}(F:Fun K "tree_way" "tree_way" gR f fd)(B:Blt mg):gw P w K mg base CX0 1 f fd Qn (spP ⟨K,mg⟩ dF):=by
 have nd:∀_:Unit,_:=λ_=>sU.nd;refine okP (k:=0) (ob:=(λi=>false)) (Pr:=λ_=>false) F sU λI A outer s H E O=>?_;exact(aF (bL 2 nd aH)
  (aF (wO 1000000 (λ_=>Yx) (xV (pY (lD (bF Nz (aj false 2) (bc h_ (λ_=>rfl) (λ_=>B.len) aaN (aa 1.25 aq))) (lD (bF Nz (aj false 2) (bc h_ (λ_=>rfl) (λ_=>B.len) aaN (aa 1.22 aq))) (kJ (bF (cb_eq _ (λ_=>rfl) O.units) (dM 1.17 1.25 (aj false 2)) (dM 1.17 1.22 (aj false 2)))))))) (aO (su 2 nd aH)))
  (aF (Ax 3 [none,none] (λi=>i==0||i==1) nd (λ_=>rfl) (λ_=>rfl) (λ_=>v_) (fZ rfl) (Mr (λ_=>rfl) (λ_=>B.reversed) (aa (Bh slb 1.25 (qu (aj false 2)) qi) aq)) (uO (λ_=>rfl) (gP (cA 0 (λ_=>nY)) (gP (cA 1 (λ_=>nY)) qP))) gB (fj (aa 1.25 (aa (zA vg 1.22) aq))))
  (aO (cO (bJ fD (jw qQ (λ_=>rfl) (λ_=>B.tuple) ab7 (aa (aj false 3) aq)) (Bh slb 1.22 (qu (aj false 2)) qi)))))))
theorem oF:cD V_ Ou (aK eF):=⟨rfl,rfl,rfl,by decide +kernel,rfl,by decide +kernel,by decide +kernel⟩
def rD:Scope:={kind:=.function,names:=[(".0",.local),("name",.local),("steps_of",.globalImplicit),("joinings",.free),("turn",.free),("ways",.free)],isGenerator:=false,isCoroutine:=false}
theorem tB:(U4:List Str).Nodup:=by decide +kernel
theorem tM:cN (aK eF) V_ U4 rD [none,some 1,some 2,some 3]:=by trivial
theorem v6{f:Addr}{fd:Yu}(F:Fun K "numbers_of" "numbers_of" eF f fd)(B:Blt mg)(U:DW P w K mg base)(J:vL P w K mg base)(q:qZ P w K mg base)(N:vI P w K mg base):gw P w K mg base CX0 3 f fd Ou (spP ⟨K,mg⟩ bB):=by
 have nd:∀_:Unit,_:=λ_=>oF.nd;refine okP (k:=2) (ob:=(λi=>false)) (Pr:=λ_=>false) F oF λI A outer s H E O=>?_;exact(aF (bL 3 nd yO)
  (aF (gK (λ_=>Yx) (λ_=>rfl) (di (eO (λ_=>U) 1.12 (aa 1.25 (aa 1.22 aq)))) (aX 4 nd) (aO (jX (u9 (λ_=>rfl)) ac8 ac4 ac5 (d7 3) (aa (aj false 4) aq))))
  (aF (xK 3 (Hz 5 3 [none,some 1,some 2,some 3] ob0 nd (λ_=>rfl) (λ_=>rfl) (λ_=>tM) (fZ rfl) (cA 0 (λ_=>tB)) gB 1.25 (eO (λ_=>J) 1.12 (aa 1.22 (aa (aj false 2) (aa (dM 1.17 (aj false 3) 1.25) aq))))))
  (aF (gK (λ_=>Yx) (λ_=>rfl) (zQ (λ_=>rfl) (λ_=>B.enumerate) (aa 1.22 aq)) (gJ (λ_=>rfl) (aW (aX 6 nd) (aW (gJ (λ_=>rfl) (aW (aX 7 nd) (aW (aX 8 nd) (aW (aX 9 nd) eU)))) eU))) (aO (dq (bF (nZ _ (λ_=>rfl) O.units) (eO (λ_=>q) 1.12 (aa (aj false 2) (aa (bJ mY (bJ fD (dM 1.17 (aj false 5) (aj false 7)) (aj false 9)) (dM 1.17 (aj false 5) (aj false 8))) aq))) aH) (aO (cO (fj (aa mq (aa (aj false 7) (aa (bJ fD (fj (aa (fj (aa (aj false 6) (aa aH aq))) aq)) (eO (λ_=>N) 1.12 (aa (dM 1.17 (aj false 3) (aj false 8)) (aa (dM 1.17 (aj false 3) (aj false 7)) aq)))) aq)))))) cF)))
  (aO (cO (fj (aa mq (aa (Ju (λ_=>rfl) (λ_=>B.sorted) (aj false 5)) aq)))))))))
theorem Jq:cD Tz Oq (aK l_):=⟨rfl,rfl,rfl,by decide +kernel,rfl,by decide +kernel,by decide +kernel⟩
def Ie:Scope:={kind:=.function,names:=[(".0",.local),("_law_name",.local),("_law_counted",.globalImplicit),("_law_numbers_here",.free),("_law_turn_here",.free)],isGenerator:=false,isCoroutine:=false}
theorem Lp:(Vs:List Str).Nodup:=by decide +kernel
theorem Kv:cN (aK l_) Tz Vs Ie [none,some 4,some 6]:=by trivial
def HW:Scope:={kind:=.function,names:=[(".0",.local),("_law_one",.local),("_law_other",.local),("_law_step",.local)],isGenerator:=false,isCoroutine:=false}
theorem vd:(Vk:List Str).Nodup:=by decide +kernel
theorem Le:cN (aK l_) Tz Vk HW [none,none,none]:=by trivial
theorem RG{f:Addr}{fd:Yu}(F:Fun K "law" "law" l_ f fd)(B:Blt mg)(Y:sJ P w K mg base)(Z:sE P w K mg base)(V:o_ P w K mg base)(a0:sS P w K mg base)(N:lQ P w K mg base)(U:mj P w K mg base)(q:pP P w K mg base)(J:jE P w K mg base):gw P w K mg base CX0 5 f fd Oq (spP ⟨K,mg⟩ lC):=by
 have nd:∀_:Unit,_:=λ_=>Jq.nd;refine okP (k:=4) (ob:=(λi=>i==2)) (Pr:=λ_=>false) F Jq λI A outer s H E O=>?_;exact(aF (gK (λ_=>Yx) (λ_=>rfl) (Lb (λ_=>rfl) (λ_=>B.range) (aa (bJ fD aH (bc (Am (λ_=>rfl)) (λ_=>rfl) (λ_=>B.min) boot_min (aa aH (aa (bc h_ (λ_=>rfl) (λ_=>B.len) aaN (aa 1.25 aq)) aq)))) aq)) (aX 1 nd) (aF (bL 2 nd (eO (λ_=>Z) 1.12 (aa 1.25 (aa 1.22 aq))))
  (aF (eX 3 nd (dN [2] (λ_=>V) 1.12 (cJ 2 (cM (bM aq)))))
  (aF (eX 4 nd (dN [2] (λ_=>a0) 1.12 (cJ 2 (cM (bM aq)))))
  (aF (eX 5 nd (dN [2] (λ_=>N) 1.12 (cJ 2 (cM (bM (aa (aj false 3) (aa (aj false 4) aq)))))))
  (aF (bL 6 nd (eO (λ_=>U) 1.12 (aa (aj false 3) (aa (aj false 5) (aa (aj false 4) aq)))))
  (aF (bL 7 nd (jw (Ft _ (λ_=>rfl) O.gd O.units) (λ_=>rfl) (λ_=>B.str_) ad4 (aa (fG (aa (aj false 3) (aa (aj false 5) aq))) aq)))
  (aF (bL 8 nd (eO (λ_=>q) 1.12 (aa (aj false 3) (aa (aj false 5) (aa (aj false 4) aq)))))
  (aF (dq (pY (Ds (bF (nZ _ (λ_=>rfl) O.units) (jw (Ft _ (λ_=>rfl) O.gd O.units) (λ_=>rfl) (λ_=>B.str_) ad4 (aa (fG (aa (aj false 3) (aa (aj false 5) aq))) aq)) (aj false 7)) (xQ (tX (lz (bc cY (λ_=>rfl) (λ_=>B.isinstance) Zd (aa (aj false 8) (aa (j9 (λ_=>rfl) (λ_=>B.tuple) ab7) aq)))))))) (aO (cO zG)) cF)
  (aO (dq (bF Q8 (aj false 6) CV) (aO (dq (bF (nZ _ (λ_=>rfl) O.units) (dM 1.17 (aj false 8) aH) mq) (aO (cO zG)) cF)) (aF (bL 9 nd (fj (aa mq (aa (bc (Bl _ (λ_=>rfl) (tU O) (λ_=>rfl)) (λ_=>rfl) (λ_=>B.sorted) acf (aa (jV [none,some 4,some 6] ob0 (λ_=>rfl) (λ_=>rfl) (λ_=>Kv) (fZ rfl) (di (aj false 3)) (cA 0 (λ_=>Lp)) gB (fj (aa 1.25 (aa (eO (λ_=>J) 1.12 (aa 1.22 (aa (dM 1.17 (aj false 2) 1.25) aq))) aq)))) aq)) aq))))
  (aF (dq (tX (lz (eO (λ_=>Y) 1.12 (aa (aj false 8) (aa (aj false 9) aq))))) (aO (cO zG)) cF)
  (aF (jX iR Zg Zx Zy (yw (λ_=>aP O) (d7 8) aH) (aa (fj (aa mq (aa aH aq))) aq))
  (aF (bL 10 nd (jw qQ (λ_=>rfl) (λ_=>B.tuple) ab7 (aa (jV [none,none,none] (λi=>i==0||i==1||i==2) (λ_=>rfl) (λ_=>rfl) (λ_=>Le) (fZ rfl) (di (QG (aj false 5) (zA vg aH))) (uO (λ_=>rfl) (gP (cA 0 (λ_=>vd)) (gP (cA 1 (λ_=>vd)) (gP (cA 2 (λ_=>vd)) qP)))) gB (fj (aa 1.22 (aa 1.25 (aa (zA vg (aj false 2)) aq))))) aq)))
  (aO (dq (tX (lz (eO (λ_=>Y) 1.12 (aa (eO (λ_=>q) 1.12 (aa (jw qQ (λ_=>rfl) (λ_=>B.tuple) ab7 (aa (aj false 3) aq)) (aa (aj false 10) (aa (aj false 4) aq)))) (aa (aj false 9) aq))))) (aO (cO zG)) cF)))))))))))))))))
  (aO (cO (eO (λ_=>Y) 1.12 (aa (eO (λ_=>q) 1.12 (aa (fG aq) (aa (fG aq) (aa aH aq)))) (aa (fj (aa mq (aa (fG aq) aq))) aq))))))
end
theorem Ag:∀ns:List Int,aD G H W (ns.map D.int) (ns.map V.int) []
 |[]=>.nil
 |x::r=>aD.cons (M:=[]) (M':=[]) dR (Ag r)
theorem SM{K:Frag}{ns:List Int}{Q:VK}{E:XK}(Z:ns.length<=63)(Y:SqL K H a (ns.map V.int))(q:∀H',Q (.bl true) H'):spP ⟨K,mg⟩ lC [.ref a] H Q E:=by
 refine⟨[.lst .scr (ns.map D.int)],λ_=>False,?_,?_,?_,λ_ z=>z.elim,.bl true,LR ns Z,λv H' L s r fr nd c=>?_⟩
 .refine aD.one (M:=[]) ?_
  rw[Rep];refine⟨a,_,[],rfl,Ag ns,?_,rfl,rfl⟩;rcases Y with z|z
  .exact .inl ⟨z,⟨λz=>z,λz=>z,λz=>z⟩⟩
  .exact .inr ⟨_,rfl,z⟩
 .simp[az,aA,bh (ds:=ns.map D.int) (by simp[aA])]
 .simp[aB,au,a_ (ds:=ns.map D.int) (by simp[au])]
 .rw[(oH r).1];exact q H'
variable{P:List Value->Prop}
theorem un1(h:∀q,P [q]):∀us:List Value,us.length=1->P us
 |[q],_=>h q
theorem un2(h:∀q U,P [q,U]):∀us:List Value,us.length=2->P us
 |[q,U],_=>h q U
theorem un3(h:∀q U Z,P [q,U,Z]):∀us:List Value,us.length=3->P us
 |[q,U,Z],_=>h q U Z
def K9(K:Frag):Sp:=λvs H Q _=>∃(a:Addr)(ns:List Int),vs=[.ref a]/\SqL K H a (ns.map V.int)/\ns.length<=63/\∀H',Q (.bl true) H'
variable{l:adf}
theorem all_mk{K:Frag}{h:Heap}{fa V N f3 f4 f5 f6 f7 f8 f9 g3 g1 g4 e8 e9 f0 g2 g0:Addr}(X:K.In h)(G:h.Ns XH mg)(B6:mg "law"=some (.ref fa))
  {C4 w8 B7 A2 s6 r7 t8 t4 w5 r8 A4 A8 A5 y3 y0 t2 y7 B0 i7 j9 q5 q4 o8 o2 h5 p3 q3 h0 p7 i3 m0 o4 h7 e4:Option Addr} {v3 v5 t3 B9 v2 s3 C3 r1 y6 m5 p8 r0 n6 m4 g6 p9 g8:Array (Option Value)} {x5 s4 x6 B1 m6 u9 u3 s7 r3 C6 q8 x8 s2 u5 t9 w1 m3 r6 w6 v1 s8 w9 m9 v0 B3 u8 y4 B4 n2 t1 v7 w7 C0 t6 j6 y9 A3 C7 A7 u0 p6 r5 s9 A1 y5 t0 n3 y8 r9 x9 v8 t5 n8 w4 l0 o6 o5 o9 e2 h3 k0 o1 n9 j3 d8 o3 n1 j8 j1 q7 d9 q0 i6 h8 j0 p4 e5 o0 q2 g5 q6 o7 e3 h4 q1 j5 q9 i0 e6 p5 g9 n0 j7 i5 d6 h9 h6 e0 d7 e1 d5 e7:Value}
  (U:nsIn K XH "_law_same"=some (some (.ref V))) (l1:K.lookup V=some ⟨x5,C4,.func (fnOf "_law_same" "_law_same" (cH gM) (bT gM) (aK gM) .none s4 x6 B1 w8 m6 u9),v3⟩) (c1:codeIn K m6 "_law_same"=true) (F:keepIn K (.ref V)=true)
  (a2:nsIn K XH "_law_tape"=some (some (.ref N))) (l2:K.lookup N=some ⟨u3,B7,.func (fnOf "_law_tape" "_law_tape" (cH iM) (bT iM) (aK iM) .none s7 r3 C6 A2 q8 x8),v5⟩) (c2:codeIn K q8 "_law_tape"=true) (k2:keepIn K (.ref N)=true)
  (a3:nsIn K XH "_law_draw"=some (some (.ref f3))) (l3:K.lookup f3=some ⟨s2,s6,.func (fnOf "_law_draw" "_law_draw" (cH iI) (bT iI) (aK iI) .none u5 t9 w1 r7 m3 r6),t3⟩) (c3:codeIn K m3 "_law_draw"=true) (k3:keepIn K (.ref f3)=true)
  (a4:nsIn K XH "_law_names"=some (some (.ref f4))) (l4:K.lookup f4=some ⟨w6,t8,.func (fnOf "_law_names" "_law_names" (cH fP) (bT fP) (aK fP) .none v1 s8 w9 t4 m9 v0),B9⟩) (c4:codeIn K m9 "_law_names"=true) (k4:keepIn K (.ref f4)=true)
  (a5:nsIn K XH "_law_turn"=some (some (.ref f5))) (l5:K.lookup f5=some ⟨B3,w5,.func (fnOf "_law_turn" "_law_turn" (cH iJ) (bT iJ) (aK iJ) .none u8 y4 B4 r8 n2 t1),v2⟩) (c5:codeIn K n2 "_law_turn"=true) (k5:keepIn K (.ref f5)=true)
  (a6:nsIn K XH "_law_joinings"=some (some (.ref f6))) (l6:K.lookup f6=some ⟨v7,A4,.func (fnOf "_law_joinings" "_law_joinings" (cH cV) (bT cV) (aK cV) .none w7 C0 t6 A8 j6 y9),s3⟩) (c6:codeIn K j6 "_law_joinings"=true) (k6:keepIn K (.ref f6)=true)
  (a7:nsIn K XH "_law_classes"=some (some (.ref f7))) (l7:K.lookup f7=some ⟨A3,A5,.func (fnOf "_law_classes" "_law_classes" (cH bQ) (bT bQ) (aK bQ) .none C7 A7 u0 y3 p6 r5),C3⟩) (c7:codeIn K p6 "_law_classes"=true) (k7:keepIn K (.ref f7)=true)
  (a8:nsIn K XH "_law_counted"=some (some (.ref f8))) (l8:K.lookup f8=some ⟨s9,y0,.func (fnOf "_law_counted" "_law_counted" (cH eZ) (bT eZ) (aK eZ) .none A1 y5 t0 t2 n3 y8),r1⟩) (c8:codeIn K n3 "_law_counted"=true) (k8:keepIn K (.ref f8)=true)
  (a9:nsIn K XH "_law_numbers"=some (some (.ref f9))) (l9:K.lookup f9=some ⟨r9,y7,.func (fnOf "_law_numbers" "_law_numbers" (cH e_) (bT e_) (aK e_) .none x9 v8 t5 B0 n8 w4),y6⟩) (c9:codeIn K n8 "_law_numbers"=true) (k9:keepIn K (.ref f9)=true)
  (B2:nsIn K XH "ends_by_name"=some (some (.ref g3))) (x4:K.lookup g3=some ⟨l0,i7,.func (fnOf "ends_by_name" "ends_by_name" (cH cX) (bT cX) (aK cX) .none o6 o5 o9 j9 e2 h3),m5⟩) (s1:codeIn K e2 "ends_by_name"=true) (i8:keepIn K (.ref g3)=true)
  (u2:nsIn K XH "ways_from"=some (some (.ref g1))) (t7:K.lookup g1=some ⟨k0,q5,.func (fnOf "ways_from" "ways_from" (cH gY) (bT gY) (aK gY) .none o1 n9 j3 q4 d8 o3),p8⟩) (v4:codeIn K d8 "ways_from"=true) (m7:keepIn K (.ref g1)=true)
  (r2:nsIn K XH "trees"=some (some (.ref g4))) (x7:K.lookup g4=some ⟨n1,o8,.func (fnOf "trees" "trees" (cH nA) (bT nA) (aK nA) .none j8 j1 q7 o2 d9 q0),r0⟩) (u7:codeIn K d9 "trees"=true) (n4:keepIn K (.ref g4)=true)
  (A6:nsIn K XH "counted"=some (some (.ref e8))) (y2:K.lookup e8=some ⟨i6,h5,.func (fnOf "counted" "counted" (cH ju) (bT ju) (aK ju) .none h8 j0 p4 p3 e5 o0),n6⟩) (w2:codeIn K e5 "counted"=true) (n5:keepIn K (.ref e8)=true)
  (u4:nsIn K XH "steps_of"=some (some (.ref e9))) (B8:K.lookup e9=some ⟨q2,q3,.func (fnOf "steps_of" "steps_of" (cH iK) (bT iK) (aK iK) .none g5 q6 o7 h0 e3 h4),m4⟩) (A9:codeIn K e3 "steps_of"=true) (j4:keepIn K (.ref e9)=true)
  (y1:nsIn K XH "tree_way"=some (some (.ref f0))) (C1:K.lookup f0=some ⟨q1,p7,.func (fnOf "tree_way" "tree_way" (cH gR) (bT gR) (aK gR) .none j5 q9 i0 i3 e6 p5),g6⟩) (C5:codeIn K e6 "tree_way"=true) (g7:keepIn K (.ref f0)=true)
  (x0:nsIn K XH "numbers_of"=some (some (.ref g2))) (x2:K.lookup g2=some ⟨g9,m0,.func (fnOf "numbers_of" "numbers_of" (cH eF) (bT eF) (aK eF) .none n0 j7 i5 o4 d6 h9),p9⟩) (s5:codeIn K d6 "numbers_of"=true) (i9:keepIn K (.ref g2)=true)
  (u1:nsIn K XH "law"=some (some (.ref g0))) (z0:K.lookup g0=some ⟨h6,h7,.func (fnOf "law" "law" (cH l_) (bT l_) (aK l_) .none e0 d7 e1 e4 d5 e7),g8⟩) (w0:codeIn K d5 "law"=true) (A0:keepIn K (.ref g0)=true)
  (O:nsIn K XH "abs"=some none)
  (z2:nsIn K XH "all"=some none)
  (z3:nsIn K XH "bool"=some none)
  (z4:nsIn K XH "dict"=some none)
  (z5:nsIn K XH "enumerate"=some none)
  (z6:nsIn K XH "int"=some none)
  (z7:nsIn K XH "isinstance"=some none)
  (z8:nsIn K XH "len"=some none)
  (z9:nsIn K XH "list"=some none)
  (B5:nsIn K XH "min"=some none)
  (C2:nsIn K XH "range"=some none)
  (x3:nsIn K XH "reversed"=some none)
  (r4:nsIn K XH "sorted"=some none)
  (u6:nsIn K XH "str"=some none)
  (w3:nsIn K XH "tuple"=some none)
  (s0:nsIn K XH "zip"=some none) :
  ∃fd:Yu,(∀(s:zb)(v:Value),adC s fd ⟨[v],[]⟩ [("_law_script",v)])/\∀base:Heap,K.In base->base.Ns XH mg->gw l.prog w K mg base CX0 5 fa fd Oq (K9 K):=by
 have e:=B6.symm.trans (mg_of X G u1);cases e;have B:Blt mg:=⟨mg_none_of X G O,mg_none_of X G z2,mg_none_of X G z3,mg_none_of X G z4,mg_none_of X G z5,mg_none_of X G z6,mg_none_of X G z7,mg_none_of X G z8,mg_none_of X G z9,mg_none_of X G B5,mg_none_of X G C2,mg_none_of X G x3,mg_none_of X G r4,mg_none_of X G u6,mg_none_of X G w3,mg_none_of X G s0⟩;have F1:=fO (st:=gM) l1 c1 F;have F2:=fO (st:=iM) l2 c2 k2;have F3:=fO (st:=iI) l3 c3 k3;have F4:=fO (st:=fP) l4 c4 k4;have F5:=fO (st:=iJ) l5 c5 k5;have F6:=fO (st:=cV) l6 c6 k6;have F7:=fO (st:=bQ) l7 c7 k7;have F8:=fO (st:=eZ) l8 c8 k8;have F9:=fO (st:=e_) l9 c9 k9;have p0:=fO (st:=cX) x4 s1 i8;have n7:=fO (st:=gY) t7 v4 m7;have m8:=fO (st:=nA) x7 u7 n4;have m2:=fO (st:=ju) y2 w2 n5;have m1:=fO (st:=iK) B8 A9 j4;have i4:=fO (st:=gR) C1 C5 g7;have j2:=fO (st:=eF) x2 s5 i9;have v9:=fO (st:=l_) z0 w0 A0;refine⟨fnOf "law" "law" (cH l_) (bT l_) (aK l_) .none e0 d7 e1 e4 d5 e7,λs v=>.of_eq rfl,λbase _ _=>?_⟩;have b6:Cal l.prog w K mg base (0+0) "_law_same" nl0 (spP ⟨K,mg⟩ (λ_=>none)):=⟨_,_,Ka,mg_of X G U,F,F1.binds (ps:=nl0) λ_ _ _ _ _ _=>un2 λ_ _=>rfl⟩;have b4:Cal l.prog w K mg base (0+1) "_law_same" nl0 (spP ⟨K,mg⟩ (aQ (λ_=>none))):=⟨_,_,jR (n:=0) F1 B  b6,mg_of X G U,F,F1.binds (ps:=nl0) λ_ _ _ _ _ _=>un2 λ_ _=>rfl⟩;have b7:Cal l.prog w K mg base (0+2) "_law_same" nl0 (spP ⟨K,mg⟩ (aQ (aQ (λ_=>none)))):=⟨_,_,jR (n:=1) F1 B  b4,mg_of X G U,F,F1.binds (ps:=nl0) λ_ _ _ _ _ _=>un2 λ_ _=>rfl⟩;have b8:Cal l.prog w K mg base (0+3) "_law_same" nl0 (spP ⟨K,mg⟩ (aQ (aQ (aQ (λ_=>none))))):=⟨_,_,jR (n:=2) F1 B  b7,mg_of X G U,F,F1.binds (ps:=nl0) λ_ _ _ _ _ _=>un2 λ_ _=>rfl⟩;have Y:sJ l.prog w K mg base:=⟨_,_,jR (n:=3) F1 B  b8,mg_of X G U,F,F1.binds (ps:=nl0) λ_ _ _ _ _ _=>un2 λ_ _=>rfl⟩;have d1:sE l.prog w K mg base:=⟨_,_,zN F2 B,mg_of X G a2,k2,F2.binds (ps:=nl6) λ_ _ _ _ _ _=>un2 λ_ _=>rfl⟩;have I:jY l.prog w K mg base:=⟨_,_,Ah F3 B,mg_of X G a3,k3,F3.binds (ps:=nl7) λ_ _ _ _ _ _=>un2 λ_ _=>rfl⟩;have b9:o_ l.prog w K mg base:=⟨_,_,zf F4 B I,mg_of X G a4,k4,F4.binds (ps:=nl1) λ_ _ _ _ _ _=>un1 λ_=>rfl⟩;have d0:sS l.prog w K mg base:=⟨_,_,zU F5 B I,mg_of X G a5,k5,F5.binds (ps:=nl1) λ_ _ _ _ _ _=>un1 λ_=>rfl⟩;have a0:lQ l.prog w K mg base:=⟨_,_,tO F6 B I,mg_of X G a6,k6,F6.binds (ps:=nl8) λ_ _ _ _ _ _=>un3 λ_ _ _=>rfl⟩;have b1:mF l.prog w K mg base:=⟨_,_,uI F7 B,mg_of X G a7,k7,F7.binds (ps:=nl9) λ_ _ _ _ _ _=>un2 λ_ _=>rfl⟩;have J:jE l.prog w K mg base:=⟨_,_,uF F8 B,mg_of X G a8,k8,F8.binds (ps:=nl4) λ_ _ _ _ _ _=>un2 λ_ _=>rfl⟩;have b2:mj l.prog w K mg base:=⟨_,_,uG F9 B b1 J,mg_of X G a9,k9,F9.binds (ps:=Od) λ_ _ _ _ _ _=>un3 λ_ _ _=>rfl⟩;have b0:mG l.prog w K mg base:=⟨_,_,sY p0 B,mg_of X G B2,i8,p0.binds (ps:=nl2) λ_ _ _ _ _ _=>un2 λ_ _=>rfl⟩;have c0:sW l.prog w K mg base:=⟨_,_,yR n7 B,mg_of X G u2,m7,n7.binds (ps:=Oz) λ_ _ _ _ _ _=>un2 λ_ _=>rfl⟩;have d4:DW l.prog w K mg base:=⟨_,_,MK m8 B b0 c0,mg_of X G r2,n4,m8.binds (ps:=nl2) λ_ _ _ _ _ _=>un2 λ_ _=>rfl⟩;have b3:qZ l.prog w K mg base:=⟨_,_,Dv m2 B,mg_of X G A6,n5,m2.binds (ps:=nl5) λ_ _ _ _ _ _=>un2 λ_ _=>rfl⟩;have d2:vL l.prog w K mg base:=⟨_,_,zT m1 B b3,mg_of X G u4,j4,m1.binds (ps:=QS) λ_ _ _ _ _ _=>un3 λ_ _ _=>rfl⟩;have d3:vI l.prog w K mg base:=⟨_,_,Be i4 B,mg_of X G y1,g7,i4.binds (ps:=Qn) λ_ _ _ _ _ _=>un2 λ_ _=>rfl⟩;have b5:pP l.prog w K mg base:=⟨_,_,v6 j2 B d4 d2 b3 d3,mg_of X G x0,i9,j2.binds (ps:=Ou) λ_ _ _ _ _ _=>un3 λ_ _ _=>rfl⟩;exact gw.imp (RG v9 B Y d1 b9 d0 a0 b2 b5 J) λvs H Q E ⟨a,ns,e,hS,Z,q⟩=>by subst e;exact SM Z hS q
theorem walk{q:X7}{V:List Str}{J:(Str->Option Value)->Heap->Prop}{I:World->Heap->Prop}{d:DefRec}{K:Params->Frag}(hn:l.most=some 63)(B:d.params.defaults=[])
  (N:∀(w:World)(h:Heap),I w h->(K w.params).In h)
  (F:∀(w:World)(mg:Str->Option Value)(fa:Addr)(h:Heap),(K w.params).In h->h.Ns XH mg->mg d.name=some (.ref fa)->
   ∃fd:Yu,(∀(s:zb)(u:Value),adC s fd ⟨[u],[]⟩ [("_law_script",u)])/\∀base:Heap,(K w.params).In base->base.Ns XH mg->gw l.prog w (K w.params) mg base CX0 5 fa fd Oq (K9 (K w.params))) :
  afn q V J I l.row.toRowW d [] (λf vs=>ae7 f vs):=
 L2.walk_of (n:=63) (k:=5) (x:="_law_script") (CX:=λ_=>CX0) (sp:=λw=>K9 (K w.params)) hn 1.27 B ⟨rfl,by decide,by decide,rfl⟩ N F (λ_ _ a ns Z _ Y=>⟨a,ns,rfl,Y,Z,λ_=>rfl⟩) λ_ _ _ _ _ z=>z
end Jb
end
namespace PySem.W.Fast
def tw18249476852574702957:=0
def tw18073646747292597999:=0
def tw18061064398158327674:=0
def tw8343456345384055556:=0
def tw6230024265100073568:=0
def tw4395113371816519269:=0
def tw15153122562802984093:=0
def tw11379846430873034227:=0
def tw10115910750192225837:=0
def tw12573863681655861574:=0
def tw10115726598158853010:=0
def tw2724128313927611069:=0
def tw1189504313012002608:=0
def tw3492366991002363541:=0
def tw2983681736846647527:=0
def tw8554787120220498113:=0
def tw6338073444889274434:=0
def tw1792705924392698915:=0
def tw4214392642579773363:=0
def tw3914700907609678189:=0
def tw11270840921266078294:=0
def tw3772825545335638620:=0
def tw4960837219418920156:=0
def tw16024798071722236324:=0
def tw14682541891212576101:=0
def tw7168917127991836362:=0
def tw6642551355037367276:=0
def tw15698197764372471077:=0
def tw6926406599238102838:=0
def tw15874937718313186889:=0
def tw4335228823400007411:=0
def tw2450672898958822787:=0
def tw8530298994011028152:=0
def tw3885417619013801240:=0
def tw5243485648318351140:=0
def tw15253023866185755059:=0
def tw17099274435716263460:=0
def tw18319563339646471220:=0
def tw514315112057778894:=0
def tw9238425366476934457:=0
def tw9488900348331220242:=0
def tw2616680540182819308:=0
def tw9226095979093132100:=0
def tw14128489226416207965:=0
def tw12584913926048549312:=0
def tw3985518761152306661:=0
def tw7905131674318242731:=0
def tw7312588093403425968:=0
def tw6040019373455884962:=0
def tw17987556333280920511:=0
def tw5710319869353540535:=0
def tw9120264810722577449:=0
def tw9836234015470115377:=0
def tw16260593666595138734:=0
def tw1144827894958570812:=0
def tw3974165964836524771:=0
def tw13669696168652216384:=0
def tw13854103887129559940:=0
def tw14666373524741416331:=0
def tw11383046295862260086:=0
def tw16087922357660514882:=0
def tw7314740303122201710:=0
def tw7592175733977069288:=0
def tw12331490721772236339:=0
def tw16081238654840975544:=0
def tw7920781752355407159:=0
def tw1510940712788666791:=0
def tw60176768644041086:=0
def tw632825639993498033:=0
def tw7241715353491818875:=0
def tw2890895166216192406:=0
def tw6553241255980955419:=0
def tw16443345709504039000:=0
def tw12406760847326607688:=0
def tw2455308791627766472:=0
def tw1653972931558767280:=0
def tw3058015074436530975:=0
def tw16993229082603601024:=0
def tw16214407166253418560:=0
def tw2631573294887144088:=0
def tw9256383227783416893:=0
def tw14753637748005916677:=0
def tw15552440923131746800:=0
def tw2321674822668871015:=0
def tw13601171181434215400:=0
def tw10772858623339408807:=0
def tw7421896567380692309:=0
def tw3112064446942773922:=0
def tw9155543683775296992:=0
def tw12677551194530833678:=0
def tw11466406861640448750:=0
def tw13801679318614919509:=0
def tw17818612834520510873:=0
def tw9267819874065731824:=0
def tw12394606699577095196:=0
def tw4792580202162658942:=0
def tw2153201544775951229:=0
def tw8071613556144906205:=0
def tw283413918204641004:=0
def tw17053735457379324696:=0
def tw16944525682575975085:=0
def tw14346452894935205797:=0
def tw17053670928351370547:=0
end PySem.W.Fast
open PySem PySem.W PyProof.Rows
set_option maxRecDepth 100000 in
set_option maxHeartbeats 0 in
theorem PySem.Challenge.cw_joinback_k04_numbers_holds : PySem.Challenge.rw_joinback_k04_numbers.Holds := by
 w_on;o_law;k_head;(case hw=>w_witness2)
 k_fill
 refine Jb.walk (l:=PySem.Challenge.rw_joinback_k04_numbers) rfl rfl (λw h Y=>PySem.W.kIn_of Y) ?F
 case F=>
  intro w mg fa h KX G hmg;refine' Jb.all_mk KX G hmg ?_ ?_ ?_ ?_ ?_ ?_ ?_ ?_ ?_ ?_ ?_ ?_ ?_ ?_ ?_ ?_ ?_ ?_ ?_ ?_ ?_ ?_ ?_ ?_ ?_ ?_ ?_ ?_ ?_ ?_ ?_ ?_ ?_ ?_ ?_ ?_ ?_ ?_ ?_ ?_ ?_ ?_ ?_ ?_ ?_ ?_ ?_ ?_ ?_ ?_ ?_ ?_ ?_ ?_ ?_ ?_ ?_ ?_ ?_ ?_ ?_ ?_ ?_ ?_ ?_ ?_ ?_ ?_ ?_ ?_ ?_ ?_ ?_ ?_ ?_ ?_ ?_ ?_ ?_ ?_ ?_ ?_ ?_ ?_
  any_goals k_is
