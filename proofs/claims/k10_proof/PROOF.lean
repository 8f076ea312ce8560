import PyProof.Rows.All
import Wide.All
import OpenK.AllK
import Wide.FinOn
import Lean
import PyProof.EqAt
import PyProof.EqKinds
import PyProof.TupleCall
import KE.KDictList
import KE.KMinBuiltin
import KE.KSortTup
import PyProof.AttrMissHeap
import PyProof.NeKinds
import PyProof.Rows.CallKwBuiltin
import PyProof.TupleIter
import PyProof.TupleOfSeq
import PySem.Challenge.RW_joinback_k10_fewest_ways
set_option Elab.async false
set_option linter.all false
set_option compiler.extract_closed false
set_option maxRecDepth 100000
open Lean.Parser.Command Lean.Parser.Term in
local macro_rules
 |`(command|def $i:declId $s:optDeclSig := $v)=>`(command|noncomputable def $i $s := $v)
 |`(command|def $i:declId $s:optDeclSig $[$a:matchAlt]*)=>`(command|noncomputable def $i $s:optDeclSig $[$a:matchAlt]*)
section
def Tz:=@if_pos
def TQ:=@if_neg
def T8:=@decide_eq_false
def Ud:=@if_true
def Vm:=@decide_eq_true
def VM:=@if_false
def V6:=@getElem?_pos
def Wx:=@decide_eq_true_eq
open PySem renaming wpAny_bind->gD,Shared->S6,wpAny_pure->S7,sizeLine->Te,starEach->Tj,mainGlobals->Uc,Program->Uj,wpAny_newObj_type->Uu,compareOp->UL,Around->U4,FuncData->U_,wpAny_holding->Va,backTo->Vf,rawInt->Vh,wpAny_callSpecial?_slot->Vj,wpAny_mono->Vn,binaryOp->Vp,codeAny_call_builtin->Vv,foldedSetIterable->VJ,sysModules->VP,assignEach->VR,codeAny_builtin->V0,bootBuiltins->V3,Keyword->Wd,wpAny_rule->Wj,codeAny->Wu,wpAny_setState_of->Wy,attributeBase->Wz,plainId_quiet->WD,mem_of_lookup->WM,swapsWith->WT,wpAny_setField_rec->WX,wpAny_passesOwn->WY,valueAt->W0,keywordEach->W8,wpAny_typeOf->Xa,wpAny_isInstance->Xc,SetTable->Xe,wpAny_askSetting->Xf,holding->Xh
open PySem renaming wpAny_standAt->Xi,swapsWithSole->Xj,wpAny_Call_Name_kw->Xk,tupleKind_room_in1->Xl,pickOrder->Xm,wpAny_of_eq->Xo,IsPart->Xu,call_meetsIn->Xw,firstArgMember->Xx,builtinLookup_eq_fast->Xy,scanBound->XD,wpAny_call_entry->XJ,behindInMarks->XR,sizeLine_eq->XS,sliceBounds->XX,letOwnedTupleGo->X5,pyNext->Yb,codeAny_mono->Yc,backToKw->Yh,boot_len->Yl,call_meets->Ym,wpAny_pyIter_enum->Yt,assign->Yx,wpAny_pyNext_list_item->Yy,wpAny_field->YC,wpAny_throw->YF,swappedStores->YK,wpAny_attempt->YM,NameKind->YS,tupleKind->Y4,wpAny_pyNext_list_end->Y6,wpAny_execs_nil->Y_,wpAny_load->Za,typeLookup_type->Zd,getItem->Zk,newList->Zm,isSubtype_type->Zo,unsupported->Zt,PassesOwn->Zw,wpAny_letOwnedTupleGo_enum->ZL
open PySem renaming wpAny_handled->ZM,holding->ZQ,wpAny_truthy_bool->ZS,wpAny_pyIter_list->ZV,PlainAttrs->Z0,callerA->Z3,Paired->Z4,noFill_tuple_add->Z7,wpAny_comprehension_free->Z9,relayAll->aac,exec_Assign_arm->aam,seqItems?->aao,wpAny_ite_split->aaq,wpAny_Call_method_late->aat,richCompare_meets_room->aaz,isTrue->aaB,pyIter->aaC,Result->aaE,BindsTo->aaF,stored->aaI,wpAny_seqItems->aaK,wpAny_notOrdered_dict->aaL,setNext->aaQ,dictSetDefault->aaS,typeLookup->aaU,wpAny_newFunctionEnv->aaX,attributeErrorLeaves->aaY,entryFor->aaZ,assignInOrder->aa5,seq_tuple_add->aa6,wpAny_dictSet_pairs->abe,concat_meets->abp,seqIndex_neg->abq,list_append->abH,seqIndex_of->abR,call->ab9,Fin->acj
open Option renaming bind_some->S8,map_some->Ux,getD_some->XQ,isSome_iff_exists->Z6,map->aa3,isSome_map->abI,getD_none->abX
open List renaming mem_append->S9,mem_append_right->Tc,getElem?_eq_getElem->Td,mem_cons->Tf,mem_append_left->Th,mem_singleton->Ti,mem_map->Tp,nodup_append->Tu,length_map->Tv,map_cons->TF,map_map->TX,append_nil->T3,nodup_cons->T5,mem_cons_of_mem->T7,mem_of_getElem?->T9,length_cons->T_,range->Ue,cons_append->Ug,getElem?_cons_succ->Uh,length_append->Ui,getElem?_cons_zero->Ul,getElem?_append_left->Uq,mem_cons_self->Ur,set_cons_succ->Us,findIdx?_eq_none_iff->Ut,map_append->Uy,findIdx?_eq_some_iff_getElem->Uz,length_nil->UJ,Perm->UT,sublist_append_right->UV,map_congr_left->UW,replicate->U3,set_cons_zero->U5,map_nil->U7,getElem?_append_right->Vb,Sublist->Vs,length_take->Vu,getElem_mem->Vw,pairwise_append->Vx,getD_eq_getElem?_getD->Vz
open List renaming mem_range->VD,getElem_cons_drop->VG,take_of_length_le->VH,getElem_of_mem->VN,drop_eq_getElem_cons->V1,sublist_append_left->V5,pairwise_cons->V7,length->V8,append_assoc->V_,getElem?_set_self->Wa,drop_length->Wb,getElem?_eq_none->We,take_append_drop->Wf,getElem?_eq_none_iff->Wg,find?_cons->Wo,pairwise_singleton->WL,length_drop->WN,getElem?_set->W5,map_id->Xp,eq_nil_of_length_eq_zero->Xq,set_append_right->XC,any_eq_true->XM,mem_of_mem_take->XN,filterMap_cons->X3,pairwise_iff_getElem->X7,foldl_cons->X8,length_range->Ys,ext_getElem?->Yu,take_add_one->Yw,eraseIdx_append_of_length_le->YG,drop_eq_nil_of_le->YH,drop_of_length_le->YJ,any_cons->YL,nil_sublist->YT,countP_cons->YW,not_mem_nil->YX,take_length->YZ,mem_iff_getElem?->Y7,perm_append_comm->Y8,of_mem_zip->Zb
open List renaming mem_of_mem_drop->Ze,mem_filterMap->Zx,all_cons->ZK,getElem?_inj->ZW,getElem_inj->Z5,lookup_cons->Z8,set_eq_of_length_le->Z_,all_eq_true->aaa,zip->aab,getElem?_replicate->aag,range_succ_eq_map->aau,pairwise_lt_range->aax,length_singleton->aaH,drop_zero->aaM,mapM_cons->aaN,getElem?_toArray->aaR,getElem?_of_mem->aa1,length_eraseIdx->aa2,Pairwise->aa_,map_take->aba,getElem?_range->abg,length_pos_iff->abj,findIdx?_cons->abu,toArray->abv,zip_cons_cons->abz,take_sublist->abG,pairwise_map->abP,map_fst_zip->ab1,map_snd_zip->ab2,ext_getElem->ab4,mem_filter->ab7
open PySem.Heap renaming get?_push_of_some->S_,lt_size->TJ,get?_push_size->TV,get?_update_other->U9,size_push->VF,get?_update_self->Wc,SameBut->Wi,get?_update_ne->abh,size_update->abZ
open Nat renaming le_refl->Tg,ne_of_lt->T4,lt_of_lt_of_le->T6,lt_irrefl->Vq,le_trans->V4,le_of_lt->Wh,sub_self->Wq,lt_succ_of_lt->Wv,zero_le->WQ,ne_of_gt->W_,lt_succ_self->Xb,zero_add->Xz,le_succ->Zr,not_lt_zero->aap,eq_zero_or_pos->abw,lt_or_ge->aby,min_le_right->abW,succ_ne_self->ab0,min_eq_right->ab6,min_eq_left->acb
open PySem.W renaming Frag->Tn,kia_one->Vt,fnOf->Yd,kitx_list->Yq,kitx_dict->Yr,kitOne->Zi,keepIn->Zj,kitAny->Zn,methodObj->ZR,instObj->aal,OpenLaw->aan,cellsFrom_some->aar,lookIn->aaD,codeIn->aaG,kitx_float->abm,kitx_tuple->abn,kitx_none->abD,kitx_bool->abE,plainGet->abS,kitx_int->abT,kitx_str->abU,kitx_own->abV,kas_kind->ab3,findIn->acd,WalkO->acn
open Bool renaming and_eq_true->TY,false_ne_true->Uk,false_eq_true->Uo,and_self->VB,or_eq_true->X6,and_true->YQ,eq_iff_iff->Zf,and_eq_true_iff->aaW,not_true->aa8,and_assoc->acf,and_false->acg
open Array renaming getD_eq_getD_getElem?->Ua,length_toList->U6,getElem_toList->Wr,getElem?_toList->Xv,toList_push->ZX,getElem?_eq_none->aay,size_append->abO
open Sum renaming inr->Ub,inl->Z2
open PySem.Value renaming ref->Um,none->Uv,type->V9,str->Y0,int->Zu,bool->aaT,float->abQ,isStrOf->ack
open Option.some renaming inj->UG,injEq->Xr
open Ne renaming symm->U0
open Or renaming inr->U8,inl->Vr
open True renaming intro->Vc
open PySem.Builtin.Slice renaming sliceAdjust->Vd,slicePlaces->Ve,sliceApplied->W3
open PySem.PassesOwn renaming never->Vg
open PyProof.Rows renaming slot_tuple_getitem->Vi,callWith_type1->WW,envOfC->Yz,AllBare->Y5,assignInOrder_cons->Zv,subscriptTail_builtinR->aas,mirror_perm->aav,seqObj->aaP,entry_tuple_getitem->abb,boot_list->abA,IntsAre->abB
open PySem.Builtin.Str renaming occurrences->Vk,strKind->X4,partsBetween->Yj
open PySem.F renaming plainAttrs_list->Vl,slot_tuple_iterator_next->Vy,slot_dict_get->V2,slot_list_append->Ws,type_list_append->Wt,plainAttrs_dict->WK,slot_list_getattribute->Xd,called_set->Xg,entry_dict_get->Xn,args_tuple_add_2->Ye,entry_tuple_add->Yo,slot_tuple_add->YB,type_dict_get->Y9,args_tuple_iterator_next_1->Zq,entry_tuple_iterator_next->Zz,plain_extend_loop->Z1,args_dict_get_2->aah,args_dict_get_3->aai,args_list_append_2->aaV,args_dict_update_2->aa0,entry_list_append->abd,entry_dict_update->abf,slot_list_append->abr,slot_dict_update->abt,plain_list_iadd->abN
open PySem.Around renaming under_plainId->Vo
open Int renaming toNat_natCast->VL,le_refl->WR,emod_nonneg->X_,emod_lt_of_pos->Yk,le_trans->Zg,fmod_eq_emod_of_nonneg->ZF,fdiv_eq_ediv_of_nonneg->ZG
open PySem.Builtin.Tuple renaming tupleExact->Wl,tupleItemsOf->ZJ
open PySem.Obj renaming mapSeq->Wm,data_mapFields->Zy,isFreed_of_fields->aaJ,data_mapDictKeys->aa4,cls_mapFields->abK,putSet->aca
open List.Sublist renaming refl->Ww
open ForInStep renaming yield->W2
open Function renaming comp->W4
open False renaming elim->W6
open PySem.Builtin.SmallTypes renaming nextOf->W7,stopIteration->ZP,ownedTupleFields->abC,newRecord->ace
open PySem.SetTable renaming grown->W9,insertAt->abM,Probe->ach,fits->acq
open PySem.Builtin.List renaming listLengthHint->XF,listExtendWith->XH,listTooLong->Yi,listSameRef->aad
open PySem.Str renaming ofString->Yg
open List.Perm renaming refl->Yn,append_left->aaO,mem_iff->abL
open PyProof.Rows.F renaming plain_set_update_loop->Yp,entry_set_update_loop->aak
open PySem.SetTable.below renaming go->Yv
open PySem.Calls renaming callWith_builtin->YD,evalArgs_plain->Zc,Name_function_global->ZD,spliced_cons->abo,spliced_nil->abF
open PySem.Heap.SameBut renaming update->Zh
open PySem.Paired renaming length->ZC
open PySem.SetTable.probe renaming go->ZZ
open PySem.AutoSeq1 renaming sub_tuple_tuple->aae,sub_list_list->aaw
open PySem.SeqAt.EqAt renaming int_int->aaf,int_str->abk,str_int->abl
open PySem.Builtin.Dict renaming updateFrom->aaj
open PySem.Challenge renaming pw_joinback_k10_fewest_ways->aaA
open PySem.NameKind renaming free->aa7
open Prod.mk renaming injEq->aa9
open Std.Legacy.Range renaming forIn_eq_forIn_range'->abi,size->acw
open PySem.pickOrder renaming go->abx
open List.Pairwise renaming nil->abJ
open PySem.IsL renaming update->abY
open PySem.SeqAt renaming EqAt->ab5
open PySem.Heap.DictOf renaming new->ab8
open List.cons renaming injEq->ab_
open PySem.Builtin.Frozenset renaming updateFrom->aci,newClass->aco,addrOf->acr,sizeOf->acs,slot0->acu
open PySem.Shared renaming TypeIs->acp
open Sum.inr renaming inj->acv
open PySem
variable{XP:(Str->Option Value)->Heap->Prop}{a it f dx l S:Addr}{A:Around}{g' g:Array GenState}{p xs:Array Nat}{items:Array Value}{b:Bool}{op:CmpOp}{d' d:Drawn}{env:Env}{e c tg elt target:Expr}{h h' base:Heap}{C:Int->Int->Prop}{pins:List (Addr×Obj)}{ch M fp L:List Addr}{es ifs elts:List Expr}{js:List Nat}{B:List Stmt}{N ps ks U ns N' ys:List Str}{us vs its:List Value}{t' i j n tk ep x1:Nat}{ob pr:Nat->Bool}{tn:Nat->Heap->Prop}{ρ:Nat->Int}{o:Obj}{pos pos' apos p2 cpos pos2 tpos p1:Pos}{prog:Program}{s':S6}{scope:Scope}{s:Shared}{x y name:Str}{O mg:Str->Option Value}{q:Str->Option YS}{T:String}{κ α β ι:Type}{fd:U_}{P:Uj}{u v v' u':Value}{RR:Value->Addr->aaE->S6->Prop}{Q:Value->S6->Prop}{E:Value->Shared->Prop}{w:World}{YP:World->Heap->Prop}{R:aaE->S6->Prop}
namespace L2
open PySem PySem.Spec PyProof.Rows
abbrev Key:=Sum Int Str
def oW:Key->Value->Bool
 |.inl k,v=>Value.isInt k v
 |.inr x,v=>ack x v
def Sh(w:World):Key->Int
 |.inl k=>hashInt k
 |.inr x=>hashStr w x
theorem bN:∀{k:Key}{v:Value},oW k v=true->(∃i t,k=Z2 i/\v=Zu i t)∨(∃x t,k=Ub x/\v=Y0 x t)
 |.inl i,v,h=>by
  obtain⟨t,e⟩:=Value.isInt_shape (k:=i) (v:=v) h;exact .inl ⟨i,t,rfl,e⟩
 |.inr x,v,h=>by
  obtain⟨t,e⟩:=Value.isStrOf_shape (x:=x) (v:=v) h;exact .inr ⟨x,t,rfl,e⟩
theorem Dp(i:Int)(t:Tok):oW (.inl i) (.int i t)=true:=by simp[oW,Value.isInt]
theorem Ei(x:Str)(t:Tok):oW (.inr x) (.str x t)=true:=by simp[oW,ack]
theorem Nt(a b:Int):decide ((Z2 a:Key)=Z2 b)=(a==b):=by
 by_cases e:a=b
 .subst e;simp
 .have h:¬(Z2 a:Key)=Z2 b:=λq=>e (Sum.inl.inj q)
  rw[T8 h];exact(beq_eq_false_iff_ne.mpr e).symm
theorem NP(a b:Str):decide ((Ub a:Key)=Ub b)=decide (a=b):=by
 by_cases e:a=b
 .subst e;simp
 .have h:¬(Ub a:Key)=Ub b:=λq=>e (acv q)
  rw[T8 h,T8 e]
theorem O7(a:Int)(b:Str):decide ((Z2 a:Key)=Ub b)=false:=T8 (λq=>nomatch q)
theorem Oo(a:Str)(b:Int):decide ((Ub a:Key)=Z2 b)=false:=T8 (λq=>nomatch q)
noncomputable def aY(prog:Uj)(w:World):PySem.KeyKind prog w Key where
 is:=oW
 hash:=Sh w
 inj:=λv a b Y U=>by
  rcases bN Y with⟨i,t,rfl,rfl⟩|⟨x,t,rfl,rfl⟩
  .rcases bN U with⟨j,u,rfl,e⟩|⟨y,u,rfl,e⟩
   .injection e with e1 _;rw[e1]
   .exact nomatch e
  .rcases bN U with⟨j,u,rfl,e⟩|⟨y,u,rfl,e⟩
   .exact nomatch e
   .injection e with e1 _;rw[e1]
 byValue:=λk v h=>by
  rcases bN h with⟨i,t,rfl,rfl⟩|⟨x,t,rfl,rfl⟩<;>rfl
 pyHash:=λB h=>by
  rcases bN B with⟨i,t,rfl,rfl⟩|⟨x,t,rfl,rfl⟩
  .exact wpAny_pyHash_int h
  .exact wpAny_pyHash_str h
 eqBool:=λF B h=>by
  rcases bN F with⟨i,t,rfl,rfl⟩|⟨x,t,rfl,rfl⟩
  .rcases bN B with⟨j,u,rfl,rfl⟩|⟨y,u,rfl,rfl⟩
   .rw[Nt]at h;exact wpAny_eqBool_int h
   .rw[O7]at h;exact abk i t y u _ _ _ _ h
  .rcases bN B with⟨j,u,rfl,rfl⟩|⟨y,u,rfl,rfl⟩
   .rw[Oo]at h;exact abl x t j u _ _ _ _ h
   .rw[NP]at h;exact wpAny_eqBool_str h
 «strs»:=λk x t v h=>by
  rcases bN h with⟨i,u,rfl,e⟩|⟨y,u,rfl,e⟩
  .exact nomatch e
  .injection e with e1 _
   subst e1;cases v<;>rfl
theorem yL(prog:Uj)(w:World)(i:Int)(t:Tok):(aY prog w).is (.inl i) (.int i t)=true:=Dp i t
theorem yP(prog:Uj)(w:World)(x:Str)(t:Tok):(aY prog w).is (.inr x) (.str x t)=true:=Ei x t
inductive V where
 |non|bl (b:Bool)|int (i:Int)|str (x:Str)|byt (b:Array UInt8)|flt (b:UInt64)|ref (a:Addr)|ty (n:String)
 deriving DecidableEq
def RelV:V->Value->Prop
 |.non,u=>u=Uv
 |.bl b,u=>u=aaT b
 |.int i,u=>∃t,u=Zu i t
 |.str x,u=>∃t,u=Y0 x t
 |.byt b,u=>∃t,u=Value.bytes b t
 |.flt b,u=>∃t,u=abQ b t
 |.ref a,u=>u=Um a
 |.ty n,u=>u=V9 n
noncomputable abbrev Vals:List V->List Value->Prop:=Z4 RelV
variable{xs:List V}
theorem Vals.length(r:Vals xs us):xs.length=us.length:=ZC r
theorem Vals.get:∀{xs:List V}{us:List Value}{i:Nat}{x:V},Vals xs us->xs[i]? =some x->∃u,us[i]? =some u/\RelV x u
 |_,_,_,_,.nil,e=>by simp at e
 |_,_,0,_,.cons r _,e=>by simp at e;subst e;exact⟨_,rfl,r⟩
 |_,_,i+1,x,.cons _ t,e=>by
  obtain⟨u,h1,h2⟩:=Vals.get (i:=i) (x:=x) t (by simpa using e);exact⟨u,by simpa using h1,h2⟩
theorem Vals.set{x:V}(r:RelV x u):∀{xs:List V}{us:List Value}(i:Nat),Vals xs us->Vals (xs.set i x) (us.set i u)
 |_,_,_,.nil=>.nil
 |_,_,0,.cons _ t=>.cons r t
 |_,_,i+1,.cons q t=>.cons q (Vals.set r i t)
theorem Vals.append:∀{xs ys:List V}{us z:List Value},Vals xs us->Vals ys z->Vals (xs++ys) (us++z)
 |_,_,_,_,.nil,s=>s
 |_,_,_,_,.cons r t,s=>.cons r (Vals.append t s)
theorem Vals.take:∀{xs:List V}{us:List Value}(n:Nat),Vals xs us->Vals (xs.take n) (us.take n)
 |_,_,0,_=>.nil
 |_,_,_+1,.nil=>.nil
 |_,_,n+1,.cons r t=>.cons r (Vals.take n t)
theorem Vals.drop:∀{xs:List V}{us:List Value}(n:Nat),Vals xs us->Vals (xs.drop n) (us.drop n)
 |_,_,0,r=>r
 |_,_,_+1,.nil=>.nil
 |_,_,n+1,.cons _ t=>Vals.drop n t
def jY:Option V->Option Value->Prop
 |some v,some u=>RelV v u
 |none,none=>True
 |_,_=>False
def KV:List (κ×V)->List (κ×Value)->Prop:=Z4 λ(p:κ×V)(q:κ×Value)=>p.1=q.1/\RelV p.2 q.2
def kV:Key->V
 |.inl i=>.int i
 |.inr x=>.str x
inductive HO where
 |lst (xs:List V)
 |tup (xs:List V)
 |dK (kvs:List (Key×V))|dT (kvs:List (List Key×V))
 |set (S:Int->Bool) (n:Nat)
 |ins (C dx:Addr) (fs:List (Str×V))
 |own (x:Addr)
 |xd (fs:List (Str×V))
 |met (f x:Addr)
 |rng (lo hi:Int)
 |frz (o:Obj) (u:HO)
 |tbl (ps:Array Value)
 |ext (φ:Heap->Prop)
abbrev Hp:=Addr->Option HO
def upd(H:Hp)(a:Addr)(o:HO):Hp:=λb=>if b=a then some o else H b
variable{H:Hp}{o:HO}
theorem aM:upd H a o a=some o:=by unfold upd;rw[Tz rfl]
variable{b:Addr}
theorem aH(h:b≠a):upd H a o b=H b:=by unfold upd;rw[TQ h]
theorem Kf{u:HO}:upd (upd H a o) a u=upd H a u:=by
 funext b;unfold upd;split<;>rfl
theorem iG{u:HO}(h:H a=some o)(h':H b=some u)(d:o≠u):a≠b:=by
 intro e;subst e;rw[h]at h';exact d (UG h')
theorem bx(h:H a=some o)(h':H b=none):a≠b:=by
 intro e;subst e;rw[h]at h';cases h'
def j6(h:Heap)(a:Addr)(items:Array Value):Prop:=∃o,h.get? a=some o/\o.cls= .type "tuple"/\∃n,o.data= .seq items n/\o.dict=none
theorem j6.new(h:Heap)(items:Array Value):j6 (h.push {cls:=.type "tuple",data:=.seq items}) h.objs.size items:=⟨_,TV _ rfl,rfl,_,rfl,rfl⟩
theorem j6.t(x:j6 h a items):IsTup h a items:=let⟨o,e,c,n,d,_⟩:=x;⟨o,e,c,n,d⟩
section
variable(P:Program)(w:World)
def bB(H:Hp)(h:Heap)(a:Addr):HO->Prop
 |.lst xs=>xs.length<=Te/\∃(its:List Value)(n:Nat),Vals xs its/\h.get? a=some {cls:=.type "list",data:=.seq its.toArray n}
 |.tup xs=>xs.length<=Te/\∃its:List Value,Vals xs its/\j6 h a its.toArray
 |.dK kvs=>kvs.length<=Te/\(a==VP)=false/\∃vs,KV kvs vs/\h.DictOf (aY P w) a vs
 |.dT kvs=>kvs.length<=Te/\(a==VP)=false/\∃xs:List (List Key×Addr×Value),
  Z4 (λ(p:List Key×V)(q:List Key×Addr×Value)=>p.1=q.1/\H q.2.1=some (.tup (p.1.map kV))/\RelV p.2 q.2.2) kvs xs/\
  ∃o es ep,h.get? a=some o/\o.ExactDict/\o.data= .dict es ep/\es.toList=xs.map (entryOfKey (Y4 (aY P w)))/\(xs.map (·.1)).Nodup
 |.set S n=>h.SetOf (intKind P w) a S n
 |.ins C dx fs=>H dx=some (.own a)/\fs.length<=1000/\dx≠a/\h.get? a=some (aal C dx)/\
  ∃O,h.Ns1 dx O/\(∀f,jY (fs.lookup f) (O f))/\PySem.Within O (fs.map (·.1))
 |.own _=>∃o,h.get? a=some o
 |.xd fs=>∃O,h.Ns1 a O/\∀f,jY (fs.lookup f) (O f)
 |.rng lo hi=>∃t u v,h.get? a=some {cls:=.type "range",data:=.fields #[.int lo t,.int hi u,.int 1 v]}
 |.frz o u=>h.get? a=some o/\bB H h a u
 |.tbl ps=>h.get? a=some {cls:=.none,data:=.fields ps}
 |.met f x=>h.get? a=some (ZR (.ref f) (.ref x))
 |.ext F=>F h/\(∃o,h.get? a=some o)/\∀h1 h2:Heap,F h1->(∀o,h1.get? a=some o->h2.get? a=some o)->F h2
def HOk(H:Hp)(h:Heap):Prop:=∀a o,H a=some o->bB P w H h a o
end
variable{P:Program}
theorem bB.lt(x:bB P w H h a o):a<h.objs.size:=by
 cases o with
 |lst xs=>obtain⟨_,_,_,_,e⟩:=x;exact TJ e
 |tup xs=>obtain⟨_,_,_,p⟩:=x;exact p.t.lt
 |dK kvs=>obtain⟨_,_,_,_,o,_,_,e,_⟩:=x;exact TJ e
 |dT kvs=>obtain⟨_,_,_,_,o,_,_,e,_⟩:=x;exact TJ e
 |set S n=>obtain⟨o,_,_,_,e,_⟩:=x;exact TJ e
 |ins C dx fs=>obtain⟨_,_,_,e,_⟩:=x;exact TJ e
 |own y=>obtain⟨_,e⟩:=x;exact TJ e
 |xd fs=>obtain⟨_,⟨_,_,_,e,_⟩,_⟩:=x;exact TJ e
 |rng lo hi=>obtain⟨_,_,_,e⟩:=x;exact TJ e
 |frz ob u=>obtain⟨e,_⟩:=x;exact TJ e
 |tbl ps=>exact TJ (show h.get? a=some _ from x)
 |met f y=>exact TJ (show h.get? a=some _ from x)
 |ext F=>obtain⟨_,⟨_,e⟩,_⟩:=x;exact TJ e
theorem Paired.mapP{F G:α->β->Prop}:∀{q:List α}{z:List β},Z4 F q z->(∀a b,F a b->G a b)->Z4 G q z
 |_,_,.nil,_=>.nil
 |_,_,.cons r t,f=>.cons (f _ _ r) (Paired.mapP t f)
variable{H':Hp}
theorem bB.stay(x:bB P w H h a o)(k:∀b u,(b=a∨H b=some (.own a))->h.get? b=some u->h'.get? b=some u)
  (B:∀b,H b=some (.own a)->H' b=some (.own a)) (U:∀b xs,H b=some (.tup xs)->H' b=some (.tup xs)):bB P w H' h' a o:=by
 induction o with
 |lst xs=>obtain⟨z,its,n,r,e⟩:=x;exact⟨z,its,n,r,k _ _ (.inl rfl) e⟩
 |tup xs=>obtain⟨z,its,r,ob,e,c⟩:=x;exact⟨z,its,r,ob,k _ _ (.inl rfl) e,c⟩
 |dK kvs=>obtain⟨z,y,vs,r,ob,es,ep,e,c⟩:=x;exact⟨z,y,vs,r,ob,es,ep,k _ _ (.inl rfl) e,c⟩
 |dT kvs=>
  obtain⟨z,y,xs,r,ob,es,ep,e,c⟩:=x;exact⟨z,y,xs,Paired.mapP r λp q z=>⟨z.1,U _ _ z.2.1,z.2.2⟩,ob,es,ep,k _ _ (.inl rfl) e,c⟩
 |set S n=>obtain⟨ob,es,ep,t,e,c⟩:=x;exact⟨ob,es,ep,t,k _ _ (.inl rfl) e,c⟩
 |ins C dx fs=>
  obtain⟨d,z,I,e,O,⟨Y,es,ep,e2,c⟩,r⟩:=x;exact⟨B _ d,z,I,k _ _ (.inl rfl) e,O,⟨Y,es,ep,k _ _ (.inr d) e2,c⟩,r⟩
 |own y=>obtain⟨ob,e⟩:=x;exact⟨ob,k _ _ (.inl rfl) e⟩
 |xd fs=>obtain⟨O,⟨Y,es,ep,e,c⟩,r⟩:=x;exact⟨O,⟨Y,es,ep,k _ _ (.inl rfl) e,c⟩,r⟩
 |rng lo hi=>obtain⟨t,u,v,e⟩:=x;exact⟨t,u,v,k _ _ (.inl rfl) e⟩
 |frz ob u Z=>obtain⟨e,q⟩:=x;exact⟨k _ _ (.inl rfl) e,Z q⟩
 |tbl ps=>
  have e:h.get? a=some {cls:=.none,data:=.fields ps}:=x;show h'.get? a=some {cls:=.none,data:=.fields ps};exact k a _ (.inl rfl) e
 |met f y=>
  have e:h.get? a=some (ZR (.ref f) (.ref y)):=x;show h'.get? a=some (ZR (.ref f) (.ref y));exact k a _ (.inl rfl) e
 |ext F=>obtain⟨p,⟨o,e⟩,st⟩:=x;exact⟨st _ _ p λo q=>k _ _ (.inl rfl) q,⟨o,k _ _ (.inl rfl) e⟩,st⟩
theorem HOk.lt(x:HOk P w H h)(e:H a=some o):a<h.objs.size:=(x a o e).lt
theorem HOk.fresh(x:HOk P w H h)(e:h.objs.size<=a):H a=none:=by
 cases q:H a with
 |none=>rfl
 |some u=>exact absurd (T6 (x.lt q) e) (Vq _)
theorem HOk.kept(x:HOk P w H h)(k:∀b u,h.get? b=some u->h'.get? b=some u):HOk P w H h':=λa o e=>
 (x a o e).stay (λb u _ q=>k b u q) (λ_ q=>q) λ_ _ q=>q
theorem HOk.laid(x:HOk P w H h)(k:∀b u,h.get? b=some u->h'.get? b=some u)(N:h.objs.size<=a)(new:bB P w (upd H a o) h' a o):HOk P w (upd H a o) h':=λb u e=>by
 have hn:=x.fresh N;by_cases U:b=a
 .subst U;rw[aM]at e;cases e;exact new
 .rw[aH U]at e
  exact(x b u e).stay (λc v _ q=>k c v q) (λc q=>by rw[aH (bx q hn)];exact q) λc xs q=>by rw[aH (bx q hn)];exact q
def Rd(H:Hp)(a:Addr)(u:HO):Prop:=H a=some u∨∃o,H a=some (.frz o u)
theorem Rd.ok{P:Uj}{u:HO}(r:Rd H a u)(x:HOk P w H h):bB P w H h a u:=by
 rcases r with r|⟨o,r⟩
 .exact x a u r
 .obtain⟨_,q⟩:=x a _ r
  exact q
def Mut:Option HO->Prop
 |some (.lst _)=>True
 |some (.dK _)=>True
 |some (.dT _)=>True
 |some (.set _ _)=>True
 |some (.ins _ _ _)=>True
 |some (.ext _)=>True
 |_=>False
variable{x e:Addr}{o':HO}
theorem HOk.write(ok:HOk P w H h)(mu:Mut (H x))(V:e=x∨H e=some (.own x))(k:∀b u,b≠e->h.get? b=some u->h'.get? b=some u)(Y:∃u,h'.get? e=some u)
  (new:bB P w (upd H x o') h' x o'):HOk P w (upd H x o') h':=λb u q=>by
 have F:∀c y,H c=some (.own y)->c≠x:=λc y r z=>by subst z;rw[r]at mu;exact mu
 have N:∀c xs,H c=some (.tup xs)->c≠x:=λc xs r z=>by subst z;rw[r]at mu;exact mu
 by_cases U:b=x
 .subst U;rw[aM]at q;cases q;exact new
 .rw[aH U]at q
  by_cases I:b=e
  .have q':H b=some (.own x):=by
    rcases V with z|z
    .exact absurd (I.trans z) U
    .rw[I];exact z
   rw[q]at q';cases q';obtain⟨v,B⟩:=Y;exact⟨v,by rw[I];exact B⟩
  .refine(ok b u q).stay (λc v O r=>k c v ?_ r) (λc r=>by rw[aH (F c b r)];exact r) λc xs r=>by rw[aH (N c xs r)];exact r
   rcases O with rfl|O
   .exact I
   .rintro rfl
    rcases V with z|z
    .exact F c b O z
    .rw[O]at z;cases z;exact U rfl
structure Un(fs ex:List Addr)(H H':Hp)(h h':Heap):Prop where
 keep:∀b o,h.get? b=some o->H b=none->b∉fs->b∉ex->h'.get? b=some o
 slot:∀b o,h.get? b=some o->H b=none->b∈fs->b∉ex->∃sl,h'.get? b=some {o with slots:=sl}
 free:∀b o,h.get? b=some o->H b=none->b∉ex->H' b=none
 there:∀b o,h.get? b=some o->b∉ex->∃o',h'.get? b=some o'
 tups:∀b xs,H b=some (.tup xs)->H' b=some (.tup xs)
 frzs:∀b o u,H b=some (.frz o u)->H' b=some (.frz o u)
 tbls:∀b ps,H b=some (.tbl ps)->∃more,H' b=some (.tbl (ps++more))
section
variable{fs fs' ex ex':List Addr}{H H1 H2:Hp}{h h1 h2 h':Heap}{a x e:Addr}{o:HO}
theorem Un.any(u:Un fs ex H H1 h h1){b:Addr}{ob:Obj}(q:h.get? b=some ob)(n:H b=none)(F:b∉ex):∃sl,h1.get? b=some {ob with slots:=sl}:=by
 by_cases U:b∈fs
 .exact u.slot b ob q n U F
 .exact⟨ob.slots,u.keep b ob q n U F⟩
theorem Un.kept(k:∀b u,h.get? b=some u->h'.get? b=some u):Un fs ex H H h h':=
 ⟨λb ob q _ _ _=>k b ob q,λb ob q _ _ _=>⟨ob.slots,k b ob q⟩,λ_ _ _ n _=>n,λb ob q _=>⟨ob,k b ob q⟩,λ_ _ q=>q,λ_ _ _ q=>q,λ_ ps q=>⟨#[],by rw[q];simp⟩⟩
theorem Un.refl:Un fs ex H H h h:=Un.kept λ_ _ q=>q
theorem Un.laid(k:∀b u,h.get? b=some u->h'.get? b=some u)(N:h.objs.size<=a)(hn:H a=none):Un fs ex H (upd H a o) h h' where
 keep:=λb u q _ _ _=>k b u q
 slot:=λb u q _ _ _=>⟨u.slots,k b u q⟩
 free:=λb u q n _=>by rw[aH (T4 (T6 (TJ q) N))];exact n
 there:=λb u q _=>⟨u,k b u q⟩
 tups:=λb xs q=>by rw[aH (bx q hn)];exact q
 frzs:=λb u xs q=>by rw[aH (bx q hn)];exact q
 tbls:=λb ps q=>⟨#[],by rw[aH (bx q hn),q];simp⟩
theorem Un.write(mu:Mut (H x))(V:e=x∨H e=some (.own x))(k:∀b u,b≠e->h.get? b=some u->h'.get? b=some u)(Y:∃u,h'.get? e=some u):Un fs ex H (upd H x o) h h':=by
 have F:∀b,H b=none->b≠x:=λb n z=>by subst z;rw[n]at mu;exact mu
 have U:∀b,H b=none->b≠e:=λb n z=>by
  subst z;rcases V with r|r
  .exact F b n r
  .rw[n]at r;cases r
 have N:∀b u,H b=some u->¬Mut (some u)->b≠x:=λb u q B z=>by subst z;rw[q]at mu;exact B mu
 refine⟨λb u q n _ _=>k b u (U b n) q,λb u q n _ _=>⟨u.slots,k b u (U b n) q⟩,λb u q n _=>by rw[aH (F b n)];exact n,λb u q _=>?_,
  λb xs q=>by rw[aH (N b _ q λz=>z)];exact q,λb u xs q=>by rw[aH (N b _ q λz=>z)];exact q,λb ps q=>⟨#[],by rw[aH (N b _ q λz=>z),q];simp⟩⟩
 by_cases I:b=e
 .subst I;exact Y
 .exact⟨u,k b u I q⟩
end
def trk(h:Heap)(H:Hp):List Addr:=(Ue h.objs.size).filter λa=>(H a).isSome
def vo(h:Heap)(H:Hp):Heap:=PySem.W.hideAll h (trk h H)
theorem DW(h:Heap)(H:Hp):(vo h H).objs.size=h.objs.size:=PySem.W.hideAll_size _ _
variable{o:Obj}
theorem Ie(e:h.get? b=some o)(n:H b=none):(vo h H).get? b=some o:=
 PySem.W.hideAll_get _ e λN=>by
  have q:(H b).isSome=true:=(ab7.mp N).2;rw[n]at q;simp at q
theorem KD(e:(vo h H).get? b=some o):h.get? b=some o/\H b=none:=by
 have e':h.get? b=some o:=PySem.W.of_hideAll (trk h H) e;refine⟨e',?_⟩;cases q:H b with
 |none=>rfl
 |some x=>
  have N:b∈trk h H:=ab7.mpr ⟨VD.mpr (TJ e'),by simp[q]⟩;have z:(vo h H).get? b=none:=PySem.W.hideAll_none (trk h H) N;rw[z]at e;cases e
def Jw(g h:Heap)(L:Addr):List (Addr×Obj):=(Ue h.objs.size).filterMap λa=>if a=L∨(g.get? a).isSome=true then none else(h.get? a).map λo=>(a,o)
def rest(g h:Heap)(L d:Addr):List (Addr×Obj):=(Jw g h L).filter λp=>decide (p.1≠d)
structure Mod(K:PySem.W.Frag)(mg:Str->Option Value)(base:Heap):Prop where
 kin:K.In base
 glob:base.Ns Uc mg
 blt:∃mb,base.Ns builtinsNs mb/\∀x:Str,x≠"__name__"->mb x=V3 x
 nolimit:base.NoLimit
structure Cx where
 prog:Uj
 w:World
 K:Tn
 mg:Str->Option Value
 base:Heap
 A:U4
 N:List Str
 s₀:S6
 H₀:Hp
 env:Env
 outer:List Env
 stack:List Env
 ex:List Addr
 fn:Str->Bool
 calm:Bool
 pn:List (Addr×Obj)
 xe:Value->S6->Prop
def frs(l:List Env):List Addr:=l.filterMap (·.frame)
noncomputable abbrev Cx.fs(X:Cx):List Addr:=frs X.outer
def Vis(z:Scope)(x:Str):Prop:=z.names.lookup x=some .local∨z.names.lookup x=some .cell∨z.names.lookup x=some .free
def Loc(z:Scope)(x:Str):Prop:=z.names.lookup x=some .local∨z.names.lookup x=some .cell
def Look(env:Env)(h:Heap)(m:Str->Option Value)(x:Str)(u:Value):Prop:=
 (env.kindOf x=some .local/\m x=some u)∨((env.kindOf x=some .cell∨env.kindOf x=some .free)/\∃c,env.cells.lookup x=some c/\h.IsCell c (some u))
structure Cx.Ok(X:Cx):Prop where
 mod:Mod X.K X.mg X.base
 kind:X.env.scope.kind= .function
 glob:X.env.globals=Uc
 blt:X.env.builtins=builtinsNs
 above:X.s₀.heap.objs.size<=X.env.locals
 inj:∀x y c,X.env.cells.lookup x=some c->X.env.cells.lookup y=some c->x=y
 has:∀x,(X.env.kindOf x=some .cell∨X.env.kindOf x=some .free)->∃c,X.env.cells.lookup x=some c
 cab:∀x c,X.fn x=true->X.env.cells.lookup x=some c->X.s₀.heap.objs.size<=c
 hd:X.calm=true->X.A.handled=none
 frames:X.A.frames=some X.stack
 stk:X.stack=X.outer∨(X.stack=X.env::X.outer/\X.env.frame=some X.env.locals)
 exf:∀b∈X.ex,b≠X.env.locals/\∀x c,X.env.cells.lookup x=some c->c≠b
 bs:∀b o,X.base.get? b=some o->X.s₀.heap.get? b=some o/\X.H₀ b=none
 bsz:X.base.objs.size<=X.s₀.heap.objs.size
 noex:∀b o,X.base.get? b=some o->b∉X.ex
 exfs:∀b∈X.ex,b∉X.fs
 funs:X.s₀.heap.FunFrames X.base X.outer
 frf:∀b∈X.fs,X.H₀ b=none
structure Inv(X:Cx)(pins:List (Addr×Obj))(σ:List (Option V))(H:Hp)(s:Shared):Prop where
 ok:X.Ok
 os:s.os=X.s₀.os
 bare:Y5 s.gens
 base:Un X.fs X.ex X.H₀ H X.s₀.heap s.heap
 loc:∃m,s.heap.Ns X.env.locals m/\∀(i:Nat)(x:Str)(v:V),X.N[i]? =some x->σ[i]? =some (some v)->Vis X.env.scope x->∃u,RelV v u/\Look X.env s.heap m x u
 cell:∀x c,X.env.cells.lookup x=some c->∃v,s.heap.IsCell c v
 free:H X.env.locals=none
 freeC:∀x c,X.env.cells.lookup x=some c->H c=none
 pin:∀p∈X.pn++pins,s.heap.get? p.1=some p.2/\H p.1=none/\p.1≠X.env.locals/\p.1∉X.fs/\∀v,p.2.data≠.cell v
 hok:HOk X.prog X.w H s.heap
 len:σ.length=X.N.length
variable{X:Cx}
theorem Cx.Ok.nofr(ok:X.Ok)(e:X.base.get? b=some o):b∉X.fs:=λU=>by
 have:=(ok.funs.mem U).1;rw[e]at this;cases this
variable{σ:List (Option V)}
theorem Inv.bs(I:Inv X pins σ H s):∀b o,X.base.get? b=some o->s.heap.get? b=some o/\H b=none:=λb o e=>
 ⟨I.base.keep b o (I.ok.bs b o e).1 (I.ok.bs b o e).2 (I.ok.nofr e) (I.ok.noex b o e),I.base.free b o (I.ok.bs b o e).1 (I.ok.bs b o e).2 (I.ok.noex b o e)⟩
theorem Inv.bk(I:Inv X pins σ H s):∀b o,X.base.get? b=some o->s.heap.get? b=some o:=λb o e=>(I.bs b o e).1
theorem Inv.mod(I:Inv X pins σ H s):Mod X.K X.mg X.base:=I.ok.mod
theorem Inv.kIn(I:Inv X pins σ H s):X.K.In s.heap:=I.ok.mod.kin.keeps I.bk
theorem Inv.lt(I:Inv X pins σ H s):X.env.locals<s.heap.objs.size:=let⟨_,hn,_⟩:=I.loc;hn.lt
theorem Inv.sz(I:Inv X pins σ H s):X.s₀.heap.objs.size<=s.heap.objs.size:=V4 I.ok.above (Wh I.lt)
theorem Inv.nofs(I:Inv X pins σ H s)(h:s.heap.objs.size<=a):a∉X.fs:=λU=>by
 obtain⟨_,o,B,_⟩:=I.ok.funs.mem U;exact absurd (T6 (TJ B) (V4 I.sz h)) (Vq _)
theorem Inv.cne(I:Inv X pins σ H s):∀x c,X.env.cells.lookup x=some c->c≠X.env.locals:=λx c e z=>by
 obtain⟨v,o,B,hd⟩:=I.cell x c e;obtain⟨m,⟨o',es,ep,Z,F,_⟩,_⟩:=I.loc;rw[z,Z]at B;cases B;rw[F]at hd;cases hd
theorem Inv.funs(I:Inv X pins σ H s):s.heap.FunFrames X.base X.outer:=by
 have all:∀(l:List Env),(∀b∈frs l,b∈X.fs)->X.s₀.heap.FunFrames X.base l->s.heap.FunFrames X.base l:=by
  intro l
  induction l with
  |nil=>intro _ _;trivial
  |cons env r F=>
   intro hs Y;obtain⟨N,⟨L,o,q,hn,B,hd⟩,Z⟩:=Y;have V:L∈X.fs:=hs L (by unfold frs;rw[X3,q];exact Ur);obtain⟨sl,e⟩:=I.base.slot L o B (I.ok.frf L V) V λz=>I.ok.exfs L z V;exact⟨N,⟨L,_,q,hn,e,hd⟩,F (λb U=>hs b (by unfold frs;rw[X3,q];exact T7 _ U)) Z⟩
 exact all X.outer (λ_ U=>U) I.ok.funs
theorem Inv.stack(I:Inv X pins σ H s):s.heap.FunFrames X.base X.stack:=by
 rcases I.ok.stk with e|⟨e,Z⟩
 .rw[e];exact I.funs
 .rw[e]
  obtain⟨m,hn,_⟩:=I.loc;refine .cons (by rw[I.ok.kind];decide) Z hn ?_ I.funs;exact Heap.get?_none_of_le (V4 I.ok.bsz I.ok.above)
theorem Inv.stkSub(I:Inv X pins σ H s):∀b∈frs X.stack,b∈X.env.locals::X.fs:=λb U=>by
 rcases I.ok.stk with e|⟨e,Z⟩
 .rw[e]at U;exact T7 _ U
 .rw[e]at U
  unfold frs at U;rw[X3,Z]at U;exact U
theorem Inv.stkFree(I:Inv X pins σ H s):∀b∈frs X.stack,H b=none:=λb U=>by
 rcases Tf.mp (I.stkSub b U)with e|U
 .rw[e];exact I.free
 .obtain⟨_,o,ho,_⟩:=I.ok.funs.mem U
  exact I.base.free b o ho (I.ok.frf b U) λz=>I.ok.exfs b z U
theorem Inv.step(I:Inv X pins σ H s)
  (Y:∀b∈ch,(b∈X.ex∨X.s₀.heap.objs.size<=b)/\b≠X.env.locals/\(∀x c,X.env.cells.lookup x=some c->c≠b)/\∀p∈X.pn++pins,p.1≠b)
  (keep:∀b o,b≠X.env.locals->b∉X.fs->b∉ch->s.heap.get? b=some o->H b=none->h'.get? b=some o)
  (slot:∀b o,b≠X.env.locals->b∈X.fs->b∉ch->s.heap.get? b=some o->H b=none->∃sl,h'.get? b=some {o with slots:=sl}) (free:∀b o,b∉ch->s.heap.get? b=some o->H b=none->H' b=none)
  (there:∀b o,b∉ch->s.heap.get? b=some o->∃o',h'.get? b=some o')
  (tups:∀b xs,H b=some (.tup xs)->H' b=some (.tup xs)) (frzs:∀b o u,H b=some (.frz o u)->H' b=some (.frz o u)) (tbls:∀b ps,H b=some (.tbl ps)->∃more,H' b=some (.tbl (ps++more)))
  (ns:∀m,s.heap.Ns X.env.locals m->h'.Ns X.env.locals m) (hok:HOk X.prog X.w H' h') (hg:Y5 g') :
  Inv X pins σ H' {s with heap:=h',gens:=g',drawn:=d',toks:=t'}:=by
 have a2:∀b o,X.s₀.heap.get? b=some o->b≠X.env.locals:=λb o e=>T4 (T6 (TJ e) I.ok.above);have a1:∀b o,X.s₀.heap.get? b=some o->b∉X.ex->b∉ch:=λb o e F U=>by
  rcases(Y b U).1 with z|z
  .exact F z
  .exact absurd (T6 (TJ e) z) (Vq _)
 have Z:∀x c,X.env.cells.lookup x=some c->∀v,s.heap.IsCell c v->h'.IsCell c v:=λx c e v ⟨o,B,hd⟩=>by
  have a0:c∉ch:=λz=>(Y c z).2.2.1 x c e rfl;by_cases O:c∈X.fs
  .obtain⟨sl,q⟩:=slot c o (I.cne x c e) O a0 B (I.freeC x c e)
   exact⟨_,q,hd⟩
  .exact⟨o,keep c o (I.cne x c e) O a0 B (I.freeC x c e),hd⟩
 refine⟨I.ok,I.os,hg,⟨λb o e n U F=>?_,λb o e n U F=>?_,λb o e n F=>?_,λb o e F=>?_,λb xs e=>tups b xs (I.base.tups b xs e),λb o xs e=>frzs b o xs (I.base.frzs b o xs e),λb ps e=>?_⟩,?_,λx c e=>?_,?_,λx c e=>?_,λp N=>?_,hok,I.len⟩
 .exact keep b o (a2 b o e) U (a1 b o e F) (I.base.keep b o e n U F) (I.base.free b o e n F)
 .obtain⟨sl,e1⟩:=I.base.slot b o e n U F
  obtain⟨a3,e2⟩:=slot b _ (a2 b o e) U (a1 b o e F) e1 (I.base.free b o e n F);exact⟨a3,e2⟩
 .obtain⟨o',e1⟩:=I.base.there b o e F
  exact free b o' (a1 b o e F) e1 (I.base.free b o e n F)
 .obtain⟨o',e1⟩:=I.base.there b o e F
  exact there b o' (a1 b o e F) e1
 .obtain⟨m1,e1⟩:=I.base.tbls b ps e
  obtain⟨V,e2⟩:=tbls b _ e1;exact⟨m1++V,by rw[e2,Array.append_assoc]⟩
 .obtain⟨m,hn,hl⟩:=I.loc
  refine⟨m,ns m hn,λi x v e1 e2 e3=>?_⟩;obtain⟨u,r,l⟩:=hl i x v e1 e2 e3;refine⟨u,r,?_⟩;rcases l with l|⟨k,c,e,z⟩
  .exact .inl l
  .exact .inr ⟨k,c,e,Z x c e _ z⟩
 .obtain⟨v,z⟩:=I.cell x c e
  exact⟨v,Z x c e v z⟩
 .obtain⟨m,⟨o,_,_,B,_⟩,_⟩:=I.loc
  exact free _ o (λz=>(Y _ z).2.1 rfl) B I.free
 .obtain⟨v,o,B,hd⟩:=I.cell x c e
  exact free c o (λz=>(Y c z).2.2.1 x c e rfl) B (I.freeC x c e)
 .obtain⟨e,n,ne,nf,d⟩:=I.pin p N
  have a0:p.1∉ch:=λz=>(Y p.1 z).2.2.2 p N rfl;exact⟨keep p.1 p.2 ne nf a0 e n,free p.1 p.2 a0 e n,ne,nf,d⟩
theorem Inv.un(I:Inv X pins σ H s)(u:Un X.fs [] H H' s.heap h')(hok:HOk X.prog X.w H' h'):Inv X pins σ H' {s with heap:=h',toks:=t'}:=by
 obtain⟨m,⟨o,es,ep,B,r⟩,_⟩:=id I.loc;obtain⟨sl,V⟩:=u.any B I.free (by simp);exact I.step (g':=s.gens) (d':=s.drawn) (ch:=[]) (λ_ z=>nomatch z) (λb o _ U _ e n=>u.keep b o e n U (by simp)) (λb o _ U _ e n=>u.slot b o e n U (by simp)) (λb o _ e n=>u.free b o e n (by simp)) (λb o _ e=>u.there b o e (by simp)) u.tups u.frzs u.tbls (λm' N=>by
  obtain⟨o',F,q,Z,O⟩:=N;rw[B]at Z;cases Z;exact⟨_,F,q,V,O⟩) hok I.bare
theorem Inv.call(I:Inv X pins σ H s)(u:Un (frs X.stack) ch H H' s.heap h')(hok:HOk X.prog X.w H' h')(q:Y5 g')
  (Y:∀b∈ch,(b∈X.ex∨X.s₀.heap.objs.size<=b)/\b≠X.env.locals/\(∀x c,X.env.cells.lookup x=some c->c≠b)/\∀p∈X.pn++pins,p.1≠b) :
  Inv X pins σ H' {s with heap:=h',gens:=g',drawn:=d',toks:=t'}:=by
 obtain⟨m,⟨o,es,ep,B,r⟩,_⟩:=id I.loc;obtain⟨sl,V⟩:=u.any B I.free λz=>(Y _ z).2.1 rfl;exact I.step (ch:=ch) Y (λb o V U O e n=>u.keep b o e n (λz=>(Tf.mp (I.stkSub b z)).elim V U) O) (λb o _ _ O e n=>u.any e n O) (λb o O e n=>u.free b o e n O) (λb o O e=>u.there b o e O) u.tups u.frzs u.tbls (λm' N=>by
  obtain⟨o',F,a0,Z,r'⟩:=N;rw[B]at Z;cases Z;exact⟨_,F,a0,V,r'⟩) hok q
theorem Inv.turned(I:Inv X pins σ H s)(k:∀b o,b≠it->s.heap.get? b=some o->h'.get? b=some o)(hn:H it=none)(V:it≠X.env.locals)
  (h1:it∈X.ex∨X.s₀.heap.objs.size<=it) (h2:∀x c,X.env.cells.lookup x=some c->c≠it) (F:∀p∈X.pn++pins,p.1≠it):Inv X pins σ H {s with heap:=h',toks:=t'}:=by
 have B:∀b u,H b=some u->b≠it:=λb u e z=>by rw[z,hn]at e;cases e
 refine I.step (g':=s.gens) (d':=s.drawn) (ch:=[it]) (λb U=>?_) (λb o _ _ O e _=>k b o (λz=>O (by simp[z])) e) (λb o _ _ O e _=>⟨o.slots,k b o (λz=>O (by simp[z])) e⟩) (λ_ _ _ _ n=>n)
  (λb o O e=>⟨o,k b o (λz=>O (by simp[z])) e⟩) (λ_ _ e=>e) (λ_ _ _ e=>e) (λb ps e=>⟨#[],by rw[e];simp⟩) (λm N=>?_) (λb u e=>?_) I.bare
 .have e:b=it:=by simpa using U
  subst e;exact⟨h1,V,h2,F⟩
 .obtain⟨o,es,ep,ho,r⟩:=N
  exact⟨o,es,ep,k _ o (U0 V) ho,r⟩
 .refine(I.hok b u e).stay (λc v O q=>k c v ?_ q) (λ_ q=>q) λ_ _ q=>q
  rcases O with z|z
  .rw[z];exact B b u e
  .exact B c _ z
theorem Inv.tok(I:Inv X pins σ H s)(t:Nat):Inv X pins σ H {s with toks:=t}:=I.un (h':=s.heap) (t':=t) Un.refl I.hok
theorem Inv.kept(I:Inv X pins σ H s)(k:∀b u,s.heap.get? b=some u->h'.get? b=some u):Inv X pins σ H {s with heap:=h',toks:=t'}:=I.un (Un.kept k) (I.hok.kept k)
theorem Inv.laid{o:HO}(I:Inv X pins σ H s)(k:∀b u,s.heap.get? b=some u->h'.get? b=some u)(N:s.heap.objs.size<=a)(new:bB X.prog X.w (upd H a o) h' a o) :
 Inv X pins σ (upd H a o) {s with heap:=h',toks:=t'}:=I.un (Un.laid k N (I.hok.fresh N)) (I.hok.laid k N new)
theorem Inv.write{o:HO}(I:Inv X pins σ H s)(mu:Mut (H x))(V:e=x∨H e=some (.own x))(k:∀b u,b≠e->s.heap.get? b=some u->h'.get? b=some u)(Y:∃u,h'.get? e=some u)
 (new:bB X.prog X.w (upd H x o) h' x o):Inv X pins σ (upd H x o) {s with heap:=h',toks:=t'}:=I.un (Un.write mu V k Y) (I.hok.write mu V k Y new)
theorem Inv.weak{F:List (Option V)}(I:Inv X pins σ H s)(Y:F.length=σ.length)(w:∀(i:Nat) v,F[i]? =some (some v)->σ[i]? =some (some v)):Inv X pins F H s:=
 ⟨I.ok,I.os,I.bare,I.base,let⟨m,hn,hl'⟩:=I.loc;⟨m,hn,λi x v e1 e2 B=>hl' i x v e1 (w i v e2) B⟩,I.cell,I.free,I.freeC,I.pin,I.hok,Y.trans I.len⟩
theorem Inv.pins_of{q:List (Addr×Obj)}(I:Inv X pins σ H s)(h:∀p∈q,s.heap.get? p.1=some p.2/\H p.1=none/\p.1≠X.env.locals/\p.1∉X.fs/\∀v,p.2.data≠.cell v):Inv X q σ H s:=
 ⟨I.ok,I.os,I.bare,I.base,I.loc,I.cell,I.free,I.freeC,λp N=>(S9.mp N).elim (λz=>I.pin p (Th _ z)) (h p),I.hok,I.len⟩
variable{x:Str}
theorem yD(z:N.Nodup)(a:N[i]? =some x)(b:N[j]? =some x):i=j:=by
 obtain⟨h1,e1⟩:=List.getElem?_eq_some_iff.mp a;obtain⟨h2,e2⟩:=List.getElem?_eq_some_iff.mp b;exact(Z5 z).mp (e1.trans e2.symm)
variable{M:Model}{A:U4}{E:Value->S6->Prop}{Q:Unit->S6->Prop}
theorem Ej{v:V}(I:Inv X pins σ H s)(hN:X.N.Nodup)(hi:X.N[i]? =some x)(F:Loc X.env.scope x)(r:RelV v u)
  (h:∀s',Inv X pins (σ.set i (some v)) H s'->(∃a,Wi a s.heap s'.heap/\(a=X.env.locals∨X.env.cells.lookup x=some a))->Q () s') (Z:X.fn x=true∨X.env.scope.names.lookup x=some .local:=by first|exact .inl rfl|exact .inr rfl|assumption):wpAny M A (storeName X.env x u) Q E s:=by
 obtain⟨m,hn,hl⟩:=id I.loc;have a3:(X.env.scope.kind== .class||(X.env.scope.kind== .module&&X.env.locals !=X.env.globals))=false:=by rw[I.ok.kind];rfl
 have a2:i<σ.length:=by rw[I.len];exact(List.getElem?_eq_some_iff.mp hi).1
 have cne:=I.cne;have a0:∀{a:Addr}{h':Heap},(∃o,s.heap.get? a=some o/\H a=none)->Wi a s.heap h'->HOk X.prog X.w H h':=λ{a h'} Y hs b ob e=>by
  obtain⟨_,_,a1⟩:=Y;refine(I.hok b ob e).stay (λc w' O q=>(hs.2 c ?_).trans q) (λ_ q=>q) λ_ _ q=>q;rintro rfl;rcases O with rfl|O
  .rw[a1]at e;cases e
  .rw[a1]at O;cases O
 rcases F with hk|hk
 .refine wpAny_storeName_local hk hn (λh' a7 hs=>?_) a3
  obtain⟨oL,_,_,a8,_⟩:=id hn;refine h _ ⟨I.ok,I.os,I.bare,⟨λb o e n U F=>?_,λb o e n U F=>?_,I.base.free,λb o e F=>?_,I.base.tups,I.base.frzs,I.base.tbls⟩,⟨_,a7,λj y v' e1 e2 B=>?_⟩,λy c e=>?_,I.free,I.freeC,λp hp=>?_,a0 ⟨oL,a8,I.free⟩ hs,by simpa using I.len⟩ ⟨_,hs,.inl rfl⟩
  .exact(hs.2 b (T4 (T6 (TJ e) I.ok.above))).trans (I.base.keep b o e n U F)
  .obtain⟨sl,e1⟩:=I.base.slot b o e n U F
   exact⟨sl,(hs.2 b (T4 (T6 (TJ e) I.ok.above))).trans e1⟩
  .obtain⟨o',e1⟩:=I.base.there b o e F
   exact⟨o',(hs.2 b (T4 (T6 (TJ e) I.ok.above))).trans e1⟩
  .by_cases hj:j=i
   .subst hj
    rw[hi]at e1;cases e1;rw[Wa a2]at e2;cases e2;exact⟨u,r,.inl ⟨hk,by simp⟩⟩
   .rw[List.getElem?_set_ne (U0 hj)]at e2
    obtain⟨u',r',q⟩:=hl j y v' e1 e2 B;refine⟨u',r',?_⟩;rcases q with⟨k,e⟩|⟨k,c,e,z⟩
    .refine .inl ⟨k,?_⟩
     have:y≠x:=λe=>hj (yD hN e1 (e▸hi));simp[this,e]
    .exact .inr ⟨k,c,e,z.sameBut hs (cne y c e)⟩
  .obtain⟨w',z⟩:=I.cell y c e
   exact⟨w',z.sameBut hs (cne y c e)⟩
  .obtain⟨e,n,ne,nf,d⟩:=I.pin p hp
   exact⟨(hs.2 p.1 ne).trans e,n,ne,nf,d⟩
 .have hfn:X.fn x=true:=by
   rcases Z with z|z
   .exact z
   .rw[z]at hk;cases hk
  obtain⟨c,O⟩:=I.ok.has x (.inl hk);obtain⟨w',z⟩:=I.cell x c O;refine wpAny_storeName_cell I.ok.kind hk O z (λh' a6 hs=>?_);obtain⟨oc,a5,a4⟩:=id z;refine h {s with heap:=h'} ⟨I.ok,I.os,I.bare,⟨λb o e n U F=>?_,λb o e n U F=>?_,I.base.free,λb o e F=>?_,I.base.tups,I.base.frzs,I.base.tbls⟩,⟨m,hn.sameBut hs (U0 (cne x c O)),λj y v' e1 e2 B=>?_⟩,λy c' e=>?_,I.free,I.freeC,λp hp=>?_,a0 ⟨oc,a5,I.freeC x c O⟩ hs,by simpa using I.len⟩ ⟨c,hs,.inr O⟩
  .exact(hs.2 b (T4 (T6 (TJ e) (I.ok.cab x c hfn O)))).trans (I.base.keep b o e n U F)
  .obtain⟨sl,e1⟩:=I.base.slot b o e n U F
   exact⟨sl,(hs.2 b (T4 (T6 (TJ e) (I.ok.cab x c hfn O)))).trans e1⟩
  .obtain⟨o',e1⟩:=I.base.there b o e F
   exact⟨o',(hs.2 b (T4 (T6 (TJ e) (I.ok.cab x c hfn O)))).trans e1⟩
  .by_cases hj:j=i
   .subst hj
    rw[hi]at e1;cases e1;rw[Wa a2]at e2;cases e2;exact⟨u,r,.inr ⟨.inl hk,c,O,a6⟩⟩
   .rw[List.getElem?_set_ne (U0 hj)]at e2
    obtain⟨u',r',q⟩:=hl j y v' e1 e2 B;refine⟨u',r',?_⟩;rcases q with q|⟨k,c',e,z'⟩
    .exact .inl q
    .refine .inr ⟨k,c',e,z'.sameBut hs ?_⟩
     rintro rfl;exact hj (yD hN e1 (I.ok.inj _ _ _ e O▸hi))
  .by_cases hcc:c'=c
   .subst hcc;exact⟨_,a6⟩
   .obtain⟨w2,z2⟩:=I.cell y c' e
    exact⟨w2,z2.sameBut hs hcc⟩
  .obtain⟨e,n,ne,nf,d⟩:=I.pin p hp
   refine⟨(hs.2 p.1 ?_).trans e,n,ne,nf,d⟩;intro q;rw[q,a5]at e;have q':oc=p.2:=UG e;exact d w' (by rw[←q'];exact a4)
theorem kO{v:V}(I:Inv X pins σ H s)(z:X.N.Nodup)(hi:X.N[i]? =some x)(F:Loc X.env.scope x)(r:RelV v u)
  (h:∀s',Inv X pins (σ.set i (some v)) H s'->Q () s') (Z:X.fn x=true∨X.env.scope.names.lookup x=some .local:=by first|exact .inl rfl|exact .inr rfl|assumption):wpAny M A (storeName X.env x u) Q E s:=
 Ej I z hi F r (λs' q _=>h s' q) Z
theorem Inv.call'(I:Inv X pins σ H s)(B:s'.os=s.os)(u:Un (frs X.stack) ch H H' s.heap s'.heap)(hok:HOk X.prog X.w H' s'.heap)(q:Y5 s'.gens)
  (Y:∀b∈ch,(b∈X.ex∨X.s₀.heap.objs.size<=b)/\b≠X.env.locals/\(∀x c,X.env.cells.lookup x=some c->c≠b)/\∀p∈X.pn++pins,p.1≠b):Inv X pins σ H' s':=by
 obtain⟨h',g',d',t',o'⟩:=s';have e:o'=s.os:=B;subst e;exact I.call (g':=g') (t':=t') (d':=d') u hok q Y
abbrev XK:=Value->Option Addr->Hp->Prop
abbrev St:=List (Option V)
abbrev VK:=V->Hp->Prop
abbrev TE:=St->Hp->VK->Prop
abbrev TT:=St->Hp->(Bool->Hp->Prop)->Prop
abbrev TA:=St->Hp->(List V->Hp->Prop)->Prop
structure Ends where
 nx:St->Hp->Prop
 rt:VK
 bk:St->Hp->Prop:=λ_ _=>False
 ct:St->Hp->Prop:=λ_ _=>False
abbrev TS:=Ends->St->Hp->Prop
def EP(X:Cx)(pins:List (Addr×Obj))(σ:St)(Q:VK)(u:Value)(s':S6):Prop:=∃v H',Inv X pins σ H' s'/\RelV v u/\Q v H'
def TP(X:Cx)(pins:List (Addr×Obj))(σ:St)(Q:Bool->Hp->Prop)(b:Bool)(s':S6):Prop:=∃H',Inv X pins σ H' s'/\Q b H'
def AP(X:Cx)(pins:List (Addr×Obj))(σ:St)(Q:List V->Hp->Prop)(us:List Value)(s':S6):Prop:=∃vs H',Inv X pins σ H' s'/\Vals vs us/\Q vs H'
def SP(X:Cx)(pins:List (Addr×Obj))(D:Ends)(f:Flow)(s':S6):Prop:=
 match f with
 |.next=>∃F H',Inv X pins F H' s'/\D.nx F H'
 |.brk=>∃F H',Inv X pins F H' s'/\D.bk F H'
 |.cont=>∃F H',Inv X pins F H' s'/\D.ct F H'
 |.ret u=>∃v F H',Inv X pins F H' s'/\RelV v u/\D.rt v H'
def PE(X:Cx)(e:Expr)(t:TE):Prop:=
 ∀(pins:List (Addr×Obj))(s:S6)(σ:St)(H:Hp)(Q:VK),Inv X pins σ H s->t σ H Q->wpAny (model X.prog X.w) X.A (eval e X.env) (EP X pins σ Q) X.xe s
def PT(X:Cx)(e:Expr)(t:TT):Prop:=
 ∀(pins:List (Addr×Obj))(s:S6)(σ:St)(H:Hp)(Q:Bool->Hp->Prop),Inv X pins σ H s->t σ H Q->wpAny (model X.prog X.w) X.A (aaB e X.env (eval e X.env)) (TP X pins σ Q) X.xe s
def PW(X:Cx)(e:Expr)(t:TT):Prop:=
 ∀(q:Sem Value)(pins:List (Addr×Obj))(s:S6)(σ:St)(H:Hp)(Q:Bool->Hp->Prop),Inv X pins σ H s->t σ H Q->wpAny (model X.prog X.w) X.A (aaB e X.env q) (TP X pins σ Q) X.xe s
variable{e:Expr}
theorem PW.pt{t:TT}(h:PW X e t):PT X e t:=h _
def PA(X:Cx)(es:List Expr)(t:TA):Prop:=
 ∀(pos:Pos)(pins:List (Addr×Obj))(s:S6)(σ:St)(H:Hp)(Q:List V->Hp->Prop),Inv X pins σ H s->t σ H Q->wpAny (model X.prog X.w) X.A (spliced (Vf pos (Tj es X.env))) (AP X pins σ Q) X.xe s
def PS(X:Cx)(st:Stmt)(t:TS):Prop:=
 ∀(pins:List (Addr×Obj))(s:S6)(σ:St)(H:Hp)(D:Ends),Inv X pins σ H s->t D σ H->wpAny (model X.prog X.w) X.A (exec st X.env) (SP X pins D) X.xe s
def PSs(X:Cx)(st:List Stmt)(t:TS):Prop:=
 ∀(pins:List (Addr×Obj))(s:S6)(σ:St)(H:Hp)(D:Ends),Inv X pins σ H s->t D σ H->wpAny (model X.prog X.w) X.A (execs st X.env) (SP X pins D) X.xe s
theorem thn{t:Sem α}{Q z:α->S6->Prop}{s:S6}(h:wpAny M A t Q E s)(q:∀a s,Q a s->z a s):wpAny M A t z E s:=Vn h q λ_ _ x=>x
section
variable{X:Cx}
def xj(i:Nat):TE:=λσ H Q=>∃v,σ[i]? =some (some v)/\Q v H
def tC(v:V):TE:=λ_ H Q=>Q v H
theorem wg{i:Nat}{x:Str}{pos:Pos}(z:X.N[i]? =some x)(B:Vis X.env.scope x)(hd:(x==("__debug__":Str))=false:=by decide)(V:(x==("__classdict__":Str))=false:=by decide):PE X (.Name x pos) (xj i):=by
 intro pins s σ H Q I h;obtain⟨v,e,h⟩:=h;obtain⟨m,hn,Y⟩:=I.loc;obtain⟨u,r,l⟩:=Y i x v z e B;have fin:EP X pins σ Q u s:=⟨v,H,I,r,h⟩;rcases l with⟨F,U⟩|⟨F,c,O,q⟩
 .exact wpAny_Name (wpAny_loadName_local I.ok.kind F hn U fin) hd
 .rcases F with F|F
  .exact wpAny_Name (wpAny_loadName_cell I.ok.kind F O q fin) hd
  .exact wpAny_Name (wpAny_loadName_free I.ok.kind F O q fin V) hd
theorem Hh{i j pos}:PE X (.Constant (.int i) j pos) (tC (.int i)):=λ_ _ _ H _ I h=>wpAny_Constant_int ⟨.int i,H,I.tok _,⟨_,rfl⟩,h⟩
theorem R0{b j pos}:PE X (.Constant (.bool b) j pos) (tC (.bl b)):=λ_ _ _ H _ I h=>Constant_bool ⟨.bl b,H,I,rfl,h⟩
theorem O6{j pos}:PE X (.Constant .none j pos) (tC .non):=λ_ _ _ H _ I h=>Constant_none ⟨.non,H,I,rfl,h⟩
theorem zB{x j pos}:PE X (.Constant (.str x) j pos) (tC (.str x)):=λ_ _ _ H _ I h=>Calls.Constant_str ⟨.str x,H,I.tok _,⟨_,rfl⟩,h⟩
def Gl(X:Cx)(x:Str):Prop:=X.env.kindOf x=some .globalImplicit
theorem JC{E:Value->S6->Prop}{pins:List (Addr×Obj)}{s:S6}{σ:St}{H:Hp}{x:Str}{u:Value}{pos:Pos}{Q:Value->S6->Prop}(I:Inv X pins σ H s)(q:Gl X x)(N:X.mg x=some u)(h:Q u s)
  (hd:(x==("__debug__":Str))=false:=by decide):wpAny (model X.prog X.w) X.A (eval (.Name x pos) X.env) Q E s:=
 ZD I.ok.kind q (Calls.loadGlobal_global (by rw[I.ok.glob];exact I.mod.glob.keeps I.bk) N h) hd
theorem mj{E:Value->S6->Prop}{pins:List (Addr×Obj)}{s:S6}{σ:St}{H:Hp}{x:Str}{u:Value}{pos:Pos}{Q:Value->S6->Prop}(I:Inv X pins σ H s)(q:Gl X x)(N:X.mg x=none)(B:V3 x=some u)(h:Q u s)
  (hn:x≠"__name__":=by decide) (hd:(x==("__debug__":Str))=false:=by decide):wpAny (model X.prog X.w) X.A (eval (.Name x pos) X.env) Q E s:=by
 obtain⟨z,h1,h2⟩:=I.mod.blt;exact ZD I.ok.kind q (Calls.loadGlobal_builtin (by rw[I.ok.glob];exact I.mod.glob.keeps I.bk) N (by rw[I.ok.blt];exact h1.keeps I.bk) ((h2 x hn).trans B) h) hd
theorem Ls{x:Str}{v:V}{u:Value}{pos:Pos}(q:Gl X x)(N:X.mg x=none)(B:V3 x=some u)(r:RelV v u)(hn:x≠"__name__":=by decide)(hd:(x==("__debug__":Str))=false:=by decide):PE X (.Name x pos) (tC v):=
 λ_ _ _ H _ I h=>mj I q N B ⟨v,H,I,r,h⟩ hn hd
variable{a b:Expr}{ta tb:TE}{pos:Pos}
variable{tA tB':TT}{rest:List Expr}
def Nb(t u:TT):TT:=λσ H Q=>t σ H λc H1=>if c=true then u σ H1 Q else Q false H1
def tOr(t u:TT):TT:=λσ H Q=>t σ H λc H1=>if c=true then Q true H1 else u σ H1 Q
def RT(t:TT):TT:=λσ H Q=>t σ H λc H1=>Q (!c) H1
theorem Bt(Y:PT X a tA):PW X (.BoolOp .And [a] pos) tA:=by
 intro q pins s σ H Q I h;refine isTrue_and (thn (Y pins s σ H Q I h) λc Z e=>?_);cases c with
 |true=>exact isTrue_and_nil e
 |false=>exact e
theorem Nz(Y:PT X a tA):PW X (.BoolOp .Or [a] pos) tA:=by
 intro q pins s σ H Q I h;refine isTrue_or (thn (Y pins s σ H Q I h) λc Z e=>?_);cases c with
 |false=>exact isTrue_or_nil e
 |true=>exact e
theorem G_(Y:PT X a tA)(U:PW X (.BoolOp .And (b::rest) pos) tB'):PW X (.BoolOp .And (a::b::rest) pos) (Nb tA tB'):=by
 intro q pins s σ H Q I h;refine isTrue_and (thn (Y pins s σ H _ I h) λc Z ⟨H1,F,q1⟩=>?_);cases c with
 |true=>exact U q pins Z σ H1 Q F q1
 |false=>exact⟨H1,F,q1⟩
theorem Ro(Y:PT X a tA)(U:PW X (.BoolOp .Or (b::rest) pos) tB'):PW X (.BoolOp .Or (a::b::rest) pos) (tOr tA tB'):=by
 intro q pins s σ H Q I h;refine isTrue_or (thn (Y pins s σ H _ I h) λc Z ⟨H1,F,q1⟩=>?_);cases c with
 |true=>exact⟨H1,F,q1⟩
 |false=>exact U q pins Z σ H1 Q F q1
theorem NZ(Y:PT X a tA):PT X (.UnaryOp .Not a pos) (RT tA):=by
 intro pins s σ H Q I h;exact isTrue_not (Y pins s σ H (λc H1=>Q (!c) H1) I h)
end
def SqL(K:Tn)(H:Hp)(a:Addr)(xs:List V):Prop:=
 Rd H a (.lst xs)∨
  ∃(o:Obj)(its:Array Value)(n:Nat),K.lookup a=some o/\o.cls= .type "list"/\o.dict=none/\o.data= .seq its n/\its.size<=Te/\Vals xs its.toList
def SqT(K:Tn)(H:Hp)(a:Addr)(xs:List V):Prop:=
 Rd H a (.tup xs)∨
  ∃(o:Obj)(its:Array Value)(n:Nat),K.lookup a=some o/\o.cls= .type "tuple"/\o.data= .seq its n/\its.size<=Te/\Vals xs its.toList
def R3:Value->Option V
 |.none=>some .non
 |.bool b=>some (.bl b)
 |.int i _=>some (.int i)
 |.str x _=>some (.str x)
 |.bytes b _=>some (.byt b)
 |.float b _=>some (.flt b)
 |.ref a=>some (.ref a)
 |.type n=>some (.ty n)
 |_=>none
theorem RelV.abs{x:V}(r:RelV x u):R3 u=some x:=by
 cases x with
 |non=>cases r;rfl
 |bl _=>cases r;rfl
 |int _=>obtain⟨t,rfl⟩:=r;rfl
 |str _=>obtain⟨t,rfl⟩:=r;rfl
 |byt _=>obtain⟨t,rfl⟩:=r;rfl
 |flt _=>obtain⟨t,rfl⟩:=r;rfl
 |ref _=>cases r;rfl
 |ty _=>cases r;rfl
theorem RelV.inj{x y:V}(r:RelV x u)(q:RelV y u):x=y:=UG (r.abs.symm.trans q.abs)
theorem Vals.inj:∀{xs ys:List V}{us:List Value},Vals xs us->Vals ys us->xs=ys
 |_,_,_,.nil,.nil=>rfl
 |_,_,_,.cons r t,.cons r' t'=>by rw[r.inj r',Vals.inj t t']
theorem SqL.of{K:Tn}(h:H a=some (.lst xs)):SqL K H a xs:=.inl (.inl h)
theorem SqT.of{K:Tn}(h:H a=some (.tup xs)):SqT K H a xs:=.inl (.inl h)
variable{σ:St}
theorem Inv.list(I:Inv X pins σ H s)(h:SqL X.K H a xs):∃its:List Value,Vals xs its/\PlainL s.heap a its.toArray/\xs.length<=Te:=by
 rcases h with h|⟨o,its,n,q,O,hd,hs,hz,r⟩
 .obtain⟨z,its,n,r,e⟩:=h.ok I.hok
  exact⟨its,r,⟨_,n,e,rfl,rfl,rfl⟩,z⟩
 .refine⟨its.toList,r,⟨o,n,I.kIn a o q,O,hd,by simpa using hs⟩,?_⟩
  have e:=r.length;simp only[U6]at e;omega
theorem Inv.tuple(I:Inv X pins σ H s)(h:SqT X.K H a xs):∃its:List Value,Vals xs its/\IsTup s.heap a its.toArray/\xs.length<=Te:=by
 rcases h with h|⟨o,its,n,q,O,hs,hz,r⟩
 .obtain⟨z,its,r,p⟩:=h.ok I.hok
  exact⟨its,r,p.t,z⟩
 .refine⟨its.toList,r,⟨o,I.kIn a o q,O,n,by simpa using hs⟩,?_⟩
  have e:=r.length;simp only[U6]at e;omega
variable{ys:List V}
theorem Inv.list_inj(I:Inv X pins σ H s)(h:SqL X.K H a xs)(h':SqL X.K H a ys):xs=ys:=by
 obtain⟨its,r,⟨o,n,e,_,_,d⟩,_⟩:=I.list h;obtain⟨its',z,⟨o',F,e',_,_,d'⟩,_⟩:=I.list h';rw[e]at e';cases e';rw[d]at d';injection d' with d1 _;have:its=its':=by simpa using congrArg Array.toList d1
 subst this;exact r.inj z
theorem Inv.tuple_inj(I:Inv X pins σ H s)(h:SqT X.K H a xs)(h':SqT X.K H a ys):xs=ys:=by
 obtain⟨its,r,⟨o,e,_,n,d⟩,_⟩:=I.tuple h;obtain⟨its',z,⟨o',e',_,F,d'⟩,_⟩:=I.tuple h';rw[e]at e';cases e';rw[d]at d';injection d' with d1 _;have:its=its':=by simpa using congrArg Array.toList d1
 subst this;exact r.inj z
abbrev Cx.wish(X:Cx)(E:Value->S6->Prop):Cx:={X with xe:=E}
abbrev Cx.nox(X:Cx):Cx:=X.wish λ_ _=>False
theorem Cx.Ok.wish(ok:X.Ok)(E:Value->S6->Prop):(X.wish E).Ok:=
 ⟨ok.mod,ok.kind,ok.glob,ok.blt,ok.above,ok.inj,ok.has,ok.cab,ok.hd,ok.frames,ok.stk,ok.exf,ok.bs,ok.bsz,ok.noex,ok.exfs,ok.funs,ok.frf⟩
theorem Cx.Ok.unwish(ok:(X.wish E).Ok):X.Ok:=
 ⟨ok.mod,ok.kind,ok.glob,ok.blt,ok.above,ok.inj,ok.has,ok.cab,ok.hd,ok.frames,ok.stk,ok.exf,ok.bs,ok.bsz,ok.noex,ok.exfs,ok.funs,ok.frf⟩
theorem Inv.wish(I:Inv X pins σ H s)(E:Value->S6->Prop):Inv (X.wish E) pins σ H s:=⟨I.ok.wish E,I.os,I.bare,I.base,I.loc,I.cell,I.free,I.freeC,I.pin,I.hok,I.len⟩
variable{E:Value->Shared->Prop}
theorem Inv.unwish(I:Inv (X.wish E) pins σ H s):Inv X pins σ H s:=⟨I.ok.unwish,I.os,I.bare,I.base,I.loc,I.cell,I.free,I.freeC,I.pin,I.hok,I.len⟩
theorem SP.unwish{D:Ends}{f:Flow}(h:SP (X.wish E) pins D f s'):SP X pins D f s':=by
 cases f with
 |next=>obtain⟨F,H',I,q⟩:=h;exact⟨F,H',I.unwish,q⟩
 |brk=>obtain⟨F,H',I,q⟩:=h;exact⟨F,H',I.unwish,q⟩
 |cont=>obtain⟨F,H',I,q⟩:=h;exact⟨F,H',I.unwish,q⟩
 |ret u=>obtain⟨v,F,H',I,r,q⟩:=h;exact⟨v,F,H',I.unwish,r,q⟩
theorem PSs.nox{st:List Stmt}{t:TS}(h:PSs X.nox st t):PSs X st t:=λpins s σ H D I N=>
 Vn (h pins s σ H D (I.wish _) N) (λ_ _ q=>q.unwish) λ_ _ z=>W6 z
section
variable{X:Cx}{st:Stmt}{rest:List Stmt}{t u:TS}{e:Expr}{te:TE}{pos:Pos}
def Ml:TS:=λD σ H=>D.nx σ H
def RM(t u:TS):TS:=λD σ H=>t {D with nx:=u D} σ H
theorem Kh:PSs X [] Ml:=λ_ _ σ H _ I h=>Y_ ⟨σ,H,I,h⟩
theorem Fq(h1:PS X st t)(h2:PSs X rest u):PSs X (st::rest) (RM t u):=by
 intro pins s σ H D I h;refine wpAny_execs_cons (thn (h1 pins s σ H {D with nx:=u D} I h) λf Z q=>?_);cases f with
 |next=>
  obtain⟨F,H',N,q⟩:=q;exact h2 pins Z F H' D N q
 |ret v=>exact q
 |brk=>exact q
 |cont=>exact q
theorem Lb(h1:PS X st t):PSs X [st] t:=by
 intro pins s σ H D I h;refine wpAny_execs_cons (thn (h1 pins s σ H D I h) λf Z q=>?_);cases f with
 |next=>exact Y_ q
 |ret v=>exact q
 |brk=>exact q
 |cont=>exact q
theorem Inv.quiet{pins:List (Addr×Obj)}{σ:St}{H:Hp}{s:S6}(I:Inv X pins σ H s):interactive X.env=false:=by simp[interactive,I.ok.kind]
def Bx(te:TE):TS:=λD σ H=>te σ H λ_ H1=>D.nx σ H1
theorem vY(V:PE X e te)(hs:WT e none pos.line X.env=pure false:=by rfl):PS X (.Expr e pos) (Bx te):=by
 intro pins s σ H D I h;exact wpAny_Expr_any (thn (V pins s σ H _ I h) λv Z ⟨x,H1,F,z,q1⟩=>⟨σ,H1,F,q1⟩) I.quiet hs
def G4(te:TE):TS:=λD σ H=>te σ H D.rt
theorem qX(V:PE X e te):PS X (.Return (some e) pos) (G4 te):=by
 intro pins s σ H D I h;exact wpAny_Return_some (thn (V pins s σ H _ I h) λv Z ⟨x,H1,F,z,q1⟩=>⟨x,σ,H1,F,z,q1⟩)
def Q4(c:TT)(t u:TS):TS:=λD σ H=>c σ H λb H1=>if b=true then t D σ H1 else u D σ H1
theorem Ms{c:Expr}{a b:List Stmt}{tc:TT}(O:PT X c tc)(Y:PSs X a t)(U:PSs X b u):PS X (.If c a b pos) (Q4 tc t u):=by
 intro pins s σ H D I h;refine wpAny_If (thn (O pins s σ H _ I h) λd Z ⟨H1,F,q1⟩=>?_);cases d with
 |true=>exact Y pins Z σ H1 D F q1
 |false=>exact U pins Z σ H1 D F q1
end
abbrev TG:=V->St->Hp->(St->Hp->Prop)->Prop
abbrev TGs:=List V->St->Hp->(St->Hp->Prop)->Prop
def PG(X:Cx)(target:Expr)(t:TG):Prop:=
 ∀(pins:List (Addr×Obj))(s:S6)(σ:St)(H:Hp)(v:V)(u:Value)(Q:St->Hp->Prop),Inv X pins σ H s->RelV v u->t v σ H Q->
  wpAny (model X.prog X.w) X.A (Yx target X.env u) (λ_ s'=>∃F H',Inv X pins F H' s'/\Q F H') X.xe s
def PGs(X:Cx)(z:List Expr)(t:TGs):Prop:=
 ∀(pins:List (Addr×Obj))(s:S6)(σ:St)(H:Hp)(vs:List V)(us:List Value)(Q:St->Hp->Prop),Inv X pins σ H s->Vals vs us->t vs σ H Q->
  wpAny (model X.prog X.w) X.A (aa5 ((VR z X.env).map (·.2)) us) (λ_ s'=>∃F H',Inv X pins F H' s'/\Q F H') X.xe s
abbrev Ec:=V->V->V->Hp->(Hp->Prop)->Prop
def La(X:Cx)(t:Ec):Prop:=
 ∀(pins:List (Addr×Obj))(s:S6)(σ:St)(H:Hp)(o i v:V)(z N u:Value)(Q:Hp->Prop),Inv X pins σ H s->RelV o z->RelV i N->RelV v u->t o i v H Q->
  wpAny (model X.prog X.w) X.A (setItem z N u) (λ_ s'=>∃H',Inv X pins σ H' s'/\Q H') X.xe s
def tH(i:Nat):TG:=λv σ H Q=>Q (σ.set i (some v)) H
theorem vL(z:X.N.Nodup)(hi:X.N[i]? =some x)(F:Loc X.env.scope x)(Z:X.fn x=true∨X.env.scope.names.lookup x=some .local:=by first|exact .inl rfl|exact .inr rfl|assumption):PG X (.Name x pos) (tH i):=by
 intro pins s σ H v u Q I r h;exact wpAny_assign_Name (kO I z hi F r (λs' q=>⟨_,H,q,h⟩) Z)
def Ou:TGs:=λvs σ H Q=>vs=[]/\Q σ H
def Mt(t:TG)(u:TGs):TGs:=λvs σ H Q=>∃v r,vs=v::r/\t v σ H λF H'=>u r F H' Q
theorem K3:PGs X [] Ou:=by
 intro pins s σ H vs us Q I r h;obtain⟨e,h⟩:=h;subst e;cases r;exact assignInOrder_nil ⟨σ,H,I,h⟩
theorem Fd{t:TG}{u:TGs}(h1:PG X e t)(h2:PGs X es u)
  (hs:(VR (e::es) X.env).map (·.2)=Yx e X.env::(VR es X.env).map (·.2):=by rfl):PGs X (e::es) (Mt t u):=by
 intro pins s σ H vs us Q I r h;obtain⟨v,q,e1,h⟩:=h;subst e1;cases r with
 |cons r O=>
  rw[hs];refine Zv (thn (h1 pins s σ H _ _ _ I r h) λ_ Z ⟨B,H1,F,q1⟩=>?_);exact h2 pins Z B H1 _ _ Q F O q1
def Rg(K:Tn)(n:Nat)(t:TGs):TG:=λv σ H Q=>∃a xs,v= .ref a/\SqT K H a xs/\xs.length=n/\t xs σ H Q
variable{k:Nat}
theorem P_{t:TGs}(O:X.calm=true)(h:PGs X es t)
  (hn:(VR es X.env).length=n:=by rfl) (q:(VR es X.env).findIdx? (·.1)=none:=by rfl):PG X (.Tuple es k pos) (Rg X.K n t):=by
 intro pins s σ H v u Q I r N;obtain⟨a,xs,e1,B,Y,N⟩:=N;subst e1;cases r;obtain⟨its,z,U,hz⟩:=I.tuple B;refine assign_Tuple_tuple (I.ok.hd O) U (by simp[hn,←Y,z.length]) q λh' F=>?_;have V:Inv X pins σ H {s with heap:=h'}:=I.kept (t':=s.toks) λb o e=>F b o (T4 (TJ e)) e;exact h pins _ σ H xs _ Q V (by simpa using z) N
def iV(to q:TE)(t:Ec):TG:=λv σ H Q=>to σ H λo H1=>q σ H1 λi H2=>t o i v H2 λY=>Q σ Y
theorem Nh{o i:Expr}{to ti:TE}{t:Ec}(B:PE X o to)(hi:PE X i ti)(hs:La X t)
  (Y:∀v,Yx (.Subscript o i pos) X.env v=(do
   let ov ←Xh [v] (eval o X.env)
   let iv ←Xh [v,ov] (eval i X.env)
   standAt pos
   Xh [v,ov,iv] (setItem ov iv v)
   release [v,ov,iv] []):=by intro _;rfl):PG X (.Subscript o i pos) (iV to ti t):=by
 intro pins s σ H v u Q I r h;rw[Y];refine gD (Va (thn (B pins s σ H _ I h) λov Z ⟨x,H1,F,z,q1⟩=>?_));refine gD (Va (thn (hi pins Z σ H1 _ F q1) λiv O ⟨y,H2,V,N,q2⟩=>?_));refine gD (Xi (gD (Va (thn (hs pins O σ H2 x y v ov iv u _ V z N r q2) λ_ s3 ⟨H3,U,q⟩=>?_))));exact wpAny_release ⟨σ,H3,U,q⟩
def Fy(te:TE)(g:TG):TS:=λD σ H=>te σ H λx H1=>g x σ H1 D.nx
variable{te:TE}{g:TG}
theorem Ir(V:PE X e te)(B:PG X tg g)(hs:Xj [tg] e pos.line X.env=pure false:=by rfl)(N:YK [tg] e X.env=pure none:=by rfl)
  (h1:(VR [tg] X.env).map (·.2)=[Yx tg X.env]:=by rfl):PS X (.Assign [tg] e pos) (Fy te g):=by
 intro pins s σ H D I h;refine wpAny_Assign_stores (thn (V pins s σ H _ I h) λv Z ⟨x,H1,F,z,q1⟩=>?_) hs N;rw[h1];exact thn (B pins Z σ H1 x v _ F z q1) λ_ O q=>q
theorem FW(B:X.N.Nodup)(hi:X.N[i]? =some x)(F:Loc X.env.scope x)(V:PE X e te)(hs:WT e (some (.Name x pos')) pos.line X.env=pure false:=by rfl)(Y:X.fn x=true∨X.env.scope.names.lookup x=some .local:=by first|exact .inl rfl|exact .inr rfl|assumption) :
  PS X (.Assign [.Name x pos'] e pos) (Fy te (tH i)):=by
 intro pins s σ H D I h;refine wpAny_Assign_Name (thn (V pins s σ H _ I h) λv Z ⟨y,H1,q,z,q1⟩=>?_) hs;exact kO q B hi F z (λO U=>⟨_,H1,U,q1⟩) Y
def Rh(i j:Nat)(ta:TA):TS:=λD σ H=>ta σ H λvs H1=>∃v w,vs=[v,w]/\D.nx ((σ.set i (some v)).set j (some w)) H1
variable{a:Expr}{ta:TA}
theorem Oq{b:Expr}{px py pt:Pos}{kt k2 pt2}(O:X.calm=true)(hN:X.N.Nodup)(hi:X.N[i]? =some x)(V:X.N[j]? =some y)(B:i≠j)
  (F:X.env.scope.names.lookup x=some .local) (hy:X.env.scope.names.lookup y=some .local) (Y:PA X [a,b] ta)
  (hw:YK [.Tuple [.Name x px,.Name y py] kt pt] (.Tuple [a,b] k2 pt2) X.env=pure (some [x,y]))
  (hs:Xj [.Tuple [.Name x px,.Name y py] kt pt] (.Tuple [a,b] k2 pt2) pos.line X.env=pure false:=by rfl) :
  PS X (.Assign [.Tuple [.Name x px,.Name y py] kt pt] (.Tuple [a,b] k2 pt2) pos) (Rh i j ta):=by
 intro pins s σ H D I h;rw[aam];refine gD (Xi ?_);rw[hs];refine gD (S7 ?_);rw[TQ (by decide)];refine gD (Tuple_ (thn (Y _ pins s σ H _ I h) λus Z ⟨vs,H1,I1,z,q1⟩=>?_));obtain⟨v,w,e1,q1⟩:=q1;subst e1;obtain⟨u1,u2,rfl,U,a1⟩:∃u1 u2,us=[u1,u2]/\RelV v u1/\RelV w u2:=by
  cases z with
  |cons p q=>
   cases q with
   |cons p' q'=>
    cases q';exact⟨_,_,rfl,p,p'⟩
 refine Uu ?_ (by show 2<=Te;decide);have I2:Inv X pins σ H1 {Z with heap:=Z.heap.push {cls:=.type "tuple",data:=.seq [u1,u2].toArray}}:=I1.kept (t':=Z.toks) λb o e=>S_ _ e;rw[hw];refine gD (S7 ?_);show wpAny (model X.prog X.w) X.A (do rule "assign.swapped-stores";let items ←unpackItems (.ref Z.heap.objs.size) 2 none;aa5 [λv=>bindName X.env y v,λv=>bindName X.env x v] items.reverse;pure Flow.next) _ _ _;refine gD (Wj (gD (unpackItems_tuple (items:=#[u1,u2]) (I.ok.hd O) (IsTup.new Z.heap _) λh' a0=>?_)));have I3:=I2.kept (h':=h') (t':=Z.toks) λb o e=>a0 b o (T4 (TJ e)) e;show wpAny _ _ (aa5 [λv=>bindName X.env y v,λv=>bindName X.env x v] [u2,u1] >>=λ_=>pure Flow.next) _ _ _;refine gD (Zv (wpAny_bindName (kO I3 hN V (.inl hy) a1 (λs2 I4=>?_) (.inr hy))));refine Zv (wpAny_bindName (kO I4 hN hi (.inl F) U (λs3 I5=>assignInOrder_nil (S7 ?_)) (.inr F)));rw[List.set_comm _ _ (U0 B)]at I5;exact⟨_,H1,I5,q1⟩
def HQ(c:TT)(tb:TS):TS:=λD σ H=>∃W:Nat->St->Hp->Prop,(∃m,W m σ H)/\∀m σ H,W m σ H->
 c σ H λb H1=>if b=true then ∃N:St->Hp->Prop,(∀F H',N F H'->∃m',m'<m/\W m' F H')/\tb {D with nx:=N,ct:=N,bk:=D.nx} σ H1 else D.nx σ H1
variable{tb:TS}
theorem H_{tc:TT}(hp:Zw (model X.prog X.w) X.A X.env X.xe)(O:PT X c tc)(U:PSs X B tb):PS X (.While c B [] pos) (HQ tc tb):=by
 intro pins s σ H D I h;obtain⟨W,⟨m0,w0⟩,a2⟩:=h;refine wpAny_While (codeAny_whileLoop (λn s'=>∃F H',Inv X pins F H' s'/\W n F H') ?_ m0 ⟨σ,H,I,w0⟩);rintro n Z ⟨a1,H1,I1,w1⟩;refine WY hp (thn (O pins Z a1 H1 _ I1 (a2 n a1 H1 w1)) λb s2 ⟨H2,V,q2⟩=>?_);cases b with
 |true=>
  obtain⟨N,z,q2⟩:=q2;rw[Tz rfl];refine WY hp (thn (U pins s2 a1 H2 _ V q2) λf s3 q=>?_);cases f with
  |next=>
   obtain⟨a0,Y,I3,n3⟩:=q;obtain⟨m',hm,w3⟩:=z a0 Y n3;exact⟨m',hm,a0,Y,I3,w3⟩
  |cont=>
   obtain⟨a0,Y,I3,n3⟩:=q;obtain⟨m',hm,w3⟩:=z a0 Y n3;exact⟨m',hm,a0,Y,I3,w3⟩
  |brk=>exact q
  |ret v=>exact q
 |false=>
  rw[TQ Uk];exact Y_ ⟨a1,H2,V,q2⟩
structure It where
 go:Nat->Hp->Prop
 yld:Nat->Hp->V->Hp->Prop
 stop:Nat->Hp->Prop
def jl(X:Cx)(pins:List (Addr×Obj))(H:Hp)(b:Addr):Prop:=
 H b=none/\b≠X.env.locals/\b∉X.fs/\(b∈X.ex∨X.s₀.heap.objs.size<=b)/\(∀x c,X.env.cells.lookup x=some c->c≠b)/\∀p∈X.pn++pins,p.1≠b
variable{s:S6}
theorem Inv.fpOk(I:Inv X pins σ H s)(U:s.heap.objs.size<=b)(hn:H' b=none):jl X pins H' b:=by
 refine⟨hn,W_ (T6 I.lt U),I.nofs U,.inr (V4 I.sz U),λx c e z=>?_,λp N z=>?_⟩
 .obtain⟨v,q⟩:=I.cell x c e
  exact absurd (T6 q.lt (by rw[z];exact U)) (Vq _)
 .exact absurd (T6 (TJ (I.pin p N).1) (by rw[z];exact U)) (Vq _)
structure Turn(P:Program)(w:World)(K:PySem.W.Frag)(tg:Expr)(J:It)(fp:List Addr)(it:Addr)(tn:Nat->Heap->Prop):Prop where
 mem:it∈fp
 obj:∀i h,tn i h->∀b∈fp,∃o,h.get? b=some o/\∀v,o.data≠.cell v
 keep:∀i h h',tn i h->(∀b∈fp,∀o,h.get? b=some o->h'.get? b=some o)->tn i h'
 item:∀(X:Cx),X.prog=P->X.w=w->X.K=K->X.calm=true->∀(i:Nat)(pins:List (Addr×Obj))(s:S6)(σ:St)(H:Hp)(E:Value->S6->Prop),Inv X pins σ H s->(∀b∈fp,jl X pins H b)->tn i s.heap->J.go i H->
  wpAny (model P w) X.A (Yb (.ref it)) (λr s1=>∃u,r=some u/\
   wpAny (model P w) X.A (X5 tg (.ref it) u) (λ_ s2=>∃x H',Inv X pins σ H' s2/\RelV x u/\J.yld i H x H'/\tn (i+1) s2.heap/\∀b∈fp,H' b=none) E s1) E s
 done:∀(X:Cx),X.prog=P->X.w=w->X.K=K->X.calm=true->∀(i:Nat)(pins:List (Addr×Obj))(s:S6)(σ:St)(H:Hp)(E:Value->S6->Prop),Inv X pins σ H s->(∀b∈fp,jl X pins H b)->tn i s.heap->J.stop i H->
  wpAny (model P w) X.A (Yb (.ref it)) (λr s1=>r=none/\Inv X pins σ H s1) E s
 self:∀(A:U4)(i:Nat)(s:S6)(Q:Value->S6->Prop)(E:Value->S6->Prop),tn i s.heap->Q (.ref it) s->wpAny (model P w) A (aaC (.ref it)) Q E s
abbrev TI:=St->Hp->(It->Hp->Prop)->Prop
def PIE(X:Cx)(pins:List (Addr×Obj))(σ:St)(tg:Expr)(R:It->Hp->Prop)(z:Value)(O:S6):Prop:=
 ∃(it:Addr)(fp:List Addr)(q:Nat->Heap->Prop)(J:It)(H':Hp),z= .ref it/\Inv X pins σ H' O/\Turn X.prog X.w X.K tg J fp it q/\q 0 O.heap/\(∀b∈fp,jl X pins H' b)/\R J H'
def PI(X:Cx)(tg iter:Expr)(wi:TI):Prop:=
 ∀(pins:List (Addr×Obj))(s:S6)(σ:St)(H:Hp)(R:It->Hp->Prop),Inv X pins σ H s->wi σ H R->
  wpAny (model X.prog X.w) X.A (eval iter X.env) (λv Z=>wpAny (model X.prog X.w) X.A (aaC v) (PIE X pins σ tg R) X.xe Z) X.xe s
theorem Bu   {E:Value->S6->Prop}      {n:String} {vs:Array Value}  (B:s.heap.get? it=some o) (O:o.cls = .type n) (hd:o.data = .fields vs)
    (hn:["enumerate", "zip", "dict_itemiterator", "dict_reverseitemiterator", "odict_iterator", "itertools.zip_longest", "itertools.pairwise"].contains n=false) (q:Q () s):wpAny M A (X5 tg (.ref it) u) Q E s:=by
  unfold X5
  cases tg <;> first
    | exact S7 q
    | (cases u <;> first
        | exact S7 q
        | (refine gD (Za B ?_)
           rw [O,hd]
           show wpAny M A (if (["enumerate", "zip", "dict_itemiterator", "dict_reverseitemiterator", "odict_iterator", "itertools.zip_longest", "itertools.pairwise"].contains n && vs[0]? == some (Vh _))=true then _ else _) Q E s
           rw [TQ (by intro h; rw [hn,Bool.false_and] at h; cases h)]
           exact S7 q))
def Itl(K:Tn)(a:Addr):It:=
 ⟨λi H=>∃xs x,SqL K H a xs/\xs[i]? =some x,λi H x H'=>H'=H/\∀xs,SqL K H a xs->xs[i]? =some x,λi H=>∃xs,SqL K H a xs/\xs.length<=i⟩
def Itt(K:Tn)(a:Addr):It:=
 ⟨λi H=>∃xs x,SqT K H a xs/\xs[i]? =some x,λi H x H'=>H'=H/\∀xs,SqT K H a xs->xs[i]? =some x,λi H=>∃xs,SqT K H a xs/\xs.length<=i⟩
def Itr(lo:Int)(n:Nat):It:=⟨λi _=>i<n,λi H x H'=>H'=H/\x= .int (lo+i),λi _=>n<=i⟩
variable{P:Uj}
theorem Ep{K:Tn}(a it:Addr):Turn P w K tg (Itl K a) [it] it (λi h=>h.IsListIter it a i)where
 mem:=by simp
 obj:=λi h st b U=>by
  have e:b=it:=by simpa using U
  subst e;obtain⟨o,e,c,d⟩:=st;exact⟨o,e,λv z=>by rw[d]at z;cases z⟩
 keep:=λi h h' st k=>st.at λo e=>k it (by simp) o e
 item:=by
  intro X hP N hK O i pins s σ H E I Z st q;subst hP N hK;obtain⟨xs,x,B,F⟩:=q;obtain⟨its,rv,p,hz⟩:=I.list B;obtain⟨u,hu,ru⟩:=rv.get F;obtain⟨f0,f1,f2,f3,f4,f5⟩:=Z it (by simp);refine Yy st p.isList (x:=u) (by simpa using hu) λh' a0 sb=>?_;have I1:Inv X pins σ H {s with heap:=h'}:=I.turned (t':=s.toks) (λb o U e=>(sb.2 b U).trans e) f0 f1 f3 f4 f5;obtain⟨o,e,c,d⟩:=id a0;exact⟨u,rfl,Bu (s:={s with heap:=h'}) e c d (by decide) ⟨x,H,I1,ru,⟨rfl,λys V=>by rw[I.list_inj V B];exact F⟩,a0,λb U=>(Z b U).1⟩⟩
 done:=by
  intro X hP N hK O i pins s σ H E I Z st q;subst hP N hK;obtain⟨xs,B,F⟩:=q;obtain⟨its,rv,p,hz⟩:=I.list B;obtain⟨f0,f1,f2,f3,f4,f5⟩:=Z it (by simp);have Y:=rv.length;exact Y6 (I.ok.hd O) st p.isList (by simp;omega) λh' eb=>⟨rfl,I.turned (t':=s.toks) (λb o U e=>eb b o U e) f0 f1 f3 f4 f5⟩
 self:=λ_ _ _ _ _ st h=>wpAny_pyIter_listiter st h
theorem Am{K:Tn}(a it:Addr):Turn P w K tg (Itt K a) [it] it (λi h=>h.IsTupleIter it a i)where
 mem:=by simp
 obj:=λi h st b U=>by
  have e:b=it:=by simpa using U
  subst e;obtain⟨o,e,c,d⟩:=st;exact⟨o,e,λv z=>by rw[d]at z;cases z⟩
 keep:=λi h h' st k=>st.at λo e=>k it (by simp) o e
 item:=by
  intro X hP N hK O i pins s σ H E I Z st q;subst hP N hK;obtain⟨xs,x,B,F⟩:=q;obtain⟨its,rv,p,hz⟩:=I.tuple B;obtain⟨u,hu,ru⟩:=rv.get F;obtain⟨f0,f1,f2,f3,f4,f5⟩:=Z it (by simp);refine wpAny_pyNext_tuple_item st (show s.heap.IsTuple a its.toArray from p) (x:=u) (by simpa using hu) λh' a0 sb=>?_;have I1:Inv X pins σ H {s with heap:=h'}:=I.turned (t':=s.toks) (λb o U e=>(sb.2 b U).trans e) f0 f1 f3 f4 f5;obtain⟨o,e,c,d⟩:=id a0;exact⟨u,rfl,Bu (s:={s with heap:=h'}) e c d (by decide) ⟨x,H,I1,ru,⟨rfl,λys V=>by rw[I.tuple_inj V B];exact F⟩,a0,λb U=>(Z b U).1⟩⟩
 done:=by
  intro X hP N hK O i pins s σ H E I Z st q;subst hP N hK;obtain⟨xs,B,F⟩:=q;obtain⟨its,rv,p,hz⟩:=I.tuple B;obtain⟨f0,f1,f2,f3,f4,f5⟩:=Z it (by simp);have Y:=rv.length;exact wpAny_pyNext_tuple_end (I.ok.hd O) st (show s.heap.IsTuple a its.toArray from p) (by simp;omega) λh' eb=>⟨rfl,I.turned (t':=s.toks) (λb o U e=>eb b o U e) f0 f1 f3 f4 f5⟩
 self:=λ_ _ _ _ _ st h=>wpAny_pyIter_tupleiter st h
theorem Aa{K:Tn}(it:Addr)(lo:Int)(n:Nat):Turn P w K tg (Itr lo n) [it] it (λi h=>IsRangeIter h it (lo+(i:Nat)*1) ((n:Int)-(i:Nat)) 1)where
 mem:=by simp
 obj:=λi h st b U=>by
  have e:b=it:=by simpa using U
  subst e;exact⟨_,st,λv z=>by
   have z':Data.fields _=Data.cell v:=z;cases z'⟩
 keep:=λi h h' st k=>k it (by simp) _ st
 item:=by
  intro X hP N hK O i pins s σ H E I Z st q;subst hP N hK;obtain⟨f0,f1,f2,f3,V,f5⟩:=Z it (by simp);have W:=Walks.range (prog:=X.prog) (w:=X.w) (I.ok.hd O) it lo 1 n;refine W.item i s _ _ q st λv h' tk B Y kk=>?_;obtain⟨t,rfl⟩:=B;have F:Inv X pins σ H {s with heap:=h',toks:=tk}:=I.turned (λb o U e=>kk b o (by simpa using U) e) f0 f1 f3 V f5;refine⟨_,rfl,Bu (s:={s with heap:=h',toks:=tk}) (n:="range_iterator") Y rfl rfl (by decide) ⟨.int (lo+i),H,F,⟨t,?_⟩,⟨rfl,rfl⟩,Y,λb U=>(Z b U).1⟩⟩;rw[Int.mul_one]
 done:=by
  intro X hP N hK O i pins s σ H E I Z st q;subst hP N hK;obtain⟨f0,f1,f2,f3,V,f5⟩:=Z it (by simp);exact wpAny_pyNext_range_end (I.ok.hd O) st (by have:n<=i:=q;omega) λh' eb=>⟨rfl,I.turned (t':=s.toks) (λb o U e=>eb b o U e) f0 f1 f3 V f5⟩
 self:=λ_ _ _ _ _ st h=>wpAny_pyIter_rangeiter st h
theorem GF{R:It->Hp->Prop}{E:Value->S6->Prop}{lo hi:Int}{t u v:Tok}(I:Inv X pins σ H s)(h1: -(2 ^ 62)<=lo)(h2:lo<2 ^ 62)(O: -(2 ^ 62)<=hi)(z:hi<2 ^ 62)
  (q:R (Itr lo (hi-lo).toNat) H):wpAny (model X.prog X.w) X.A (aaC (.ref s.heap.objs.size)) (PIE X pins σ tg R) E {s with heap:=s.heap.push {cls:=.type "range",data:=.fields #[.int lo t,.int hi u,.int 1 v]},toks:=tk}:=by
 refine wpAny_pyIter_range (IsRange.new ..) (small_one h1 h2 O z) ?_;have F:Inv X pins σ H {s with heap:=s.heap.push {cls:=.type "range",data:=.fields #[.int lo t,.int hi u,.int 1 v]},toks:=tk}:=I.kept λb o e=>S_ _ e;refine⟨(s.heap.push {cls:=.type "range",data:=.fields #[.int lo t,.int hi u,.int 1 v]}).objs.size,[(s.heap.push {cls:=.type "range",data:=.fields #[.int lo t,.int hi u,.int 1 v]}).objs.size],_,_,H,rfl,
  F.kept (t':=tk) λb o e=>S_ _ e,Aa _ lo (hi-lo).toNat,?_,λb U=>?_,q⟩
 .have e1:lo+((0:Nat):Int)*1=lo:=by simp
  have e2:(((hi-lo).toNat:Nat):Int)-((0:Nat):Int)=Builtin.Range.rangeSize lo hi 1:=by rw[rangeSize_one];split<;>omega
  show IsRangeIter _ _ (lo+((0:Nat):Int)*1) ((((hi-lo).toNat:Nat):Int)-((0:Nat):Int)) 1;rw[e1,e2];exact TV _ rfl
 .have e:b=(s.heap.push {cls:=.type "range",data:=.fields #[.int lo t,.int hi u,.int 1 v]}).objs.size:=by simpa using U
  subst e;exact F.fpOk (Tg _) (F.hok.fresh (Tg _))
def Gh(ta:TA):TI:=λσ H R=>ta σ H λvs H1=>∃j:Int,vs=[.int j]/\-(2 ^ 62)<=j/\j<2 ^ 62/\R (Itr 0 j.toNat) H1
theorem uF{p:Pos}(B:Gl X "range")(N:X.mg "range"=none)(Y:PA X [a] ta)(hs:Tj [a] X.env=[(false,eval a X.env)]:=by rfl):PI X tg (.Call (.Name "range" p) [a] [] pos) (Gh ta):=by
 intro pins s σ H R I h;refine Call_ (mj I B N boot_range (WW (thn (Y pos pins s σ H _ I h) λus Z ⟨vs,H1,F,z,q1⟩=>?_) hs rfl));obtain⟨j,e,q1,q2,q⟩:=q1;subst e;cases z with
 |cons r O=>
  cases O;obtain⟨t,rfl⟩:=r;exact call_range_1 (GF F (by omega) (by omega) q1 q2 (by simpa using q))
def Kd(wi:TI)(g:TG)(tb:TS):TS:=λD σ H=>wi σ H λJ H1=>∃W:Nat->Nat->St->Hp->Prop,(∃m,W 0 m σ H1)/\∀i m σ H,W i m σ H->
 (J.stop i H/\D.nx σ H)∨(J.go i H/\∃N:St->Hp->Prop,(∀F H',N F H'->∃m',m'<m/\W (i+1) m' F H')/\∀x H',J.yld i H x H'->g x σ H' λσ2 H2=>tb {D with nx:=N,ct:=N,bk:=D.nx} σ2 H2)
def jk(fp:List Addr)(h:Heap):List (Addr×Obj):=fp.filterMap λb=>(h.get? b).map λo=>(b,o)
theorem cN(U:b∈fp)(e:h.get? b=some o):(b,o)∈jk fp h:=Zx.mpr ⟨b,U,by rw[e];rfl⟩
theorem o4{p:Addr×Obj}(N:p∈jk fp h):p.1∈fp/\h.get? p.1=some p.2:=by
 obtain⟨b,U,e⟩:=Zx.mp N;cases q:h.get? b with
 |none=>rw[q]at e;cases e
 |some o=>
  rw[q]at e;have e':(b,o)=p:=UG e;subst e';exact⟨U,q⟩
theorem Inv.pinned(I:Inv X pins σ H s)(Z:∀b∈fp,jl X pins H b)(B:∀b∈fp,∃o,s.heap.get? b=some o/\∀v,o.data≠.cell v):Inv X (pins++jk fp s.heap) σ H s:=
 I.pins_of λp N=>(S9.mp N).elim (λz=>I.pin p (Tc _ z)) λz=>by
  obtain⟨U,e⟩:=o4 z;obtain⟨q,O,F,_⟩:=Z p.1 U;obtain⟨o,e',d⟩:=B p.1 U;rw[e]at e';cases e';exact⟨e,q,O,F,d⟩
theorem Inv.unpinned{B:List (Addr×Obj)}(I:Inv X (pins++B) σ H s):Inv X pins σ H s:=I.pins_of λp N=>I.pin p (Tc _ (Th _ N))
theorem zW{iter:Expr}{wi:TI}(hp:Zw (model X.prog X.w) X.A X.env X.xe)(O:X.calm=true)(hi:PI X tg iter wi)(q:PG X tg g)(U:PSs X B tb)
  (hs:∀x,VJ iter X.env x=pure x:=by intro _;rfl):PS X (.For tg iter B [] pos) (Kd wi g tb):=by
 intro pins s σ H D I h;refine wpAny_For (thn (hi pins s σ H _ I h) λv s1 h1=>thn h1 λb2 s2 h2=>?_) hs;obtain⟨it,fp,tn,J,H2,e,V,T,b0,f2,W,⟨m0,w0⟩,a5⟩:=h2;subst e;have a2:∀{H':Hp},(∀b∈fp,H' b=none)->∀b∈fp,jl X pins H' b:=λhn b U=>⟨hn b U,(f2 b U).2⟩;refine codeAny_forLoop_any (λn s'=>∃i F H',Inv X pins F H' s'/\tn i s'.heap/\(∀b∈fp,H' b=none)/\W i n F H') ?_ m0 ⟨0,σ,H2,V,b0,λb U=>(f2 b U).1,w0⟩;rintro n s3 ⟨i,a1,Y,I3,a7,a6,w3⟩;rcases a5 i n a1 Y w3 with⟨stop,qn⟩|⟨go,N,z,step⟩
 .refine WY hp (thn (T.done X rfl rfl rfl O i pins s3 a1 Y X.xe I3 (a2 a6) a7 stop) λr s4 ⟨Z,I4⟩=>?_)
  subst Z;exact Y_ ⟨a1,Y,I4,qn⟩
 .refine WY hp (thn (T.item X rfl rfl rfl O i pins s3 a1 Y X.xe I3 (a2 a6) a7 go) λr s4 ⟨u,Z,h4⟩=>?_)
  subst Z;refine WY hp (thn h4 λ_ s5 ⟨x,H5,I5,r5,y5,a4,a9⟩=>?_);have b1:=I5.pinned (a2 a9) (T.obj _ _ a4);refine WY hp (thn (q _ s5 a1 H5 x u _ b1 r5 (step x H5 y5)) λ_ s6 ⟨a8,H6,I6,q6⟩=>?_);refine WY hp (thn (U _ s6 a8 H6 _ I6 q6) λf s7 q7=>?_);have a3:∀{a0:St}{H7:Hp},Inv X (pins++jk fp s5.heap) a0 H7 s7->N a0 H7->∃m,m<n/\∃i F H',Inv X pins F H' s7/\tn i s7.heap/\(∀b∈fp,H' b=none)/\W i m F H':=λ{a0 H7} I7 n7=>by
   obtain⟨m',hm,w7⟩:=z a0 H7 n7;refine⟨m',hm,i+1,a0,H7,I7.unpinned,T.keep _ _ _ a4 λb U o e=>(I7.pin (b,o) (Tc _ (Tc _ (cN U e)))).1,λb U=>?_,w7⟩;obtain⟨o,e,d⟩:=T.obj _ _ a4 b U;exact(I7.pin (b,o) (Tc _ (Tc _ (cN U e)))).2.1
  cases f with
  |next=>obtain⟨a0,H7,I7,n7⟩:=q7;exact a3 I7 n7
  |cont=>obtain⟨a0,H7,I7,n7⟩:=q7;exact a3 I7 n7
  |brk=>obtain⟨a0,H7,I7,q7⟩:=q7;exact⟨a0,H7,I7.unpinned,q7⟩
  |ret v=>obtain⟨x7,a0,H7,I7,r7,q7⟩:=q7;exact⟨x7,a0,H7,I7.unpinned,r7,q7⟩
abbrev R2:=V->V->Hp->VK->Prop
def OpR(X:Cx)(f:Value->Value->Sem Value)(r:R2):Prop:=
 ∀(pins:List (Addr×Obj))(s:S6)(σ:St)(H:Hp)(x y:V)(v u:Value)(Q:VK),Inv X pins σ H s->RelV x v->RelV y u->r x y H Q->
  wpAny (model X.prog X.w) X.A (f v u) (EP X pins σ Q) X.xe s
def UnR(X:Cx)(f:Value->Sem Value)(r:V->Hp->VK->Prop):Prop:=
 ∀(pins:List (Addr×Obj))(s:S6)(σ:St)(H:Hp)(x:V)(v:Value)(Q:VK),Inv X pins σ H s->RelV x v->r x H Q->
  wpAny (model X.prog X.w) X.A (f v) (EP X pins σ Q) X.xe s
def fO(X:Cx)(f:Value)(r:List V->Hp->VK->Prop):Prop:=
 ∀(pins:List (Addr×Obj))(s:S6)(σ:St)(H:Hp)(xs:List V)(us:List Value)(Q:VK),Inv X pins σ H s->Vals xs us->r xs H Q->
  wpAny (model X.prog X.w) X.A (call f us) (EP X pins σ Q) X.xe s
def R7(X:Cx)(r:V->Hp->(Bool->Hp->Prop)->Prop):Prop:=
 ∀(pins:List (Addr×Obj))(s:S6)(σ:St)(H:Hp)(x:V)(v:Value)(Q:Bool->Hp->Prop),Inv X pins σ H s->RelV x v->r x H Q->
  wpAny (model X.prog X.w) X.A (truthy v) (TP X pins σ Q) X.xe s
def tOp(r:R2)(ta tb:TE):TE:=λσ H Q=>ta σ H λx H1=>tb σ H1 λy H2=>r x y H2 Q
def tUn(r:V->Hp->VK->Prop)(ta:TE):TE:=λσ H Q=>ta σ H λx H1=>r x H1 Q
def rI(C:Int->Int->Prop)(g:Int->Int->V):R2:=λx y H Q=>∃i j,x= .int i/\y= .int j/\C i j/\Q (g i j) H
def rI0(g:Int->Int->V):R2:=λx y H Q=>∃i j,x= .int i/\y= .int j/\Q (g i j) H
def rU(g:Int->V):V->Hp->VK->Prop:=λx H Q=>∃i,x= .int i/\Q (g i) H
variable{b:Expr}{f:Value->Value->Sem Value}{ta tb:TE}
theorem PN(Y:PE X a ta)(U:PE X b tb){R:V->V->Hp->Prop}(I:Inv X pins σ H s)
  (h:ta σ H λx H1=>tb σ H1 λy H2=>R x y H2) {Q:Value->S6->Prop} 
  (hf:∀v u O x y H2,Inv X pins σ H2 O->RelV x v->RelV y u->R x y H2->wpAny (model X.prog X.w) X.A (f v u) Q X.xe O) :
  wpAny (model X.prog X.w) X.A (eval a X.env) (λv q=>wpAny (model X.prog X.w) X.A (eval b X.env) (λu B=>wpAny (model X.prog X.w) X.A (f v u) Q X.xe B) X.xe q) X.xe s:=by
 refine thn (Y pins s σ H _ I h) λv Z ⟨x,H1,F,z,q1⟩=>?_;refine thn (U pins Z σ H1 _ F q1) λu O ⟨y,H2,I2,N,q2⟩=>?_;exact hf v u O x y H2 I2 z N q2
variable{r:R2}
theorem Mi{op:Operator}(B:OpR X (Vp op) r)(Y:PE X a ta)(U:PE X b tb):PE X (.BinOp a op b pos) (tOp r ta tb):=by
 intro pins s σ H Q I h;exact wpAny_BinOp (PN Y U I h λv u O x y H2 V rx N q=>B pins O σ H2 x y v u Q V rx N q)
theorem Rw{op:UnaryOp}{r:V->Hp->VK->Prop}(B:UnR X (unaryOp op) r)(Y:PE X a ta):PE X (.UnaryOp op a pos) (tUn r ta):=by
 intro pins s σ H Q I h;exact UnaryOp_ (thn (Y pins s σ H _ I h) λv Z ⟨x,H1,F,z,q1⟩=>B pins Z σ H1 x v Q F z q1)
variable{g:Int->Int->Int}
theorem opI
  (z:∀(i j:Int)(t u:Tok)(s:S6)(Q:Value->S6->Prop)(E:Value->S6->Prop),C i j->Q (.int (g i j) s.toks) {s with toks:=s.toks+1}->wpAny (model X.prog X.w) X.A (f (.int i t) (.int j u)) Q E s) :
  OpR X f (rI C λi j=>.int (g i j)):=by
 intro pins s σ H x y v u Q I rx N h;obtain⟨i,j,rfl,rfl,O,q⟩:=h;obtain⟨t,rfl⟩:=rx;obtain⟨t',rfl⟩:=N;exact z i j t t' s _ _ O ⟨.int (g i j),H,I.tok _,⟨_,rfl⟩,q⟩
theorem RL
  (z:∀(i j:Int)(t u:Tok)(s:S6)(Q:Value->S6->Prop)(E:Value->S6->Prop),Q (.int (g i j) s.toks) {s with toks:=s.toks+1}->wpAny (model X.prog X.w) X.A (f (.int i t) (.int j u)) Q E s) :
  OpR X f (rI0 λi j=>.int (g i j)):=by
 intro pins s σ H x y v u Q I rx N h;obtain⟨i,j,rfl,rfl,q⟩:=h;obtain⟨t,rfl⟩:=rx;obtain⟨t',rfl⟩:=N;exact z i j t t' s _ _ ⟨.int (g i j),H,I.tok _,⟨_,rfl⟩,q⟩
theorem MN{g:Int->Int->Bool}
  (z:∀(i j:Int)(t u:Tok)(s:S6)(Q:Value->S6->Prop)(E:Value->S6->Prop),Q (.bool (g i j)) s->wpAny (model X.prog X.w) X.A (f (.int i t) (.int j u)) Q E s) :
  OpR X f (rI0 λi j=>.bl (g i j)):=by
 intro pins s σ H x y v u Q I rx N h;obtain⟨i,j,rfl,rfl,q⟩:=h;obtain⟨t,rfl⟩:=rx;obtain⟨t',rfl⟩:=N;exact z i j t t' s _ _ ⟨.bl (g i j),H,I,rfl,q⟩
def Sg(i j:Int):Prop:=0<j/\j<1073741824
def SN(i j:Int):Prop:=0<=j/\j<=1000000/\i.natAbs<2 ^ 64
def Pu(i j:Int):Prop:=(-(2 ^ 64)<i/\i<2 ^ 64)∨(-(2 ^ 64)<j/\j<2 ^ 64)
theorem Pu.ok{i j:Int}(h:Pu i j):IntMulOk i j:=by
 rcases h with⟨h1,h2⟩|⟨h1,h2⟩
 .exact .of_left (intBits_le_64 h1 h2)
 .exact .of_right (intBits_le_64 h1 h2)
theorem Og:OpR X (Vp .Add) (rI0 λi j=>.int (i+j)):=RL λ_ _ _ _ _ _ _ q=>add_int q
theorem Pn:OpR X (Vp .Sub) (rI0 λi j=>.int (i-j)):=RL λ_ _ _ _ _ _ _ q=>sub_int q
theorem Qa:OpR X (Vp .Mult) (rI Pu λi j=>.int (i*j)):=opI λ_ _ _ _ _ _ _ O q=>mul_int q O.ok
theorem Nj:OpR X (Vp .Mod) (rI (λ_ j=>0<j) λi j=>.int (i % j)):=opI λi j _ _ _ _ _ O q=>by
 have h1:(0:Int)<j:=O;exact mod_int' (by omega) (by rw[ZF i (by omega)];exact q)
theorem PP:OpR X (Vp .Pow) (rI SN λi j=>.int (i ^ j.toNat)):=opI λ_ _ _ _ _ _ _ O q=>pow_int_small O.1 O.2.1 O.2.2 q
theorem unI{f:Value->Sem Value}{g:Int->Int}
  (z:∀(i:Int)(t:Tok)(s:S6)(Q:Value->S6->Prop)(E:Value->S6->Prop),Q (.int (g i) s.toks) {s with toks:=s.toks+1}->wpAny (model X.prog X.w) X.A (f (.int i t)) Q E s) :
  UnR X f (rU λi=>.int (g i)):=by
 intro pins s σ H x v Q I rx h;obtain⟨i,rfl,q⟩:=h;obtain⟨t,rfl⟩:=rx;exact z i t s _ _ ⟨.int (g i),H,I.tok _,⟨_,rfl⟩,q⟩
theorem O9:UnR X (unaryOp .USub) (rU λi=>.int (-i)):=unI λ_ _ _ _ _ q=>neg_int q
theorem Gb{Q:VK}{k N:Bool}(I:Inv X pins σ H s)(q:Q (.bl k) H)(e:k=N):EP X pins σ Q (.bool N) s:=by
 subst e;exact⟨.bl k,H,I,rfl,q⟩
theorem QS:OpR X (UL .Lt) (rI0 λi j=>.bl (decide (i<j))):=MN λ_ _ _ _ _ _ _ q=>lt_int q
theorem Q_:OpR X (UL .Gt) (rI0 λi j=>.bl (decide (j<i))):=MN λ_ _ _ _ _ _ _ q=>gt_int q
theorem Qv:OpR X (UL .GtE) (rI0 λi j=>.bl (decide (j<=i))):=MN λ_ _ _ _ _ _ _ q=>ge_int q
theorem DY:OpR X (UL .Lt) (λx y H Q=>∃i j,x= .str i/\y= .str j/\Q (.bl (decide (i.cps.toList<j.cps.toList))) H):=by
 intro pins s σ H x y v u Q I rx N h;obtain⟨i,j,rfl,rfl,q⟩:=h;obtain⟨t,rfl⟩:=rx;obtain⟨t',rfl⟩:=N;exact lt_str (Gb I q rfl)
theorem J7:OpR X (UL .IsNot) (λx y H Q=>y= .non/\Q (.bl (!decide (x= .non))) H):=by
 intro pins s σ H x y v u Q I rx N h;obtain⟨rfl,q⟩:=h;cases N;refine isnot_none_gen (Gb I q ?_);cases x<;>first
  |(cases rx;rfl)
  |(obtain⟨t,rfl⟩:=rx;rfl)
theorem CJ(B:OpR X (UL op) r)(Y:PE X a ta)(U:PE X b tb)(N:XR op b=false):PE X (.Compare a [op] [b] pos) (tOp r ta tb):=by
 intro pins s σ H Q I h;exact wpAny_Compare1 (PN Y U I h λv u O x y H2 V rx z q=>B pins O σ H2 x y v u Q V rx z q) N
def Iv(t:TE):TT:=λσ H Q=>t σ H λx H'=>∃k,x= .bl k/\Q k H'
theorem CQ(B:OpR X (UL op) r)(Y:PE X a ta)(U:PE X b tb)(N:XR op b=false):PT X (.Compare a [op] [b] pos) (Iv (tOp r ta tb)):=by
 intro pins s σ H Q I h;refine wpAny_isTrue_Compare1 (thn (Y pins s σ H _ I h) λv Z ⟨x,H1,F,r1,q1⟩=>thn (U pins Z σ H1 _ F q1) λu O ⟨y,H2,V,r2,q2⟩=>
  thn (B pins O σ H2 x y v u _ V r1 r2 q2) λc s3 ⟨z,H3,I3,r3,k,e,q⟩=>?_) N
 subst e;cases r3;exact ZS ⟨H3,I3,q⟩
def J1(K:Tn)(x:V)(H:Hp)(k:Bool):Prop:=
 match x with
 |.non=>k=false
 |.bl b=>k=b
 |.int i=>k=(i !=0)
 |.str y=>y.length<=Te/\k=((y.length:Int)!=0)
 |.byt y=>y.size<=Te/\k=((y.size:Int)!=0)
 |.ref p=>(∃xs,SqL K H p xs/\k= !xs.isEmpty)∨(∃xs,SqT K H p xs/\k= !xs.isEmpty)∨∃kvs,H p=some (.dK kvs)/\k= !kvs.isEmpty
 |_=>False
theorem zX{kvs:List (κ×V)}{vs:List (κ×Value)}(r:KV kvs vs):(!vs.isEmpty)= !kvs.isEmpty:=by
 cases r<;>rfl
theorem rY(r:Vals xs its):(!its.toArray.isEmpty)= !xs.isEmpty:=by
 cases r<;>simp
theorem mH:(Te:Nat)<2 ^ 63:=by rw[XS];decide
theorem M5:R7 X (λx H Q=>∃k,J1 X.K x H k/\Q k H):=by
 intro pins s σ H x v Q I rx h;obtain⟨k,e,q⟩:=h;have Y:=mH;have hs:Te=16777216:=XS;cases x with
 |non=>
  cases rx;have e':k=false:=e;subst e';exact truthy_none ⟨H,I,q⟩
 |bl b=>
  cases rx;have e':k=b:=e;subst e';exact ZS ⟨H,I,q⟩
 |int i=>
  obtain⟨t,rfl⟩:=rx;have e':k=(i !=0):=e;subst e';exact PySem.P.truthy_int ⟨H,I,q⟩
 |str y=>
  obtain⟨t,rfl⟩:=rx;obtain⟨V,e'⟩:y.length<=Te/\k=((y.length:Int)!=0):=e;subst e';exact PySem.P.truthy_str (by omega) ⟨H,I.tok _,q⟩
 |byt y=>
  obtain⟨t,rfl⟩:=rx;obtain⟨V,e'⟩:y.size<=Te/\k=((y.size:Int)!=0):=e;subst e';exact PySem.W.truthy_bytes (by omega) ⟨H,I.tok _,q⟩
 |ref p=>
  cases rx;have e':(∃xs,SqL X.K H p xs/\k= !xs.isEmpty)∨(∃xs,SqT X.K H p xs/\k= !xs.isEmpty)∨∃kvs,H p=some (.dK kvs)/\k= !kvs.isEmpty:=e;rcases e' with⟨xs,F,e'⟩|⟨xs,F,e'⟩|⟨kvs,F,e'⟩
  .subst e'
   obtain⟨its,r,B,hz⟩:=I.list F;have Z:=r.length;exact wpAny_truthy_list B.isList (by simp only[List.size_toArray];omega) ⟨H,I.tok _,by rw[rY r];exact q⟩
  .subst e'
   obtain⟨its,r,B,hz⟩:=I.tuple F;have Z:=r.length;exact truthy_tuple B (by simp only[List.size_toArray];omega) ⟨H,I.tok _,by rw[rY r];exact q⟩
  .subst e'
   obtain⟨hz,N,vs,r,m⟩:kvs.length<=Te/\(p==VP)=false/\∃vs,KV kvs vs/\s.heap.DictOf (aY X.prog X.w) p vs:=I.hok p _ F;have Z:kvs.length=vs.length:=ZC r;exact wpAny_truthy_dict N m (by omega) ⟨H,I.tok _,by rw[zX r];exact q⟩
 |_=>exact(show False from e).elim
theorem Iw(Y:PE X a ta)(V:∀q,aaB a X.env q=(do let v ←q;standAt a.pos;Xh [v] (truthy v))) :
  PT X a (λσ H Q=>ta σ H λx H'=>∃k,J1 X.K x H' k/\Q k H'):=by
 intro pins s σ H Q I h;exact isTrue_plain (thn (Y pins s σ H _ I h) λv Z ⟨x,H1,F,z,q1⟩=>M5 pins Z σ H1 x v Q F z q1) (V _)
theorem z_:OpR X (Vp .Add) (λx y H Q=>∃i j,x= .str i/\y= .str j/\i.length+j.length<=Te/\Q (.str (i++j)) H):=by
 intro pins s σ H x y v u Q I rx N h;obtain⟨i,j,rfl,rfl,hz,q⟩:=h;obtain⟨t,rfl⟩:=rx;obtain⟨t',rfl⟩:=N;exact add_str (λt' tk=>⟨.str (i++j),H,I.tok _,⟨_,rfl⟩,q⟩) hz
theorem vals1{x:V}(r:Vals [x] us):∃u,us=[u]/\RelV x u:=by
 cases r with
 |cons z N=>cases N;exact⟨_,rfl,z⟩
theorem vals2{x y:V}(r:Vals [x,y] us):∃u Y,us=[u,Y]/\RelV x u/\RelV y Y:=by
 cases r with
 |cons z N=>
  cases N with
  |cons O q=>cases q;exact⟨_,_,rfl,z,O⟩
theorem Dr(O:X.calm=true):fO X (.builtin "min") (λxs H Q=>∃i j,xs=[.int i,.int j]/\Q (.int (if j<i then j else i)) H):=by
 intro pins s σ H xs us Q I r h;obtain⟨i,j,rfl,q⟩:=h;obtain⟨u,Y,rfl,⟨t,rfl⟩,⟨t',rfl⟩⟩:=vals2 r;refine min_two_ints (I.ok.hd O) λh' tk k=>⟨_,H,I.kept k,?_,q⟩;by_cases V:j<i
 .rw[Tz V,Tz V];exact⟨_,rfl⟩
 .rw[TQ V,TQ V];exact⟨_,rfl⟩
theorem Dl:fO X (.type "int") (λxs H Q=>(∃i,xs=[.int i]/\Q (.int i) H)∨∃k,xs=[.bl k]/\Q (.int (if k then 1 else 0)) H):=by
 intro pins s σ H xs us Q I r h;rcases h with⟨i,rfl,q⟩|⟨k,rfl,q⟩
 .obtain⟨u,rfl,t,rfl⟩:=vals1 r
  exact call_int_int ⟨.int i,H,I,⟨_,rfl⟩,q⟩
 .obtain⟨u,rfl,r1⟩:=vals1 r
  cases r1;exact call_int_bool ⟨.int (if k then 1 else 0),H,I.tok _,⟨_,rfl⟩,q⟩
theorem xn:fO X (.builtin "divmod") (λxs H Q=>∃i j,xs=[.int i,.int j]/\Sg i j/\∀p,H p=none->Q (.ref p) (upd H p (.tup [.int (i / j),.int (i % j)]))):=by
 intro pins s σ H xs us Q I r h;obtain⟨i,j,rfl,⟨h1,h2⟩,q⟩:=h;obtain⟨u,Y,rfl,⟨t,rfl⟩,⟨t',rfl⟩⟩:=vals2 r;refine divmod_int (by omega) ?_ (.inl (PyProof.noPylong_small (by omega)));rw[ZG i (by omega),ZF i (by omega)];have hn:H s.heap.objs.size=none:=I.hok.fresh (Tg _);refine⟨.ref s.heap.objs.size,_,?_,rfl,q _ hn⟩;refine I.laid (λb o e=>S_ _ e) (Tg _) ⟨by simp only[T_,UJ];rw[XS];decide,[.int (i / j) s.toks,.int (i % j) (s.toks+1)],.cons ⟨_,rfl⟩ (.cons ⟨_,rfl⟩ .nil),?_⟩;exact⟨_,TV s.heap rfl,rfl,0,rfl,rfl⟩
structure O5(h:Heap)(x dx C:Addr)(mA:Str->Option Value):Prop where
 obj:h.get? x=some (aal C dx)
 ns:h.Ns1 dx mA
 ne:dx≠x
theorem Do(n:h.Ns1 dx O):∃Y,h.get? dx=some Y/\∀name,aaD name Y=some (O name):=by
 obtain⟨o,es,ep,B,hd,I,_,N⟩:=n;refine⟨o,B,λname=>?_⟩;have e:=N name;unfold nsFind findBy at e;rw[←Array.find?_toList]at e;unfold aaD;rw[hd];dsimp only;split
 .rename_i y q
  rw[q]at e;exact congrArg some e
 .rename_i q
  rw[q]at e;have a:es.toList.any (·.refKey)=false:=by
   rw[List.any_eq_false];intro y V;obtain⟨z,t,F⟩:=I y (Array.mem_toList_iff.mp V);simp[DictEntry.refKey,F]
  have U:¬es.toList.any (·.refKey)=true:=by rw[a];exact Uk
  rw[TQ U];exact congrArg some e
theorem O5.look{x C:Addr}(I:O5 h x dx C O):∃Y,PySem.W.InstAt h x (aal C dx) C (some Y)/\∀name,aaD name Y=some (O name):=
 let⟨Y,ho,hl⟩:=Do I.ns
 ⟨Y,⟨I.obj,rfl,rfl,ho⟩,hl⟩
variable{o:Option Value}
theorem jY.some_of{v:V}(r:jY (some v) o):∃u,o=some u/\RelV v u:=by
 cases o with
 |none=>exact(show False from r).elim
 |some u=>exact⟨u,rfl,r⟩
theorem jY.none_of(r:jY none o):o=none:=by
 cases o with
 |none=>rfl
 |some u=>exact(show False from r).elim
section
variable{P:Program}{w:World}{H H':Hp}{h h':Heap}{a C dx:Addr}{fs fs':List (Str×V)}
theorem Bo(hok:HOk P w H h)(e:H a=some (.ins C dx fs)):∃O,O5 h a dx C O/\(∀f,jY (fs.lookup f) (O f))/\PySem.Within O (fs.map (·.1))/\fs.length<=1000/\H dx=some (.own a):=by
 obtain⟨d,z,I,ob,O,n,r,q⟩:=(show bB P w H h a (.ins C dx fs)from hok a _ e);exact⟨O,⟨ob,n,I⟩,r,q,z,d⟩
end
structure Cls(K:PySem.W.Frag)(C:Addr):Prop where
 pg:abS K C Str.empty=true
 hd:PySem.W.hasDictIn K C=true
 po:PySem.W.plainOver K C=true
 sa:acd K (.ref C) "__setattr__"=some (some (.builtin "object.__setattr__"))
theorem Cls.get{K:Tn}{C:Addr}(c:Cls K C)(f:Str):abS K C f=true:=c.pg
inductive j0(K:PySem.W.Frag)(H:Hp):V->Value->Prop where
 |non:j0 K H .non (.type "NoneType")
 |bl (x:Bool):j0 K H (.bl x) (.type "bool")
 |int (i:Int):j0 K H (.int i) (.type "int")
 |str (x:Str):j0 K H (.str x) (.type "str")
 |flt (x:UInt64):j0 K H (.flt x) (.type "float")
 |lst {a:Addr} {xs:List V} (e:H a=some (.lst xs)):j0 K H (.ref a) (.type "list")
 |frz {a:Addr} {o:Obj} {xs:List V} (e:H a=some (.frz o (.lst xs))):j0 K H (.ref a) (.type "list")
 |tup {a:Addr} {xs:List V} (e:H a=some (.tup xs)):j0 K H (.ref a) (.type "tuple")
 |dK {a:Addr} {kvs:List (Key×V)} (e:H a=some (.dK kvs)):j0 K H (.ref a) (.type "dict")
 |dT {a:Addr} {kvs:List (List Key×V)} (e:H a=some (.dT kvs)):j0 K H (.ref a) (.type "dict")
 |ins {a C dx:Addr} {fs:List (Str×V)} (e:H a=some (.ins C dx fs)) (cl:Cls K C) (ha:acd K (.ref C) "__class__"=some (some (.builtin "object.__class__")))
  (hn:PySem.W.specialIn K (.builtin "object.__class__") "__get__"=some (some (.builtin "getset_descriptor.__get__"))) (htk:PySem.W.takesIn K (.builtin "object.__class__")=some true)
  (hm:PySem.W.mroIn K C (.type "object")=some true):j0 K H (.ref a) (.ref C)
variable{b:Bool}{s:Shared}{A:Around}{Q:Value->Shared->Prop}{c:Value}
theorem DN{x:V}{t:Value}(I:Inv X pins σ H s)(rx:RelV x u)(U:j0 X.K H x t)(e:Zi X.K t c=some b)(h:∀tk,Q (.bool b) {s with toks:=tk}) :
  wpAny (model X.prog X.w) A (call (.builtin "isinstance") [u,c]) Q E s:=by
 cases U with
 |non=>cases (show u=Uv from rx);exact Vt abD I.kIn Vc e (λz=>nomatch z) h
 |bl y=>cases (show u=aaT y from rx);exact Vt abE I.kIn Vc e (λz=>nomatch z) h
 |int i=>obtain⟨t,q⟩:=(show ∃t,u=Zu i t from rx);cases q;exact Vt abT I.kIn Vc e (λz=>nomatch z) h
 |str y=>obtain⟨t,q⟩:=(show ∃t,u=Y0 y t from rx);cases q;exact Vt abU I.kIn Vc e (λz=>nomatch z) h
 |flt y=>obtain⟨t,q⟩:=(show ∃t,u=abQ y t from rx);cases q;exact Vt abm I.kIn Vc e (λz=>nomatch z) h
 |@lst a xs F=>
  cases (show u=Um a from rx);obtain⟨_,_,n,_,h1⟩:=(show bB X.prog X.w H s.heap a (.lst xs)from I.hok a _ F);exact Vt Yq I.kIn ⟨_,h1,rfl⟩ e (λz=>nomatch z) h
 |@frz a ob xs F=>
  cases (show u=Um a from rx);obtain⟨_,_,_,n,_,h1⟩:=(show bB X.prog X.w H s.heap a (.frz ob (.lst xs))from I.hok a _ F);exact Vt Yq I.kIn ⟨_,h1,rfl⟩ e (λz=>nomatch z) h
 |@tup a xs F=>
  cases (show u=Um a from rx);obtain⟨_,_,_,p⟩:=(show bB X.prog X.w H s.heap a (.tup xs)from I.hok a _ F);obtain⟨o,h1,h2,_⟩:=p;exact Vt abn I.kIn ⟨o,h1,h2⟩ e (λz=>nomatch z) h
 |@dK a kvs F=>
  cases (show u=Um a from rx);obtain⟨_,_,vs,_,p⟩:=(show bB X.prog X.w H s.heap a (.dK kvs)from I.hok a _ F);obtain⟨o,es,ep,h1,h2,_⟩:=p;exact Vt Yr I.kIn ⟨o,h1,h2.1⟩ e (λz=>nomatch z) h
 |@dT a kvs F=>
  cases (show u=Um a from rx);obtain⟨_,_,xs,_,o,es,ep,h1,h2,_⟩:=(show bB X.prog X.w H s.heap a (.dT kvs)from I.hok a _ F);exact Vt Yr I.kIn ⟨o,h1,h2.1⟩ e (λz=>nomatch z) h
 |@ins a C dx fs F cl Y hn B N=>
  cases (show u=Um a from rx);obtain⟨Z,O,_⟩:=Bo I.hok F;obtain⟨od,J,_⟩:=O.look;exact Vt (abV (cl.get _) cl.hd Y hn B N) I.kIn J e (λz=>nomatch z) h
structure ie(k:Nat)(A:Around):Prop where
 hd:A.handled=none
 dp:A.depth+3*k+5<recursionLimit
 un:A.units+16*k+200<cLine
 gd:A.guards=some []
variable{A:U4}
theorem ie.mono(r:ie k A)(h:j<=k):ie j A:=⟨r.hd,by have:=r.dp;omega,by have:=r.un;omega,r.gd⟩
theorem ie.deeper(r:ie (k+1) A)(env:Env):ie k (A.deeper env):=
 ⟨r.hd,by have:=r.dp;show A.depth+1+3*k+5<_;omega,by have:=r.un;show A.units+3+16*k+200<_;omega,r.gd⟩
theorem ie.depth(r:ie k A):A.depth<recursionLimit:=by have:=r.dp;omega
theorem ie.units(r:ie k A):A.units+64<cLine:=by have:=r.un;omega
def Ob:TA:=λ_ H Q=>Q [] H
def xx(ta:TE)(tr:TA):TA:=λσ H Q=>ta σ H λx H1=>tr σ H1 λxs H2=>Q (x::xs) H2
section
variable{X:Cx}{e:Expr}{es:List Expr}{te:TE}{t:TA}{pos:Pos}
theorem FP:PA X [] Ob:=λ_ _ _ _ H Q I h=>abF ⟨[],H,I,.nil,h⟩
theorem nT(Y:PE X e te)(Z:PA X es t)(hs:Tj (e::es) X.env=(false,eval e X.env)::Tj es X.env:=by rfl):PA X (e::es) (xx te t):=by
 intro pos pins s σ H Q I h;rw[hs];show wpAny _ _ (spliced ((false,eval e X.env)::Vf pos (Tj es X.env))) _ _ s;refine abo (thn (Y pins s σ H _ I h) λu q ⟨x,H1,F,z,q1⟩=>?_);exact thn (Z pos pins q σ H1 _ F q1) λus O ⟨xs,H2,V,N,q2⟩=>⟨x::xs,H2,V,.cons z N,q2⟩
def Q8(t:TA):TE:=λσ H Q=>t σ H λxs H1=>xs.length<=Te/\∀p,H1 p=none->Q (.ref p) (upd H1 p (.tup xs))
def R8(t:TA):TE:=λσ H Q=>t σ H λxs H1=>xs.length<=Te/\∀p,H1 p=none->Q (.ref p) (upd H1 p (.lst xs))
theorem Af{x1}(h:PA X es t):PE X (.Tuple es x1 pos) (Q8 t):=by
 intro pins s σ H Q I B;refine wpAny_Tuple_spliced (thn (h pos pins s σ H _ I B) λus Z ⟨xs,H1,F,r,z,q⟩=>⟨by rw[←r.length];exact z,?_⟩);have N:H1 Z.heap.objs.size=none:=F.hok.fresh (Tg _);refine⟨.ref Z.heap.objs.size,upd H1 Z.heap.objs.size (.tup xs),F.laid (t':=Z.toks) (λb u e=>S_ _ e) (Tg _) ?_,rfl,q _ N⟩;exact⟨z,us,r,⟨_,TV _ rfl,rfl,_,rfl,rfl⟩⟩
theorem Gz(h:PA X es t):PE X (.List es pos) (R8 t):=by
 intro pins s σ H Q I B;refine wpAny_List_spliced (thn (h pos pins s σ H _ I B) λus Z ⟨xs,H1,F,r,z,q⟩=>⟨by rw[←r.length];exact z,?_⟩);have N:H1 Z.heap.objs.size=none:=F.hok.fresh (Tg _);refine⟨.ref Z.heap.objs.size,upd H1 Z.heap.objs.size (.lst xs),F.laid (t':=Z.toks) (λb u e=>S_ _ e) (Tg _) ?_,rfl,q _ N⟩;exact⟨z,us,0,r,TV _ rfl⟩
end
abbrev Sp:=List V->Hp->VK->XK->Prop
abbrev CXT:=List Env->Hp->S6->XK->Value->S6->Prop
structure K4(P:Program)(w:World)(K:PySem.W.Frag)(mg:Str->Option Value)(base:Heap)(A:Around)(outer:List Env)(s:Shared)(H:Hp):Prop where
 frames:A.frames=some outer
 mod:Mod K mg base
 bs:∀b o,base.get? b=some o->s.heap.get? b=some o/\H b=none
 bsz:base.objs.size<=s.heap.objs.size
 funs:s.heap.FunFrames base outer
 frf:∀b∈frs outer,H b=none
 hok:HOk P w H s.heap
 bare:Y5 s.gens
def CE(outer:List Env)(P:Uj)(w:World)(H:Hp)(s:S6)(Q:VK)(u:Value)(s':S6):Prop:=
 ∃v H',s'.os=s.os/\Y5 s'.gens/\Un (frs outer) [] H H' s.heap s'.heap/\HOk P w H' s'.heap/\RelV v u/\Q v H'
def CR(CX:CXT)(outer:List Env)(P:Uj)(w:World)(H:Hp)(s:S6)(Q:VK)(E:XK)(r:aaE)(s':S6):Prop:=
 match r with
 |.ok (.ret u)=>CE outer P w H s Q u s'
 |.ok _=>False
 |.error e=>CX outer H s E e s'
structure eX(P:Program)(w:World)(K:PySem.W.Frag)(mg:Str->Option Value)(base:Heap)(CX:CXT)(k:Nat)(f:Addr)(fd:FuncData)(ps:List Str)(sp:Sp):Prop where
 len:∀vs H Q E,sp vs H Q E->vs.length=ps.length
 run:∀(A:U4)(outer:List Env)(s:S6)(H:Hp)(args:Args)(us:List Value)(vs:List V)(Q:VK)(E:XK),ie k A->K4 P w K mg base A outer s H->aaF s fd args (ps.zip us)->Vals vs us->sp vs H Q E->
  Wu (model P w) A (.call (.ref f) args) (CR CX outer P w H s Q E) s
variable{f:Addr}{CX:CXT}
theorem eX.imp{K:Tn}{sp z:Sp}(F:eX P w K mg base CX k f fd ps sp)
  (h:∀vs H Q E,z vs H Q E->sp vs H Q E):eX P w K mg base CX k f fd ps z:=
 ⟨λvs H Q E q=>F.len vs H Q E (h _ _ _ _ q),λA outer s H args us vs Q E Z V U B hs=>F.run A outer s H args us vs Q E Z V U B (h _ _ _ _ hs)⟩
theorem Inv.env0(I:Inv X pins σ H s):K4 X.prog X.w X.K X.mg X.base X.A X.stack s H:=
 ⟨I.ok.frames,I.ok.mod,I.bs,V4 I.ok.bsz I.sz,I.stack,I.stkFree,I.hok,I.bare⟩
variable{s':Shared}
theorem Inv.after{Q:VK}(I:Inv X pins σ H s)(h:CE X.stack X.prog X.w H s Q u s'):EP X pins σ Q u s':=by
 obtain⟨v,H',os,bare,un,hok,r,q⟩:=h;obtain⟨N,g,d,t,B⟩:=s';obtain rfl:B=s.os:=os;exact⟨v,H',I.call (h':=N) (g':=g) (d':=d) (t':=t) (ch:=[]) un hok bare (λb z=>absurd z (by simp)),r,q⟩
def LR(sp:Sp)(dvs:List V)(E:XK)(t:TA):TE:=λσ H Q=>t σ H λvs H1=>sp (vs++dvs) H1 Q E
def Binds(K:Tn)(fd:U_)(ps:List Str)(ds:List Value):Prop:=
 ∀(s:S6)(us:List Value),K.In s.heap->(us++ds).length=ps.length->aaF s fd ⟨us,[]⟩ (ps.zip (us++ds))
theorem Binds.all{K:Tn}(h:∀us:List Value,us.length=ps.length->bindArgs fd ⟨us,[]⟩=pure (ps.zip us)):Binds K fd ps []:=λs us _ Y=>by
 rw[T3]at Y⊢;exact .of_eq (h us Y)
def zN(CX:CXT)(X:Cx)(E:XK):Prop:=∀(pins:List (Addr×Obj))(σ:St)(H:Hp)(s:S6)(e:Value)(s':S6),Inv X pins σ H s->CX X.stack H s E e s'->X.xe e s'
section
variable{X:Cx}{CX:CXT}{k:Nat}{f C:Addr}{fd:FuncData}{ps:List Str}{sp:Sp}{dvs:List V}{ds:List Value}{E:XK}{x m:Str}{p pos apos:Pos}{e o:Expr}{es:List Expr}{ta:TE}{t:TA}
theorem Oc{pins:List (Addr×Obj)}{σ:St}{H:Hp}{s:S6}{Q:VK}{us:List Value}{vs:List V}(F:eX X.prog X.w X.K X.mg X.base CX k f fd ps sp)(Z:ie k X.A)(U:Binds X.K fd ps ds)(hd:Vals dvs ds)(q:zN CX X E)
  (I:Inv X pins σ H s) (r:Vals vs us) (h:sp (vs++dvs) H Q E):wpAny (model X.prog X.w) X.A (call (.ref f) us) (EP X pins σ Q) X.xe s:=by
 have N:Vals (vs++dvs) (us++ds):=r.append hd;have Y:(us++ds).length=ps.length:=by rw[←N.length];exact F.len _ _ _ _ h
 refine wpAny_call (Yc (F.run X.A X.stack s H ⟨us,[]⟩ (us++ds) (vs++dvs) Q E Z I.env0 (U s us I.kIn Y) N h) λr s' B=>?_);cases r with
 |error e=>exact q pins σ H s e s' I B
 |ok z=>
  cases z with
  |ret u=>exact I.after B
  |next=>exact W6 B
  |brk=>exact W6 B
  |cont=>exact W6 B
theorem Lk(F:eX X.prog X.w X.K X.mg X.base CX k f fd ps sp)(Z:ie k X.A)(hg:Gl X x)(N:X.mg x=some (.ref f))(hk:Zj X.K (.ref f)=true)(U:Binds X.K fd ps ds)(hd:Vals dvs ds)(hx:zN CX X E)
  (Y:PA X (e::es) t) (O:(x==("__debug__":Str))=false:=by decide) (V:Tj (e::es) X.env=(false,eval e X.env)::Tj es X.env:=by rfl) (z:(Vf pos (Tj es X.env)).any (·.1)=false:=by rfl) :
  PE X (.Call (.Name x p) (e::es) [] pos) (LR sp dvs E t):=by
 intro pins s σ H Q I h;refine Xk (JC I hg N ?_ O);refine PySem.W.callWith_K (h₀:=X.base) I.ok.mod.kin hk (thn (Y pos pins s σ H _ I h) λus s1 ⟨vs,H1,B,r,q⟩=>⟨B.kIn,?_⟩) V z;exact Oc F Z U hd hx B r q
end
structure bV(N P:List Str)(sc:Scope):Prop where
 kind:sc.kind= .function
 co:sc.isCoroutine=false
 gen:sc.isGenerator=false
 nd:N.Nodup
 pre:N.take P.length=P
 par:∀x∈P,sc.names.lookup x=some .local∨sc.names.lookup x=some .cell
 nofree:∀y∈sc.names,y.2≠.free
theorem uY:∀{binds:List (Str×Value)}{m:Str->Option Value},(∀v,(x,v)∉binds)->bindL q binds m x=m x
 |[],_,_=>rfl
 |(n,v)::r,m,h=>by
  unfold bindL;rw[uY λw N=>h w (T7 _ N)];split
  .have:x≠n:=by rintro rfl;exact h v Ur
   simp[this]
  .rfl
theorem uW:∀{binds:List (Str×Value)}{m:Str->Option Value},(∀v,(x,v)∉binds)->bindC q binds m x=m x
 |[],_,_=>rfl
 |(n,v)::r,m,h=>by
  unfold bindC;rw[uW λw N=>h w (T7 _ N)];split
  .rfl
  .have:x≠n:=by rintro rfl;exact h v Ur
   simp[this]
theorem uP{q:Str->Option YS}{x:Str}{v:Value}:∀{P:List Str}{vs:List Value}{i:Nat}{m:Str->Option Value},P.Nodup->P[i]? =some x->vs[i]? =some v->q x=some .local->
  bindL q (P.zip vs) m x=some v
 |[],_,_,_,_,h,_,_=>by simp at h
 |_::_,[],_,_,_,_,h,_=>by simp at h
 |p::P,w::vs,0,m,nd,h1,h2,hk=>by
  simp at h1 h2;subst h1;subst h2;show bindL q ((p,w)::P.zip vs) m p=_;unfold bindL;rw[uY λv B=>(T5.mp nd).1 (Zb B).1,Tz hk];simp
 |p::P,w::vs,i+1,m,nd,h1,h2,hk=>by
  show bindL q ((p,w)::P.zip vs) m x=_;unfold bindL;exact uP (i:=i) (T5.mp nd).2 (by simpa using h1) (by simpa using h2) hk
theorem uQ{q:Str->Option YS}{x:Str}{v:Value}:∀{P:List Str}{vs:List Value}{i:Nat}{m:Str->Option Value},P.Nodup->P[i]? =some x->vs[i]? =some v->q x≠some .local->
  bindC q (P.zip vs) m x=some v
 |[],_,_,_,_,h,_,_=>by simp at h
 |_::_,[],_,_,_,_,h,_=>by simp at h
 |p::P,w::vs,0,m,nd,h1,h2,hk=>by
  simp at h1 h2;subst h1;subst h2;show bindC q ((p,w)::P.zip vs) m p=_;unfold bindC;rw[uW λv B=>(T5.mp nd).1 (Zb B).1,TQ hk];simp
 |p::P,w::vs,i+1,m,nd,h1,h2,hk=>by
  show bindC q ((p,w)::P.zip vs) m x=_;unfold bindC;exact uQ (i:=i) (T5.mp nd).2 (by simpa using h1) (by simpa using h2) hk
def start(N:List Str)(vs:List V):St:=vs.map some++U3 (N.length-vs.length) none
noncomputable def yp(CX:CXT)(P:Uj)(w:World)(K:Tn)(mg:Str->Option Value)(base:Heap)(N:List Str)(O:Str)(scope:Scope)(f:Addr)(z:Value)(A:U4)(outer:List Env)(s:S6)(H:Hp)(E:XK):Cx where
 prog:=P
 w:=w
 K:=K
 mg:=mg
 base:=base
 A:=A.deeper (Yz O scope s.heap.objs.size f z)
 N:=N
 s₀:=s
 H₀:=H
 env:=Yz O scope s.heap.objs.size f z
 outer:=outer
 stack:=Yz O scope s.heap.objs.size f z::outer
 ex:=[]
 calm:=true
 fn:=λ_=>true
 pn:=[]
 xe:=λe s'=>wpAny (model P w) (A.deeper (Yz O scope s.heap.objs.size f z)) (leaving (Yz O scope s.heap.objs.size f z) e) (λ_ q=>CX outer H s E e q) (λe' q=>CX outer H s E e' q) s'
theorem yc{z:Scope}(h:z.names.lookup x=some .cell):∃c,(cellsFrom n z.names []).lookup x=some c:=by
 have q:=aar z.names n [] (.inl h);exact Z6.mp q
theorem D_{K:Tn}{a0:Str}{cd:Value}{outer:List Env}{s Z:S6}{E:XK}{vs:List V}
  (S:bV N ps scope) (hd:A.handled=none) (B:K4 P w K mg base A outer s H) (hl:vs.length=ps.length) (r:Vals vs us)
  (x:InCallC s s.heap.objs.size (bindL (Yz a0 scope s.heap.objs.size f cd).kindOf (ps.zip us) λ_=>none) (cellsFrom (s.heap.objs.size+1) scope.names []) (bindC (Yz a0 scope s.heap.objs.size f cd).kindOf (ps.zip us) λ_=>none) Z) :
  Inv (yp CX P w K mg base N a0 scope f cd A outer s H E) [] (start N vs) H Z:=by
 have a3:ps.length<=N.length:=by have:=congrArg V8 S.pre;rw[Vu]at this;omega
 obtain⟨h1,tk,rfl,I⟩:=x.done;have a1:∀b:Addr,b∉(yp CX P w K mg base N a0 scope f cd A outer s H E).ex:=λb z=>absurd (show b∈([]:List Addr)from z) (by simp);refine⟨⟨B.mod,S.kind,rfl,rfl,Tg _,λy z c h1 h2=>?_,λy hy=>?_,λy c _ h=>?_,λ_=>hd,Around.frames_deeper B.frames,.inr ⟨rfl,rfl⟩,λb z=>absurd z (a1 b),B.bs,B.bsz,λb _ _=>a1 b,λb z=>absurd z (a1 b),B.funs,B.frf⟩,
  rfl,B.bare,Un.kept I,⟨_,x.toInCall.ns,λi y v h1 h2 O=>?_⟩,λy c h=>⟨_,x.cell y c h⟩,B.hok.fresh (Tg _),λy c h=>?_,λp hp=>absurd (show p∈([]:List (Addr×Obj))from hp) (by simp),B.hok.kept I,?_⟩
 .exact name_of_addr x.apart (WM h1) (WM h2)
 .have hy:scope.names.lookup y=some .cell∨scope.names.lookup y=some .free:=hy
  rcases hy with hy|hy
  .exact yc hy
  .exact absurd rfl (S.nofree _ (WM hy))
 .exact Wh (x.above y c (WM h))
 .have hi:i<vs.length:=by
   unfold start at h2;by_cases hi:i<vs.length
   .exact hi
   .rw[Vb (by simpa using hi)]at h2
    rw[aag]at h2;split at h2<;>cases h2
  have Y:vs[i]? =some v:=by
   unfold start at h2;rw[Uq (by simpa using hi),List.getElem?_map]at h2;cases e:vs[i]? with
   |none=>rw[e]at h2;cases h2
   |some a=>rw[e]at h2;cases h2;rfl
  obtain⟨u,F,U⟩:=r.get Y;have hp:ps[i]? =some y:=by
   rw[←S.pre,List.getElem?_take_of_lt (by omega)];exact h1
  have a2:ps.Nodup:=by rw[←S.pre];exact S.nd.sublist (abG _ _)
  refine⟨u,U,?_⟩;rcases S.par y (T9 hp)with k|k
  .exact .inl ⟨k,uP a2 hp F k⟩
  .obtain⟨c,e⟩:=yc (n:=s.heap.objs.size+1) k
   refine .inr ⟨.inl k,c,e,?_⟩;have q:=x.cell y c e;rw[uQ a2 hp F (by show scope.names.lookup y≠_;rw[k];decide)]at q;exact q
 .exact B.hok.fresh (Wh (x.above y c (WM h)))
 .unfold start
  show _=N.length;rw[Ui,Tv,List.length_replicate];omega
theorem Rn{K:Tn}{O:Str}{a1:Arguments}{dV kV a4 pm a0 ct oc:Value}{an od:Option Addr}
  {a7:Array (Option Value)}  {sp:Sp} (lk:K.lookup f=some ⟨oc,od,.func (Yd name O a1 B scope dV kV a4 pm an a0 ct),a7⟩) (a8:aaG K a0 O=true) (S:bV N ps scope)
  (len:∀vs H Q E,sp vs H Q E->vs.length=ps.length)
  (a3:∀(A:U4)(outer:List Env)(s:S6)(H:Hp)(vs:List V)(Q:VK)(E:XK),ie k (A.deeper (Yz O scope s.heap.objs.size f a0))->sp vs H Q E->
   ∃t,PSs (yp CX P w K mg base N O scope f a0 A outer s H E) B t/\t {nx:=λ_ H'=>Q .non H',rt:=Q} (start N vs) H) :
  eX P w K mg base CX (k+1) f (Yd name O a1 B scope dV kV a4 pm an a0 ct) ps sp:=by
 refine⟨len,λA outer s H args us vs Q E Z e0 U r a5=>?_⟩;have Y:=len _ _ _ _ a5;have KX:K.In s.heap:=e0.mod.kin.keeps λb o e=>(e0.bs b o e).1;have a6:s.heap.NoLimit:=e0.mod.nolimit.keeps λb o e=>(e0.bs b o e).1;have a2:∀y∈ps.zip us,scope.names.lookup y.1=some .local∨(scope.names.lookup y.1=some .cell/\((cellsFrom (s.heap.objs.size+1) scope.names []).lookup y.1).isSome=true):=λ⟨n,v⟩ hy=>by
  rcases S.par n (Zb hy).1 with q|q
  .exact .inl q
  .exact .inr ⟨q,aar _ _ _ (.inl q)⟩
 refine codeAny_call_function Z.depth (KX _ _ lk) rfl S.co S.gen rfl (PySem.W.codeRec_of KX a8) (U _ _ _ _ ?_);refine wpAny_newFunctionEnv_cells S.kind a2 λenv he s1 x=>?_;subst he;refine⟨a6.keeps x.toInCall.keep,codeAny_func ?_⟩;obtain⟨t,ht,hq⟩:=a3 A outer s H vs Q E (Z.deeper _) a5;have I:Inv (yp CX P w K mg base N O scope f a0 A outer s H E) [] (start N vs) H s1:=D_ S Z.hd e0 Y r x;refine Vn (ht [] s1 (start N vs) H _ I hq) (λz s' hs=>?_) λe s' hs=>hs;have fin:∀{F:St}{H':Hp}{v:V}{u:Value},Inv (yp CX P w K mg base N O scope f a0 A outer s H E) [] F H' s'->RelV v u->Q v H'->CE outer P w H s Q u s':=
  λ{F H' v u} J rv q=>⟨v,H',J.os,J.bare,J.base,J.hok,rv,q⟩
 cases z with
 |ret u=>
  obtain⟨v,F,H',J,rv,q⟩:=hs;exact fin J rv q
 |next=>
  obtain⟨F,H',J,q⟩:=hs;exact fin (v:=V.non) (u:=Uv) J rfl q
 |brk=>
  obtain⟨_,_,_,q⟩:=hs;exact W6 q
 |cont=>
  obtain⟨_,_,_,q⟩:=hs;exact W6 q
section
variable{X:Cx}{x:Str}{p pos:Pos}{e:Expr}{es:List Expr}{t:TA}{id T:String}{r:List V->Hp->VK->Prop}
def tCB(r:List V->Hp->VK->Prop)(t:TA):TE:=λσ H Q=>t σ H λvs H1=>r vs H1 Q
theorem xK(O:fO X (.builtin id) r)(q:Gl X x)(N:X.mg x=none)(B:V3 x=some (.builtin id))(Y:PA X (e::es) t)(hn:x≠"__name__":=by decide)(U:(x==("__debug__":Str))=false:=by decide)
  (V:Tj (e::es) X.env=(false,eval e X.env)::Tj es X.env:=by rfl) (a0:(Vf pos (Tj es X.env)).any (·.1)=false:=by rfl):PE X (.Call (.Name x p) (e::es) [] pos) (tCB r t):=by
 intro pins s σ H Q I h;refine Xk (mj I q N B ?_ hn U);exact PyProof.Rows.callWith_builtin1 (thn (Y pos pins s σ H _ I h) λus Z ⟨vs,H1,F,z,q1⟩=>O pins Z σ H1 vs us Q F z q1) V a0
theorem u9(O:fO X (.type T) r)(q:Gl X x)(N:X.mg x=none)(B:V3 x=some (.type T))(Y:PA X (e::es) t)(hn:x≠"__name__":=by decide)(U:(x==("__debug__":Str))=false:=by decide)
  (V:Tj (e::es) X.env=(false,eval e X.env)::Tj es X.env:=by rfl) (a0:(Vf pos (Tj es X.env)).any (·.1)=false:=by rfl):PE X (.Call (.Name x p) (e::es) [] pos) (tCB r t):=by
 intro pins s σ H Q I h;refine Xk (mj I q N B ?_ hn U);exact WW (thn (Y pos pins s σ H _ I h) λus Z ⟨vs,H1,F,z,q1⟩=>O pins Z σ H1 vs us Q F z q1) V a0
end
end L2
namespace HT
open PySem PyProof.Rows
theorem cat_tup{t b:Addr}{ws:List Value}(ht:IsTup s.heap t vs.toArray)(U:IsTup s.heap b ws.toArray)(hv:vs≠[])
  (h1:ws=[]->Q (.ref t) s) (h2:ws≠[]->Q (.ref s.heap.objs.size) {s with heap:=s.heap.push {cls:=.type "tuple",data:=.seq (vs++ws).toArray}})
  (hsz:vs.length+ws.length<=Te):wpAny (model prog w) A (Vp .Add (.ref t) (.ref b)) Q E s:=by
 obtain⟨⟨cls,Z,data,sl⟩,B,O,n,hd⟩:=id ht;obtain⟨⟨a2,z,a1,q⟩,V,a0,I,Y⟩:=id U;simp only at O hd a0 Y;subst O hd a0 Y;have e:vs.toArray++ws.toArray=(vs++ws).toArray:=by simp
 by_cases N:ws=[]
 .exact abp ⟨_,B,rfl⟩ ⟨_,V,rfl⟩ Z7 aa6 YB Yo (Ye _ _)
   (tuple_addW1 t b vs.toArray ws.toArray n I Z z sl q (by simpa using hv) (by simp[N])) ⟨B,V,h1 N⟩
 .refine abp ⟨_,B,rfl⟩ ⟨_,V,rfl⟩ Z7 aa6 YB Yo (Ye _ _)
   (tuple_addW2 t b vs.toArray ws.toArray n I Z z sl q (by simpa using hv) (by simpa using N) (by rw[List.size_toArray,List.size_toArray];exact hsz)) ⟨B,V,?_⟩
  rw[e];exact h2 N
def sIx(n d:Nat):Option Int->Nat
 |none=>d
 |some v=>if v<0 then(v+(n:Int)).toNat else min v.toNat n
theorem sIx_none(n d:Nat):sIx n d none=d:=rfl
theorem sIx_nat(n d k:Nat):sIx n d (some (k:Int))=min k n:=by
 show(if(k:Int)<0 then((k:Int)+(n:Int)).toNat else min (k:Int).toNat n)=min k n;rw[TQ (by omega),VL]
theorem Oi(n d:Nat)(hd:d<=n)(o:Option Int):sIx n d o<=n:=by
 cases o with
 |none=>exact hd
 |some v=>
  show(if v<0 then(v+(n:Int)).toNat else min v.toNat n)<=n;by_cases B:v<0
  .rw[Tz B];omega
  .rw[TQ B];exact abW _ _
theorem Bj(v:Int)(n d:Nat):(if v<0 then max (v+(n:Int)) 0 else min v (n:Int))=((sIx n d (some v):Nat):Int):=by
 show(if v<0 then max (v+(n:Int)) 0 else min v (n:Int))=(((if v<0 then(v+(n:Int)).toNat else min v.toNat n):Nat):Int);by_cases B:v<0
 .simp only[Tz B];omega
 .simp only[TQ B];omega
theorem adjust_gen(lo hi:Option Int)(n:Nat):Vd lo hi 1 (n:Int)=(((sIx n 0 lo:Nat):Int),((sIx n n hi:Nat):Int)):=by
 have h1:¬((1:Int)<0):=by omega
 unfold Vd;simp only[h1,VM];refine Prod.ext ?_ ?_
 .cases lo with
  |none=>rfl
  |some v=>exact Bj v n 0
 .cases hi with
  |none=>rfl
  |some v=>exact Bj v n n
theorem places_gen(i j:Nat):Ve (i:Int) (j:Int) 1=j-i:=by
 unfold Ve;have h1:(1:Int)>0:=by omega
 simp only[h1,Ud,Int.ediv_one];split<;>omega
theorem slicePart_{o:Option Int}{Q:Option Int->S6->Prop}(p:Xu v o)(h:Q o s):wpAny (model prog w) A (Builtin.Slice.slicePartIndex v) Q E s:=by
 cases p with
 |none=>exact slicePart_none h
 |int i t=>exact slicePart_int h
theorem pW{sl:Addr}{vl Y:Value}{lo hi:Option Int}{Q:Int×Int×Nat->S6->Prop}(hs:s.heap.IsSliceOf sl vl Y .none)(B:Xu vl lo)(O:Xu Y hi)
  (h:Q (((sIx n 0 lo:Nat):Int),1,sIx n n hi-sIx n 0 lo) s):wpAny (model prog w) A (W3 (.ref sl) (pure (n:Int))) Q E s:=by
 obtain⟨os,I,F,q⟩:=id hs;unfold W3 Builtin.Slice.sliceFields;refine gD (gD (YC I q (x:=vl) rfl (gD (YC I q (x:=Y) rfl (gD (YC I q (x:=.none) rfl (S7 ?_)))))));refine gD (slicePart_none ?_);show wpAny _ _ (if((1:Int)==0)=true then _ else _) _ _ s;rw[TQ (by decide)];refine gD (slicePart_ B (gD (slicePart_ O (gD (S7 ?_)))));show wpAny _ _ (match Vd lo hi 1 (n:Int)with|(lo,hi)=>pure (lo,(1:Int),Ve lo hi 1)) _ _ s;rw[adjust_gen lo hi n];show wpAny _ _ (pure (((sIx n 0 lo:Nat):Int),(1:Int),Ve ((sIx n 0 lo:Nat):Int) ((sIx n n hi:Nat):Int) 1)) _ _ s;rw[places_gen];exact S7 h
theorem G6(xs:Array Value)(i k:Nat):((Ue k).filterMap λ(m:Nat)=>xs[((i:Int)+(m:Int)*1).toNat]?).toArray=((xs.toList.drop i).take k).toArray:=by
 have e:(λ(m:Nat)=>xs[((i:Int)+(m:Int)*1).toNat]?)=λm=>xs[i+m]?:=by
  funext m;have:((i:Int)+(m:Int)*1).toNat=i+m:=by omega
  rw[this]
 rw[e];have:=pick_run xs i k;rw[List.filterMap_map]at this;have e2:((λx=>xs[x]?)∘λx=>i+x)=λm=>xs[i+m]?:=rfl;rw[e2]at this;rw[this]
theorem getItem_tuple_cut{t sl:Addr}{vl Y:Value}{lo hi:Option Int}(U:IsTup s.heap t items)(hs:s.heap.IsSliceOf sl vl Y .none)(B:Xu vl lo)(O:Xu Y hi)
  (N:¬(sIx items.size 0 lo=0/\sIx items.size items.size hi=items.size))
  (h:Q (.ref s.heap.objs.size) {s with heap:=s.heap.push {cls:=.type "tuple",data:=.seq ((items.toList.drop (sIx items.size 0 lo)).take (sIx items.size items.size hi-sIx items.size 0 lo)).toArray}})
  (hsz:items.size<=Te):wpAny (model prog w) A (Zk (.ref t) (.ref sl)) Q E s:=by
 have z:sizeOk (.seq ((items.toList.drop (sIx items.size 0 lo)).take (sIx items.size items.size hi-sIx items.size 0 lo)).toArray):=by
  show((items.toList.drop (sIx items.size 0 lo)).take (sIx items.size items.size hi-sIx items.size 0 lo)).toArray.size<=Te;rw[List.size_toArray,Vu,WN,U6];omega
 have V:sIx items.size items.size hi<=items.size:=Oi _ _ (Tg _) hi;obtain⟨os,I,F,a1⟩:=id hs;have a0:s.TypeIs (.ref sl) "slice":=⟨os,I,F⟩;unfold Zk
 try with_reducible refine Va ?_
 first|refine gD (S7 ?_)|skip
 refine gD (wpAny_sequenceKey U.typeIs (by decide) ?_);refine gD (Vj (name:=Yg "__getitem__") U.typeIs Vi
  (XJ Vi U.typeIs abb ?_ (args_tuple_getitem _ _)))
 show wpAny _ _ (ZJ (.ref t) >>=_) _ _ s;refine gD (tupleItemsOf_ U ?_);refine gD (Xa a0 ?_);rw[Tz (by decide)];refine gD (pW hs B O ?_);have Z:¬((((sIx items.size 0 lo:Nat):Int)==0&&(1:Int)==1&&(sIx items.size items.size hi-sIx items.size 0 lo)==items.size)=true):=by
  intro q;rw[TY,TY]at q;have q1:((sIx items.size 0 lo:Nat):Int)=0:=eq_of_beq q.1.1;have q2:sIx items.size items.size hi-sIx items.size 0 lo=items.size:=eq_of_beq q.2;exact N ⟨by omega,by omega⟩
 show wpAny _ _ (if(((sIx items.size 0 lo:Nat):Int)==0&&(1:Int)==1&&(sIx items.size items.size hi-sIx items.size 0 lo)==items.size)=true then _ else _) _ _ s;rw[TQ Z,G6]
 first
  |exact gD (m:=Wl _) (Uu (S7 ⟨_,rfl,S7 h⟩) z)
  |exact gD (m:=Wl _) (Uu (gD (S7 (S7 ⟨_,rfl,S7 h⟩))) z)
  |exact gD (gD (m:=Wl _) (Uu (S7 (S7 ⟨_,rfl,S7 h⟩)) z))
  |exact gD (gD (m:=Wl _) (Uu (S7 ⟨_,rfl,S7 h⟩) z))
end HT
namespace L2
open PySem PySem.Spec PyProof.Rows
abbrev TO:=St->Hp->(Option Int->Hp->Prop)->Prop
def PO(X:Cx)(e:Option Expr)(t:TO):Prop:=
 ∀(pins:List (Addr×Obj))(s:S6)(σ:St)(H:Hp)(Q:Option Int->Hp->Prop),Inv X pins σ H s->t σ H Q->
  wpAny (model X.prog X.w) X.A (evalPart e X.env) (λu s'=>∃o H',Inv X pins σ H' s'/\Xu u o/\Q o H') X.xe s
def JK:TO:=λ_ H Q=>Q none H
def Rf(t:TE):TO:=λσ H Q=>t σ H λx H1=>∃i,x= .int i/\Q (some i) H1
section
variable{X:Cx}{e:Expr}{te:TE}{lo hi:Option Expr}{tl th:TO}{pos p2:Pos}
theorem Ka:PO X none JK:=by
 intro pins s σ H Q I h;rw[evalPart_none];exact S7 ⟨none,H,I,.none,h⟩
theorem JD(h:PE X e te):PO X (some e) (Rf te):=by
 intro pins s σ H Q I N;rw[evalPart_some];refine thn (h pins s σ H _ I N) λu Z ⟨x,H1,F,z,q1⟩=>?_;obtain⟨i,rfl,q⟩:=q1;obtain⟨t,rfl⟩:=z;exact⟨some i,H1,F,.int i t,q⟩
def SlR(X:Cx)(r:V->Option Int->Option Int->Hp->VK->Prop):Prop:=
 ∀(pins:List (Addr×Obj))(s:S6)(σ:St)(H:Hp)(x:V)(v vl Y:Value)(lo hi:Option Int)(sl:Addr)(Q:VK),Inv X pins σ H s->RelV x v->s.heap.IsSliceOf sl vl Y .none->Xu vl lo->Xu Y hi->r x lo hi H Q->
  ∃T id,aaU (.type T) "__getitem__"=pure (some (.builtin id))/\s.TypeIs v T/\wpAny (model X.prog X.w) X.A (Zk v (.ref sl)) (EP X pins σ Q) X.xe s
theorem SlR.or{r z:V->Option Int->Option Int->Hp->VK->Prop}(h:SlR X r)(h':SlR X z):SlR X (λx lo hi H Q=>r x lo hi H Q∨z x lo hi H Q):=by
 intro pins s σ H x v vl Y lo hi sl Q I rx hs B O q;rcases q with q|q
 .exact h pins s σ H x v vl Y lo hi sl Q I rx hs B O q
 .exact h' pins s σ H x v vl Y lo hi sl Q I rx hs B O q
def tSl(r:V->Option Int->Option Int->Hp->VK->Prop)(te:TE)(tl th:TO):TE:=λσ H Q=>te σ H λx H1=>tl σ H1 λl H2=>th σ H2 λu Y=>r x l u Y Q
theorem Jl{r:V->Option Int->Option Int->Hp->VK->Prop}(Z:SlR X r)(he:PE X e te)(Y:PO X lo tl)(F:PO X hi th):PE X (.Subscript e (.Slice lo hi none p2) pos) (tSl r te tl th):=by
 intro pins s σ H Q I h;refine Subscript_ (thn (he pins s σ H _ I h) λv s1 ⟨x,H1,I1,z,q1⟩=>?_);refine wpAny_Slice (thn (Y pins s1 σ H1 _ I1 q1) λvl O ⟨l,H2,I2,B,q2⟩=>thn (F pins O σ H2 _ I2 q2) λvu N ⟨u,H3,I3,pu,q3⟩=>?_);rw[evalPart_none];refine S7 ?_;have I4:Inv X pins σ H3 {N with heap:=N.heap.push {cls:=.type "slice",data:=.fields #[vl,vu,.none]}}:=I3.kept (t':=N.toks) λb ob q=>S_ _ q;obtain⟨T,id,hT,U,hg⟩:=Z pins {N with heap:=N.heap.push {cls:=.type "slice",data:=.fields #[vl,vu,.none]}} σ H3 x v vl vu l u N.heap.objs.size Q I4 z (Heap.IsSliceOf.new ..) B pu q3;show wpAny (model X.prog X.w) X.A (subscriptTail e (.Slice lo hi none p2) v (.ref N.heap.objs.size)) (EP X pins σ Q) X.xe {N with heap:=N.heap.push {cls:=.type "slice",data:=.fields #[vl,vu,.none]}};exact tail_any (ops:=[.ref N.heap.objs.size,v]) U hT hg (by with_unfolding_all rfl)
def rP(xs:List V)(lo hi:Option Int):List V:=(xs.drop (HT.sIx xs.length 0 lo)).take (HT.sIx xs.length xs.length hi-HT.sIx xs.length 0 lo)
theorem p_(xs:List V)(lo hi:Option Int):(rP xs lo hi).length<=xs.length:=by
 unfold rP;rw[Vu,WN];omega
def Sv(K:Tn):V->Option Int->Option Int->Hp->VK->Prop:=λx lo hi H Q=>∃a xs,x= .ref a/\SqT K H a xs/\
 ¬(HT.sIx xs.length 0 lo=0/\HT.sIx xs.length xs.length hi=xs.length)/\∀p,H p=none->Q (.ref p) (upd H p (.tup (rP xs lo hi)))
theorem Ng:SlR X (Sv X.K):=by
 intro pins s σ H x v vl Y lo hi sl Q I rx hs B O h;obtain⟨a,xs,rfl,F,N,q⟩:=h;cases rx;obtain⟨its,r,U,hz⟩:=I.tuple F;have Z:its.toArray.size=xs.length:=by rw[List.size_toArray];exact r.length.symm
 refine⟨"tuple",_,Vi.lookup,U.typeIs,?_⟩;refine HT.getItem_tuple_cut U hs B O (by rw[Z];exact N) ?_ (by rw[Z];exact hz);rw[Z];refine⟨.ref s.heap.objs.size,_,I.laid (t':=s.toks) (o:=.tup (rP xs lo hi)) (λb ob q=>S_ _ q) (Tg _) ?_,rfl,q _ (I.hok.fresh (Tg _))⟩;exact⟨V4 (p_ xs lo hi) hz,_,(r.drop (HT.sIx xs.length 0 lo)).take (HT.sIx xs.length xs.length hi-HT.sIx xs.length 0 lo),j6.new _ _⟩
def Qs(K:Tn):R2:=λx y H Q=>∃a b xs ys,x= .ref a/\y= .ref b/\SqT K H a xs/\SqT K H b ys/\xs≠[]/\xs.length+ys.length<=Te/\
 (ys=[]->Q (.ref a) H)/\(ys≠[]->∀p,H p=none->Q (.ref p) (upd H p (.tup (xs++ys))))
theorem Vals.nil_iff{xs:List V}{us:List Value}(r:Vals xs us):us=[]↔xs=[]:=by
 cases r with
 |nil=>simp
 |cons _ _=>simp
theorem JN:OpR X (Vp .Add) (Qs X.K):=by
 intro pins s σ H x y v u Q I rx N h;obtain⟨a,b,xs,ys,rfl,rfl,Y,U,F,hz,q1,q2⟩:=h;cases rx;cases N;obtain⟨its,O,p1,_⟩:=I.tuple Y;obtain⟨Z,B,p2,_⟩:=I.tuple U;refine HT.cat_tup p1 p2 (λz=>F (O.nil_iff.mp z)) (λz=>⟨.ref a,H,I,rfl,q1 (B.nil_iff.mp z)⟩) (λz=>?_) (by rw[←O.length,←B.length];exact hz);refine⟨.ref s.heap.objs.size,_,I.laid (t':=s.toks) (o:=.tup (xs++ys)) (λb ob q=>S_ _ q) (Tg _) ?_,rfl,q2 (λw=>z (B.nil_iff.mpr w)) _ (I.hok.fresh (Tg _))⟩;exact⟨by rw[Ui];exact hz,_,O.append B,j6.new _ _⟩
end
def ixN(n:Nat)(i:Int):Option Nat:=if 0<=i then(if i<n then some i.toNat else none)else if -(n:Int)<=i then some (i+n).toNat else none
def atI(xs:List α)(i:Int):Option α:=(ixN xs.length i).bind λj=>xs[j]?
variable{i:Int}
theorem wQ(h:ixN n i=some j):seqIndex? i n=some j/\j<n/\-(n:Int)<=i/\i<n:=by
 unfold ixN at h;by_cases Z:0<=i
 .rw[Tz Z]at h
  by_cases h1:i<n
  .rw[Tz h1]at h
   have e:i.toNat=j:=UG h;exact⟨by rw[abR Z h1,e],by omega,by omega,h1⟩
  .rw[TQ h1]at h;cases h
 .rw[TQ Z]at h
  by_cases h1: -(n:Int)<=i
  .rw[Tz h1]at h
   have e:(i+n).toNat=j:=UG h;exact⟨by rw[abq (by omega) h1,e],by omega,h1,by omega⟩
  .rw[TQ h1]at h;cases h
theorem wR{xs:List α}{v:α}(h:atI xs i=some v):∃j,seqIndex? i xs.length=some j/\xs[j]? =some v/\j<xs.length/\-(xs.length:Int)<=i/\i<xs.length:=by
 unfold atI at h;cases e:ixN xs.length i with
 |none=>rw[e]at h;cases h
 |some j=>
  rw[e]at h;obtain⟨h1,h2,O,F⟩:=wQ e;exact⟨j,h1,h,h2,O,F⟩
def qN(b:Expr):Prop:=∀o i,subscripted b false o i=operate [o,i] (Zk o i)
def IxR(X:Cx)(r:R2):Prop:=
 ∀(B Z:Expr)(pins:List (Addr×Obj))(s:S6)(σ:St)(H:Hp)(x y:V)(v u:Value)(Q:VK),Inv X pins σ H s->RelV x v->RelV y u->r x y H Q->
  subscripted Z false v u=operate [v,u] (Zk v u)->wpAny (model X.prog X.w) X.A (subscriptTail B Z v u) (EP X pins σ Q) X.xe s
def MtR(X:Cx)(id:String)(r:V->List V->Hp->VK->Prop):Prop:=
 ∀(pins:List (Addr×Obj))(s:S6)(σ:St)(H:Hp)(x:V)(xs:List V)(v:Value)(us:List Value)(Q:VK),Inv X pins σ H s->RelV x v->Vals xs us->r x xs H Q->
  wpAny (model X.prog X.w) X.A (call (.builtin id) (v::us)) (EP X pins σ Q) X.xe s
section
variable{X:Cx}{a b:Expr}{ta tb:TE}{pos:Pos}
theorem IxR.or{r z:R2}(h:IxR X r)(h':IxR X z):IxR X (λx y H Q=>r x y H Q∨z x y H Q):=by
 intro B Z pins s σ H x y v u Q I rx N q hs;rcases q with q|q
 .exact h B Z pins s σ H x y v u Q I rx N q hs
 .exact h' B Z pins s σ H x y v u Q I rx N q hs
theorem Ft{r:R2}(Z:IxR X r)(Y:PE X a ta)(U:PE X b tb)(hs:qN b):PE X (.Subscript a b pos) (tOp r ta tb):=by
 intro pins s σ H Q I h;exact Subscript_ (PN Y U I h λv u O x y H2 V rx N q=>Z a b pins O σ H2 x y v u Q V rx N q (hs _ _))
def RC(K:Tn):R2:=λx y H Q=>∃p xs i v,x= .ref p/\y= .int i/\SqL K H p xs/\atI xs i=some v/\Q v H
def Rb(K:Tn):R2:=λx y H Q=>∃p xs i v,x= .ref p/\y= .int i/\SqT K H p xs/\atI xs i=some v/\Q v H
def QT:R2:=λx y H Q=>∃z i c,x= .str z/\y= .int i/\z.length<=Te/\atI z.cps.toList i=some c/\Q (.str ⟨#[c]⟩) H
theorem K5:IxR X (RC X.K):=by
 intro a0 a2 pins s σ H x y v u Q I rx N h hs;obtain⟨p,xs,i,z,rfl,rfl,B,V,q⟩:=h;cases rx;obtain⟨t,rfl⟩:=N;obtain⟨its,r,pl,hz⟩:=I.list B;obtain⟨j,h1,h2,O,F,U⟩:=wR V;obtain⟨w,ew,a1⟩:=r.get h2;have Y:=r.length;have hn:=mH;have fin:EP X pins σ Q w s:=⟨z,H,I,a1,q⟩;by_cases Z:0<=i
 .have hj:i.toNat=j:=by
   rw[abR Z U]at h1;exact UG h1
  exact item_listR pl.isList Z (by omega) (by rw[hj];simpa using ew) fin hs
 .have hj:(i+(its.toArray.size:Int)).toNat=j:=by
   rw[abq (by omega) F]at h1;rw[List.size_toArray,←Y];exact UG h1
  exact aas (x:=w) pl.isList.typeIs slot_list_getitem.lookup
   (wpAny_getItem_list_neg (Q:=λr s'=>r=w/\EP X pins σ Q r s') pl.isList (by omega) (by rw[List.size_toArray]<;>omega) (by omega) (by rw[hj];simpa using ew) ⟨rfl,fin⟩) hs
theorem M_:IxR X (Rb X.K):=by
 intro a0 Z pins s σ H x y v u Q I rx N h hs;obtain⟨p,xs,i,z,rfl,rfl,B,V,q⟩:=h;cases rx;obtain⟨t,rfl⟩:=N;obtain⟨its,r,pl,hz⟩:=I.tuple B;obtain⟨j,h1,h2,O,F,U⟩:=wR V;obtain⟨w,ew,a1⟩:=r.get h2;have Y:=r.length;have hn:=mH;have fin:EP X pins σ Q w s:=⟨z,H,I,a1,q⟩;exact aas (x:=w) pl.typeIs slot_tuple_getitem.lookup
  (getItem_tuple (j:=j) (Q:=λr s'=>r=w/\EP X pins σ Q r s') pl (by omega) (by omega) (by rw[List.size_toArray,←Y];exact h1) (by simpa using ew) ⟨rfl,fin⟩) hs
theorem M3:IxR X QT:=by
 intro B Z pins s σ H x y v u Q I rx N h hs;obtain⟨z,i,c,rfl,rfl,hz,V,q⟩:=h;obtain⟨t,rfl⟩:=rx;obtain⟨t',rfl⟩:=N;obtain⟨j,h1,h2,O,F,U⟩:=wR V;have Y:z.cps.toList.length=z.length:=by simp[Str.length]
 rw[Y]at h1 F U;have hn:=mH;exact tail_any (typeIs_str s z t) slot_str_getitem.lookup (getItem_str (c:=c) (by
  have e1:decide (i< -(2 ^ 63:Int))=false:=T8 (by omega);have e2:decide (i>=2 ^ 63)=false:=T8 (by omega);rw[e1,e2,Bool.or_false]) (by rw[h1];simpa using h2) ⟨.str ⟨#[c]⟩,H,I.tok _,⟨_,rfl⟩,q⟩) hs
def rIx(K:Tn):R2:=λx y H Q=>RC K x y H Q∨Rb K x y H Q∨QT x y H Q
theorem PQ:IxR X (rIx X.K):=K5.or (M_.or M3)
theorem zQ(its:List Value)(n j:Nat)(u:Value):Wm (·.setIfInBounds j u) {cls:=.type "list",data:=.seq its.toArray n}={cls:=.type "list",data:=.seq (its.set j u).toArray n}:=by
 simp[Wm]
theorem Inv.lst{pins:List (Addr×Obj)}{σ:St}{H:Hp}{s:S6}{p:Addr}{xs:List V}(I:Inv X pins σ H s)(h:H p=some (.lst xs)) :
  ∃(its:List Value)(n:Nat),Vals xs its/\s.heap.get? p=some {cls:=.type "list",data:=.seq its.toArray n}/\xs.length<=Te:=by
 obtain⟨z,its,n,r,e⟩:=I.hok p _ h;exact⟨its,n,r,e,z⟩
theorem Inv.lstUpd{pins:List (Addr×Obj)}{σ:St}{H:Hp}{s:S6}{p:Addr}{xs ys:List V}{its its':List Value}{n F:Nat}{f:Obj->Obj}(I:Inv X pins σ H s)(h:H p=some (.lst xs))
  (B:s.heap.get? p=some {cls:=.type "list",data:=.seq its.toArray n}) (Z:f {cls:=.type "list",data:=.seq its.toArray n}={cls:=.type "list",data:=.seq its'.toArray F}) (r:Vals ys its') (hz:ys.length<=Te) (t:Nat) :
  Inv X pins σ (upd H p (.lst ys)) {s with heap:=s.heap.update p f,toks:=t}:=by
 have e:(s.heap.update p f).get? p=some {cls:=.type "list",data:=.seq its'.toArray F}:=by
  rw[Wc f B (by rw[Z]<;>rfl),Z]
 refine I.write (x:=p) (e:=p) (by rw[h];trivial) (.inl rfl) (λb u U q=>(U9 _ _ (U0 U)).trans q) ⟨_,e⟩ ?_;exact⟨hz,its',F,r,e⟩
def MF:V->V->V->Hp->(Hp->Prop)->Prop:=λo i v H Q=>∃p xs k j,o= .ref p/\i= .int k/\H p=some (.lst xs)/\ixN xs.length k=some j/\Q (upd H p (.lst (xs.set j v)))
theorem set_list:La X MF:=by
 intro pins s σ H o i v z iv u Q I ro ri U h;obtain⟨p,xs,k,j,rfl,rfl,N,V,q⟩:=h;cases ro;obtain⟨t,rfl⟩:=ri;obtain⟨its,n,r,B,hz⟩:=I.lst N;obtain⟨h1,h2,O,F⟩:=wQ V;have Y:=r.length;have hn:=mH;have I':Inv X pins σ (upd H p (.lst (xs.set j v))) {s with heap:=s.heap.update p (Wm (·.setIfInBounds j u))}:=
  I.lstUpd N B (zQ its n j u) (r.set U j) (by rw[List.length_set];exact hz) s.toks
 by_cases Z:0<=k
 .have hk:k.toNat=j:=by
   rw[abR Z F]at h1;exact UG h1
  exact PySem.W.ki_setAt B Z (by omega) (by rw[List.size_toArray,←Y];exact F) (by rw[hk];exact⟨_,I',q⟩)
 .have hk:(k+(its.toArray.size:Int)).toNat=j:=by
   rw[abq (by omega) O]at h1;rw[List.size_toArray,←Y];exact UG h1
  exact PySem.W.ki_setBack B (by omega) (by rw[List.size_toArray,←Y];exact O) (by omega) (by rw[hk];exact⟨_,I',q⟩)
theorem wV(lo hi:Option Int)(n:Nat):(XX lo hi none n).1=((HT.sIx n 0 lo:Nat):Int)/\(XX lo hi none n).2.1=((HT.sIx n n hi:Nat):Int)/\(XX lo hi none n).2.2=1:=by
 refine⟨?_,?_,rfl⟩
 .cases lo with
  |none=>simp[XX,HT.sIx]
  |some i=>
   simp only[XX,HT.sIx,abX,show(1:Int)>0 by decide,Ud];by_cases h:i<0
   .simp only[h,Ud]<;>omega
   .simp only[h,VM]<;>omega
 .cases hi with
  |none=>simp[XX,HT.sIx]
  |some i=>
   simp only[XX,HT.sIx,abX,show(1:Int)>0 by decide,Ud];by_cases h:i<0
   .simp only[h,Ud]<;>omega
   .simp only[h,VM]<;>omega
theorem uf(its:List Value)(lo hi:Option Int):slicePick its.toArray lo hi none=((its.drop (HT.sIx its.length 0 lo)).take (HT.sIx its.length its.length hi-HT.sIx its.length 0 lo)).toArray:=by
 obtain⟨h1,h2,O⟩:=wV lo hi its.toArray.size;unfold slicePick;rw[h1,h2,O];simp only[sliceRange_one,pick_run,List.size_toArray]<;>rfl
def R1(K:Tn):V->Option Int->Option Int->Hp->VK->Prop:=λx lo hi H Q=>∃a xs,x= .ref a/\SqL K H a xs/\∀p,H p=none->Q (.ref p) (upd H p (.lst (rP xs lo hi)))
theorem Jz:SlR X (R1 X.K):=by
 intro pins s σ H x v vl Y lo hi sl Q I rx hs B O h;obtain⟨a,xs,rfl,F,q⟩:=h;cases rx;obtain⟨its,r,U,hz⟩:=I.list F;have Z:=r.length;refine⟨"list",_,slot_list_getitem.lookup,U.isList.typeIs,?_⟩;refine wpAny_getItem_list_slice U.isList hs B O .none (by simp) ?_ (by rw[List.size_toArray]<;>omega);rw[uf,←Z];refine⟨.ref s.heap.objs.size,_,I.laid (t':=s.toks) (o:=.lst (rP xs lo hi)) (λb ob q=>S_ _ q) (Tg _) ?_,rfl,q _ (I.hok.fresh (Tg _))⟩;exact⟨V4 (p_ xs lo hi) hz,_,0,(r.drop (HT.sIx xs.length 0 lo)).take (HT.sIx xs.length xs.length hi-HT.sIx xs.length 0 lo),TV _ rfl⟩
def jU:V->Bool
 |.non=>true
 |.bl _=>true
 |.int _=>true
 |.str _=>true
 |_=>false
def eqV:V->V->Bool
 |.non,.non=>true
 |.bl a,.bl b=>a==b
 |.bl a,.int b=>(if a then 1 else 0)==b
 |.int a,.bl b=>a==(if b then 1 else 0)
 |.int a,.int b=>a==b
 |.str a,.str b=>a==b
 |_,_=>false
theorem OJ{A:U4}{s:S6}{y x:V}{u v:Value}(N:RelV y u)(rx:RelV x v)(I:jU y=true)(fx:jU x=true):SeqAt.EqAt A s u v (eqV y x):=by
 cases y with
 |non=>
  cases N;cases x with
  |non=>cases rx;exact SeqAt.EqAt.same _
  |bl b=>cases rx;exact SeqAt.EqAt.none_bool b
  |int b=>obtain⟨t,rfl⟩:=rx;exact SeqAt.EqAt.none_int b t
  |str b=>obtain⟨t,rfl⟩:=rx;exact SeqAt.EqAt.none_str b t
  |_=>exact absurd (show false=true from fx) Uk
 |bl a=>
  cases N;cases x with
  |non=>cases rx;exact SeqAt.EqAt.bool_none a
  |bl b=>cases rx;exact SeqAt.EqAt.bool_bool a b
  |int b=>obtain⟨t,rfl⟩:=rx;exact SeqAt.EqAt.bool_int a b t
  |str b=>obtain⟨t,rfl⟩:=rx;exact SeqAt.EqAt.bool_str a b t
  |_=>exact absurd (show false=true from fx) Uk
 |int a=>
  obtain⟨t',rfl⟩:=N;cases x with
  |non=>cases rx;exact SeqAt.EqAt.int_none a t'
  |bl b=>cases rx;exact SeqAt.EqAt.int_bool a t' b
  |int b=>obtain⟨t,rfl⟩:=rx;exact SeqAt.EqAt.int_int a t' b t
  |str b=>obtain⟨t,rfl⟩:=rx;exact abk a t' b t
  |_=>exact absurd (show false=true from fx) Uk
 |str a=>
  obtain⟨t',rfl⟩:=N;cases x with
  |non=>cases rx;exact SeqAt.EqAt.str_none a t'
  |bl b=>cases rx;exact SeqAt.EqAt.str_bool a t' b
  |int b=>obtain⟨t,rfl⟩:=rx;exact abl a t' b t
  |str b=>obtain⟨t,rfl⟩:=rx;exact SeqAt.EqAt.str_str a t' b t
  |_=>exact absurd (show false=true from fx) Uk
 |_=>exact absurd (show false=true from I) Uk
def eqU(x:V)(u:Value):Bool:=match u with
 |.none=>eqV .non x
 |.bool b=>eqV (.bl b) x
 |.int i _=>eqV (.int i) x
 |.str z _=>eqV (.str z) x
 |_=>false
theorem Im{x y:V}{u:Value}(r:RelV y u)(f:jU y=true):eqU x u=eqV y x:=by
 cases y with
 |non=>cases r;rfl
 |bl b=>cases r;rfl
 |int i=>obtain⟨t,rfl⟩:=r;rfl
 |str z=>obtain⟨t,rfl⟩:=r;rfl
 |_=>exact absurd (show false=true from f) Uk
theorem wj{x:V}:∀{xs:List V}{us:List Value},Vals xs us->xs.all jU=true->us.any (eqU x)=xs.any λy=>eqV y x
 |_,_,.nil,_=>rfl
 |y::xs,u::us,.cons r t,f=>by
  rw[ZK,TY]at f;rw[YL,YL,Im r f.1,wj t f.2]
theorem rM{A:U4}{s:S6}{x:V}{v:Value}(rx:RelV x v)(fx:jU x=true):∀{xs:List V}{us:List Value},Vals xs us->xs.all jU=true->∀u∈us,SeqAt.EqAt A s u v (eqU x u)
 |_,_,.nil,_=>λu F=>by cases F
 |y::xs,u::us,.cons r t,f=>λu' F=>by
  rw[ZK,TY]at f;rcases Tf.mp F with rfl|F
  .rw[Im r f.1];exact OJ r rx f.1 fx
  .exact rM rx fx t f.2 u' F
def inV(x:V)(xs:List V):Bool:=xs.any λy=>eqV y x
def rIn(K:Tn)(q:Bool):R2:=λx y H Q=>∃p xs,y= .ref p/\(SqL K H p xs∨SqT K H p xs)/\jU x=true/\xs.all jU=true/\Q (.bl (if q then !inV x xs else inV x xs)) H
theorem vy:OpR X (UL .NotIn) (rIn X.K true):=by
 intro pins s σ H x y v u Q I rx N h;obtain⟨p,xs,rfl,B,fx,fs,q⟩:=h;cases N;rcases B with B|B
 .obtain⟨its,r,pl,hz⟩:=I.list B
  refine SeqAt.notIn_listAt (eqU x) pl.isList (λw z=>rM rx fx r fs w (by simpa using z)) ⟨.bl _,H,I,rfl,?_⟩;rw[show its.toArray.any (eqU x)=its.any (eqU x)by simp,wj r fs];exact q
 .obtain⟨its,r,pl,hz⟩:=I.tuple B
  refine SeqAt.notIn_tupleAt (eqU x) pl (λw z=>rM rx fx r fs w (by simpa using z)) ⟨.bl _,H,I,rfl,?_⟩;rw[show its.toArray.any (eqU x)=its.any (eqU x)by simp,wj r fs];exact q
theorem vP:OpR X (UL .NotIn) (λx y H Q=>∃i j,x= .str i/\y= .str j/\Q (.bl (!(!(Vk j i 0 j.length 1).isEmpty))) H):=by
 intro pins s σ H x y v u Q I rx N h;obtain⟨i,j,rfl,rfl,q⟩:=h;obtain⟨t,rfl⟩:=rx;obtain⟨t',rfl⟩:=N;exact notIn_str ⟨.bl _,H,I,rfl,q⟩
theorem wK:fO X (.builtin "len") (λxs H Q=>∃p ys,xs=[.ref p]/\(SqL X.K H p ys∨SqT X.K H p ys)/\Q (.int ys.length) H):=by
 intro pins s σ H xs us Q I r h;obtain⟨p,ys,rfl,B,q⟩:=h;obtain⟨u,rfl,rx⟩:=vals1 r;cases rx;have hn:=mH;rcases B with B|B
 .obtain⟨its,r',pl,hz⟩:=I.list B
  have Z:=r'.length;exact Calls.call_len_list pl.isList (by simp only[List.size_toArray]<;>omega) ⟨.int ys.length,H,I.tok _,⟨s.toks+1,by rw[List.size_toArray,Z]⟩,q⟩
 .obtain⟨its,r',pl,hz⟩:=I.tuple B
  have Z:=r'.length;exact len_tuple pl (by simp only[List.size_toArray]<;>omega) ⟨.int ys.length,H,I.tok _,⟨s.toks+1,by rw[List.size_toArray,Z]⟩,q⟩
theorem vC:fO X (.builtin "len") (λxs H Q=>∃z,xs=[.str z]/\z.length<=Te/\Q (.int z.length) H):=by
 intro pins s σ H xs us Q I r h;obtain⟨z,rfl,hz,q⟩:=h;obtain⟨u,rfl,t,rfl⟩:=vals1 r;have hn:=mH;exact len_str (by omega) ⟨.int z.length,H,I.tok _,⟨_,rfl⟩,q⟩
theorem vW:fO X (.type "list") (λxs H Q=>∃p ys,xs=[.ref p]/\(SqL X.K H p ys∨SqT X.K H p ys)/\∀l,H l=none->Q (.ref l) (upd H l (.lst ys))):=by
 intro pins s σ H xs us Q I r h;obtain⟨p,ys,rfl,F,q⟩:=h;obtain⟨u,rfl,rx⟩:=vals1 r;cases rx;have fin:∀(its:List Value),Vals ys its->ys.length<=Te->∀(h':Heap)(U:Nat),(∀b o',s.heap.get? b=some o'->h'.get? b=some o')->
   h'.get? s.heap.objs.size=some {cls:=.type "list",dict:=none,data:=.seq its.toArray U,slots:=#[]}->EP X pins σ Q (.ref s.heap.objs.size) {s with heap:=h'}:=λits z hz h' U kp e=>
  ⟨.ref s.heap.objs.size,_,I.laid (t':=s.toks) kp (Tg _) (show bB X.prog X.w _ h' _ (.lst ys)from⟨hz,its,U,z,e⟩),rfl,q _ (I.hok.fresh (Tg _))⟩
 rcases F with F|F
 .obtain⟨its,z,pl,hz⟩:=I.list F
  have Z:=z.length;obtain⟨o,B,O,n,hd⟩:=pl.isList;exact call_list_seq p (.inl rfl) B O hd (λh' U kp e=>fin its z hz h' U kp e) (by simp only[List.size_toArray]<;>omega)
 .obtain⟨its,z,pl,hz⟩:=I.tuple F
  have Z:=z.length;obtain⟨o,B,O,n,hd⟩:=pl;exact call_list_seq p (.inr rfl) B O hd (λh' U kp e=>fin its z hz h' U kp e) (by simp only[List.size_toArray]<;>omega)
theorem uo:fO X (.type "tuple") (λxs H Q=>∃p ys,xs=[.ref p]/\((SqL X.K H p ys/\∀l,H l=none->Q (.ref l) (upd H l (.tup ys)))∨(SqT X.K H p ys/\Q (.ref p) H))):=by
 intro pins s σ H xs us Q I r h;obtain⟨p,ys,rfl,h⟩:=h;obtain⟨u,rfl,rx⟩:=vals1 r;cases rx;rcases h with⟨B,q⟩|⟨B,q⟩
 .obtain⟨its,r',pl,hz⟩:=I.list B
  have Z:=r'.length;refine call_tuple_list pl.isList (λh' kp=>?_) (by simp only[List.size_toArray]<;>omega);have F:Inv X pins σ H {s with heap:=h'}:=I.kept (t':=s.toks) kp;have V:Inv X pins σ (upd H h'.objs.size (.tup ys)) {s with heap:=h'.push {cls:=.type "tuple",data:=.seq its.toArray}}:=
   F.laid (t':=s.toks) (λb o e=>S_ _ e) (Tg _) (show bB X.prog X.w _ _ _ (.tup ys)from⟨hz,its,r',j6.new _ _⟩)
  exact⟨.ref h'.objs.size,_,V,rfl,q _ (F.hok.fresh (Tg _))⟩
 .obtain⟨its,r',pl,hz⟩:=I.tuple B
  exact call_tuple_same pl ⟨.ref p,H,I,rfl,q⟩
def tyV(K:Tn)(T:String)(x:V)(H:Hp):Prop:=match x with
 |.str _=>T="str"
 |.int _=>T="int"
 |.ref p=>(T="list"/\∃xs,SqL K H p xs)∨(T="tuple"/\∃o,K.lookup p=some o/\o.cls= .type "tuple"/\o.dict=none)∨
  (T="dict"/\((∃kvs,H p=some (.dK kvs))∨∃kvs,H p=some (.dT kvs)))∨(T="set"/\∃S n,H p=some (.set S n))
 |_=>False
theorem Oe{pins:List (Addr×Obj)}{σ:St}{H:Hp}{s:S6}{T:String}{x:V}{v:Value}(I:Inv X pins σ H s)(r:RelV x v)(U:tyV X.K T x H) :
  s.TypeIs v T/\∀a,v= .ref a->∃ob,s.heap.get? a=some ob/\ob.dict=none:=by
 cases x with
 |str z=>
  obtain⟨t,rfl⟩:=r;cases (show T="str" from U);exact⟨typeIs_str s z t,λ_ e=>nomatch e⟩
 |int i=>
  obtain⟨t,rfl⟩:=r;cases (show T="int" from U);exact⟨typeIs_int s i t,λ_ e=>nomatch e⟩
 |ref p=>
  cases r;rcases U with⟨rfl,xs,B⟩|⟨rfl,o,q,O,hd⟩|⟨rfl,q⟩|⟨rfl,S,n,q⟩
  .obtain⟨its,_,pl,_⟩:=I.list B
   refine⟨pl.isList.typeIs,λa e=>?_⟩;cases e;obtain⟨o,n,e,c,hd,_⟩:=pl;exact⟨o,e,hd⟩
  .refine⟨⟨o,I.kIn p o q,O⟩,λa e=>?_⟩
   cases e;exact⟨o,I.kIn _ o q,hd⟩
  .have z:∃o,s.heap.get? p=some o/\o.ExactDict:=by
    rcases q with⟨kvs,q⟩|⟨kvs,q⟩
    .obtain⟨_,_,_,_,o,_,_,e,ex,_⟩:=I.hok p _ q
     exact⟨o,e,ex⟩
    .obtain⟨_,_,_,_,o,_,_,e,ex,_⟩:=I.hok p _ q
     exact⟨o,e,ex⟩
   obtain⟨o,e,ex⟩:=z;refine⟨⟨o,e,ex.1⟩,λa e2=>?_⟩;cases e2;exact⟨o,e,ex.2.1⟩
  .obtain⟨o,_,_,_,e,ex,_⟩:=I.hok p _ q
   refine⟨⟨o,e,ex.1⟩,λa e2=>?_⟩;cases e2;exact⟨o,e,ex.2.1⟩
 |_=>exact W6 U
def tBM(K:Tn)(T:String)(r:V->List V->Hp->VK->Prop)(to:TE)(t:TA):TE:=λσ H Q=>to σ H λx H1=>tyV K T x H1/\t σ H1 λxs H2=>r x xs H2 Q
variable{o e:Expr}{es:List Expr}{to:TE}{t:TA}{name:Str}{apos cpos:Pos}{T id:String}{r:V->List V->Hp->VK->Prop}
theorem uC(pa:Z0 T)(slot:Slot T name id)(a2:typeOf (.builtin id)=pure (.type "method_descriptor"))(N:MtR X id r)(B:PE X o to)(Y:PA X (e::es) t)
  (q:Wz o name X.env (eval o X.env)=eval o X.env:=by rfl)
  (a1:((Vf cpos (Tj (e::es) X.env)).all (λx=>!x.1)&&(Yh cpos (W8 [] X.env)).all (λx=>x.1.isSome)
   &&decide ((e::es).length+([]:List Wd).length+(if([]:List Wd).isEmpty then 0 else 1)<30))=true:=by rfl)
  (a0:(apos.endLine==cpos.line)=true:=by rfl) (hs:Tj (e::es) X.env=(false,eval e X.env)::Tj es X.env:=by rfl) (U:(Vf cpos (Tj es X.env)).any (·.1)=false:=by rfl) :
  PE X (.Call (.Attribute o name apos) (e::es) [] cpos) (tBM X.K T r to t):=by
 intro pins s σ H Q I h;refine aat q a1 a0 rfl (thn (B pins s σ H _ I h) λv Z ⟨x,H1,F,z,ty,q1⟩=>?_);obtain⟨h1,h2⟩:=Oe F z ty;refine⟨T,id,pa,slot,a2,h1,h2,?_⟩;have hA:=Y cpos pins Z σ H1 _ F q1;rw[hs]at hA⊢;refine YD (by show(false||(Vf cpos (Tj es X.env)).any (·.1))=false;rw[U]<;>rfl) (Zc ?_);exact thn hA λus O ⟨vs,H2,V,r2,q2⟩=>N pins O σ H2 x vs v us Q V z r2 q2
end
def MtM(X:Cx)(id:String)(r:V->List V->Hp->VK->Prop):Prop:=
 ∀(pins:List (Addr×Obj))(s:S6)(σ:St)(H:Hp)(x:V)(xs:List V)(v:Value)(us:List Value)(Q:VK),Inv X pins σ H s->RelV x v->Vals xs us->r x xs H Q->
  wpAny (model X.prog X.w) X.A (call (.builtin id) (v::us)) (EP X pins σ Q) X.xe s
theorem Vals.one:∀{x:V}{us:List Value},Vals [x] us->∃u,us=[u]/\RelV x u
 |_,_,.cons r .nil=>⟨_,rfl,r⟩
theorem Vals.two:∀{x y:V}{us:List Value},Vals [x,y] us->∃u v,us=[u,v]/\RelV x u/\RelV y v
 |_,_,_,.cons r (.cons q .nil)=>⟨_,_,rfl,r,q⟩
theorem Vals.eraseIdx:∀{xs:List V}{us:List Value}(i:Nat),Vals xs us->Vals (xs.eraseIdx i) (us.eraseIdx i)
 |_,_,_,.nil=>.nil
 |_,_,0,.cons _ t=>t
 |_,_,i+1,.cons r t=>.cons r (Vals.eraseIdx i t)
theorem uK:∀(l:List α)(i:Nat),(l.eraseIdx i).length<=l.length
 |[],_=>Tg _
 |_::_,0=>Zr _
 |_::r,i+1=>Nat.succ_le_succ (uK r i)
variable{xs ys:List V}{X:Cx}{σ:St}{H:Hp}
theorem Inv.lset{its':List Value}{f:Array Value->Array Value}(I:Inv X pins σ H s)(V:H l=some (.lst xs))
  (e:s.heap.get? l=some {cls:=.type "list",data:=.seq its.toArray n}) (Z:f its.toArray=its'.toArray) (B:Vals ys its') (hz:ys.length<=Te) :
  Inv X pins σ (upd H l (.lst ys)) {s with heap:=s.heap.update l (Wm f),toks:=t'}:=by
 have q:=abY e f;rw[Z]at q;refine I.write (x:=l) (e:=l) (by rw[V];exact trivial) (.inl rfl) (λz u U F=>(U9 s.heap (Wm f) (U0 U)).trans F) ⟨_,q⟩ ?_;exact⟨hz,its',_,B,q⟩
theorem Inv.lnew(I:Inv X pins σ H s)(B:Vals ys its)(hz:ys.length<=Te) :
  Inv X pins σ (upd H s.heap.objs.size (.lst ys)) {s with heap:=s.heap.push {cls:=.type "list",data:=.seq its.toArray},toks:=t'}:=
 I.laid (λ_ _ q=>S_ _ q) (Tg _) ⟨hz,its,0,B,TV _ rfl⟩
theorem Inv.fresh(I:Inv X pins σ H s):H s.heap.objs.size=none:=I.hok.fresh (Tg _)
theorem Inv.lstM(I:Inv X pins σ H s)(V:H l=some (.lst xs)):xs.length<=Te/\∃(its:List Value)(n:Nat),Vals xs its/\xs.length=its.length/\s.heap.get? l=some {cls:=.type "list",data:=.seq its.toArray n}:=by
 obtain⟨z,its,n,r,e⟩:=I.hok l _ V;exact⟨z,its,n,r,r.length,e⟩
theorem Ig(h:n<=Te):Yi n=false:=by
 unfold Yi;exact T8 (by omega)
def nO:V->List V->Hp->VK->Prop:=λx vs H Q=>∃l xs y,x= .ref l/\vs=[y]/\H l=some (.lst xs)/\xs.length<Te/\Q .non (upd H l (.lst (xs++[y])))
theorem uv:MtM X "list.append" nO:=by
 intro pins s σ H x vs v us Q I rx U h;obtain⟨l,xs,y,rfl,rfl,V,hz,q⟩:=h;cases rx;obtain⟨u,rfl,O⟩:=U.one;obtain⟨z,its,n,r,Y,e⟩:=I.lstM V;refine Ym abr ⟨_,e,rfl⟩ abd (aaV _ _) (abH l its.toArray n u (by rw[List.size_toArray];omega)) ⟨e,?_⟩;refine⟨.non,_,I.lset (its':=its++[u]) V e (by simp) (r.append (.cons O .nil)) ?_,rfl,q⟩;rw[Ui,aaH];omega
def Hf:V->List V->Hp->VK->Prop:=λx vs H Q=>∃l xs i k y,x= .ref l/\vs=[.int i]/\H l=some (.lst xs)/\-(2 ^ 63)<=i/\i<2 ^ 63/\seqIndex? i xs.length=some k/\xs[k]? =some y/\Q y (upd H l (.lst (xs.eraseIdx k)))
theorem Je:MtM X "list.pop" Hf:=by
 intro pins s σ H x vs v us Q I rx U h;obtain⟨l,xs,i,k,y,rfl,rfl,Z,h1,h2,hk,V,q⟩:=h;cases rx;obtain⟨u,rfl,O⟩:=U.one;obtain⟨t,rfl⟩:=O;obtain⟨z,its,n,r,Y,e⟩:=I.lstM Z;obtain⟨w,N,B⟩:=r.get V;refine Ym F.slot_list_pop ⟨_,e,rfl⟩ F.entry_list_pop (F.args_list_pop_2 _ _)
  (MeetsSeq.list_pop_at l its.toArray n i t k w (fitsIndex_both h1 h2) (by rw[List.size_toArray,←Y];exact hk) (by rw[←Xv];exact N) (by rw[List.size_toArray];omega)) ⟨e,?_⟩
 refine⟨y,_,I.lset (its':=its.eraseIdx k) Z e ?_ (r.eraseIdx k) ?_,B,q⟩
 .show its.toArray.eraseIdxIfInBounds k=(its.eraseIdx k).toArray
  rw[List.eraseIdxIfInBounds_toArray]
 .have:=uK xs k
  omega
def Rr:R2:=λx y H Q=>∃l b xs zs,x= .ref l/\y= .ref b/\H l=some (.lst xs)/\H b=some (.lst zs)/\xs.length+zs.length<=Te/\∀p,H p=none->Q (.ref p) (upd H p (.lst (xs++zs)))
theorem Ov:OpR X (Vp .Add) Rr:=by
 intro pins s σ H x y v u Q I rx N h;obtain⟨l,b,xs,zs,rfl,rfl,V,O,hz,q⟩:=h;cases rx;cases N;obtain⟨z,its,n,r,Y,e⟩:=I.lstM V;obtain⟨B,Z,n2,U,a0,e2⟩:=I.lstM O;refine PySem.P.add_list e e2 ?_ (by rw[List.size_toArray,List.size_toArray];omega);have F:its.toArray++Z.toArray=(its++Z).toArray:=by simp
 rw[F];exact⟨.ref _,_,I.lnew (t':=s.toks) (r.append U) (by rw[Ui];omega),rfl,q _ I.fresh⟩
section
variable{κ:Type}[DecidableEq κ]
def gw(kvs:List (κ×V))(k:κ):Option V:=(kvs.find? λkv=>decide (kv.1=k)).map (·.2)
def putK(kvs:List (κ×V))(k:κ)(v:V):List (κ×V):=
 if(kvs.any λkv=>decide (kv.1=k))=true then kvs.map (λkv=>if kv.1=k then(kv.1,v)else kv)else kvs++[(k,v)]
theorem rG{p:κ×V}{r:List (κ×V)}{k:κ}(e:p.1=k):gw (p::r) k=some p.2:=by simp[gw,Wo,e]
theorem rW{p:κ×V}{r:List (κ×V)}{k:κ}(e:¬p.1=k):gw (p::r) k=gw r k:=by simp[gw,Wo,e]
theorem rn(k:κ):∀kvs:List (κ×V),(kvs.any λkv=>decide (kv.1=k))=(gw kvs k).isSome
 |[]=>rfl
 |p::r=>by
  rw[YL];by_cases e:p.1=k
  .simp only[rG e,Vm e,Bool.true_or,Option.isSome_some]
  .rw[rW e,T8 e,Bool.false_or];exact rn k r
theorem dO(kvs:List (κ×V))(k:κ)(v:V):(putK kvs k v).length<=kvs.length+1:=by
 unfold putK;split
 .rw[Tv];omega
 .rw[Ui,T_,UJ];omega
theorem jy{kvs:List (κ×V)}{k:κ}(v:V)(h:gw kvs k=none):putK kvs k v=kvs++[(k,v)]:=by
 unfold putK;rw[rn,h];exact TQ (by decide)
theorem jY.isSome_eq{o:Option V}{u:Option Value}(r:jY o u):o.isSome=u.isSome:=by
 cases o with
 |none=>cases u with
  |none=>rfl
  |some _=>exact(show False from r).elim
 |some _=>cases u with
  |none=>exact(show False from r).elim
  |some _=>rfl
theorem jY.getD{o:Option V}{u:Option Value}{d:V}{d':Value}(r:jY o u)(rd:RelV d d'):RelV (o.getD d) (u.getD d'):=by
 cases o with
 |none=>cases u with
  |none=>exact rd
  |some _=>exact(show False from r).elim
 |some _=>cases u with
  |none=>exact(show False from r).elim
  |some _=>exact r
theorem KV.val{kvs:List (κ×V)}{vs:List (κ×Value)}(r:KV kvs vs)(k:κ):jY (gw kvs k) (W0 vs k):=by
 unfold KV at r
 induction r with
 |nil=>exact Vc
 |@cons p q ps B h t Z=>
  obtain⟨h1,h2⟩:=h;by_cases e:p.1=k
  .have e':q.1=k:=h1.symm.trans e
   have b:W0 (q::B) k=some q.2:=by simp[W0,Wo,e']
   rw[rG e,b];exact h2
  .have e':¬q.1=k:=λz=>e (h1.trans z)
   have b:W0 (q::B) k=W0 B k:=by simp[W0,Wo,e']
   rw[rW e,b];exact Z
theorem KV.any{kvs:List (κ×V)}{vs:List (κ×Value)}(r:KV kvs vs)(k:κ):(kvs.any λkv=>decide (kv.1=k))=vs.any λkv=>decide (kv.1=k):=by
 unfold KV at r
 induction r with
 |nil=>rfl
 |cons h t Z=>rw[YL,YL,Z,h.1]
theorem KV.repl{kvs:List (κ×V)}{vs:List (κ×Value)}(r:KV kvs vs)(k:κ){y:V}{u:Value}(N:RelV y u) :
  KV (kvs.map λkv=>if kv.1=k then(kv.1,y)else kv) (vs.map λkv=>if kv.1=k then(kv.1,u)else kv):=by
 unfold KV at r⊢
 induction r with
 |nil=>exact .nil
 |@cons p q ps B h t Z=>
  rw[TF,TF];refine .cons ?_ Z;obtain⟨h1,h2⟩:=h;by_cases e:p.1=k
  .rw[Tz e,Tz (h1.symm.trans e)];exact⟨h1,N⟩
  .rw[TQ e,TQ (λz=>e (h1.trans z))];exact⟨h1,h2⟩
theorem KV.put{kvs:List (κ×V)}{vs:List (κ×Value)}(r:KV kvs vs)(k:κ){y:V}{u:Value}(N:RelV y u):KV (putK kvs k y) (aaI vs k u):=by
 unfold putK aaI;rw[r.any k];by_cases e:(vs.any λkv=>decide (kv.1=k))=true
 .rw[Tz e,Tz e];exact r.repl k N
 .rw[TQ e,TQ e];exact Paired.snoc r ⟨rfl,N⟩
theorem KV.length{kvs:List (κ×V)}{vs:List (κ×Value)}(r:KV kvs vs):kvs.length=vs.length:=ZC r
end
theorem jT{k:Key}(r:RelV (kV k) u):(aY P w).is k u=true:=by
 cases k with
 |inl i=>obtain⟨t,e⟩:=(show ∃t,u=Zu i t from r);subst e;exact yL P w i t
 |inr x=>obtain⟨t,e⟩:=(show ∃t,u=Y0 x t from r);subst e;exact yP P w x t
theorem vd:∀{ks:List Key}{us:List Value},Vals (ks.map kV) us->ItemsAre (aY P w) ks us
 |[],_,r=>by rw[U7]at r;cases r;exact .nil
 |k::ks,_,r=>by
  rw[TF]at r;cases r with
  |cons h t=>exact .cons (jT h) (vd t)
noncomputable abbrev KT(H:Hp):List (List Key×V)->List (List Key×Addr×Value)->Prop:=Z4 λp q=>p.1=q.1/\H q.2.1=some (.tup (p.1.map kV))/\RelV p.2 q.2.2
variable{xs:List (List Key×Addr×Value)}{kvs:List (List Key×V)}
theorem KT.val(r:KT H kvs xs)(k:List Key):jY (gw kvs k) ((atKey xs k).map (·.2)):=by
 induction r with
 |nil=>exact Vc
 |@cons p q ps B h t Z=>
  obtain⟨h1,_,h2⟩:=h;by_cases e:p.1=k
  .have e':q.1=k:=h1.symm.trans e
   have b:atKey (q::B) k=some q.2:=by simp[atKey,Wo,e']
   rw[rG e,b];exact h2
  .have e':¬q.1=k:=λz=>e (h1.trans z)
   have b:atKey (q::B) k=atKey B k:=by simp[atKey,Wo,e']
   rw[rW e,b];exact Z
variable{y:V}
theorem KT.repl(r:KT H kvs xs)(k:List Key)(N:RelV y u) :
  KT H (kvs.map λkv=>if kv.1=k then(kv.1,y)else kv) (xs.map (putAt k u)):=by
 induction r with
 |nil=>exact .nil
 |@cons p q ps B h t Z=>
  rw[TF,TF];refine .cons ?_ Z;obtain⟨h1,h2,O⟩:=h;unfold putAt;by_cases e:p.1=k
  .rw[Tz e,Tz (h1.symm.trans e)];exact⟨h1,h2,N⟩
  .rw[TQ e,TQ (λz=>e (h1.trans z))];exact⟨h1,h2,O⟩
theorem KT.put(r:KT H kvs xs)(k:List Key){b:Addr}(U:H b=some (.tup (k.map kV)))(N:RelV y u) :
  KT H (putK kvs k y) (storedH xs k b u):=by
 have e:(kvs.any λkv=>decide (kv.1=k))=(atKey xs k).isSome:=by
  rw[rn,(r.val k).isSome_eq,abI]
 unfold putK storedH;rw[e];by_cases q:(atKey xs k).isSome=true
 .rw[Tz q,Tz q];exact r.repl k N
 .rw[TQ q,TQ q];exact Paired.snoc r ⟨rfl,U,N⟩
variable{H':Hp}
theorem KT.keeps(r:KT H kvs xs)(U:∀b ys,H b=some (.tup ys)->H' b=some (.tup ys)):KT H' kvs xs:=
 Paired.mapP r λ_ _ z=>⟨z.1,U _ _ z.2.1,z.2.2⟩
variable{P:Program}
theorem MJ{u:HO}(ok:HOk P w H h)(e:Rd H a u):bB P w H h a u:=e.ok ok
theorem lO{kvs:List (Key×V)}(ok:HOk P w H h)(e:Rd H a (.dK kvs)):kvs.length<=Te/\(a==VP)=false/\∃vs,KV kvs vs/\h.DictOf (aY P w) a vs:=
 show bB P w H h a (.dK kvs)from MJ ok e
theorem sU{kvs:List (Key×V)}(ok:HOk P w H h)(e:H a=some (.dK kvs)):kvs.length<=Te/\(a==VP)=false/\∃vs,KV kvs vs/\h.DictOf (aY P w) a vs:=lO ok (.inl e)
theorem pP{ks:List Key}(ok:HOk P w H h)(e:H a=some (.tup (ks.map kV))):(Y4 (aY P w)).is h ks a:=by
 obtain⟨_,its,r,o,h1,h2,n,O⟩:=(show bB P w H h a (.tup (ks.map kV))from ok a _ e);exact⟨o,its.toArray,n,h1,h2,O.1,by simpa using vd r⟩
theorem uR(ok:HOk P w H h)(e:Rd H a (.dT kvs)):kvs.length<=Te/\(a==VP)=false/\
  ∃xs,KT H kvs xs/\h.DictOfH (Y4 (aY P w)) a xs:=by
 obtain⟨z,y,xs,r,o,es,ep,h1,h2,O,I,U⟩:=(show bB P w H h a (.dT kvs)from MJ ok e);refine⟨z,y,xs,r,o,es,ep,h1,h2,O,I,λx F=>?_,U⟩;have all:∀{l:List (List Key×V)}{m:List (List Key×Addr×Value)},KT H l m->∀x∈m,(Y4 (aY P w)).is h x.1 x.2.1:=by
  intro l m q
  induction q with
  |nil=>intro x F;exact nomatch F
  |@cons p q ps N B t Z=>
   intro x F;rcases Tf.mp F with e|F
   .subst e
    exact pP ok (by rw[←B.1];exact B.2.1)
   .exact Z x F
 exact all r x F
theorem RG(ok:HOk P w H h)(e:H a=some (.dT kvs)):kvs.length<=Te/\(a==VP)=false/\
 ∃xs,KT H kvs xs/\h.DictOfH (Y4 (aY P w)) a xs:=uR ok (.inl e)
def ou(H:Hp)(a:Addr)(y:V)(r:Option V):Prop:=
 (∃kvs k,Rd H a (.dK kvs)/\y=kV k/\r=gw kvs k)∨∃kvs k b,Rd H a (.dT kvs)/\y= .ref b/\H b=some (.tup (k.map kV))/\r=gw kvs k
def Gp(H:Hp)(a:Addr)(y v:V)(H':Hp):Prop:=
 (∃kvs k,H a=some (.dK kvs)/\y=kV k/\kvs.length<Te/\H'=upd H a (.dK (putK kvs k v)))∨
 ∃kvs k b,H a=some (.dT kvs)/\y= .ref b/\H b=some (.tup (k.map kV))/\kvs.length<Te/\H'=upd H a (.dT (putK kvs k v))
variable{kvs:List (Key×V)}
theorem ou.k{k:Key}(e:H a=some (.dK kvs)):ou H a (kV k) (gw kvs k):=.inl ⟨kvs,k,.inl e,rfl,rfl⟩
variable{v:V}
theorem Gp.k{k:Key}(e:H a=some (.dK kvs))(Y:kvs.length<Te):Gp H a (kV k) v (upd H a (.dK (putK kvs k v))):=.inl ⟨kvs,k,e,rfl,Y,rfl⟩
theorem Inv.big(I:Inv X pins σ H s):VP<s.heap.objs.size:=by
 have h:Uc<s.heap.objs.size:=(I.mod.glob.keeps I.bk).lt;exact Nat.lt_trans (by decide) h
theorem Eu(F:A.units+1<cLine)(I:Inv X pins σ H s)(g:ou H a y (some v))(ry:RelV y u)(h:∀Y s',Inv X pins σ H s'->RelV v Y->Q Y s') :
  wpAny (model X.prog X.w) A (Zk (.ref a) u) Q E s:=by
 rcases g with⟨kvs,k,e,V,l⟩|⟨kvs,k,b,e,V,q,l⟩
 .subst V
  obtain⟨z,hd,vs,rel,Z⟩:=lO I.hok e;obtain⟨Y,U,B⟩:=jY.some_of (v:=v) (o:=W0 vs k) (by rw[l];exact rel.val k);exact wpAny_getItem_of (jT ry) Z.mapOf U (h Y _ (I.tok _) B)
 .subst V
  cases (show u=Um b from ry);obtain⟨z,hd,xs,rel,Z⟩:=uR I.hok e;obtain⟨Y,U,B⟩:=jY.some_of (v:=v) (o:=(atKey xs k).map (·.2)) (by rw[l];exact rel.val k);obtain⟨p,N,O⟩:=Option.map_eq_some_iff.mp U;refine wpAny_getItem_heap (Xl F) (pP I.hok q) Z N ?_;rw[O];exact h Y _ (I.tok _) B
variable{o:Option V}
theorem Jx(F:A.units+1<cLine)(I:Inv X pins σ H s)(g:ou H a y o)(N:RelV y u)(h:∀s',Inv X pins σ H s'->Q (.bool (!o.isSome)) s') :
  wpAny (model X.prog X.w) A (UL .NotIn u (.ref a)) Q E s:=by
 rcases g with⟨kvs,k,e,V,l⟩|⟨kvs,k,b,e,V,B,l⟩
 .subst V
  obtain⟨z,hd,vs,rel,Z⟩:=lO I.hok e;refine wpAny_notIn_of (jT N) hd Z.mapOf ?_;rw[←(rel.val k).isSome_eq,←l];exact h _ (I.tok _)
 .subst V
  cases (show u=Um b from N);obtain⟨z,hd,xs,rel,Z⟩:=uR I.hok e;refine wpAny_notIn_heap (Xl F) (pP I.hok B) hd Z ?_;have q:=(rel.val k).isSome_eq;rw[abI]at q;rw[←q,←l];exact h _ (I.tok _)
theorem jC{ob:HO}(I:Inv X pins σ H s)(mu:Mut (H a))(hs:Wi a s.heap h')(V:∃q,h'.get? a=some q)(new:bB X.prog X.w (upd H a ob) h' a ob) :
  Inv X pins σ (upd H a ob) {s with heap:=h',toks:=t'}:=
 I.write (x:=a) (e:=a) mu (.inl rfl) (λb q U z=>(hs.2 b U).trans z) V new
variable{P:Uj}
theorem tu{vs:List (Key×Value)}(z:kvs.length<=Te)(hd:(a==VP)=false)(rel:KV kvs vs)(Z:h'.DictOf (aY P w) a vs) :
 bB P w H' h' a (.dK kvs):=⟨z,hd,vs,rel,Z⟩
variable{r:Value}
theorem Eh{Q:Unit->S6->Prop}(F:A.units+1<cLine)(I:Inv X pins σ H s)(g:Gp H a y v H')(N:RelV y u)(U:RelV v r)(h:∀s',Inv X pins σ H' s'->Q () s') :
  wpAny (model X.prog X.w) A (setItem (.ref a) u r) Q E s:=by
 rcases g with⟨kvs,k,e,ey,l,eH⟩|⟨kvs,k,b,e,ey,eb,l,eH⟩
 .subst ey eH
  obtain⟨z,hd,vs,rel,Z⟩:=sU I.hok e;have hz:vs.length<=Te:=by rw[←rel.length];exact z
  have Y:(putK kvs k v).length<=Te:=by have:=dO kvs k v;omega
  refine wpAny_setItem_pairs (hsz:=hz) (jT N) Z λh' a0 hs=>h _ ?_;have V:∃q,h'.get? a=some q:=let⟨q,_,_,B,_⟩:=a0;⟨q,B⟩;exact jC I (by rw[e];exact Vc) hs V (tu Y hd (rel.put k U) a0)
 .subst ey eH
  cases (show u=Um b from N);obtain⟨z,hd,xs,rel,Z⟩:=RG I.hok e;have hz:xs.length<=Te:=by rw[←ZC rel];exact z
  have Y:(putK kvs k v).length<=Te:=by have:=dO kvs k v;omega
  refine wpAny_setItem_heap (hsz:=hz) (Xl F) (pP I.hok eb) Z λh' a0 hs=>h _ ?_;obtain⟨q,es,ep,B,h2,O,h4,_,h5⟩:=a0;refine jC I (by rw[e];exact Vc) hs ⟨q,B⟩ ⟨Y,hd,_,(rel.put k eb U).keeps λc ys ec=>?_,q,es,ep,B,h2,O,h4,h5⟩;rw[aH (iG ec e (λz=>nomatch z))];exact ec
section
variable{X:Cx}{pins:List (Addr×Obj)}{σ:St}{H:Hp}{s:Shared}{a:Addr}{kvs:List (Key×V)}{k:Key}{u:Value}{A:Around}{E:Value->Shared->Prop}
theorem Qy{Q:Value->S6->Prop}(I:Inv X pins σ H s)(e:Rd H a (.dK kvs))(h:∀t s',Inv X pins σ H s'->Q (.int kvs.length t) s'):wpAny (model X.prog X.w) A (call (.builtin "len") [.ref a]) Q E s:=by
 obtain⟨z,hd,vs,rel,Z⟩:=lO I.hok e;refine call_len_dict hd Z (by rw[←rel.length];rw[XS]at z;omega) ?_;rw[←rel.length];exact h _ _ (I.tok _)
end
theorem yd{s:S6}(I:Inv X pins σ H s)(g:ou H a y o):s.TypeIs (.ref a) "dict":=by
 rcases g with⟨kvs,k,e,_,_⟩|⟨kvs,k,b,e,_,_,_⟩
 .obtain⟨_,_,vs,_,dd⟩:=lO I.hok e
  exact dd.typeIs
 .obtain⟨_,_,xs,_,dd⟩:=uR I.hok e
  exact dd.typeIs
theorem yR(h:Heap)(U:VP<h.objs.size):bB P w H (h.push {cls:=.type "dict",data:=.dict #[]}) h.objs.size (.dK []):=
 ⟨WQ _,beq_eq_false_iff_ne.mpr (U0 (T4 U)),[],.nil,ab8 h⟩
def Nx:TE:=λ_ H Q=>∀p,H p=none->Q (.ref p) (upd H p (.dK []))
theorem Gv:PE X (.Dict [] [] pos) Nx:=λpins s σ H Q I h=>
 wpAny_Dict_empty ⟨.ref s.heap.objs.size,_,I.laid (a:=s.heap.objs.size) (o:=.dK []) (t':=s.toks) (λ_ _ q=>S_ _ q) (Tg _) (yR s.heap I.big),rfl,h _ (I.hok.fresh (Tg _))⟩
def wZ:List (TE×TE)->St->Hp->(List (V×V)->Hp->Prop)->Prop
 |[],_,H,Q=>Q [] H
 |(tk,tv)::r,σ,H,Q=>tk σ H λx H1=>tv σ H1 λy H2=>wZ r σ H2 λps Y=>Q ((x,y)::ps) Y
noncomputable abbrev VV:List (V×V)->List (Value×Value)->Prop:=Z4 λp q=>RelV p.1 q.1/\RelV p.2 q.2
def PPs(X:Cx)(pos:Pos)(N:List (Option Expr))(B:List Expr)(q:List (TE×TE)):Prop:=
 ∀(pins:List (Addr×Obj))(s:S6)(σ:St)(H:Hp)(Q:List (V×V)->Hp->Prop),Inv X pins σ H s->wZ q σ H Q->
  wpAny (model X.prog X.w) X.A (evalPairs (pairTrees N B X.env pos)) (λvs s'=>∃ps H',Inv X pins σ H' s'/\VV ps vs/\Q ps H') X.xe s
theorem Cr:PPs X pos [] [] []:=λpins s σ H Q I h=>pairTrees_nil_walk ⟨[],H,I,.nil,h⟩
theorem rB{k v:Expr}{ks:List (Option Expr)}{vs:List Expr}{tk tv:TE}{a0:List (TE×TE)}(hk:PE X k tk)(B:PE X v tv)(Z:PPs X pos ks vs a0) :
  PPs X pos (some k::ks) (v::vs) ((tk,tv)::a0):=λpins s σ H Q I h=>
 pairTrees_cons_walk (thn (hk pins s σ H _ I h) λu s1 ⟨x,H1,F,rx,q1⟩=>thn (B pins s1 σ H1 _ F q1) λw2 O ⟨y,H2,V,N,q2⟩=>
  thn (Z pins O σ H2 _ V q2) λz s3 ⟨ps,Y,U,rel,q⟩=>⟨(x,y)::ps,Y,U,.cons ⟨rx,N⟩ rel,q⟩)
def kZ(kvs more:List (Key×V)):List (Key×V):=more.foldl (λacc kv=>putK acc kv.1 kv.2) kvs
theorem KV.merge:∀{more:List (Key×V)}{O:List (Key×Value)}{kvs:List (Key×V)}{vs:List (Key×Value)},KV more O->KV kvs vs->KV (kZ kvs more) (merged vs O):=by
 intro more O kvs vs r;unfold KV at r
 induction r generalizing kvs vs with
 |nil=>intro q;exact q
 |@cons p q ps B h t Z=>
  intro z;have e:KV (putK kvs p.1 p.2) (aaI vs q.1 q.2):=by
   have:=z.put p.1 h.2;rw[←h.1];exact this
  exact Z e
theorem lZ:∀(more kvs:List (Key×V)),(kZ kvs more).length<=kvs.length+more.length
 |[],kvs=>by show kvs.length<=kvs.length+0;omega
 |p::r,kvs=>by
  have h1:=lZ r (putK kvs p.1 p.2);have h2:=dO kvs p.1 p.2;show(kZ (putK kvs p.1 p.2) r).length<=_;rw[T_];omega
theorem qW{P:Uj}{w:World}:∀{kvs:List (Key×V)}{z:List (Value×Value)},VV (kvs.map λkv=>(kV kv.1,kv.2)) z->∃O,Carries (aY P w) z O/\KV kvs O
 |[],_,r=>by rw[U7]at r;cases r;exact⟨[],Vc,.nil⟩
 |p::kvs,_,r=>by
  rw[TF]at r;cases r with
  |@cons a b I bs h t=>
   obtain⟨O,c,q⟩:=qW (P:=P) (w:=w) t;obtain⟨B,F⟩:=b;exact⟨(p.1,F)::O,⟨jT h.1,rfl,c⟩,.cons ⟨rfl,h.2⟩ q⟩
def Hy(q:List (TE×TE)):TE:=λσ H Q=>∀p,H p=none->wZ q σ (upd H p (.dK [])) λps H2=>H2 p=some (.dK [])/\∃kvs:List (Key×V),ps=kvs.map (λkv=>(kV kv.1,kv.2))/\kvs.length<=15/\Q (.ref p) (upd H2 p (.dK (kZ [] kvs)))
theorem Cd{N:List (Option Expr)}{B:List Expr}{a1:List (TE×TE)}(h:PPs X pos N B a1)(a0:N.all (·.isSome)=true)(Y:N.length=B.length)(h0:N≠[])
  (a2:N.length<=15):PE X (.Dict N B pos) (Hy a1):=by
 intro pins s σ H Q I q;have hn:=I.hok.fresh (Tg s.heap.objs.size);have F:=I.laid (a:=s.heap.objs.size) (o:=.dK []) (h':=s.heap.push {cls:=.type "dict",data:=.dict #[]}) (t':=s.toks) (λ_ _ q=>S_ _ q) (Tg _) (yR s.heap I.big);refine wpAny_Dict_walk (knd:=aY X.prog X.w) a0 Y h0 a2 (thn (h pins _ σ _ _ F (q _ hn)) λws O ⟨ps,H2,I2,rel,e,kvs,ep,lk,q2⟩=>?_);subst ep;obtain⟨rs,c,rk⟩:=qW (P:=X.prog) (w:=X.w) rel;obtain⟨z,hd,a3,r0,Z⟩:=sU I2.hok e;cases r0;refine⟨rs,c,Z,λh' U hs=>⟨.ref s.heap.objs.size,_,?_,rfl,q2⟩⟩;have hz:(kZ [] kvs).length<=Te:=by
  have h1:=lZ kvs [];rw[UJ]at h1;rw[XS];omega
 have V:∃q,h'.get? s.heap.objs.size=some q:=let⟨q,_,_,hq,_⟩:=U;⟨q,hq⟩;exact jC I2 (by rw[e];exact Vc) hs V (tu hz hd (rk.merge .nil) U)
theorem O3(B:A.units+1<cLine)(I:Inv X pins σ H s)(g:ou H a y o)(N:RelV y u)(h:∀Y s',Inv X pins σ H s'->RelV (o.getD .non) Y->Q Y s') :
  wpAny (model X.prog X.w) A (call (.builtin "dict.get") [.ref a,u]) Q E s:=by
 rcases g with⟨kvs,k,e,V,l⟩|⟨kvs,k,b,e,V,q,l⟩
 .subst V
  obtain⟨z,hd,vs,rel,Z⟩:=lO I.hok e;refine Xw V2 Z.typeIs Xn (aah _ _) (meets_dict_get (aY X.prog X.w) a (jT N) hd) ⟨_,Z.mapOf,h _ _ (I.tok _) ?_⟩;rw[l];exact(rel.val k).getD rfl
 .subst V
  cases (show u=Um b from N);obtain⟨z,hd,xs,rel,Z⟩:=uR I.hok e;refine Xw V2 Z.typeIs Xn (aah _ _) (meetsH_dict_get (Y4 (aY X.prog X.w)) a b hd) ⟨Xl B,k,xs,pP I.hok q,Z,h _ _ (I.tok _) ?_⟩;rw[l];exact(rel.val k).getD rfl
variable{d:V}
theorem M9(B:A.units+1<cLine)(I:Inv X pins σ H s)(g:ou H a y o)(N:RelV y u)(rd:RelV d r)(h:∀Y s',Inv X pins σ H s'->RelV (o.getD d) Y->Q Y s') :
  wpAny (model X.prog X.w) A (call (.builtin "dict.get") [.ref a,u,r]) Q E s:=by
 rcases g with⟨kvs,k,e,V,l⟩|⟨kvs,k,b,e,V,q,l⟩
 .subst V
  obtain⟨z,hd,vs,rel,Z⟩:=lO I.hok e;refine Xw V2 Z.typeIs Xn (aai _ _ _) (meets_dict_get_default (aY X.prog X.w) a (jT N) hd r) ⟨_,Z.mapOf,h _ _ (I.tok _) ?_⟩;rw[l];exact(rel.val k).getD rd
 .subst V
  cases (show u=Um b from N);obtain⟨z,hd,xs,rel,Z⟩:=uR I.hok e;refine Xw V2 Z.typeIs Xn (aai _ _ _) (meetsH_dict_get_default (Y4 (aY X.prog X.w)) a b hd r) ⟨Xl B,k,xs,pP I.hok q,Z,h _ _ (I.tok _) ?_⟩;rw[l];exact(rel.val k).getD rd
end L2
namespace Att
open PySem PySem.W PySem.Calls PyProof.Rows
variable{P:Params}
theorem qD:∀(ns:List Int)(vs:List Value),WellAll P h vs (ns.map WData.int)->abB vs ns:=by
 intro ns
 induction ns with
 |nil=>
  intro vs w;rw[U7]at w;cases w;exact .nil
 |cons n ns Z=>
  intro vs w;rw[TF]at w;cases w with
  |cons a b=>
   cases a;exact .cons _ _ (Z _ b)
variable{l:OpenLaw}
theorem Ea(hn:l.most=some n){args:List WData}{a0:List Value}
  (V:l.row.toRowW.claim.pre args=true) (Y:WellAll P h a0 args) :
  ∃a vs ns,a0=[Um a]/\args=[WData.list (ns.map WData.int)]/\h.get? a=some {cls:=.type "list",data:=.seq vs.toArray}/\abB vs ns/\ns.length<=n:=by
 have a1:WShape.hasAll [] args [.list .int]=true:=(pre_splitW V).1;have O:l.pre.holds [] {args:=args}=true:=(pre_splitW V).2;obtain⟨d,r,rfl,h1,h2⟩:=hasAllW_cons a1;obtain rfl:=hasAllW_nil h2;obtain⟨xs,rfl,h3⟩:=hasW_list h1;obtain⟨ns,rfl⟩:=items_int h3;have Z:ns.length<=n:=by
  unfold OpenLaw.pre at O;have F:(WTm.not (.lt (.lit (.int (n:Int))) (.len (.arg 0)))).holds [] {args:=[.list (ns.map .int)]}=true:=by
   have F:=(holds_andW O).1;rw[hn]at F;exact F
  have U:=condW_of F (w_not (w_lt w_lit (w_len_list (w_arg rfl))));rw[Tv]at U;refine Nat.le_of_not_lt λq=>?_;have N:(n:Int)<((ns.length:Nat):Int):=by omega
  first
   |(rw[Vm N]at U;exact absurd U (by decide))
   |(simp at U;omega)
 cases Y with
 |cons I w2=>
  cases w2;cases I with
  |list B z=>exact⟨_,_,ns,rfl,rfl,B,qD ns _ z,Z⟩
theorem De(l:OpenLaw)(args:List WData):l.row.toRowW.claim.post args (.bool true) args=true:=
 postW_of (r:=l.row.toRowW) (X:=(true==true))
  (show WShape.has [] (.bool true) .bool=true by first|rfl|decide|simp[WShape.has,WShape.arms,WShape.armsAll])
  (show(WTm.eq .res (.lit (.bool true))).value [] {args:=args,res:=some (.bool true),after:=args}=some (.bool (true==true))from w_eq_bool (w_res rfl) w_lit) rfl
theorem attach_call{q:Uj}{d:DefRec}
  (hn:l.most=some n) (a5:d.params.defaults=[])
  (call:∀(w:World)(s₀ a0:S6)(mg mb:Str->Option Value)(fa:Addr)(o:Obj)(pm cd I:Value)(a:Addr)(vs:List Value)(ns:List Int),
   Ground q U [] XP w s₀ mg mb a0.heap->YP w a0.heap->
   a0.heap.get? fa=some o->o.data= .func (docDef d.name d.params d.body d.scope pm cd I)->a0.heap.CodeRec cd d.name->mg d.name=some (.ref fa)->
   a0.heap.get? a=some {cls:=.type "list",data:=.seq vs.toArray}->abB vs ns->ns.length<=n->a0.gens= #[]->
   Wu (model l.prog w) Z3 (.call (.ref fa) ⟨[.ref a],[]⟩) (λr s'=>r= .ok (.ret (.bool true))/\OldK a0.heap s'.heap/\s'.os=a0.os/\Y5 s'.gens) a0) :
  WalkO q U XP YP l.row.toRowW d [] (λf vs=>ab9 f vs):=by
 intro w s₀ a0 mg mb G Y fa o pm cd I dV kV B hd V z a4 hg args a7 as a2 a8 b0 a6 a9;obtain rfl:dV= .none:=Dflts.none z a5;obtain rfl:kV= .none:=Dflts.noKw z;obtain⟨a,vs,ns,rfl,rfl,a3,a1,Z⟩:=Ea hn a2 a6;refine enter_call (Yc (call w s₀ a0 mg mb fa o pm cd I a vs ns G Y B (fd_plain hd) V a4 a3 a1 Z hg) λr s' hq=>?_);obtain⟨rfl,h2,O,F⟩:=hq;exact⟨.inl ⟨.bool true,.bool true,[],rfl,λ_=>rfl,.bool true,De l _,λ_=>⟨abJ,λ_ N=>(nomatch N)⟩⟩,h2,O,F⟩
end Att
namespace L2
open PySem PySem.Spec PyProof.Rows
theorem uB:∀{vs:List Value}{ns:List Int},abB vs ns->Vals (ns.map V.int) vs
 |_,_,.nil=>.nil
 |_,_,.cons n t h=>.cons ⟨t,rfl⟩ (uB h)
def Only(H:Hp):Prop:=∀b,H b=none∨∃o xs,H b=some (.frz o (.lst xs))
theorem Gy{K:Tn}{mb:Str->Option Value}{CX:CXT}{k:Nat}{fa:Addr}{sp:Sp}{O:S6}{ns:List Int}
  (KX:K.In O.heap) (N:O.heap.Ns Uc mg) (U:O.heap.Ns builtinsNs mb) (b0:∀x:Str,x≠"__name__"->mb x=V3 x) (a6:O.heap.NoLimit) (hg:O.gens= #[])
  (Y:O.heap.get? a=some {cls:=.type "list",data:=.seq vs.toArray}) (hi:abB vs ns) (hl:ns.length<=Te) (Z:ie k Z3)
  (F:∀base:Heap,K.In base->base.Ns Uc mg->eX P w K mg base CX k fa fd [x] sp) (a3:∀(s:S6)(u:Value),aaF s fd ⟨[u],[]⟩ [(x,u)])
  (b1:∀H:Hp,Only H->SqL K H a (ns.map V.int)->sp [.ref a] H (λv _=>v= .bl true) λ_ _ _=>False)
  (a9:∀H e s',CX [] H O (λ_ _ _=>False) e s'->False) :
  Wu (model P w) Z3 (.call (.ref fa) ⟨[.ref a],[]⟩) (λr s'=>r= .ok (.ret (.bool true))/\OldK O.heap s'.heap/\s'.os=O.os/\Y5 s'.gens) O:=by
 have rv:=uB hi;have a7:=hi.length;have a2:∀H:Hp,Only H->SqL K H a (ns.map V.int)->HOk P w H O.heap->(∀b,H b≠none->b=a)->(H a≠none->K.lookup a=none)->
   Wu (model P w) Z3 (.call (.ref fa) ⟨[.ref a],[]⟩) (λr s'=>r= .ok (.ret (.bool true))/\OldK O.heap s'.heap/\s'.os=O.os/\Y5 s'.gens) O:=by
  intro H hO hS hok hA hK;have a0:∀{b:Addr}{o:Obj},O.heap.get? b=some o->H b=none->(vo O.heap H).get? b=some o:=λe n=>Ie e n;have a8:∀{b:Addr}{o:Obj}{es:Array DictEntry}{ep:Nat},O.heap.get? b=some o->o.data= .dict es ep->H b=none:=λ{b o es ep} e d=>by
   cases q:H b with
   |none=>rfl
   |some u=>
    have e':b=a:=hA b (by rw[q];simp);subst e';rw[Y]at e;cases e;have d':Data.seq vs.toArray _=Data.dict es ep:=d;cases d'
  have a1:∀{b:Addr}{m:Str->Option Value},O.heap.Ns b m->(vo O.heap H).Ns b m:=λ{b m}⟨o,es,ep,e,d,r⟩=>⟨o,es,ep,a0 e (a8 e d),d,r⟩;have a5:K.In (vo O.heap H):=λb o e=>a0 (KX b o e) (by
   cases q:H b with
   |none=>rfl
   |some u=>
    have e':b=a:=hA b (by rw[q];simp);subst e';rw[hK (by rw[q];simp)]at e;cases e)
  have hM:Mod K mg (vo O.heap H):=⟨a5,a1 N,⟨mb,a1 U,b0⟩,let⟨mc,h1,h2⟩:=a6;⟨mc,a1 h1,h2⟩⟩;have B:K4 P w K mg (vo O.heap H) Z3 [] O H:=⟨rfl,hM,λb o e=>KD e,Nat.le_of_eq (DW _ _),trivial,λb U=>absurd (show b∈([]:List Addr)from U) (by simp),hok,.of_eq hg⟩;refine Yc ((F _ a5 (a1 N)).run Z3 [] O H ⟨[.ref a],[]⟩ [.ref a] [.ref a] _ _ Z B (a3 O (.ref a)) (.cons rfl .nil) (b1 H hO hS)) λr s' h=>?_;cases r with
  |error e=>exact(a9 H e s' h).elim
  |ok fl=>
   cases fl with
   |next=>exact W6 h
   |brk=>exact W6 h
   |cont=>exact W6 h
   |ret u=>
    obtain⟨v,H',os,bare,un,a4,r',q⟩:=h;have q':v= .bl true:=q;subst q';obtain rfl:u=aaT true:=r';refine⟨rfl,OldK.of_keep λb o e=>?_,os,bare⟩;cases q:H b with
    |none=>exact un.keep b o e q (by intro z;exact absurd (show b∈([]:List Addr)from z) (by simp)) (by simp)
    |some u=>
     rcases hO b with z|⟨ob,xs,z⟩
     .rw[q]at z;cases z
     .have z2:=un.frzs b ob _ z
      obtain⟨e1,_⟩:=hok b _ z;obtain⟨e2,_⟩:=a4 b _ z2;rw[e]at e1;cases e1;exact e2
 cases I:K.lookup a with
 |some o=>
  have e:=KX a o I;rw[Y]at e;cases e;refine a2 (λ_=>none) (λ_=>.inl rfl) (.inr ⟨_,vs.toArray,_,I,rfl,rfl,rfl,by rw[List.size_toArray,a7];exact hl,by simpa using rv⟩) (λb u z=>by have z':(none:Option HO)=some u:=z;cases z') (λb z=>absurd rfl z) λz=>absurd rfl z
 |none=>
  refine a2 (λb=>if b=a then some (.frz {cls:=.type "list",data:=.seq vs.toArray} (.lst (ns.map V.int)))else none) (λb=>?_) (.inl (.inr ⟨{cls:=.type "list",data:=.seq vs.toArray},Tz rfl⟩)) (λb u z=>?_) (λb z=>?_) λ_=>I
  .by_cases U:b=a
   .exact .inr ⟨_,_,Tz U⟩
   .exact .inl (TQ U)
  .by_cases U:b=a
   .have z':=(Tz U).symm.trans z
    cases z';subst U;exact⟨Y,by rw[Tv];exact hl,vs,_,rv,Y⟩
   .have z':=(TQ U).symm.trans z
    cases z'
  .by_cases U:b=a
   .exact U
   .exact absurd (TQ U) z
theorem walk_of{l:aan}{k:Nat}{q:Uj}{a1:List Str}{d:DefRec}{K:Params->Tn}{CX:World->CXT}{sp:World->Sp}
  (hn:l.most=some n) (a4:n<=Te) (a7:d.params.defaults=[]) (Z:ie k Z3)
  (hY:∀(w:World)(h:Heap),YP w h->(K w.params).In h)
  (F:∀(w:World)(mg:Str->Option Value)(fa:Addr)(h:Heap),(K w.params).In h->h.Ns Uc mg->mg d.name=some (.ref fa)->
   ∃fd:U_,(∀(s:S6)(u:Value),aaF s fd ⟨[u],[]⟩ [(x,u)])/\
    ∀base:Heap,(K w.params).In base->base.Ns Uc mg->eX l.prog w (K w.params) mg base (CX w) k fa fd [x] (sp w))
  (z:∀(w:World)(H:Hp)(a:Addr)(ns:List Int),ns.length<=n->Only H->SqL (K w.params) H a (ns.map V.int)->sp w [.ref a] H (λv _=>v= .bl true) λ_ _ _=>False)
  (a5:∀(w:World)(H:Hp)(s:S6)(e:Value)(s':S6),CX w [] H s (λ_ _ _=>False) e s'->False) :
  acn q a1 XP YP l.row.toRowW d [] (λf vs=>ab9 f vs):=by
 refine Att.attach_call hn a7 λw s₀ O mg mb fa o pm cd I a vs ns G Y B hd a8 a6 a3 a2 a0 hg=>?_;have KX:=hY w _ Y;obtain⟨fd,U,N⟩:=F w mg fa _ KX G.T.g a6;exact Gy KX G.T.g G.T.b G.T.builtins G.T.nolimit hg a3 a2 (V4 a0 a4) Z N U (λH hO hS=>z w H a ns a0 hO hS) λH e s'=>a5 w H O e s'
def bW(s:Stmt):Arguments:=match s with
 |.FunctionDef _ a _ _ _ _ _ _ _ _=>a
 |_=>{posonlyargs:=[],args:=[],vararg:=none,kwonlyargs:=[],kw_defaults:=[],kwarg:=none,defaults:=[]}
def bF(s:Stmt):List Stmt:=match s with
 |.FunctionDef _ _ b _ _ _ _ _ _ _=>b
 |_=>[]
def aK(s:Stmt):Scope:=match s with
 |.FunctionDef _ _ _ _ _ _ z _ _ _=>z
 |_=>{kind:=.function,names:=[],isGenerator:=false,isCoroutine:=false}
abbrev CX0:CXT:=λ_ _ _ _ _ _=>False
abbrev E0:XK:=λ_ _ _=>False
variable{X:Cx}
theorem QD:zN CX0 X E0:=λ_ _ _ _ _ _ _ h=>h.elim
structure Fun(K:PySem.W.Frag)(x qual:Str)(st:Stmt)(f:Addr)(fd:FuncData):Prop where
 ex:∃(oc:Value)(od:Option Addr)(kV doc pm:Value)(an:Option Addr)(cdv ct:Value)(osl:Array (Option Value)),
  fd=Yd x qual (bW st) (bF st) (aK st) .none kV doc pm an cdv ct/\K.lookup f=some ⟨oc,od,.func fd,osl⟩/\aaG K cdv qual=true
 kp:Zj K (.ref f)=true
section
variable{P:Program}{w:World}{K:PySem.W.Frag}{mg:Str->Option Value}{base:Heap}
theorem Fun.ok{x O:Str}{st:Stmt}{f:Addr}{fd:U_}{N ps:List Str}{k:Nat}{sp:Sp}(F:Fun K x O st f fd)(S:bV N ps (aK st))(len:∀vs H Q E,sp vs H Q E->vs.length=ps.length)
  (a1:∀(a0:Value)(A:U4)(outer:List Env)(s:S6)(H:Hp)(vs:List V)(Q:VK)(E:XK),ie k (A.deeper (Yz O (aK st) s.heap.objs.size f a0))->sp vs H Q E->
   ∃t,PSs (yp CX0 P w K mg base N O (aK st) f a0 A outer s H E).nox (bF st) t/\t {nx:=λ_ H'=>Q .non H',rt:=Q} (start N vs) H):eX P w K mg base CX0 (k+1) f fd ps sp:=by
 obtain⟨U,Y,kV,I,B,an,a0,ct,a3,rfl,lk,a2⟩:=F.ex;refine Rn lk a2 S len λA outer s H vs Q E Z z=>?_;obtain⟨t,h,q⟩:=a1 a0 A outer s H vs Q E Z z;exact⟨t,h.nox,q⟩
theorem Fun.binds{x O:Str}{st:Stmt}{f:Addr}{fd:U_}{ps:List Str}(F:Fun K x O st f fd)
  (h:∀(kV I B:Value)(an:Option Addr)(V ct:Value)(us:List Value),us.length=ps.length->bindArgs (Yd x O (bW st) (bF st) (aK st) .none kV I B an V ct) ⟨us,[]⟩=pure (ps.zip us)):Binds K fd ps []:=by
 obtain⟨U,Y,kV,I,B,an,V,ct,q,rfl,z,N⟩:=F.ex;exact .all (h kV I B an V ct)
theorem eO{x O:Str}{st:Stmt}{f:Addr}{U:Value}{Y an:Option Addr}{q:Array (Option Value)}{kV I B V ct:Value}(l:K.lookup f=some ⟨U,Y,.func (Yd x O (bW st) (bF st) (aK st) .none kV I B an V ct),q⟩)
 (c:aaG K V O=true) (k:Zj K (.ref f)=true):Fun K x O st f (Yd x O (bW st) (bF st) (aK st) .none kV I B an V ct):=⟨⟨U,Y,kV,I,B,an,V,ct,q,rfl,l,c⟩,k⟩
end
theorem pv(i:Nat)(z:X.N[i]? =some x:=by rfl)(B:Vis X.env.scope x:=by first|exact Vr rfl|exact U8 (Vr rfl)|exact U8 (U8 rfl))(hd:(x==("__debug__":Str))=false:=by decide)
 (V:(x==("__classdict__":Str))=false:=by decide):PE X (.Name x pos) (xj i):=wg z B hd V
theorem vR{A B:Prop}(h:B):if false=true then A else B:=by
 rw[TQ Uk];exact h
theorem qy{A B:Prop}(h:A):if true=true then A else B:=by
 rw[Tz rfl];exact h
def Same(H H':Hp):Prop:=∀b o,H b=some o->H' b=some o
theorem Same.refl(H:Hp):Same H H:=λ_ _ h=>h
theorem Same.trans{H H1 H2:Hp}(a:Same H H1)(b:Same H1 H2):Same H H2:=λc o h=>b c o (a c o h)
theorem Same.free{H H':Hp}(e:Same H H')(h:H' l=Option.none):H l=Option.none:=by
 cases q:H l with
 |none=>rfl
 |some o=>
  rw[e l o q]at h;cases h
theorem DK:fO X (.builtin "len") (λxs H Q=>∃a kvs,xs=[V.ref a]/\H a=some (.dK kvs)/\Q (.int kvs.length) H):=by
 intro pins s σ H xs us Q I r h;obtain⟨a,kvs,rfl,Y,q⟩:=h;obtain⟨u,rfl,O⟩:=vals1 r;cases O;exact Qy I (.inl Y) λt s' N=>⟨.int kvs.length,H,N,⟨t,rfl⟩,q⟩
end L2
set_option maxHeartbeats 4000000
namespace Jb
open PySem PySem.Spec PyProof.Rows L2
structure Cal(P:Program)(w:World)(K:PySem.W.Frag)(mg:Str->Option Value)(base:Heap)(k:Nat)(x:Str)(ps:List Str)(sp:Sp):Prop where
 ex:∃f fd,eX P w K mg base CX0 k f fd ps sp/\mg x=some (.ref f)/\Zj K (.ref f)=true/\Binds K fd ps []
variable{X:Cx}{t:TA}{p:Pos}{k:Nat}
theorem Gq{sp:Sp}(C:Cal X.prog X.w X.K X.mg X.base k x ps sp)(Z:ie k X.A)(q:Gl X x)(Y:PA X (e::es) t)
  (O:(x==("__debug__":Str))=false:=by decide) (V:Tj (e::es) X.env=(false,eval e X.env)::Tj es X.env:=by rfl) (z:(Vf pos (Tj es X.env)).any (·.1)=false:=by rfl) :
  PE X (.Call (.Name x p) (e::es) [] pos) (LR sp [] E0 t):=by
 obtain⟨f,fd,F,N,I,U⟩:=C.ex;exact Lk F Z q N I U .nil QD Y O V z
theorem QM{n:String}(q:Gl X x)(N:X.mg x=none)(B:V3 x=some (.type n))(hn:x≠"__name__":=by decide)(hd:(x==("__debug__":Str))=false:=by decide):PE X (.Name x pos) (tC (.ty n)):=
 Ls q N B rfl hn hd
def Rx(_ j:Int):Prop:=0<j/\j<18446744073709551616
theorem Fp:OpR X (Vp .FloorDiv) (rI Rx λi j=>.int (i / j)):=opI λi j _ _ _ _ _ O q=>by
 have h1:(0:Int)<j:=O.1;have h2:j<18446744073709551616:=O.2;have z:j.natAbs<2 ^ 64:=by omega
 have F:j.natAbs≠0:=by omega
 have U:j.natAbs.log2<64:=(Nat.log2_lt F).mpr z;exact floordiv_int (by omega) (by rw[ZG i (by omega)];exact q) (.inl (PyProof.noPylong_of_log2 (by omega)))
variable{b:Expr}
theorem xJ:fO X (.builtin "isinstance") (λxs H Q=>∃x n t b,xs=[x,.ty n]/\j0 X.K H x t/\Zi X.K t (.type n)=some b/\Q (.bl b) H):=by
 intro pins s σ H xs us Q I r h;obtain⟨x,n,t,b,rfl,U,e,q⟩:=h;obtain⟨u,Y,rfl,z,N⟩:=vals2 r;cases N;exact DN I z U e λtk=>⟨.bl b,H,I.tok tk,rfl,q⟩
variable{H:Hp}
theorem Same.new{q:Addr}{o:HO}(h:H q=none):Same H (L2.upd H q o):=λb u e=>by rw[aH (bx e h)];exact e
theorem zZ{l:List α}{f:α->β->Sem (ForInStep β)}(g:β->α->β):∀(q:β),(∀x∈l,∀c,f x c=pure (.yield (g c x)))->forIn l q f=pure (l.foldl g q):=by
 induction l with
 |nil=>intro q _;rfl
 |cons x r Z=>
  intro q h;rw[List.forIn_cons,h x Ur q];show(pure (W2 (g q x)) >>=_)=_;rw[pure_bind];exact Z (g q x) λy V c=>h y (T7 _ V) c
def lQ(env:Env)(z:List (Str×Addr))(y:Str×YS):List (Str×Addr):=if y.2== .free then(y.1,(env.cells.lookup y.1).getD 0)::z else z
def my(scope:Scope)(env:Env):List (Str×Addr):=scope.names.foldl (lQ env) []
theorem lV(h:∀y∈scope.names,y.2= .free->∃c,env.cells.lookup y.1=some c):closureFor scope env=pure (my scope env):=by
 unfold closureFor;dsimp only;rw[zZ (lQ env) [] λy V c=>?_]
 .rw[pure_bind]
  rfl
 .obtain⟨n,k⟩:=y
  unfold lQ;dsimp only;by_cases I:(k==aa7)=true
  .rw[Tz I,Tz I]
   obtain⟨a,Y⟩:=h (n,k) V (by simpa using I);have Y:env.cells.lookup n=some a:=Y;unfold cellOf;rw[Y];rfl
  .rw[TQ I,TQ I]
theorem uz(R:Str->Addr->Prop):∀(l:List (Str×YS))(acc:List (Str×Addr)),(∀x c,acc.lookup x=some c->R x c)->(∀y∈l,y.2= .free->R y.1 ((env.cells.lookup y.1).getD 0))->
  ∀x c,(l.foldl (lQ env) acc).lookup x=some c->R x c
 |[],acc,h,_=>h
 |y::r,acc,h,hy=>by
  refine uz R r (lQ env acc y) (λx c e=>?_) λz hz=>hy z (T7 _ hz);unfold lQ at e;split at e
  .rename_i hk
   rw[Z8]at e;cases F:(x==y.1)with
   |true=>
    rw[F]at e;have ex:x=y.1:=by simpa using F
    cases e;rw[ex];exact hy y Ur (by simpa using hk)
   |false=>
    rw[F]at e;exact h x c e
  .exact h x c e
theorem pQ{env:Env}:∀(l:List (Str×YS))(acc:List (Str×Addr))(x:Str),((∃c,acc.lookup x=some c)∨(x,aa7)∈l)->∃c,(l.foldl (lQ env) acc).lookup x=some c
 |[],acc,x,h=>by
  rcases h with h|h
  .exact h
  .cases h
 |y::r,acc,x,h=>by
  refine pQ r (lQ env acc y) x ?_;rcases h with⟨c,h⟩|h
  .left
   unfold lQ;split
   .rw[Z8]
    cases F:(x==y.1)with
    |true=>exact⟨_,rfl⟩
    |false=>exact⟨c,h⟩
   .exact⟨c,h⟩
  .rcases Tf.mp h with e|e
   .left
    unfold lQ;subst e;rw[Tz (by rfl),Z8,show(x==x)=true by simp];exact⟨_,rfl⟩
   .exact .inr e
def bh(X:Cx)(N':List Str)(scope:Scope)(C:Addr)(B:S6)(q:Hp)(fp:List Addr):Cx:=
 {X with N:=N',s₀:=B,H₀:=q,env:=compEnvC scope (my scope X.env) C X.env,outer:=X.stack,stack:=X.stack,ex:=fp,fn:=λ_=>false,pn:=[],xe:=λ_ _=>False}
def dM(cap:List (Option Nat))(σ:L2.St):L2.St:=cap.map λo=>o.bind λj=>(σ[j]?).bind id
structure fU(sc:Scope)(N N':List Str)(scope:Scope)(cap:List (Option Nat)):Prop where
 kind:scope.kind= .function
 nocell:∀y∈scope.names,y.2≠.cell
 nm:∀y∈scope.names,y.2= .local->scope.names.lookup y.1=some .local
 free:∀y∈scope.names,y.2= .free->sc.names.lookup y.1=some .cell∨sc.names.lookup y.1=some .free
 len:cap.length=N'.length
 cap:∀i∈Ue cap.length,∀j∈Ue N.length,cap[i]? =some (some j)->N[j]? =N'[i]?/\∀x∈N'[i]?,scope.names.lookup x=some .free
theorem kY{l:List (Str×α)}{k:α}(h:l.lookup x=some k):(x,k)∈l:=WM h
theorem nJ{k:YS}(I:(relabel scope env).names.lookup x=some k)(U:k= .cell∨k= .free)(B:∀y∈scope.names,y.2≠.cell):(x,aa7)∈scope.names:=by
 have h:=kY I;obtain⟨⟨n,q⟩,N,e⟩:=Tp.mp h;dsimp only at e;split at e
 .rename_i hc
  cases e;have:q= .free:=by
   have:=(aaW.mp (aaW.mp hc).1).1;simpa using this
  subst this;exact N
 .cases e
  rcases U with z|z
  .subst z;exact absurd rfl (B _ N)
  .subst z;exact N
variable{σ:L2.St}{cap:List (Option Nat)}
theorem gK(I:Inv X pins σ H s)(O:fU X.env.scope X.N N' scope cap){c:Addr}(h:(my scope X.env).lookup x=some c):X.env.cells.lookup x=some c:=by
 refine uz (λx c=>X.env.cells.lookup x=some c) scope.names [] (λx c e=>by simp at e) (λy V q=>?_) x c h;obtain⟨c,e⟩:=I.ok.has y.1 (O.free y V q);rw[e];rfl
variable{C:Addr}
theorem JZ(I:Inv X pins σ H s)(O:fU X.env.scope X.N N' scope cap)(Z:∀b∈fp,jl X pins H b)(F:∀b∈fp,b<s.heap.objs.size)(B:s.heap.objs.size<=C):(bh X N' scope C s H fp).Ok where
 mod:=I.ok.mod
 kind:=O.kind
 glob:=I.ok.glob
 blt:=I.ok.blt
 above:=B
 inj:=λx y c h1 h2=>I.ok.inj x y c (gK I O h1) (gK I O h2)
 has:=λx h=>by
  refine pQ scope.names [] x (.inr ?_);rcases h with h|h
  .exact nJ h (.inl rfl) O.nocell
  .exact nJ h (.inr rfl) O.nocell
 cab:=λx c h _=>by cases h
 hd:=I.ok.hd
 frames:=I.ok.frames
 stk:=.inl rfl
 exf:=λb U=>⟨T4 (T6 (F b U) B),λx c e=>(Z b U).2.2.2.2.1 x c (gK I O e)⟩
 bs:=I.bs
 bsz:=V4 I.ok.bsz I.sz
 noex:=λb o e U=>by
  rcases(Z b U).2.2.2.1 with z|z
  .exact I.ok.noex b o e z
  .exact absurd (T6 (TJ (I.ok.bs b o e).1) z) (Vq _)
 exfs:=λb U z=>by
  rcases Tf.mp (I.stkSub b z)with q|q
  .exact(Z b U).2.1 q
  .exact(Z b U).2.2.1 q
 funs:=I.stack
 frf:=I.stkFree
theorem xX{F:Heap}{D:Addr}(I:Inv X pins σ H s)(O:fU X.env.scope X.N N' scope cap)(Z:∀b∈fp,jl X pins H b)(a8:∀b∈fp,b<s.heap.objs.size)
  (hC:s.heap.objs.size<=C) (hD:s.heap.objs.size<=D) (b0:D≠C) (old:∀b u,s.heap.get? b=some u->F.get? b=some u) {m:Str->Option Value} (a9:F.Ns C m) (a7:F.get? D=some o) (b2:∀v,o.data≠.cell v) :
  Inv (bh X N' scope C s H fp) [(D,o)] (dM cap σ) H {s with heap:=F,toks:=tk}where
 ok:=JZ I O Z a8 hC
 os:=rfl
 bare:=I.bare
 base:=Un.kept old
 loc:=by
  refine⟨m,a9,λi x v e1 e2 e3=>?_⟩;have e1:N'[i]? =some x:=e1;unfold dM at e2;rw[List.getElem?_map]at e2;cases hc:cap[i]? with
  |none=>rw[hc]at e2;cases e2
  |some q=>
   rw[hc]at e2;cases q with
   |none=>cases e2
   |some j=>
    have e2:(σ[j]?).bind id=some v:=UG e2;have a3:σ[j]? =some (some v):=by
     cases z:σ[j]? with
     |none=>rw[z]at e2;cases e2
     |some y=>
      rw[z]at e2;have:y=some v:=e2;rw[this]
    have hi:i<cap.length:=(List.getElem?_eq_some_iff.mp hc).1;have V:j<X.N.length:=by
     have:=(List.getElem?_eq_some_iff.mp a3).1;rw[I.len]at this;exact this
    obtain⟨c1,B⟩:=O.cap i (VD.mpr hi) j (VD.mpr V) hc;have a4:scope.names.lookup x=some .free:=B x (by rw[e1];rfl);have hN:X.N[j]? =some x:=c1.trans e1;have a0:=kY a4;have a2:Vis X.env.scope x:=(O.free _ a0 rfl).elim (λz=>.inr (.inl z)) λz=>.inr (.inr z);obtain⟨m0,_,Y⟩:=I.loc;obtain⟨u,r,lk⟩:=Y j x v hN a3 a2;refine⟨u,r,?_⟩;rcases lk with⟨k,_⟩|⟨_,c,ec,a1⟩
    .have k:X.env.scope.names.lookup x=some .local:=k
     rcases O.free _ a0 rfl with z|z
     .rw[k]at z;cases z
     .rw[k]at z;cases z
    .right
     obtain⟨c',a5⟩:=pQ (env:=X.env) scope.names [] x (.inr a0);have a6:=gK I O a5;rw[ec]at a6;cases a6;refine⟨?_,c,a5,?_⟩
     .have e3:Vis (relabel scope X.env) x:=e3
      rcases e3 with e3|e3|e3
      .exfalso
       have hm:=kY e3;obtain⟨⟨n,q⟩,b1,e⟩:=Tp.mp hm;dsimp only at e;split at e
       .cases e
       .cases e
        have:=O.nm _ b1 rfl;rw[a4]at this;cases this
      .exact .inl e3
      .exact .inr e3
     .obtain⟨oc,h1,h2⟩:=a1
      exact⟨oc,old _ _ h1,h2⟩
 cell:=λx c e=>by
  obtain⟨v,oc,h1,h2⟩:=I.cell x c (gK I O e);exact⟨v,oc,old _ _ h1,h2⟩
 free:=I.hok.fresh hC
 freeC:=λx c e=>I.freeC x c (gK I O e)
 pin:=λp hp=>by
  have e:p=(D,o):=by simpa[bh]using hp
  subst e;refine⟨a7,I.hok.fresh hD,b0,λz=>?_,b2⟩;obtain⟨b,U,e⟩:=Zx.mp z;have hz:D∈X.env.locals::X.fs:=I.stkSub D z;rcases Tf.mp hz with q|q
  .exact absurd (T6 (by rw[q];exact I.lt) hD) (Vq _)
  .exact I.nofs hD q
 hok:=I.hok.kept old
 len:=by
  unfold dM;rw[Tv];exact O.len
abbrev NoX:Value->S6->Prop:=λ_ _=>False
variable{R:Result->Shared->Prop}
theorem vp{iter:Expr}{it acc:Value}(I:Nat->S6->Prop)
  (z:∀n s,I n s->wpAny (model prog w) A (Yb it) (λr O=>match r with
   |none=>R (.ok .next) O
   |some v=>wpAny (model prog w) A (X5 target it v) (λ_ V=>wpAny (model prog w) A (Yx target env v) (λ_ B=>
    wpAny (model prog w) A (forIn ifs true λc r=>if r=true then do let ok ←aaB c env (eval c env);pure (W2 ok)else pure (W2 r)) (λok q=>
     if ok=true then wpAny (model prog w) A (eval elt env) (λx U=>wpAny (model prog w) A (call (.builtin "list.append") [acc,x]) (λ_ Z=>∃m,m<n/\I m Z) NoX U) NoX q
     else ∃m,m<n/\I m q) NoX B) NoX V) NoX O) NoX s)
  (n:Nat) (h:I n s):Wu (model prog w) A (.compLoop (.ListComp elt [⟨target,iter,ifs,0⟩] scope pos) 0 it acc env) R s:=by
 refine codeAny_loop rfl I (λn s N=>?_) n h;show wpAny _ A ((compTurn (.ListComp elt [⟨target,iter,ifs,0⟩] scope pos) 0 it acc env).onRaise (λx=>do noteFrame x env;theTreesLotGoes x)) _ _ s;refine wpAny_noted ?_;rw[compTurn_list];refine gD (Xi (gD (Vn (z n s N) (λr O F=>?_) λ_ _ h'=>h'.elim)));cases r with
 |none=>exact S7 F
 |some v=>
  refine gD (Vn F (λ_ V a0=>?_) λ_ _ h'=>h'.elim);refine gD (Vn a0 (λ_ B a3=>gD (Vn a3 (λok q Y=>?_) λ_ _ h'=>h'.elim)) λ_ _ h'=>h'.elim);cases ok with
  |false=>exact S7 ⟨rfl,Y⟩
  |true=>
   exact gD (gD (Vn Y (λx U a2=>gD (Vn a2 (λ_ Z a1=>S7 (S7 ⟨rfl,a1⟩)) λ_ _ h'=>h'.elim)) λ_ _ h'=>h'.elim))
def PTs(X:Cx)(ifs:List Expr)(t:TT):Prop:=
 ∀(pins:List (Addr×Obj))(s:S6)(σ:L2.St)(H:Hp)(Q:Bool->Hp->Prop),Inv X pins σ H s->t σ H Q->
  wpAny (model X.prog X.w) X.A (forIn ifs true λc r=>if r=true then do let ok ←aaB c X.env (eval c X.env);pure (W2 ok)else pure (W2 r)) (TP X pins σ Q) X.xe s
def RZ:TT:=λ_ H Q=>Q true H
theorem JQ:PTs X [] RZ:=λ_ _ _ H _ I h=>wpAny_tests_nil ⟨H,I,h⟩
def Kp(σ q:L2.St):Prop:=∀(i:Nat) v,σ[i]? =some (some v)->q[i]? =some (some v)
def Mm(J:It)(H:Hp)(g:TG)(tt:TT)(te:TE)(σ:L2.St)(Q:List V->Hp->Prop):Prop:=
 ∃W:Nat->Nat->List V->Hp->Prop,(∃m,W 0 m [] H)/\∀i m ys H,W i m ys H->
  (J.stop i H/\Q ys H)∨(J.go i H/\ys.length<Te/\∃N:List V->Hp->Prop,(∀B H',N B H'->∃m',m'<m/\W (i+1) m' B H')/\
   ∀x H',J.yld i H x H'->g x σ H' λσ2 H2=>Kp σ σ2/\tt σ2 H2 λb Y=>if b=true then te σ2 Y λv I=>N (ys++[v]) I else N ys Y)
def Hk(cap:List (Option Nat))(wi:TI)(g:TG)(tt:TT)(te:TE):TE:=λσ H Q=>wi σ H λJ H1=>
 Mm J H1 g tt te (dM cap σ) λys H2=>ys.length<=Te/\∀D,H2 D=none->Q (.ref D) (upd H2 D (.lst ys))
section
variable{X:Cx}{elt target iter:Expr}{ifs:List Expr}{scope:Scope}{pos:Pos}{N':List Str}{cap:List (Option Nat)}{wi:TI}{g:TG}{tt:TT}{te:TE}
def lobj(its:List Value)(n:Nat):Obj:={cls:=.type "list",data:=.seq its.toArray n}
theorem zO{pins:List (Addr×Obj)}{σ:L2.St}{H:Hp}{B:S6}{it:Addr}{fp:List Addr}{tn:Nat->Heap->Prop}{J:It}{Q:List V->Hp->Prop}{RR:Value->Addr->aaE->S6->Prop}{E:Value->S6->Prop}
  (hc:X.calm=true) (O:fU X.env.scope X.N N' scope cap) (I:Inv X pins σ H B) (T:Turn X.prog X.w X.K target J fp it tn) (st:tn 0 B.heap) (f2:∀b∈fp,jl X pins H b)
  (hg:∀C,PG (bh X N' scope C B H fp) target g) (ht:∀C,PTs (bh X N' scope C B H fp) ifs tt) (he:∀C,PE (bh X N' scope C B H fp) elt te) (cw:Mm J H g tt te (dM cap σ) Q)
  (c5:∀(D C:Addr)(s':S6)(H':Hp)(ys:List V)(its:List Value)(n:Nat)(a9:L2.St),B.heap.objs.size<=D->B.heap.objs.size<=C->D≠C->Inv (bh X N' scope C B H fp) [(D,lobj its n)] a9 H' s'->Vals ys its->Q ys H'->
   RR (.ref D) C (.ok .next) s') :
  wpAny (model X.prog X.w) X.A (Zm []) (λacc b5=>wpAny (model X.prog X.w) X.A (newFunctionEnv scope X.env.globals (my scope X.env) [] X.env.qual none .none (some X.env)) (λb1 b4=>
   Wu (model X.prog X.w) X.A (.compStart (.ListComp elt [⟨target,iter,ifs,0⟩] scope pos) 0 (.ref it) acc {b1 with scope:=relabel scope X.env}) (RR acc b1.locals) b4) E b5) E B:=by
 refine Uu (aaX O.nocell (by intro y hy;simp at hy) (λa2 a1 a0=>?_) O.kind);dsimp only at a1 a0⊢;generalize b3:B.heap.push {cls:=.type "list",dict:=none,data:=.seq ([]:List Value).toArray}=H2 at a1 a0⊢;have hC:H2.objs.size=B.heap.objs.size+1:=by rw[←b3,VF]
 have a8:B.heap.objs.size≠H2.objs.size:=by rw[hC];exact T4 (Xb _)
 have a3:B.heap.objs.size<=H2.objs.size:=by rw[hC];exact Zr _
 have old:∀b o,B.heap.get? b=some o->a2.get? b=some o:=λb o e=>a0.extBut b o (by rw[hC];exact T4 (Wv (TJ e))) (S_ _ (b3▸S_ _ e));have b8:a2.get? B.heap.objs.size=some (lobj [] 0):=a0.extBut _ _ a8 (S_ _ (b3▸TV _ rfl));have b0:∀b∈fp,b<B.heap.objs.size:=λb U=>by
  obtain⟨o,e,_⟩:=T.obj 0 _ st b U;exact TJ e
 have I1:=xX (tk:=B.toks+([]:List (Str×Value)).length) I O f2 b0 a3 (Tg _) a8 old a1 b8 (λv z=>by cases z);have c0:tn 0 a2:=T.keep _ _ _ st λb _ o e=>old b o e;obtain⟨W,⟨m0,w0⟩,c1⟩:=cw;generalize hD:B.heap.objs.size=D at *
 generalize c7:H2.objs.size=C at *
 have a6:∀{H':Hp}{o:Obj},(∀b∈fp,H' b=none)->∀b∈fp,jl (bh X N' scope C B H fp) [(D,o)] H' b:=λ{H' o} hn b U=>by
  refine⟨hn b U,T4 (T6 (b0 b U) a3),I1.ok.exfs b U,.inl U,(I1.ok.exf b U).2,λp hp=>?_⟩;have e:p=(D,o):=by simpa[bh]using hp
  subst e;exact W_ (b0 b U)
 have b2:Wu (model X.prog X.w) X.A (.compLoop (.ListComp elt [⟨target,iter,ifs,0⟩] scope pos) 0 (.ref it) (.ref D) (compEnvC scope (my scope X.env) C X.env)) (RR (.ref D) C) {B with heap:=a2,toks:=B.toks+([]:List (Str×Value)).length}:=by
  refine vp (λn s'=>∃i ys its k H',Inv (bh X N' scope C B H fp) [(D,lobj its k)] (dM cap σ) H' s'/\Vals ys its/\tn i s'.heap/\(∀b∈fp,H' b=none)/\W i n ys H') ?_ m0 ⟨0,[],[],0,H,I1,.nil,c0,λb U=>(f2 b U).1,w0⟩;rintro n s3 ⟨i,ys,its,k,Y,I3,rv,b6,c2,w3⟩;rcases c1 i n ys Y w3 with⟨stop,qn⟩|⟨go,hsz,N,hN,step⟩
  .refine thn (T.done (bh X N' scope C B H fp) rfl rfl rfl hc i _ s3 _ Y NoX I3 (a6 c2) b6 stop) λr s4 ⟨Z,I4⟩=>?_
   subst Z;exact c5 D C s4 Y ys its k _ (Tg _) a3 a8 I4 rv qn
  .refine thn (T.item (bh X N' scope C B H fp) rfl rfl rfl hc i _ s3 _ Y NoX I3 (a6 c2) b6 go) λr s4 ⟨u,Z,h4⟩=>?_
   subst Z;refine thn h4 λ_ s5 ⟨x,H5,I5,r5,y5,a5,c3⟩=>?_;have c4:=I5.pinned (a6 c3) (T.obj _ _ a5);refine thn (hg C _ s5 _ H5 x u _ c4 r5 (step x H5 y5)) λ_ s6 ⟨a7,H6,I6,b9,q6⟩=>?_;refine thn (ht C _ s6 a7 H6 _ I6 q6) λok s7 ⟨H7,I7,q7⟩=>?_;have a4:∀{s':S6}{H':Hp}{a9:L2.St},Inv (bh X N' scope C B H fp) ([(D,lobj its k)]++jk fp s5.heap) a9 H' s'->tn (i+1) s'.heap/\∀b∈fp,H' b=none:=λ{s' H' a9} Ix=>by
    refine⟨T.keep _ _ _ a5 λb U o e=>(Ix.pin (b,o) (Tc _ (Tc _ (cN U e)))).1,λb U=>?_⟩;obtain⟨o,e,d⟩:=T.obj _ _ a5 b U;exact(Ix.pin (b,o) (Tc _ (Tc _ (cN U e)))).2.1
   have b7:(dM cap σ).length=a7.length:=by rw[I6.len,I1.len]
   cases ok with
   |false=>
    have n7:N ys H7:=by simpa using q7
    obtain⟨m',hm,w7⟩:=hN _ _ n7;exact⟨m',hm,i+1,ys,its,k,H7,I7.unpinned.weak b7 b9,rv,(a4 I7).1,(a4 I7).2,w7⟩
   |true=>
    have q7:te a7 H7 λv H4=>N (ys++[v]) H4:=by simpa using q7
    refine thn (he C _ s7 a7 H7 _ I7 q7) λu8 s8 ⟨v,H8,I8,r8,n8⟩=>?_;obtain⟨eD,nD,_,c6,_⟩:=I8.pin (D,lobj its k) (Tc _ (Th _ Ur));have lv:=rv.length;refine Ym abr ⟨_,eD,rfl⟩ abd (aaV _ _) (abH D its.toArray k u8 (by rw[List.size_toArray];omega)) ⟨eD,?_⟩;obtain⟨m',hm,w8⟩:=hN _ _ n8;obtain⟨k',eN⟩:∃k',(s8.heap.update D (Wm (·.push u8))).get? D=some (lobj (its++[u8]) k'):=by
     have q:=abY eD (·.push u8);dsimp only at q;rw[List.push_toArray]at q;exact⟨_,q⟩
    have I9:Inv (bh X N' scope C B H fp) (jk fp s5.heap) a7 H8 {s8 with heap:=s8.heap.update D (Wm (·.push u8))}:=by
     refine Inv.turned (it:=D) (t':=s8.toks) (I8.pins_of λp hp=>I8.pin p (Tc _ (Tc _ hp))) (λb o U e=>(U9 s8.heap (Wm _) (U0 U)).trans e) nD a8 (.inr (by rw[←hD];exact Tg _)) (λx c e z=>?_) (λp hp z=>?_)
     .obtain⟨vc,oc,h1,_⟩:=I.cell x c (gK I O e)
      have hh:=TJ h1;rw[z,hD]at hh;exact Vq _ hh
     .have hp:p∈jk fp s5.heap:=hp
      have hh:=b0 p.1 (o4 hp).1;rw[z]at hh;exact Vq _ hh
    refine⟨m',hm,i+1,ys++[v],its++[u8],k',H8,(I9.weak b7 b9).pins_of (λp hp=>?_),rv.append (.cons r8 .nil),?_,λb U=>?_,w8⟩
    .have e:p=(D,lobj (its++[u8]) k'):=Ti.mp hp
     rw[e];exact⟨eN,nD,a8,c6,λv z=>by cases z⟩
    .exact T.keep _ _ _ a5 λb U o e=>(I9.pin (b,o) (Tc _ (cN U e))).1
    .obtain⟨o,e,d⟩:=T.obj _ _ a5 b U
     exact(I9.pin (b,o) (Tc _ (cN U e))).2.1
 exact codeAny_compStart_list b2 (T.self _ 0 _ _ _ c0 b2)
end
theorem MP{x:V}{t:Value}(I:Inv X pins σ H s)(rx:RelV x u)(U:j0 X.K H x t):∃B,PySem.W.KitX X.K u t B/\B s.heap/\u≠.builtin "__main__.__loader__#opaque":=by
 cases U with
 |non=>cases (show u=Uv from rx);exact⟨_,abD,Vc,λz=>nomatch z⟩
 |bl y=>cases (show u=aaT y from rx);exact⟨_,abE,Vc,λz=>nomatch z⟩
 |int i=>obtain⟨t,q⟩:=(show ∃t,u=Zu i t from rx);cases q;exact⟨_,abT,Vc,λz=>nomatch z⟩
 |str y=>obtain⟨t,q⟩:=(show ∃t,u=Y0 y t from rx);cases q;exact⟨_,abU,Vc,λz=>nomatch z⟩
 |flt y=>obtain⟨t,q⟩:=(show ∃t,u=abQ y t from rx);cases q;exact⟨_,abm,Vc,λz=>nomatch z⟩
 |@lst a xs F=>
  cases (show u=Um a from rx);obtain⟨_,_,n,_,h1⟩:=(show bB X.prog X.w H s.heap a (.lst xs)from I.hok a _ F);exact⟨_,Yq,⟨_,h1,rfl⟩,λz=>nomatch z⟩
 |@frz a ob xs F=>
  cases (show u=Um a from rx);obtain⟨_,_,_,n,_,h1⟩:=(show bB X.prog X.w H s.heap a (.frz ob (.lst xs))from I.hok a _ F);exact⟨_,Yq,⟨_,h1,rfl⟩,λz=>nomatch z⟩
 |@tup a xs F=>
  cases (show u=Um a from rx);obtain⟨_,_,_,p⟩:=(show bB X.prog X.w H s.heap a (.tup xs)from I.hok a _ F);obtain⟨o,h1,h2,_⟩:=p;exact⟨_,abn,⟨o,h1,h2⟩,λz=>nomatch z⟩
 |@dK a kvs F=>
  cases (show u=Um a from rx);obtain⟨_,_,vs,_,p⟩:=(show bB X.prog X.w H s.heap a (.dK kvs)from I.hok a _ F);obtain⟨o,es,ep,h1,h2,_⟩:=p;exact⟨_,Yr,⟨o,h1,h2.1⟩,λz=>nomatch z⟩
 |@dT a kvs F=>
  cases (show u=Um a from rx);obtain⟨_,_,xs,_,o,es,ep,h1,h2,_⟩:=(show bB X.prog X.w H s.heap a (.dT kvs)from I.hok a _ F);exact⟨_,Yr,⟨o,h1,h2.1⟩,λz=>nomatch z⟩
 |@ins a C dx fs F cl Y hn Z N=>
  cases (show u=Um a from rx);obtain⟨mA,O,_⟩:=Bo I.hok F;obtain⟨od,J,_⟩:=O.look;exact⟨_,abV (cl.get _) cl.hd Y hn Z N,J,λz=>nomatch z⟩
theorem CZ:∀{B:List String}{us:List Value},Vals (B.map V.ty) us->us=B.map V9
 |[],_,.nil=>rfl
 |t::r,_,.cons h q=>by cases (show _=V9 t from h);rw[CZ q];rfl
theorem v4:fO X (.builtin "isinstance") (λxs H Q=>∃x F B t b,xs=[x,.ref F]/\H F=some (.tup (List.map V.ty B))/\j0 X.K H x t/\Zn X.K t (B.map V9)=some b/\Q (.bl b) H):=by
 intro pins s σ H xs us Q I r h;obtain⟨x,F,B,t,b,rfl,a0,ty,e,q⟩:=h;obtain⟨u,Y,rfl,z,N⟩:=vals2 r;cases N;obtain⟨Hq,Z,hz,hn⟩:=MP I z ty;obtain⟨_,its,U,o,h1,h2,n,O,_⟩:=(show bB X.prog X.w H s.heap F (.tup (B.map V.ty))from I.hok F _ a0);rw[CZ U]at O;obtain⟨cls,dd,data,sl⟩:=o;cases h2;cases O;exact PySem.W.kia_tup Z I.kIn hz h1 e hn λtk=>⟨.bl b,H,I.tok tk,rfl,q⟩
theorem ut:∀(tk:Nat)(l:List Str),Vals (l.map V.str) (strsFrom tk l)
 |_,[]=>.nil
 |tk,x::r=>.cons ⟨_,rfl⟩ (ut (tk+1) r)
def NQ:V->List V->Hp->VK->Prop:=λx vs H Q=>∃(a b:Str)(l:List Str),x= .str a/\vs=[.str b]/\(decide (a.length<b.length)||decide (X4 a<X4 b))=false/\(b.length==0)=false/\
 (Vk a b 0 a.length (a.length+1)).isEmpty=false/\a.length<=Te/\Yj a (Vk a b 0 a.length (a.length+1)) b.length=l/\l.length<=Te/\
 ∀p,H p=none->Q (.ref p) (upd H p (.lst (l.map V.str)))
theorem HJ:MtR X "str.split" NQ:=by
 intro pins s σ H x vs v us Q I rx U h;obtain⟨a,b,l,rfl,rfl,V,B,z,O,rfl,N,q⟩:=h;obtain⟨t,rfl⟩:=rx;obtain⟨u,rfl,t',rfl⟩:=U.one;refine Ym F.slot_str_split (typeIs_str s a t) F.entry_str_split (F.args_str_split_2 _ _) (meets_str_split_sep a b t t' V B z O N) ?_;exact⟨.ref s.heap.objs.size,_,I.lnew (ut _ _) (by rw[Tv];exact N),rfl,q _ I.fresh⟩
inductive Dt where
 |non|bl (b:Bool)|int (i:Int)|str (x:Str)|lst (ds:List Dt)|tup (ds:List Dt)
mutual
noncomputable def eqD:Dt->Dt->Bool
 |.non,.non=>true
 |.bl a,.bl b=>a==b
 |.int a,.int b=>a==b
 |.bl a,.int b=>(if a then 1 else 0)==b
 |.int a,.bl b=>a==(if b then 1 else 0)
 |.str a,.str b=>a==b
 |.lst a,.lst b=>eqL a b
 |.tup a,.tup b=>eqL a b
 |_,_=>false
noncomputable def eqL:List Dt->List Dt->Bool
 |[],[]=>true
 |a::r,b::q=>eqD a b&&eqL r q
 |_,_=>false
end
mutual
noncomputable def Brs(K:Tn)(H:Hp):Dt->V->Prop
 |.non,v=>v= .non
 |.bl b,v=>v= .bl b
 |.int i,v=>v= .int i
 |.str x,v=>v= .str x
 |.lst ds,v=>∃a xs,v= .ref a/\SqL K H a xs/\g_ K H ds xs
 |.tup ds,v=>∃a xs,v= .ref a/\SqT K H a xs/\g_ K H ds xs
noncomputable def g_(K:Tn)(H:Hp):List Dt->List V->Prop
 |[],xs=>xs=[]
 |d::r,xs=>∃x ys,xs=x::ys/\Brs K H d x/\g_ K H r ys
end
theorem g_.length{K:Tn}:∀{ds:List Dt}{xs:List V},g_ K H ds xs->ds.length=xs.length
 |[],xs,h=>by
  have h:xs=[]:=by simpa[g_]using h
  rw[h];rfl
 |d::r,xs,h=>by
  obtain⟨x,ys,rfl,_,h⟩:=(by simpa[g_]using h:∃x ys,xs=x::ys/\Brs K H d x/\g_ K H r ys);simp[g_.length h]
theorem v8:∀{ds es:List Dt},ds.length≠es.length->eqL ds es=false
 |[],[],h=>absurd rfl h
 |[],_::_,_=>by simp[eqL]
 |_::_,[],_=>by simp[eqL]
 |d::r,e::q,h=>by
  have:r.length≠q.length:=by simpa using h
  simp[eqL,v8 this]
def eqJ(ds es:List Dt)(j:Nat):Bool:=eqD (ds.getD j .non) (es.getD j .non)
theorem vG:∀{ds es:List Dt},ds.length=es.length->(Ue ds.length).all (eqJ ds es)=eqL ds es
 |[],[],_=>by simp[eqL]
 |[],_::_,h=>by simp at h
 |_::_,[],h=>by simp at h
 |d::r,e::q,h=>by
  have h':r.length=q.length:=by simpa using h
  have Z:=vG h';rw[T_,aau,ZK,List.all_map,eqL];congr 1
theorem qw{sl:Addr}{vl Y vs:Value}{lo hi st:Option Int}{Q:Int×Int×Nat->S6->Prop}(hs:s.heap.IsSliceOf sl vl Y vs)(B:Xu vl lo)(O:Xu Y hi)(ps:Xu vs st)(Z:st.getD 1≠0)
  (h:Q ((Vd lo hi (st.getD 1) (n:Int)).1,st.getD 1,Ve (Vd lo hi (st.getD 1) (n:Int)).1 (Vd lo hi (st.getD 1) (n:Int)).2 (st.getD 1)) s) :
  wpAny (model prog w) A (W3 (.ref sl) (pure (n:Int))) Q E s:=by
 obtain⟨os,I,F,q⟩:=id hs;unfold W3;refine gD (gD (YC I q (x:=vl) rfl (gD (YC I q (x:=Y) rfl (gD (YC I q (x:=vs) rfl (S7 ?_)))))));refine gD (HT.slicePart_ ps ?_);have h1:(st.getD 1==0)=false:=by simpa using Z
 simp only[h1,Uo,VM,pure_bind];exact gD (HT.slicePart_ B (gD (HT.slicePart_ O (S7 h))))
def qb(xs:List α)(l st:Int)(k:Nat):List α:=(Ue k).filterMap λ(m:Nat)=>xs[(l+(m:Int)*st).toNat]?
theorem ph{t sl:Addr}{items:List Value}{vl Y vs:Value}{lo hi st:Option Int}(U:IsTup s.heap t items.toArray)(hs:s.heap.IsSliceOf sl vl Y vs)(B:Xu vl lo)(pu:Xu Y hi)(ps:Xu vs st)(Z:st.getD 1≠0)
  {l h':Int} (F:Vd lo hi (st.getD 1) (items.length:Int)=(l,h'))  (ek:Ve l h' (st.getD 1)=k)
  (N:(l=0/\st.getD 1=1/\k=items.length)->Q (.ref t) s)
  (hn:¬(l=0/\st.getD 1=1/\k=items.length)->Q (.ref s.heap.objs.size) {s with heap:=s.heap.push {cls:=.type "tuple",data:=.seq (qb items l (st.getD 1) k).toArray}})
  (hsz:(qb items l (st.getD 1) k).length<=Te):wpAny (model prog w) A (Zk (.ref t) (.ref sl)) Q E s:=by
 have z:sizeOk (.seq (qb items l (st.getD 1) k).toArray):=by
  show(qb items l (st.getD 1) k).toArray.size<=Te;rw[List.size_toArray];exact hsz
 obtain⟨os,I,a0,q⟩:=id hs;have V:s.TypeIs (.ref sl) "slice":=⟨os,I,a0⟩;unfold Zk
 try with_reducible refine Va ?_
 first|refine gD (S7 ?_)|skip
 refine gD (wpAny_sequenceKey U.typeIs (by decide) ?_);refine gD (Vj (name:=Yg "__getitem__") U.typeIs Vi
  (XJ Vi U.typeIs abb ?_ (args_tuple_getitem _ _)))
 show wpAny _ _ (ZJ (.ref t) >>=_) _ _ s;refine gD (tupleItemsOf_ U ?_);refine gD (Xa V ?_);rw[Tz (by decide)];rw[List.size_toArray];refine gD (qw hs B pu ps Z ?_);rw[F,ek];dsimp only;by_cases O:(l=0/\st.getD 1=1/\k=items.length)
 .rw[Tz (by simp[O])]
  refine gD ?_;unfold Builtin.Tuple.tupleIsExact;refine gD (Xa U.typeIs (S7 ?_));rw[Tz (by decide)];exact gD (Wj (S7 ⟨_,rfl,S7 (N O)⟩))
 .rw[TQ (by simpa using O)]
  have e:(List.filterMap (λ(k:Nat)=>items.toArray[(l+(k:Int)*st.getD 1).toNat]?) (Ue k)).toArray=(qb items l (st.getD 1) k).toArray:=by
   unfold qb;simp
  rw[e];exact gD (m:=Wl _) (Uu (S7 ⟨_,rfl,S7 (hn O)⟩) z)
theorem HF(xs:List α)(l st:Int)(k:Nat):(qb xs l st k).length<=k:=by
 unfold qb;have:=List.length_filterMap_le (λ(m:Nat)=>xs[(l+(m:Int)*st).toNat]?) (Ue k);rw[Ys]at this;exact this
def Qi(K:Tn):V->Option Int->Option Int->Hp->VK->Prop:=λx lo hi H Q=>∃a xs,x= .ref a/\SqT K H a xs/\(rP xs lo hi=xs->Q (.ref a) H)/\∀p,H p=none->Q (.ref p) (upd H p (.tup (rP xs lo hi)))
theorem Np:SlR X (Qi X.K):=by
 intro pins s σ H x v vl Y lo hi sl Q I rx hs B q h;obtain⟨a,xs,rfl,F,q1,q2⟩:=h;by_cases N:(HT.sIx xs.length 0 lo=0/\HT.sIx xs.length xs.length hi=xs.length)
 .have rx0:=rx
  cases rx;obtain⟨its,r,U,hz⟩:=I.tuple F;have Z:=r.length;refine⟨"tuple",_,Vi.lookup,U.typeIs,?_⟩;have e1:Vd lo hi ((none:Option Int).getD 1) (its.length:Int)=(((0:Nat):Int),((xs.length:Nat):Int)):=by
   have e1:=HT.adjust_gen lo hi its.length;rw[←Z,N.1,N.2]at e1;rw[←Z];exact e1
  refine ph (items:=its) (st:=none) U hs B q .none (by decide) e1 rfl (λ_=>?_) (λO=>?_) ?_
  .refine⟨.ref a,H,I,rfl,q1 ?_⟩
   unfold rP;rw[N.1,N.2];simp
  .refine absurd ⟨rfl,rfl,?_⟩ O
   show Ve ((0:Nat):Int) ((xs.length:Nat):Int) 1=its.length;rw[HT.places_gen];omega
  .refine V4 (HF _ _ _ _) ?_
   show Ve ((0:Nat):Int) ((xs.length:Nat):Int) 1<=Te;rw[HT.places_gen];omega
 .exact Ng pins s σ H _ v vl Y lo hi sl Q I rx hs B q ⟨a,xs,rfl,F,N,q2⟩
def FT(K:Tn):R2:=λx y H Q=>∃a b xs ys,x= .ref a/\y= .ref b/\SqT K H a xs/\SqT K H b ys/\xs.length+ys.length<=Te/\
 (xs=[]->Q (.ref b) H)/\(xs≠[]->ys=[]->Q (.ref a) H)/\(xs≠[]->ys≠[]->∀p,H p=none->Q (.ref p) (upd H p (.tup (xs++ys))))
theorem HB:OpR X (Vp .Add) (FT X.K):=by
 intro pins s σ H x y v u Q I rx N h;obtain⟨a,b,xs,ys,rfl,rfl,Y,U,hz,q0,q1,q2⟩:=h;by_cases hx:xs=[]
 .cases rx
  cases N;obtain⟨its,z,p1,_⟩:=I.tuple Y;obtain⟨a0,r2,p2,_⟩:=I.tuple U;obtain⟨⟨cls,Z,data,sl⟩,B,O,n,hd⟩:=id p1;obtain⟨⟨a5,a4,a3,q⟩,V,a2,n2,a1⟩:=id p2;simp only at O hd a2 a1;subst O hd a2 a1;exact abp ⟨_,B,rfl⟩ ⟨_,V,rfl⟩ Z7 aa6 YB Yo (Ye _ _)
   (tuple_addW0 a b its.toArray a0.toArray n n2 Z a4 sl q (by rw[z.nil_iff.mpr hx];rfl)) ⟨B,V,⟨.ref b,H,I,rfl,q0 hx⟩⟩
 .exact JN pins s σ H _ _ v u Q I rx N ⟨a,b,xs,ys,rfl,rfl,Y,U,hx,hz,q1 hx,q2 hx⟩
theorem yx{p:Addr}{o:HO}(I:Inv X pins σ H s)(Z:∀b∈fp,jl X pins H b)(keep:∀b u,b∉fp->s.heap.get? b=some u->h'.get? b=some u)(N:s.heap.objs.size<=p)
  (new:bB X.prog X.w (upd H p o) h' p o):Inv X pins σ (upd H p o) {s with heap:=h',toks:=t'}:=by
 have hn:H p=none:=I.hok.fresh N;have B:∀b u,H b=some u->b∉fp:=λb u e U=>by rw[(Z b U).1]at e;cases e
 have F:∀b u,s.heap.get? b=some u->b≠p:=λb u e=>T4 (T6 (TJ e) N);refine I.step (g':=s.gens) (d':=s.drawn) (ch:=fp) (λb U=>⟨(Z b U).2.2.2.1,(Z b U).2.1,(Z b U).2.2.2.2.1,(Z b U).2.2.2.2.2⟩) (λb u _ _ O e _=>keep b u O e) (λb u _ _ O e _=>⟨u.slots,keep b u O e⟩)
  (λb u _ e n=>by rw[aH (F b u e)];exact n) (λb u O e=>⟨u,keep b u O e⟩) (λb xs e=>by rw[aH (bx e hn)];exact e) (λb ob u e=>by rw[aH (bx e hn)];exact e)
  (λb ps e=>⟨#[],by rw[aH (bx e hn),e];simp⟩) (λm V=>?_) (λb u e=>?_) I.bare
 .obtain⟨ob,es,ep,ho,r⟩:=V
  exact⟨ob,es,ep,keep _ ob (λz=>(Z _ z).2.1 rfl) ho,r⟩
 .by_cases U:b=p
  .subst U
   rw[aM]at e;cases e;exact new
  .rw[aH U]at e
   refine(I.hok b u e).stay (λc v O q=>keep c v ?_ q) (λc q=>by rw[aH (bx q hn)];exact q) λc xs q=>by rw[aH (bx q hn)];exact q
   rcases O with z|z
   .rw[z]
    exact B b u e
   .exact B c _ z
theorem lH(I:Inv X pins σ H s)(Z:∀b∈fp,jl X pins H b)(keep:∀b u,b∉fp->s.heap.get? b=some u->h'.get? b=some u):Inv X pins σ H {s with heap:=h',toks:=t'}:=by
 have B:∀b u,H b=some u->b∉fp:=λb u e U=>by rw[(Z b U).1]at e;cases e
 refine I.step (g':=s.gens) (d':=s.drawn) (ch:=fp) (λb U=>⟨(Z b U).2.2.2.1,(Z b U).2.1,(Z b U).2.2.2.2.1,(Z b U).2.2.2.2.2⟩) (λb u _ _ O e _=>keep b u O e) (λb u _ _ O e _=>⟨u.slots,keep b u O e⟩)
  (λb u _ e n=>n) (λb u O e=>⟨u,keep b u O e⟩) (λb xs e=>e) (λb ob u e=>e) (λb ps e=>⟨#[],by rw[e];simp⟩) (λm N=>?_) (λb u e=>?_) I.bare
 .obtain⟨ob,es,ep,ho,r⟩:=N
  exact⟨ob,es,ep,keep _ ob (λz=>(Z _ z).2.1 rfl) ho,r⟩
 .refine(I.hok b u e).stay (λc v O q=>keep c v ?_ q) (λc q=>q) λc xs q=>q
  rcases O with z|z
  .rw[z]
   exact B b u e
  .exact B c _ z
def Ite(K:Tn)(a:Addr):It:=
 ⟨λi H=>∃xs x,SqL K H a xs/\xs[i]? =some x,λi H x H'=>∃p v,H p=none/\x= .ref p/\(∀xs,SqL K H a xs->xs[i]? =some v)/\H'=upd H p (.tup [.int i,v]),λi H=>∃xs,SqL K H a xs/\xs.length<=i⟩
theorem Ex{K:Tn}{x1}(a e it:Addr)(a4:e≠it) :
  Turn P w K (.Tuple elts x1 pos) (Ite K a) [e,it] e (λi h=>(∃old,IsEnum h e it (i:Int) old)/\h.IsListIter it a i)where
 mem:=by simp
 obj:=λi h st b U=>by
  obtain⟨⟨old,V⟩,o,B,c,d⟩:=st;rcases Tf.mp U with z|z
  .subst z
   exact⟨_,V,λv z=>by cases z⟩
  .have z:b=it:=by simpa using z
   subst z;exact⟨o,B,λv z=>by rw[d]at z;cases z⟩
 keep:=λi h h' st k=>by
  obtain⟨⟨old,V⟩,a0⟩:=st;exact⟨⟨old,k e (by simp) _ V⟩,a0.at λo q=>k it (by simp) o q⟩
 item:=by
  intro X hP N hK O i pins s σ H E I Z st hg;subst hP N hK;obtain⟨xs,x,hq,F⟩:=hg;obtain⟨its,rv,p,hz⟩:=I.list hq;obtain⟨u,hu,ru⟩:=rv.get F;obtain⟨⟨old,V⟩,a0⟩:=st;refine wpAny_pyNext_enum_item V a0 p.isList (x:=u) (by simpa using hu) a4 λh1 a8 a3 a6 b0 k1=>?_;refine⟨.ref s.heap.objs.size,rfl,ZL a8 λh2 a7 a1=>?_⟩;have a9:e<s.heap.objs.size:=TJ V;have a2:s.heap.objs.size≠e:=W_ a9;have a5:h2.get? s.heap.objs.size=some {cls:=.type "tuple",data:=.seq #[.int i s.toks,u]}:=a1.extBut _ _ a2 a6;have I2:Inv X pins σ (upd H s.heap.objs.size (.tup [.int i,x])) {s with heap:=h2,toks:=s.toks+1}:=by
   refine yx (fp:=[e,it]) (t':=s.toks+1) I Z (λb o U q=>?_) (Tg _) ?_
   .have n1:b≠e:=λz=>U (by simp[z])
    have n2:b≠it:=λz=>U (by simp[z]);exact a1.extBut b o n1 (k1 b o n1 n2 q)
   .exact⟨by show 2<=Te;decide,[.int i s.toks,u],.cons ⟨_,rfl⟩ (.cons ru .nil),_,a5,rfl,_,rfl,rfl⟩
  refine⟨.ref s.heap.objs.size,upd H s.heap.objs.size (.tup [.int i,x]),I2,rfl,⟨_,x,I.hok.fresh (Tg _),rfl,λys hy=>by rw[I.list_inj hy hq];exact F,rfl⟩,?_,λb U=>?_⟩
  .refine⟨⟨u,?_⟩,a3.extBut a1.extBut (U0 a4)⟩
   have e1:(((i+1:Nat)):Int)=(i:Int)+1:=by omega
   rw[e1];exact a7
  .rw[aH]
   .exact(Z b U).1
   .intro z
    rw[z]at U;rcases Tf.mp U with q|q
    .exact a2 q
    .have q:s.heap.objs.size=it:=by simpa using q
     obtain⟨o,B,_⟩:=a0;exact absurd (TJ B) (by rw[q];exact Vq _)
 done:=by
  intro X hP N hK O i pins s σ H E I Z st hg;subst hP N hK;obtain⟨xs,hq,F⟩:=hg;obtain⟨its,rv,p,hz⟩:=I.list hq;obtain⟨⟨old,V⟩,a0⟩:=st;have Y:=rv.length;refine wpAny_pyNext_enum_end (I.ok.hd O) V a0 p.isList (by simp;omega) λh1 eb=>⟨rfl,?_⟩;exact lH (fp:=[e,it]) (t':=s.toks) I Z λb o U q=>eb b o (λz=>U (by simp[z])) q
 self:=λA i s Q E st h=>by
  obtain⟨⟨old,V⟩,_⟩:=st;exact Yt V h
end Jb
namespace PySem
theorem F.first_AttributeError:((Manifest.find? "AttributeError").elim false λt=>t.mro.contains "StopIteration"||t.mro.contains "SystemExit")=false:=by decide +kernel
theorem F.sub_AttributeError:isSubtype (.type "AttributeError") (.type "AttributeError")=pure true:=by rw[Zo];kernel_rfl
section
variable{prog:Program}{w:World}{A:Around}{E:Value->Shared->Prop}
theorem qt{α:Type}{o:Value}{name Y:Str}{Q:α->S6->Prop}{h:Heap}{g:Array GenState}{d:Drawn}{t:Nat}{os:OsState}(hh:A.handled=none)(N:Y.length<=Te)
  (B:∀h' tk e,(∀b u,h.get? b=some u->h'.get? b=some u)->(∃oe,h'.get? e=some oe/\oe.cls= .type "AttributeError")->E (.ref e) ⟨h',g,d,tk,os⟩):wpAny (model prog w) A (raiseAttrError o name Y:Sem α) Q E ⟨h,g,d,t,os⟩:=by
 unfold raiseAttrError;refine gD (wpAny_mkStr (gD ?_) N);unfold newExc newTuple;refine gD (Uu ?_);refine gD (m:=Xx _ _) (Xo (a:=Uv) (by simp only[Xx,F.first_AttributeError];rfl) ?_);refine Uu ?_;refine gD (wpAny_mkText (gD ?_));dsimp only;generalize a0:h.push {cls:=.type "tuple",dict:=none,data:=.seq [Y0 Y t].toArray}=H1;generalize Z:({cls:=.type "AttributeError",dict:=none,data:=.fields (#[.ref h.objs.size,.none,.none,.none,.bool false,.none]++ownMembersOf (.type "AttributeError") [Y0 Y t])}:Obj)=ob;have V:(H1.push ob).get? H1.objs.size=some ob:=TV _ (by subst Z;rfl);have z:(⟨H1.push ob,g,d,t+1+1,os⟩:S6).TypeIs (.ref H1.objs.size) "AttributeError":=⟨_,V,by subst Z;rfl⟩;have I:=F.sub_AttributeError;have old:∀b u,h.get? b=some u->(H1.push ob).get? b=some u:=λb u e=>S_ _ (a0▸S_ _ e);have U:ob.cls= .type "AttributeError":=by subst Z;rfl
 obtain⟨vs,q,a1,a2⟩:∃vs,ob.data= .fields vs/\vs[6]? =some unsetMember/\vs[7]? =some unsetMember:=by subst Z;exact⟨_,rfl,rfl,rfl⟩
 unfold noteAttr;dsimp only;refine gD ?_;unfold lacksNameAndObj;refine gD (Xc z I ?_);simp only[aa8,Uo,VM];refine gD (Za V ?_);rw[q];dsimp only;rw[a1,a2];show wpAny (model prog w) A (pure true) _ _ _;refine S7 ?_;rw[Tz rfl];refine gD (Wj (gD (Xa z ?_)));dsimp only;unfold layMembers;refine gD (Za V ?_);rw[q];dsimp only;refine wpAny_update V ?_;unfold raiseNew;refine gD (ZM ?_);rw[hh];dsimp only;have O:h.objs.size<H1.objs.size:=by rw[←a0,VF];exact Xb _
 refine YF (B _ _ _ (λb u e=>?_) ⟨_,Wc _ V (aaJ (Zy q _)),(abK ..).trans U⟩);exact(U9 (H1.push ob) _ (U0 (T4 (Nat.lt_trans (TJ e) O)))).trans (old b u e)
theorem F.lk_list_keys:aaU (.type "list") "keys"=pure none:=by rw[Zd,Xy];kernel_rfl
theorem F.lk_list_getattr:aaU (.type "list") "__getattr__"=pure none:=by rw[Zd,Xy];kernel_rfl
variable{h:Heap}{g:Array GenState}{d:Drawn}{t:Nat}{os:OsState}{a:Addr}{items:Array Value}{n:Nat}
def zF(E:Value->S6->Prop)(h:Heap)(g:Array GenState)(d:Drawn)(os:OsState):Prop:=∀h' tk e,(∀b u,h.get? b=some u->h'.get? b=some u)->(∃O,h'.get? e=some O/\O.cls= .type "AttributeError")->E (.ref e) ⟨h',g,d,tk,os⟩
theorem ql{tk:Tok}{Q:Fin->S6->Prop}(N:A.handled=none)(q:h.get? a=some {cls:=.type "list",data:=.seq items n})(B:zF E h g d os) :
  wpAny (model prog w) A (Builtin.«object.__getattribute__» ⟨[.ref a,.str "keys" tk],[]⟩) Q E ⟨h,g,d,t,os⟩:=by
 have z:(⟨h,g,d,t,os⟩:S6).TypeIs (.ref a) "list":=⟨_,q,rfl⟩;have V:=F.lk_list_keys
 repeat(any_goals(first|assumption|wp_step))
 exact qt N (by decide +kernel) B
theorem sZ{tk:Tok}{R:aaE->S6->Prop}(N:A.handled=none)(q:h.get? a=some {cls:=.type "list",data:=.seq items n})(B:zF (λe s=>R (.error e) s) h g d os) :
  Wu (model prog w) A (.call (.builtin "list.__getattribute__") ⟨[.ref a,.str "keys" tk],[]⟩) R ⟨h,g,d,t,os⟩:=
 Vv Xd.plain F.entry_list_ga (Xd.check _ _ _ _ _ _ _ _ (show(⟨h,g,d,t,os⟩:S6).TypeIs (.ref a) "list" from⟨_,q,rfl⟩) (F.args_list_getattribute_2 _ _) (ql N q B))
theorem w5{tk:Tok}{Q:Value->S6->Prop}(N:A.handled=none)(hx:h.get? a=some {cls:=.type "list",data:=.seq items n})(B:zF E h g d os):wpAny (model prog w) A (getAttrBy (.ref a) (.str "keys" tk) false) Q E ⟨h,g,d,t,os⟩:=by
 have z:(⟨h,g,d,t,os⟩:S6).TypeIs (.ref a) "list":=⟨_,hx,rfl⟩;have f2:=Xd.lookup;have Z:=Xd.bind (.ref a)
 repeat(any_goals(first|assumption|wp_step))
 refine sZ N hx λh' I e old V=>?_;obtain⟨O,Y,q⟩:=id V;have U:(⟨h',g,d,I,os⟩:S6).TypeIs (.ref e) "AttributeError":=⟨O,Y,q⟩;dsimp only;unfold getattributeRaised;refine gD (Xc U F.sub_AttributeError ?_);rw[Tz rfl];refine gD (Xo (show hookBehind (.type "list") none=pure none from F.lk_list_getattr) ?_);show wpAny (model prog w) A (aaY (.ref a) (.str "keys" tk) (.ref e) false false) Q E ⟨h',g,d,I,os⟩;unfold aaY;dsimp only;rw[Tz (show(!false)=true from rfl)]
 first|exact YF (B h' I e old V)|exact gD (YF (B h' I e old V))
theorem rR{Q:Option Value->S6->Prop}(N:A.handled=none)(z:h.get? a=some {cls:=.type "list",data:=.seq items n})
  (B:∀h' tk,(∀b u,h.get? b=some u->h'.get? b=some u)->Q none ⟨h',g,d,tk,os⟩):wpAny (model prog w) A (getAttr? (.ref a) "keys") Q E ⟨h,g,d,t,os⟩:=by
 unfold getAttr? getAttrBy?;refine gD (wpAny_mkText (gD (YM (w5 N z λh' I e old V=>?_))));obtain⟨O,Y,q⟩:=id V;have U:(⟨h',g,d,I,os⟩:S6).TypeIs (.ref e) "AttributeError":=⟨O,Y,q⟩;dsimp only;refine gD (Xc U F.sub_AttributeError ?_);rw[Tz rfl];exact S7 (B h' I old)
end
namespace F
theorem entry_dict_update_loop:aaZ table "dict.update.loop"=some Builtin.«dict.update.loop»:=entryFor_of_tree (by kernel_rfl)
theorem plain_dict_update_loop:plainId "dict.update.loop"=true:=by decide +kernel
end F
end PySem
namespace Jb
open PySem PySem.Spec PyProof.Rows L2
def putAll(kvs:List (Key×V))(prs:List (Key×V)):List (Key×V):=prs.foldl (λacc kv=>putK acc kv.1 kv.2) kvs
theorem tQ:∀(prs kvs:List (Key×V)),(putAll kvs prs).length<=kvs.length+prs.length
 |[],kvs=>by simp[putAll]
 |p::r,kvs=>by
  have h1:=tQ r (putK kvs p.1 p.2);have h2:=dO kvs p.1 p.2;have e:putAll kvs (p::r)=putAll (putK kvs p.1 p.2) r:=rfl;rw[e,T_];omega
variable{X:Cx}{σ:L2.St}
theorem Dw{D:Addr}{xs:List V}{prs:List (Key×V)}(hh:A.handled=none)(a5:prs.length=xs.length):∀(m i:Nat)(kvs:List (Key×V))(H:Hp)(s:S6),xs.length-i=m->i<=xs.length->
  Inv X pins σ H s->H D=some (.dK kvs)->SqL X.K H l xs->jl X pins H it->s.heap.IsListIter it l i->(∀(j:Nat)(k:Key)(v:V),prs[j]? =some (k,v)->∃p:Addr,xs[j]? =some (V.ref p)/\H p=some (.tup [kV k,v]))->kvs.length+m<=100000->
  (∀s',Inv X pins σ (upd H D (.dK (putAll kvs (prs.drop i)))) s'->R (.ok (.ret .none)) s')->Wu (model X.prog X.w) A (.builtin "dict.update.loop" ⟨[.ref D,.ref it,Vh i,.none],[]⟩) R s:=by
 intro m
 induction m with
 |zero=>
  intro i kvs H s hm hi I hD B Z a0 N hz k;have e:i=xs.length:=by omega
  subst e;obtain⟨its,rv,p,_⟩:=I.list B;have Y:=rv.length;refine V0 F.entry_dict_update_loop ?_;rw[Vo F.plain_dict_update_loop _];unfold Builtin.«dict.update.loop»;dsimp only;refine gD (Y6 (show A.in1.handled=none from hh) a0 p.isList (by simp;omega) λh' eb=>?_);dsimp only;have I1:Inv X pins σ H {s with heap:=h'}:=lH (fp:=[it]) (t':=s.toks) I (λb U=>by rw[Ti.mp U];exact Z) λb o U q=>eb b o (λz=>U (by simp[z])) q;have e1:prs.drop xs.length=[]:=by rw[←a5,Wb]
  have k1:=k _ (by
   rw[e1];show Inv X pins σ (upd H D (.dK kvs)) {s with heap:=h'};have:upd H D (.dK kvs)=H:=by
    funext b;unfold upd;split
    .rename_i z
     rw[z,hD]
    .rfl
   rw[this];exact I1)
  show wpAny (model X.prog X.w) A.in1 (Builtin.Dict.addKeywords D [] >>=λ_=>ret .none) _ _ _;exact gD (S7 (S7 k1))
 |succ m ih=>
  intro i kvs H s hm hi I hD B Z a0 N hz k;have O:i<xs.length:=by omega
  obtain⟨its,rv,p,_⟩:=I.list B;have Y:=rv.length;have a2:i<prs.length:=by omega
  obtain⟨t,ht,hT⟩:=N i prs[i].1 prs[i].2 (by rw[Td a2]);obtain⟨u,hu,ru⟩:=rv.get ht;cases ru;refine V0 F.entry_dict_update_loop ?_;rw[Vo F.plain_dict_update_loop _];unfold Builtin.«dict.update.loop»;dsimp only;refine gD (Yy a0 p.isList (x:=.ref t) (by simpa using hu) λh1 a6 a7=>?_);dsimp only;have I1:Inv X pins σ H {s with heap:=h1}:=lH (fp:=[it]) (t':=s.toks) I (λb U=>by rw[Ti.mp U];exact Z) λb o U q=>(a7.2 b (λz=>U (by simp[z]))).trans q;obtain⟨_,b3,rj,oj,ej,cj,nj,dj,_⟩:=(show bB X.prog X.w H h1 t (.tup [kV prs[i].1,prs[i].2])from I1.hok t _ hT);obtain⟨ku,vu,rfl,rk,b0⟩:=vals2 rj;have b1:(({s with heap:=h1}:S6)).TypeIs (.ref t) "tuple":=⟨oj,ej,cj⟩;refine gD (Va (gD (wpAny_tryCatch ?_)));unfold Builtin.Dict.pairItems;refine gD (Xa b1 ?_);rw[Tz (by decide)];refine gD (aaK ej dj (S7 ?_));show wpAny (model X.prog X.w) A.in1 (Xh [ku,vu] (dictSet D ku vu)) _ _ _;obtain⟨z,hd,vs,rel,dd⟩:=sU I1.hok hD;have a9:vs.length<=Te:=by rw[←rel.length];exact z
  have b4:200000<=Te:=by decide
  have b2:(putK kvs prs[i].1 prs[i].2).length<=Te:=by have:=dO kvs prs[i].1 prs[i].2;omega
  refine Va (abe (hsz:=a9) (jT rk) dd λh2 a3 a4=>?_);have I2:Inv X pins σ (upd H D (.dK (putK kvs prs[i].1 prs[i].2))) {s with heap:=h2,toks:=s.toks+1}:=by
   have he:∃q,h2.get? D=some q:=let⟨q,_,_,B,_⟩:=a3;⟨q,B⟩;exact jC (s:=({s with heap:=h1}:S6)) (t':=s.toks+1) I1 (by rw[hD];exact Vc) a4 he (tu b2 hd (rel.put prs[i].1 b0) a3)
  have a8:∀p ys,H p=some (.tup ys)->p≠D:=λp ys e=>iG e hD (by intro z;cases z);have a1:it≠D:=λz=>by have:=Z.1;rw[z,hD]at this;cases this
  show wpAny (model X.prog X.w) A.in1 (again (.builtin "dict.update.loop" ⟨[.ref D,.ref it,Vh ((i:Int)+1),.none],[]⟩)) _ _ _;refine S7 ⟨WD F.plain_dict_update_loop _,?_⟩;have ei:((i:Int)+1)=((i+1:Nat):Int):=by omega
  rw[ei];have b5:=dO kvs prs[i].1 prs[i].2;refine ih (i+1) (putK kvs prs[i].1 prs[i].2) _ _ (by omega) O I2 aM ?_ ?_ (a6.extBut a4.extBut a1) ?_ (by omega) (λs' I'=>k s' ?_)
  .rcases B with(B|⟨o,B⟩)|B
   .exact .inl (.inl (by rw[aH (iG B hD (by intro z;cases z))];exact B))
   .exact .inl (.inr ⟨o,by rw[aH (iG B hD (by intro z;cases z))];exact B⟩)
   .exact .inr B
  .exact⟨by rw[aH a1];exact Z.1,Z.2⟩
  .intro j kk vv e
   obtain⟨p,h1,h2⟩:=N j kk vv e;exact⟨p,h1,by rw[aH (a8 p _ h2)];exact h2⟩
  .rw[Kf]at I'
   rw[V1 a2];exact I'
variable{R:Result->Shared->Prop}
theorem ul{kx vx iter:Expr}{it:Value}{D:Addr}(I:Nat->S6->Prop)
  (z:∀n s,I n s->wpAny (model prog w) A (Yb it) (λr O=>match r with
   |none=>R (.ok .next) O
   |some v=>wpAny (model prog w) A (X5 target it v) (λ_ V=>wpAny (model prog w) A (Yx target env v) (λ_ B=>
    wpAny (model prog w) A (forIn ifs true λc r=>if r=true then do let ok ←aaB c env (eval c env);pure (W2 ok)else pure (W2 r)) (λok q=>
     if ok=true then wpAny (model prog w) A (eval kx env) (λkv U=>wpAny (model prog w) A (eval vx env) (λvv Z=>wpAny (model prog w) A (dictSet D kv vv) (λ_ a0=>∃m,m<n/\I m a0) NoX Z) NoX U) NoX q
     else ∃m,m<n/\I m q) NoX B) NoX V) NoX O) NoX s)
  (n:Nat) (h:I n s):Wu (model prog w) A (.compLoop (.DictComp kx vx [⟨target,iter,ifs,0⟩] scope pos) 0 it (.ref D) env) R s:=by
 refine codeAny_loop rfl I (λn s N=>?_) n h;show wpAny _ A ((compTurn (.DictComp kx vx [⟨target,iter,ifs,0⟩] scope pos) 0 it (.ref D) env).onRaise (λx=>do noteFrame x env;theTreesLotGoes x)) _ _ s;refine wpAny_noted ?_;rw[compTurn_dict];refine gD (Xi (gD (Vn (z n s N) (λr O F=>?_) λ_ _ h'=>h'.elim)));cases r with
 |none=>exact S7 F
 |some v=>
  refine gD (Vn F (λ_ V a1=>?_) λ_ _ h'=>h'.elim);refine gD (Vn a1 (λ_ B a5=>gD (Vn a5 (λok q Y=>?_) λ_ _ h'=>h'.elim)) λ_ _ h'=>h'.elim);cases ok with
  |false=>exact S7 ⟨rfl,Y⟩
  |true=>
   exact gD (gD (Vn Y (λkv U a3=>gD (Va (Vn a3 (λvv Z a2=>gD (Xi (Va (Vn a2 (λ_ a0 a4=>S7 ⟨rfl,a4⟩) λ_ _ h'=>h'.elim)))) λ_ _ h'=>h'.elim))) λ_ _ h'=>h'.elim))
def FZ(J:It)(H:Hp)(g:TG)(tt:TT)(tk tv:TE)(σ:L2.St)(Q:List (Key×V)->Hp->Prop):Prop:=
 ∃W:Nat->Nat->List (Key×V)->Hp->Prop,(∃m,W 0 m [] H)/\∀i m ys H,W i m ys H->
  (J.stop i H/\Q ys H)∨(J.go i H/\ys.length<Te/\∃N:List (Key×V)->Hp->Prop,(∀B H',N B H'->∃m',m'<m/\W (i+1) m' B H')/\
   ∀x H',J.yld i H x H'->g x σ H' λσ2 H2=>Kp σ σ2/\tt σ2 H2 λb Y=>if b=true then tk σ2 Y λx I=>∃k,x=kV k/\tv σ2 I λv q=>N (putK ys k v) q else N ys Y)
def Fo(cap:List (Option Nat))(wi:TI)(g:TG)(tt:TT)(tk tv:TE):TE:=λσ H Q=>wi σ H λJ H1=>
 FZ J H1 g tt tk tv (dM cap σ) λys H2=>ys.length<=Te/\∀D,H2 D=none->Q (.ref D) (upd H2 D (.dK ys))
section
variable{X:Cx}{kx vx target iter:Expr}{ifs:List Expr}{scope:Scope}{pos:Pos}{N':List Str}{cap:List (Option Nat)}{wi:TI}{g:TG}{tt:TT}{tk tv:TE}
structure DO(P:Program)(w:World)(vs:List (Key×Value))(o:Obj):Prop where
 ex:o.ExactDict
 es:∃es ep,o.data= .dict es ep/\KeysOf (aY P w) es/\Pairs (aY P w) es.toList vs/\(vs.map (·.1)).Nodup
theorem DO.at{P:Uj}{w:World}{vs:List (Key×Value)}{o:Obj}(d:DO P w vs o){h:Heap}{a:Addr}(e:h.get? a=some o):h.DictOf (aY P w) a vs:=let⟨es,ep,h1,h2,h3,h4⟩:=d.es;⟨o,es,ep,e,d.ex,h1,h2,h3,h4⟩
theorem DO.of{P:Uj}{w:World}{vs:List (Key×Value)}{h:Heap}{a:Addr}(d:h.DictOf (aY P w) a vs):∃o,h.get? a=some o/\DO P w vs o:=let⟨o,es,ep,e,x,h1,h2,h3,h4⟩:=d;⟨o,e,⟨x,es,ep,h1,h2,h3,h4⟩⟩
theorem DO.nc{P:Uj}{w:World}{vs:List (Key×Value)}{o:Obj}(d:DO P w vs o):∀v,o.data≠.cell v:=λv z=>by
 obtain⟨es,ep,h1,_⟩:=d.es;rw[h1]at z;cases z
theorem yh{pins:List (Addr×Obj)}{σ:L2.St}{H:Hp}{B:S6}{it:Addr}{fp:List Addr}{tn:Nat->Heap->Prop}{J:It}{Q:List (Key×V)->Hp->Prop}{RR:Value->Addr->aaE->S6->Prop}{E:Value->S6->Prop}
  (hc:X.calm=true) (O:fU X.env.scope X.N N' scope cap) (I:Inv X pins σ H B) (T:Turn X.prog X.w X.K target J fp it tn) (st:tn 0 B.heap) (f2:∀b∈fp,jl X pins H b)
  (q:∀C,PG (bh X N' scope C B H fp) target g) (ht:∀C,PTs (bh X N' scope C B H fp) ifs tt) (hk:∀C,PE (bh X N' scope C B H fp) kx tk) (he:∀C,PE (bh X N' scope C B H fp) vx tv) (cw:FZ J H g tt tk tv (dM cap σ) Q)
  (d5:∀(D C:Addr)(s':S6)(H':Hp)(ys:List (Key×V))(its:List (Key×Value))(o:Obj)(F:L2.St),B.heap.objs.size<=D->B.heap.objs.size<=C->D≠C->Inv (bh X N' scope C B H fp) [(D,o)] F H' s'->KV ys its->DO X.prog X.w its o->Q ys H'->
   RR (.ref D) C (.ok .next) s') :
  wpAny (model X.prog X.w) X.A newDict (λacc b4=>wpAny (model X.prog X.w) X.A (newFunctionEnv scope X.env.globals (my scope X.env) [] X.env.qual none .none (some X.env)) (λb0 b3=>
   Wu (model X.prog X.w) X.A (.compStart (.DictComp kx vx [⟨target,iter,ifs,0⟩] scope pos) 0 (.ref it) acc {b0 with scope:=relabel scope X.env}) (RR acc b0.locals) b3) E b4) E B:=by
 refine Uu (aaX O.nocell (by intro y hy;simp at hy) (λa3 a1 a0=>?_) O.kind);dsimp only at a1 a0⊢;generalize b2:B.heap.push {cls:=.type "dict",dict:=none,data:=.dict #[]}=H2 at a1 a0⊢;have hC:H2.objs.size=B.heap.objs.size+1:=by rw[←b2,VF]
 have a8:B.heap.objs.size≠H2.objs.size:=by rw[hC];exact T4 (Xb _)
 have a4:B.heap.objs.size<=H2.objs.size:=by rw[hC];exact Zr _
 have old:∀b o,B.heap.get? b=some o->a3.get? b=some o:=λb o e=>a0.extBut b o (by rw[hC];exact T4 (Wv (TJ e))) (S_ _ (b2▸S_ _ e));have b7:H2.DictOf (aY X.prog X.w) B.heap.objs.size []:=b2▸ab8 B.heap;obtain⟨o0,c5,c1⟩:=DO.of b7;have b9:a3.get? B.heap.objs.size=some o0:=a0.extBut _ _ a8 (S_ _ c5);have a9:∀b∈fp,b<B.heap.objs.size:=λb U=>by
  obtain⟨o,e,_⟩:=T.obj 0 _ st b U;exact TJ e
 have I1:=xX (tk:=B.toks+([]:List (Str×Value)).length) I O f2 a9 a4 (Tg _) a8 old a1 b9 c1.nc;have c2:tn 0 a3:=T.keep _ _ _ st λb _ o e=>old b o e;obtain⟨W,⟨m0,w0⟩,c3⟩:=cw;generalize hD:B.heap.objs.size=D at *
 generalize d7:H2.objs.size=C at *
 have a7:∀{H':Hp}{o:Obj},(∀b∈fp,H' b=none)->∀b∈fp,jl (bh X N' scope C B H fp) [(D,o)] H' b:=λ{H' o} hn b U=>by
  refine⟨hn b U,T4 (T6 (a9 b U) a4),I1.ok.exfs b U,.inl U,(I1.ok.exf b U).2,λp hp=>?_⟩;have e:p=(D,o):=by simpa[bh]using hp
  subst e;exact W_ (a9 b U)
 have b1:Wu (model X.prog X.w) X.A (.compLoop (.DictComp kx vx [⟨target,iter,ifs,0⟩] scope pos) 0 (.ref it) (.ref D) (compEnvC scope (my scope X.env) C X.env)) (RR (.ref D) C) {B with heap:=a3,toks:=B.toks+([]:List (Str×Value)).length}:=by
  refine ul (λn s'=>∃i ys its k H',Inv (bh X N' scope C B H fp) [(D,k)] (dM cap σ) H' s'/\(KV ys its/\DO X.prog X.w its k)/\tn i s'.heap/\(∀b∈fp,H' b=none)/\W i n ys H') ?_ m0 ⟨0,[],[],o0,H,I1,⟨.nil,c1⟩,c2,λb U=>(f2 b U).1,w0⟩;rintro n s3 ⟨i,ys,its,k,Y,I3,⟨rv,dk⟩,b6,c4,w3⟩;rcases c3 i n ys Y w3 with⟨stop,qn⟩|⟨go,hsz,N,hN,step⟩
  .refine thn (T.done (bh X N' scope C B H fp) rfl rfl rfl hc i _ s3 _ Y NoX I3 (a7 c4) b6 stop) λr s4 ⟨Z,I4⟩=>?_
   subst Z;exact d5 D C s4 Y ys its k _ (Tg _) a4 a8 I4 rv dk qn
  .refine thn (T.item (bh X N' scope C B H fp) rfl rfl rfl hc i _ s3 _ Y NoX I3 (a7 c4) b6 go) λr s4 ⟨u,Z,h4⟩=>?_
   subst Z;refine thn h4 λ_ s5 ⟨x,H5,I5,r5,y5,a6,c7⟩=>?_;have d3:=I5.pinned (a7 c7) (T.obj _ _ a6);refine thn (q C _ s5 _ H5 x u _ d3 r5 (step x H5 y5)) λ_ s6 ⟨a2,H6,I6,c0,q6⟩=>?_;refine thn (ht C _ s6 a2 H6 _ I6 q6) λok s7 ⟨H7,I7,q7⟩=>?_;have a5:∀{s':S6}{H':Hp}{F:L2.St},Inv (bh X N' scope C B H fp) ([(D,k)]++jk fp s5.heap) F H' s'->tn (i+1) s'.heap/\∀b∈fp,H' b=none:=λ{s' H' F} Ix=>by
    refine⟨T.keep _ _ _ a6 λb U o e=>(Ix.pin (b,o) (Tc _ (Tc _ (cN U e)))).1,λb U=>?_⟩;obtain⟨o,e,d⟩:=T.obj _ _ a6 b U;exact(Ix.pin (b,o) (Tc _ (Tc _ (cN U e)))).2.1
   have b8:(dM cap σ).length=a2.length:=by rw[I6.len,I1.len]
   cases ok with
   |false=>
    have n7:N ys H7:=by simpa using q7
    obtain⟨m',hm,w7⟩:=hN _ _ n7;exact⟨m',hm,i+1,ys,its,k,H7,I7.unpinned.weak b8 c0,⟨rv,dk⟩,(a5 I7).1,(a5 I7).2,w7⟩
   |true=>
    have q7:tk a2 H7 λx H4=>∃k',x=kV k'/\tv a2 H4 λv H5=>N (putK ys k' v) H5:=by simpa using q7
    refine thn (hk C _ s7 a2 H7 _ I7 q7) λuk c8 ⟨xk,d0,d2,d4,kk,ek,c9⟩=>?_;subst ek;refine thn (he C _ c8 a2 d0 _ d2 c9) λu8 s8 ⟨v,H8,I8,r8,n8⟩=>?_;obtain⟨eD,nD,_,d6,_⟩:=I8.pin (D,k) (Tc _ (Th _ Ur));have lv:=rv.length;refine abe (jT d4) (dk.at eD) (λh9 c6 d1=>?_) (by omega);obtain⟨m',hm,w8⟩:=hN _ _ n8;obtain⟨o9,eN,b5⟩:=DO.of c6;have I9:Inv (bh X N' scope C B H fp) (jk fp s5.heap) a2 H8 {s8 with heap:=h9,toks:=s8.toks+1}:=by
     refine Inv.turned (it:=D) (t':=s8.toks+1) (I8.pins_of λp hp=>I8.pin p (Tc _ (Tc _ hp))) (λb o U e=>d1.extBut b o U e) nD a8 (.inr (by rw[←hD];exact Tg _)) (λx c e z=>?_) (λp hp z=>?_)
     .obtain⟨vc,oc,h1,_⟩:=I.cell x c (gK I O e)
      have hh:=TJ h1;rw[z,hD]at hh;exact Vq _ hh
     .have hp:p∈jk fp s5.heap:=hp
      have hh:=a9 p.1 (o4 hp).1;rw[z]at hh;exact Vq _ hh
    refine⟨m',hm,i+1,putK ys kk v,aaI its kk u8,o9,H8,(I9.weak b8 c0).pins_of (λp hp=>?_),⟨rv.put kk r8,b5⟩,?_,λb U=>?_,w8⟩
    .have e:p=(D,o9):=Ti.mp hp
     rw[e];exact⟨eN,nD,a8,d6,b5.nc⟩
    .exact T.keep _ _ _ a6 λb U o e=>(I9.pin (b,o) (Tc _ (cN U e))).1
    .obtain⟨o,e,d⟩:=T.obj _ _ a6 b U
     exact(I9.pin (b,o) (Tc _ (cN U e))).2.1
 exact codeAny_compStart_dict b1 (T.self _ 0 _ _ _ c2 b1)
end
def Itd(a:Addr)(ob:Obj)(kvs:List (Key×V)):It:=
 ⟨λi H=>H a=some (.frz ob (.dK kvs))/\i<kvs.length,λi H x H'=>H'=H/\∃p,kvs[i]? =some p/\x=kV p.1,λi H=>H a=some (.frz ob (.dK kvs))/\kvs.length<=i⟩
theorem Ii{k:Key}(h:(aY P w).is k u=true):RelV (kV k) u:=by
 have h:oW k u=true:=h;rcases bN h with⟨i,t,rfl,rfl⟩|⟨x,t,rfl,rfl⟩
 .exact⟨t,rfl⟩
 .exact⟨t,rfl⟩
theorem uG{F:α->β->Prop}:∀{xs:List α}{ys:List β},Z4 F xs ys->∀{i:Nat}{a:α}{b:β},xs[i]? =some a->ys[i]? =some b->F a b
 |_,_,.nil,i,a,b,h,_=>by simp at h
 |_,_,.cons p r,0,a,b,h1,h2=>by cases h1;cases h2;exact p
 |_,_,.cons p r,i+1,a,b,h1,h2=>uG r (i:=i) (by simpa using h1) (by simpa using h2)
theorem Ht{H:Hp}{s:S6}{ob:Obj}{kvs:List (Key×V)}{es:Array DictEntry}(I:Inv X pins σ H s)(e:H a=some (.frz ob (.dK kvs)))(hd:ob.data= .dict es ep) :
  ∃vs,KV kvs vs/\s.heap.DictAt (aY X.prog X.w) a vs ep:=by
 obtain⟨h1,_,_,vs,rel,o,F,q,g,x,d,z,N,O⟩:=(show bB X.prog X.w H s.heap a (.frz ob (.dK kvs))from I.hok a _ e);rw[h1]at g;cases g;rw[hd]at d;cases d;exact⟨vs,rel,ob,es,h1,x,hd,z,N,O⟩
theorem Dm{K:Tn}(a it:Addr)(ob:Obj)(kvs:List (Key×V)) :
  Turn P w K tg (Itd a ob kvs) [it] it (λi h=>∃es ep,ob.data= .dict es ep/\h.IsKeyIter it a i kvs.length ep)where
 mem:=by simp
 obj:=λi h st b U=>by
  have e:b=it:=by simpa using U
  subst e;obtain⟨_,_,_,o,e,c,d⟩:=st;exact⟨o,e,λv z=>by rw[d]at z;cases z⟩
 keep:=λi h h' st k=>let⟨es,ep,hd,st⟩:=st;⟨es,ep,hd,st.at λo e=>k it (by simp) o e⟩
 item:=by
  intro X hP N hK O i pins s σ H E I Z st q;subst hP N hK;obtain⟨e,hi⟩:=q;obtain⟨es,ep,hd,st⟩:=st;obtain⟨vs,rel,dd⟩:=Ht I e hd;have Y:=rel.length;obtain⟨f0,f1,B,f3,f4,f5⟩:=Z it (by simp);have a0:i<vs.length:=by omega
  rw[Y]at st;refine wpAny_pyNext_dict_item (k:=vs[i].1) (v:=vs[i].2) st dd (by rw[Td a0]) λa2 h' hk a1 sb=>?_;have F:Inv X pins σ H {s with heap:=h'}:=I.turned (t':=s.toks) (λb o U e=>sb.extBut b o U e) f0 f1 f3 f4 f5;obtain⟨o,e2,c,d⟩:=id a1;have ek:kvs[i].1=vs[i].1:=(uG rel (Td hi) (Td a0)).1;refine⟨a2,rfl,Bu (s:={s with heap:=h'}) e2 c d (by decide) ⟨kV kvs[i].1,H,F,?_,⟨rfl,kvs[i],by rw[Td hi],rfl⟩,⟨es,ep,hd,by rw[Y];exact a1⟩,λb U=>(Z b U).1⟩⟩;rw[ek];exact Ii hk
 done:=by
  intro X hP N hK O i pins s σ H E I Z st q;subst hP N hK;obtain⟨e,hi⟩:=q;obtain⟨es,ep,hd,st⟩:=st;obtain⟨vs,rel,dd⟩:=Ht I e hd;have Y:=rel.length;obtain⟨f0,f1,B,f3,f4,f5⟩:=Z it (by simp);rw[Y]at st;exact wpAny_pyNext_dict_end (I.ok.hd O) st dd (We (by omega)) λh' eb=>⟨rfl,I.turned (t':=s.toks) (λb o U e=>eb b o U e) f0 f1 f3 f4 f5⟩
 self:=λ_ _ _ _ _ st h=>let⟨_,_,_,st⟩:=st;wpAny_pyIter_keyiter st h
theorem GZ{F:L2.St}{H2 H':Hp}{s2:S6}{D C:Addr}{ob:HO}(I2:Inv X pins σ H2 s2)(B:∀b∈fp,jl X pins H2 b)
  (hD:s2.heap.objs.size<=D) (hC:s2.heap.objs.size<=C) (Y:D≠C) (N:Inv (bh X N' scope C s2 H2 fp) [(D,o)] F H' s') (new:∀h',h'.get? D=some o->bB X.prog X.w (upd H' D ob) h' D ob)
  (h':Heap) (I:Wi C s'.heap h'):Inv X pins σ (upd H' D ob) {s' with heap:=h'}:=by
 obtain⟨eD,nD,_,a0,_⟩:=N.pin (D,o) (Tc _ Ur);refine I2.call' (ch:=fp) N.os ?_ ?_ N.bare (λb U=>⟨(B b U).2.2.2.1,(B b U).2.1,(B b U).2.2.2.2.1,(B b U).2.2.2.2.2⟩)
 .have ne:∀b o,s2.heap.get? b=some o->b≠C/\b≠D:=λb o e=>⟨T4 (T6 (TJ e) hC),T4 (T6 (TJ e) hD)⟩
  refine⟨λb o e n U V=>I.extBut b o (ne b o e).1 (N.base.keep b o e n U V),λb o e n U V=>?_,λb o e n V=>?_,λb o e V=>?_,λb xs e=>?_,λb o u e=>?_,λb ps e=>?_⟩
  .obtain⟨sl,e1⟩:=N.base.slot b o e n U V
   exact⟨sl,I.extBut b _ (ne b o e).1 e1⟩
  .rw[aH (ne b o e).2]
   exact N.base.free b o e n V
  .obtain⟨o',e1⟩:=N.base.there b o e V
   exact⟨o',I.extBut b _ (ne b o e).1 e1⟩
  .have e1:=N.base.tups b xs e
   rw[aH (bx e1 nD)];exact e1
  .have e1:=N.base.frzs b o u e
   rw[aH (bx e1 nD)];exact e1
  .obtain⟨more,e1⟩:=N.base.tbls b ps e
   refine⟨more,?_⟩;rw[aH (bx e1 nD)];exact e1
 .intro b u e
  by_cases U:b=D
  .subst U
   rw[aM]at e;cases e;exact new h' (I.extBut _ _ Y eD)
  .rw[aH U]at e
   have nC:∀b u,H' b=some u->b≠C:=λb u e z=>by
    have Z:H' C=none:=N.free;rw[z,Z]at e;cases e
   refine(N.hok b u e).stay (λc v O q=>I.extBut c v ?_ q) (λc q=>by rw[aH (bx q nD)];exact q) λc xs q=>by rw[aH (bx q nD)];exact q
   rcases O with z|z
   .rw[z]
    exact nC b u e
   .exact nC c _ z
section
variable{X:Cx}{elt kx vx target iter:Expr}{ifs:List Expr}{scope:Scope}{pos pos' pos2:Pos}{N':List Str}{cap:List (Option Nat)}{wi:TI}{g:TG}{tt:TT}{te tk tv:TE}
theorem CK{pins:List (Addr×Obj)}{σ F:L2.St}{H2 H':Hp}{O s':S6}{fp:List Addr}{D C:Addr}{o:Obj}{ob:HO}{i:Nat}{x:Str}{Dn:Ends}(V:Inv X pins σ H2 O)(B:∀b∈fp,jl X pins H2 b)
  (hD:O.heap.objs.size<=D) (hC:O.heap.objs.size<=C) (Y:D≠C) (I':Inv (bh X N' scope C O H2 fp) [(D,o)] F H' s') (new:∀h',h'.get? D=some o->bB X.prog X.w (upd H' D ob) h' D ob)
  (hN:X.N.Nodup) (hi:X.N[i]? =some x) (hx:Loc X.env.scope x) (Z:X.fn x=true∨X.env.scope.names.lookup x=some .local) (q:Dn.nx (σ.set i (some (.ref D))) (upd H' D ob)) :
  wpAny (model X.prog X.w) X.A (assignAll (.ref D) ((VR [.Name x pos'] X.env).map (·.2))) (λ_ a0=>∃m,a0.heap.Ns C m/\∀h',Wi C a0.heap h'->SP X pins Dn .next {a0 with heap:=h'}) X.xe s':=by
 have I3:Inv X pins σ (upd H' D ob) s':=GZ V B hD hC Y I' new s'.heap ⟨rfl,λ_ _=>rfl⟩;obtain⟨m,a1,_⟩:=I'.loc;obtain⟨a4,nD,_,a5,_⟩:=I'.pin (D,o) (Tc _ Ur);have a1:s'.heap.Ns C m:=a1;have a2:upd H' D ob C=none:=by
  rw[aH (U0 Y)];exact I'.free
 obtain⟨f0,I,a3,f3,f4,f5⟩:=V.fpOk hC (V.hok.fresh hC);have fC:jl X pins (upd H' D ob) C:=⟨a2,I,a3,f3,f4,f5⟩;obtain⟨oC,es,ep,gC,dC,k1,k2⟩:=a1;have I4:=I3.pinned (fp:=[C]) (λb U=>by rw[Ti.mp U];exact fC) λb U=>⟨oC,by rw[Ti.mp U];exact gC,λv z=>by rw[dC]at z;cases z⟩;have ea:assignAll (.ref D) ((VR [.Name x pos'] X.env).map (·.2))=Yx (.Name x pos') X.env (.ref D):=by
  unfold assignAll;simp[VR]
 rw[ea];refine wpAny_assign_Name (kO I4 hN hi hx (v:=.ref D) rfl (λa0 I5=>⟨m,?_,λh' sb=>?_⟩) Z)
 .exact⟨oC,es,ep,(I5.pin (C,oC) (Tc _ (Tc _ (cN (Ti.mpr rfl) gC)))).1,dC,k1,k2⟩
 .exact⟨_,_,I5.unpinned.turned (t':=a0.toks) (λb o U e=>sb.extBut b o U e) a2 I f3 f4 f5,q⟩
theorem CT{i:Nat}{x:Str}(hx:X.xe=NoX)(hc:X.calm=true)(hN:X.N.Nodup)(hi:X.N[i]? =some x)(Y:Loc X.env.scope x)(O:fU X.env.scope X.N N' scope cap)(z:PI X target iter wi)
  (hg:∀C B H fp,PG (bh X N' scope C B H fp) target g) (U:∀C B H fp,PTs (bh X N' scope C B H fp) ifs tt) (V:∀C B H fp,PE (bh X N' scope C B H fp) elt te)
  (hw:WT (.ListComp elt [⟨target,iter,ifs,0⟩] scope pos) (some (.Name x pos')) pos2.line X.env=pure true:=by rfl) (hs:∀x,VJ iter X.env x=pure x:=by intro _;rfl)
  (hf:X.fn x=true∨X.env.scope.names.lookup x=some .local:=by first|exact .inl rfl|exact .inr rfl|assumption):PS X (.Assign [.Name x pos'] (.ListComp elt [⟨target,iter,ifs,0⟩] scope pos) pos2) (Fy (Hk cap wi g tt te) (tH i)):=by
 intro pins s σ H Dn I h;rw[aam];refine gD (Xi ?_);rw[show Xj [.Name x pos'] (.ListComp elt [⟨target,iter,ifs,0⟩] scope pos) pos2.line X.env=pure true from hw];refine gD (S7 ?_);rw[Tz rfl,arm_evalThenUse_ListComp];refine gD (gD (Z9 (use:=some _) rfl hs (lV λy hy hk=>I.ok.has y.1 (O.free y hy hk)) O.kind O.nm (thn (z pins s σ H _ I h) λv Z h1=>thn h1 λa3 s2 h2=>?_)));obtain⟨it,fp,tn,J,H2,e,I2,T,a0,f2,cw⟩:=h2;subst e;refine zO (RR:=λacc C=>compPost (model X.prog X.w) X.A X.xe (some _) _ acc C) hc O I2 T a0 f2 (λC=>hg C _ _ _) (λC=>U C _ _ _) (λC=>V C _ _ _) cw ?_;intro D C s' H' ys its n F hD hC a1 I' rv q;obtain⟨hz,q⟩:=q;have nD:=(I'.pin (D,lobj its n) (Tc _ Ur)).2.1;refine thn (CK (ob:=.lst ys) (Dn:=Dn) (pos':=pos') I2 f2 hD hC a1 I' (λh' e=>⟨hz,its,n,rv,e⟩) hN hi Y hf (q D nD)) λ_ a2 ⟨m,h1,h2⟩=>⟨m,h1,λh' sb=>S7 (S7 (h2 h' sb))⟩
theorem J2{i:Nat}{x:Str}(hx:X.xe=NoX)(hc:X.calm=true)(hN:X.N.Nodup)(hi:X.N[i]? =some x)(Y:Loc X.env.scope x)(O:fU X.env.scope X.N N' scope cap)(z:PI X target iter wi)
  (hg:∀C B H fp,PG (bh X N' scope C B H fp) target g) (U:∀C B H fp,PTs (bh X N' scope C B H fp) ifs tt) (hk:∀C B H fp,PE (bh X N' scope C B H fp) kx tk) (V:∀C B H fp,PE (bh X N' scope C B H fp) vx tv)
  (hw:WT (.DictComp kx vx [⟨target,iter,ifs,0⟩] scope pos) (some (.Name x pos')) pos2.line X.env=pure true:=by rfl) (hs:∀x,VJ iter X.env x=pure x:=by intro _;rfl)
  (hf:X.fn x=true∨X.env.scope.names.lookup x=some .local:=by first|exact .inl rfl|exact .inr rfl|assumption):PS X (.Assign [.Name x pos'] (.DictComp kx vx [⟨target,iter,ifs,0⟩] scope pos) pos2) (Fy (Fo cap wi g tt tk tv) (tH i)):=by
 intro pins s σ H Dn I h;rw[aam];refine gD (Xi ?_);rw[show Xj [.Name x pos'] (.DictComp kx vx [⟨target,iter,ifs,0⟩] scope pos) pos2.line X.env=pure true from hw];refine gD (S7 ?_);rw[Tz rfl,arm_evalThenUse_DictComp];refine gD (gD (Z9 (use:=some _) rfl hs (lV λy hy hk=>I.ok.has y.1 (O.free y hy hk)) O.kind O.nm (thn (z pins s σ H _ I h) λv Z h1=>thn h1 λa3 s2 h2=>?_)));obtain⟨it,fp,tn,J,H2,e,I2,T,a0,f2,cw⟩:=h2;subst e;refine yh (RR:=λacc C=>compPost (model X.prog X.w) X.A X.xe (some _) _ acc C) hc O I2 T a0 f2 (λC=>hg C _ _ _) (λC=>U C _ _ _) (λC=>hk C _ _ _) (λC=>V C _ _ _) cw ?_;intro D C s' H' ys its o F hD hC a1 I' rv dk q;obtain⟨hz,q⟩:=q;have nD:=(I'.pin (D,o) (Tc _ Ur)).2.1;refine thn (CK (ob:=.dK ys) (Dn:=Dn) (pos':=pos') I2 f2 hD hC a1 I' (λh' e=>⟨hz,beq_eq_false_iff_ne.mpr (U0 (T4 (T6 I2.big hD))),its,rv,dk.at e⟩) hN hi Y hf (q D nD)) λ_ a2 ⟨m,h1,h2⟩=>⟨m,h1,λh' sb=>S7 (S7 (h2 h' sb))⟩
end
theorem uO:∀(more:List (Key×V)){kvs:List (Key×V)}{vs z:List (Key×Value)},KV kvs vs->KV more z->KV (putAll kvs more) (merged vs z)
 |[],kvs,vs,_,r,.nil=>r
 |p::m,kvs,vs,_::z,r,.cons h q=>by
  have e1:putAll kvs (p::m)=putAll (putK kvs p.1 p.2) m:=rfl;rw[e1];have:=uO m (r.put p.1 h.2) q;rw[h.1]at this;rw[h.1];exact this
def Bf:V->List V->Hp->VK->Prop:=λx vs H Q=>∃D kvs,x= .ref D/\H D=some (.dK kvs)/\
 ((∃l ys prs,vs=[.ref l]/\H l=some (.lst ys)/\V8 prs=V8 ys/\kvs.length+V8 prs<=50000/\(∀(j:Nat)(k:Key)(v:V),prs[j]? =some (k,v)->∃p:Addr,ys[j]? =some (V.ref p)/\H p=some (.tup [kV k,v]))/\Q .non (upd H D (.dK (putAll kvs prs))))∨
  (∃o more,vs=[.ref o]/\o≠D/\H o=some (.dK more)/\kvs.length+more.length<=50000/\Q .non (upd H D (.dK (putAll kvs more)))))
theorem Dg(O:X.calm=true):MtM X "dict.update" Bf:=by
 intro pins s σ H x vs v us Q I rx U h;obtain⟨D,kvs,rfl,hD,h⟩:=h;cases rx;have hh:X.A.handled=none:=I.ok.hd O;have b0:200000<=Te:=by decide
 obtain⟨z,a7,ds,rel,dd⟩:=sU I.hok hD;rcases h with⟨l,ys,prs,rfl,Y,Z,hsz,N,q⟩|⟨o,more,rfl,B,hO,hsz,q⟩
 .obtain⟨u,rfl,ru⟩:=U.one
  cases ru;obtain⟨_,its,n,b2,el⟩:=(show bB X.prog X.w _ _ l (.lst ys)from I.hok l _ Y);have a5:s.TypeIs (.ref l) "list":=⟨_,el,rfl⟩;refine Xw abt dd.typeIs abf (aa0 _ _) (S:=λA R s'=>A=X.A/\s'=s/\∀s2,Inv X pins σ (upd H D (.dK (putAll kvs prs))) s2->R (.ok (.ret .none)) s2) ?_ ⟨rfl,rfl,λs2 I2=>⟨.non,_,I2,rfl,q⟩⟩;rintro A R s' ⟨rfl,rfl,k⟩;unfold Builtin.«dict.update»;refine gD ?_;unfold Builtin.Dict.selfAndRest;refine gD (aaL dd.typeIs ?_);show wpAny _ _ (pure (D,[Um l])) _ _ _;refine S7 ?_;show wpAny _ _ (aaj "dict.update" D (.ref l) [] .none) _ _ _;unfold aaj;refine gD (Xa a5 ?_);rw[Tz (by decide)];refine gD (rR (show X.A.in1.handled=none from hh) el λh2 a0 a3=>?_);rw[Tz (by rfl)];have I2:Inv X pins σ H {s' with heap:=h2,toks:=a0}:=I.kept (t':=a0) a3;obtain⟨a8,b1,p2,_⟩:=I2.list (SqL.of Y);refine gD (Wj (gD (ZV p2.isList ?_)));have I3:Inv X pins σ H {s' with heap:=h2.push {cls:=.type "list_iterator",data:=.fields #[.ref l,.int 0 0]},toks:=a0}:=I2.kept (t':=a0) λb o e=>S_ _ e;have a6:jl X pins H h2.objs.size:=I2.fpOk (Tg _) (I2.hok.fresh (Tg _));refine S7 ⟨WD F.plain_dict_update_loop _,?_⟩;refine Dw (A:=X.A) (l:=l) (xs:=ys) (prs:=prs) hh Z ys.length 0 kvs _ _ rfl (WQ _) I3 hD (SqL.of Y) a6 ⟨_,TV _ rfl,rfl,rfl⟩ N (by omega) λs2 I4=>?_;rw[aaM]at I4;exact k s2 I4
 .obtain⟨u,rfl,ru⟩:=U.one
  cases ru;obtain⟨z2,a2,ms,a1,a4⟩:=sU I.hok hO;have l1:=rel.length;have l2:=a1.length;refine Xw abt dd.typeIs abf (aa0 _ _) (meets_dict_update (aY X.prog X.w) D o (U0 B) a2) ⟨ds,ms,dd,a4,by omega,λh' d1 d2 sb=>?_⟩;have V:∃q,h'.get? D=some q:=let⟨q,_,_,hq,_⟩:=d1;⟨q,hq⟩;have a9:=tQ more kvs;exact⟨.non,_,jC (t':=s.toks) I (by rw[hD];exact Vc) sb V (tu (by omega) a7 (uO more rel a1) d1),rfl,q⟩
end Jb
namespace PySem
open PySem.Builtin PySem.Builtin.SmallTypes
def wu(id:String):Builtin:=λargs=>do
 let x ←slotArgs "__next__" 0 args
 match x with
 |(self,snd)=>do
  let seq ←field self 0
  let q:Unit->Sem acj:=λ_=>do
   let y ←field self 1
   match y with
   |Zu i tok=>do
    let z ←aao seq
    match z with
    |some xs=>
     match xs[i.toNat]? with
     |some v=>do
      setField self 1 (Vh (i+1))
      ret v
     |none=>do
      rule (toString id++toString ".end")
      setField self 0 Uv
      ZP
    |_=>Zt (toString "internal:"++toString id)
   |_=>Zt (toString "internal:"++toString id)
  if(seq==Uv)=true then do
   rule (toString id++toString ".ended")
   let r ←ZP
   q r
  else q ()
theorem pY:Builtin.«tuple_iterator.__next__»=wu "tuple_iterator.__next__":=rfl
section
variable{prog:Program}{w:World}{A:Around}{E:Value->Shared->Prop}{it t:Addr}{i:Nat}{items:Array Value}{h:Heap}{g:Array GenState}{d:Drawn}{tk:Nat}{os:OsState}
theorem oh{x:Value}{Q:Value->S6->Prop}(st:h.IsTupleIter it t i)(p:h.IsTuple t items)(q:items[i]? =some x)
  (N:∀h',h'.IsTupleIter it t (i+1)->Wi it h h'->Q x ⟨h',g,d,tk,os⟩):wpAny (model prog w) A (W7 (.ref it)) Q E ⟨h,g,d,tk,os⟩:=by
 have z:(⟨h,g,d,tk,os⟩:S6).TypeIs (.ref it) "tuple_iterator":=st.typeIs;unfold W7;refine gD (Vj z Vy ?_);obtain⟨o,B,O,hd⟩:=st;obtain⟨I,h1,h2,n,V⟩:=p
 repeat(any_goals(first|assumption|wp_step))
 refine Vv Vy.plain Zz (Vy.check _ _ _ _ _ _ _ _ z (Zq _) ?_);rw[pY];unfold wu
 repeat(any_goals(first|assumption|wp_step))
 rw[hd];refine S7 (S7 ?_);show wpAny _ _ (if(Um t==Uv)=true then _ else _) _ _ _;rw[show(Um t==Uv)=false from rfl,TQ Uk]
 repeat(any_goals(first|assumption|wp_step))
 rw[hd];refine S7 (S7 ?_);show wpAny _ _ (aao (Um t) >>=_) _ _ _;refine gD (aaK h1 V ?_);dsimp only;have hi:(i:Int).toNat=i:=VL i;rw[hi,q];dsimp only;refine gD (wpAny_setField B hd (by show 1<2;decide) ?_);refine S7 ?_;dsimp only;refine S7 (N _ ?_ ⟨abZ ..,λb U=>U9 h _ (U0 U)⟩);refine⟨_,Wc _ B (aaJ (Zy hd _)),(abK ..).trans O,?_⟩;rw[Zy hd];have e1:(((i+1:Nat)):Int)=(i:Int)+1:=by omega
 rw[e1];rfl
theorem Gi{α:Type}{Q:α->S6->Prop}(N:A.handled=none)
  (B:∀h' e,(∀b o,h.get? b=some o->h'.get? b=some o)->(∃o,h'.get? e=some o/\o.cls= .type "StopIteration")->E (.ref e) ⟨h',g,d,tk,os⟩):wpAny (model prog w) A (ZP:Sem α) Q E ⟨h,g,d,tk,os⟩:=by
 unfold ZP
 repeat(any_goals(first|assumption|wp_step))
 unfold raiseNew;refine gD (ZM ?_);rw[N];dsimp only;exact YF (B _ _ (λb o e=>S_ _ (S_ _ e)) ⟨_,TV _ rfl,rfl⟩)
theorem jw{Q:Value->S6->Prop}(N:A.handled=none)(st:h.IsTupleIter it t i)(p:h.IsTuple t items)(Y:items[i]? =none)
  (Z:∀h' e,Heap.ExtBut it h h'->(∃o,h'.get? e=some o/\o.cls= .type "StopIteration")->E (.ref e) ⟨h',g,d,tk,os⟩):wpAny (model prog w) A (W7 (.ref it)) Q E ⟨h,g,d,tk,os⟩:=by
 have z:(⟨h,g,d,tk,os⟩:S6).TypeIs (.ref it) "tuple_iterator":=st.typeIs;unfold W7;refine gD (Vj z Vy ?_);obtain⟨o,B,O,hd⟩:=st;obtain⟨I,h1,h2,n,h3⟩:=p
 repeat(any_goals(first|assumption|wp_step))
 refine Vv Vy.plain Zz (Vy.check _ _ _ _ _ _ _ _ z (Zq _) ?_);rw[pY];unfold wu
 repeat(any_goals(first|assumption|wp_step))
 rw[hd];refine S7 (S7 ?_);show wpAny _ _ (if(Um t==Uv)=true then _ else _) _ _ _;rw[show(Um t==Uv)=false from rfl,TQ Uk]
 repeat(any_goals(first|assumption|wp_step))
 rw[hd];refine S7 (S7 ?_);show wpAny _ _ (aao (Um t) >>=_) _ _ _;refine gD (aaK h1 h3 ?_);dsimp only;have hi:(i:Int).toNat=i:=VL i;rw[hi,Y];dsimp only;refine gD (Wj ?_);refine gD (wpAny_setField B hd (by show 0<2;decide) ?_);refine Gi (show A.in1.handled=none from N) λh' e old V=>?_;exact Z h' e (λb ob U q=>old b ob ((U9 h _ (U0 U)).trans q)) V
theorem Draws.tuple(N:A.handled=none)(it t:Addr)(Z:t≠it)(items:Array Value):Draws prog w A it [it,t] items.size (λi v=>items[i]? =some v) λi h=>h.IsTupleIter it t i/\h.IsTuple t items where
 live:=λi h st=>let⟨o,ho,_⟩:=st.1;⟨o,ho⟩
 frame:=λi h h' st k=>⟨st.1.at λo e=>k it (by simp) o e,let⟨o,h1,h2⟩:=st.2;⟨o,k t (by simp) o h1,h2⟩⟩
 item:=λi s Q E hi st k=>by
  obtain⟨h,g,d,tk,os⟩:=s;refine oh st.1 st.2 (x:=items[i]) (by simp[hi]) λh' Y I=>k _ h' tk (by simp[hi]) ⟨Y,?_⟩ I;obtain⟨o,h1,h2⟩:=st.2;exact⟨o,(I.2 t Z).trans h1,h2⟩
 done:=λs Q E st k=>by
  obtain⟨h,g,d,tk,os⟩:=s;exact jw N st.1 st.2 (by simp) λh' e q V=>k h' e q V
theorem Draws.tupleEnd(N:A.handled=none)(it t:Addr)(i:Nat)(items:Array Value)(F:items[i]? =none):Draws prog w A it [it,t] i (λ_ _=>False) λj h=>j=i/\h.IsTupleIter it t i/\h.IsTuple t items where
 live:=λj h st=>let⟨o,ho,_⟩:=st.2.1;⟨o,ho⟩
 frame:=λj h h' st k=>⟨st.1,st.2.1.at λo e=>k it (by simp) o e,let⟨o,h1,h2⟩:=st.2.2;⟨o,k t (by simp) o h1,h2⟩⟩
 item:=λj s Q E V st k=>absurd st.1 (T4 V)
 done:=λs Q E st k=>by
  obtain⟨h,g,d,tk,os⟩:=s;exact jw N st.2.1 st.2.2 F λh' e q z=>k h' e q z
theorem qT{Q:acj->S6->Prop}(N:h.IsTuple t items)
  (B:Q (.done (.ret (.ref (h.objs.size+1)))) ⟨(h.push {cls:=.type "tuple_iterator",data:=.fields #[.ref t,.int 0 0]}).push {cls:=.type "enumerate",data:=.fields #[.none,.bool false,.ref h.objs.size,Vh 0,.none,.none]},g,d,tk,os⟩) :
  wpAny (model prog w) A (Builtin.«enumerate.__new__» ⟨[.type "enumerate",.ref t],[]⟩) Q E ⟨h,g,d,tk,os⟩:=by
 have I:=sub_enumerate
 repeat(any_goals(first|assumption|wp_step))
 refine wpAny_stack λst _ _ _=>?_;refine S7 ?_;have V:wpAny (model prog w) A (do let it ←aaC (.ref t);let r ←ace (V9 "enumerate") (abC++[it,Vh 0,Uv,Uv]);ret r) Q E ⟨h,g,d,tk,os⟩:=by
  refine gD (wpAny_pyIter_tuple N ?_)
  repeat(any_goals(first|assumption|wp_step))
  rw[VF];exact B
 dsimp only;split
 .split
  .refine gD (Xo (a:=(Um t,none)) (by rfl) ?_)
   exact V
  .refine gD (Xo (a:=(Um t,none)) (by rfl) ?_)
   exact V
 .rw[TQ (by decide)]
  refine gD (Xo (a:=(Um t,none)) (by rfl) ?_);exact V
theorem lq{Q:Value->S6->Prop}(N:h.IsTuple t items)
  (B:∀h',IsEnum h' (h.objs.size+1) h.objs.size 0 .none->h'.IsTupleIter h.objs.size t 0->h'.objs.size=h.objs.size+2->(∀b o,h.get? b=some o->h'.get? b=some o)->Q (.ref (h.objs.size+1)) ⟨h',g,d,tk,os⟩) :
  wpAny (model prog w) A (call (.type "enumerate") [.ref t]) Q E ⟨h,g,d,tk,os⟩:=by
 have e1:((h.push {cls:=.type "tuple_iterator",data:=.fields #[.ref t,.int 0 0]}).push {cls:=.type "enumerate",data:=.fields #[.none,.bool false,.ref h.objs.size,Vh 0,.none,.none]}).get? (h.objs.size+1)=some {cls:=.type "enumerate",data:=.fields #[.none,.bool false,.ref h.objs.size,Vh 0,.none,.none]}:=by
  rw[←VF h {cls:=.type "tuple_iterator",data:=.fields #[.ref t,.int 0 0]}];exact TV _ rfl
 refine callType_newIn F.called_enumerate (by decide) (F.typeCall_enumerate_1 _) (F.newCall_enumerate_1 _) (λobj=>F.args_object_init_2 _ _) F.entry_enumerate_new (S:=λV R s'=>s'=⟨h,g,d,tk,os⟩/\R (.ok (.ret (.ref (h.objs.size+1)))) ⟨(h.push {cls:=.type "tuple_iterator",data:=.fields #[.ref t,.int 0 0]}).push {cls:=.type "enumerate",data:=.fields #[.none,.bool false,.ref h.objs.size,Vh 0,.none,.none]},g,d,tk,os⟩) ?_ ⟨rfl,⟨⟨_,e1,rfl⟩,B _ e1 ⟨_,S_ _ (TV _ rfl),rfl,rfl⟩ (by rw[VF,VF]) λb o e=>S_ _ (S_ _ e)⟩⟩;rintro V R s' ⟨rfl,q⟩;exact qT N q
end
end PySem
namespace Jb
open PySem PySem.Spec PyProof.Rows L2
def Qk(K:Tn)(a:Addr):It:=
 ⟨λi H=>∃xs x,SqT K H a xs/\xs[i]? =some x,λi H x H'=>∃p v,H p=none/\x= .ref p/\(∀xs,SqT K H a xs->xs[i]? =some v)/\H'=upd H p (.tup [.int i,v]),λi H=>∃xs,SqT K H a xs/\xs.length<=i⟩
theorem zq{K:Tn}{x1}(a e it:Addr)(a2:e≠it)(a6:e≠a)(b1:it≠a) :
  Turn P w K (.Tuple elts x1 pos) (Qk K a) [e,it] e (λi h=>(∃old,IsEnum h e it (i:Int) old)/\h.IsTupleIter it a i)where
 mem:=by simp
 obj:=λi h st b U=>by
  obtain⟨⟨old,V⟩,o,B,c,d⟩:=st;rcases Tf.mp U with z|z
  .subst z
   exact⟨_,V,λv z=>by cases z⟩
  .have z:b=it:=by simpa using z
   subst z;exact⟨o,B,λv z=>by rw[d]at z;cases z⟩
 keep:=λi h h' st k=>by
  obtain⟨⟨old,V⟩,a0⟩:=st;exact⟨⟨old,k e (by simp) _ V⟩,a0.at λo q=>k it (by simp) o q⟩
 item:=by
  intro X hP N hK O i pins s σ H E I Z st hg;subst hP N hK;obtain⟨xs,x,hq,F⟩:=hg;obtain⟨its,rv,p,hz⟩:=I.tuple hq;obtain⟨u,hu,ru⟩:=rv.get F;obtain⟨⟨old,V⟩,a0⟩:=st;have a5:i<its.toArray.size:=by simp;exact(List.getElem?_eq_some_iff.mp hu).1
  have p':s.heap.IsTuple a its.toArray:=p;refine wpAny_pyNext_enum_itemD (Draws.tuple (show X.A.in1.handled=none from I.ok.hd O) it a (U0 b1) its.toArray) V ⟨a0,p'⟩ a5 a2 (λz=>by rcases Tf.mp z with q|q;exact a2 q;exact a6 (Ti.mp q)) λy h1 tk hy b0 a4 a8 b3 k1=>?_;have ey:y=u:=by
   have:its[i]? =some y:=by simpa using hy
   rw[hu]at this;exact(UG this).symm
  subst ey;refine⟨.ref s.heap.objs.size,rfl,ZL b0 λh2 a9 a1=>?_⟩;have b2:e<s.heap.objs.size:=TJ V;have a3:s.heap.objs.size≠e:=W_ b2;have a7:h2.get? s.heap.objs.size=some {cls:=.type "tuple",data:=.seq #[.int i tk,y]}:=a1.extBut _ _ a3 a8;have I2:Inv X pins σ (upd H s.heap.objs.size (.tup [.int i,x])) {s with heap:=h2,toks:=tk+1}:=by
   refine yx (fp:=[e,it]) (t':=tk+1) I Z (λb o U q=>?_) (Tg _) ?_
   .have n1:b≠e:=λz=>U (by simp[z])
    have n2:b≠it:=λz=>U (by simp[z]);exact a1.extBut b o n1 (k1 b o n1 n2 q)
   .exact⟨by show 2<=Te;decide,[.int i tk,y],.cons ⟨_,rfl⟩ (.cons ru .nil),_,a7,rfl,_,rfl,rfl⟩
  refine⟨.ref s.heap.objs.size,upd H s.heap.objs.size (.tup [.int i,x]),I2,rfl,⟨_,x,I.hok.fresh (Tg _),rfl,λys hy=>by rw[I.tuple_inj hy hq];exact F,rfl⟩,?_,λb U=>?_⟩
  .refine⟨⟨y,?_⟩,a4.1.extBut a1.extBut (U0 a2)⟩
   have e1:(((i+1:Nat)):Int)=(i:Int)+1:=by omega
   rw[e1];exact a9
  .rw[aH]
   .exact(Z b U).1
   .intro z
    rw[z]at U;rcases Tf.mp U with q|q
    .exact a3 q
    .have q:s.heap.objs.size=it:=by simpa using q
     obtain⟨o,B,_⟩:=a0;exact absurd (TJ B) (by rw[q];exact Vq _)
 done:=by
  intro X hP N hK O i pins s σ H E I Z st hg;subst hP N hK;obtain⟨xs,hq,F⟩:=hg;obtain⟨its,rv,p,hz⟩:=I.tuple hq;obtain⟨⟨old,V⟩,a0⟩:=st;have Y:=rv.length;have p':s.heap.IsTuple a its.toArray:=p;refine wpAny_pyNext_enum_endD (Draws.tupleEnd (show X.A.in1.handled=none from I.ok.hd O) it a i its.toArray (by simp;omega)) V ⟨rfl,a0,p'⟩ λh1 eb=>⟨rfl,?_⟩;exact lH (fp:=[e,it]) (t':=s.toks) I Z λb o U q=>eb b o (λz=>U (by simp[z])) q
 self:=λA i s Q E st h=>by
  obtain⟨⟨old,V⟩,_⟩:=st;exact Yt V h
def Ja(K:Tn)(ta:TA):TI:=λσ H R=>ta σ H λvs H1=>∃a,vs=[.ref a]/\(((∃xs,SqL K H1 a xs)/\R (Ite K a) H1)∨((∃xs,SqT K H1 a xs)/\R (Qk K a) H1))
variable{X:Cx}{p:Pos}
theorem Jj{a:Expr}{ta:TA}{x1}(hg:Gl X "enumerate")(hm:X.mg "enumerate"=none)(Y:PA X [a] ta)(hs:Tj [a] X.env=[(false,eval a X.env)]:=by rfl):PI X (.Tuple elts x1 tpos) (.Call (.Name "enumerate" p) [a] [] pos) (Ja X.K ta):=by
 intro pins s σ H R I h;refine Call_ (mj I hg hm boot_enumerate (WW (thn (Y pos pins s σ H _ I h) λus Z ⟨vs,H1,F,r1,q1⟩=>?_) hs rfl));obtain⟨l,e,q⟩:=q1;subst e;obtain⟨u,rfl,ru⟩:=vals1 r1;cases ru;have fin:∀b∈[Z.heap.objs.size+1,Z.heap.objs.size],jl X pins H1 b:=λb U=>by
  have a1:Z.heap.objs.size<=b:=by
   rcases Tf.mp U with z|z
   .rw[z];exact Zr _
   .have z:b=Z.heap.objs.size:=by simpa using z
    rw[z];exact Tg _
  exact F.fpOk a1 (F.hok.fresh a1)
 rcases q with⟨⟨xs,B⟩,q⟩|⟨⟨xs,B⟩,q⟩
 .obtain⟨its,rv,pl,hz⟩:=F.list B
  refine call_enumerate_list pl.isList λh1 V a0 hsz k1=>?_;have I2:Inv X pins σ H1 {Z with heap:=h1}:=F.kept (t':=Z.toks) k1;refine Yt V ?_;exact⟨Z.heap.objs.size+1,[Z.heap.objs.size+1,Z.heap.objs.size],_,_,H1,rfl,I2,Ex l _ _ (ab0 _),⟨⟨_,V⟩,a0⟩,fin,q⟩
 .obtain⟨its,rv,pl,hz⟩:=F.tuple B
  have a2:Z.heap.IsTuple l its.toArray:=pl;have O:l<Z.heap.objs.size:=let⟨_,h1,_⟩:=a2;TJ h1;obtain⟨N,g,d,tk,os⟩:=Z;refine lq a2 λh1 V a0 hsz k1=>?_;have I2:Inv X pins σ H1 {heap:=h1,gens:=g,drawn:=d,toks:=tk,os:=os}:=F.kept (t':=tk) k1;refine Yt V ?_;exact⟨N.objs.size+1,[N.objs.size+1,N.objs.size],_,_,H1,rfl,I2,zq l _ _ (ab0 _) (W_ (Wv O)) (W_ O),⟨⟨_,V⟩,a0⟩,fin,q⟩
def Qu(K:Tn)(te:TE):TI:=λσ H R=>te σ H λx H1=>∃a,x= .ref a/\(((∃xs,SqL K H1 a xs)/\R (Itl K a) H1)∨((∃xs,SqT K H1 a xs)/\R (Itt K a) H1))
variable{te:TE}
theorem Nf(Y:PE X e te):PI X tg e (Qu X.K te):=by
 intro pins s σ H R I h;refine thn (Y pins s σ H _ I h) λv Z ⟨x,H1,F,z,q1⟩=>?_;obtain⟨a,ex,q⟩:=q1;subst ex;cases z;have fin:∀b∈[Z.heap.objs.size],jl X pins H1 b:=λb U=>by
  rw[Ti.mp U];exact F.fpOk (Tg _) (F.hok.fresh (Tg _))
 rcases q with⟨⟨xs,B⟩,q⟩|⟨⟨xs,B⟩,q⟩
 .obtain⟨its,rv,p,hz⟩:=F.list B
  refine ZV p.isList ?_;exact⟨Z.heap.objs.size,[Z.heap.objs.size],_,_,H1,rfl,F.kept (t':=Z.toks) λb o e=>S_ _ e,Ep a _,⟨_,TV _ rfl,rfl,rfl⟩,fin,q⟩
 .obtain⟨its,rv,p,hz⟩:=F.tuple B
  refine wpAny_pyIter_tuple (show Z.heap.IsTuple a its.toArray from p) ?_;exact⟨Z.heap.objs.size,[Z.heap.objs.size],_,_,H1,rfl,F.kept (t':=Z.toks) λb o e=>S_ _ e,Am a _,⟨_,TV _ rfl,rfl,rfl⟩,fin,q⟩
inductive Mk where
 |own|frz|brw|bro|scr
 deriving DecidableEq
inductive D where
 |non|bl (b:Bool)|int (i:Int)|str (x:Str)|ty (n:String)
 |tup (ds:List D)
 |lst (m:Mk) (ds:List D)
 |dct (m:Mk) (ks:List Key) (ds:List D)
 |ins (m:Mk) (c:Str) (fs:List Str) (ds:List D)
structure Gc where
 K:Tn
 mg:Str->Option Value
structure Wn where
 n:Addr->Prop
 s:Addr->Prop
 o:Addr->Prop
def Wn.free(W:Wn)(a:Addr):Prop:=¬W.n a/\¬W.s a/\¬W.o a
def KO(K:Tn)(a:Addr)(o:HO):Prop:=∃xs,o= .lst xs/\∃(ob:Obj)(its:Array Value)(n:Nat),K.lookup a=some ob/\ob.cls= .type "list"/\ob.dict=none/\ob.data= .seq its n/\its.size<=Te/\Vals xs its.toList
def b7(F:Addr->HO->Prop)(H:Hp)(W:Wn)(a:Addr)(o:HO):Mk->List Addr->List Addr->Prop
 |.own,L,M=>H a=some o/\L=a::M
 |.frz,L,M=>H a=some o/\W.free a/\M=[]/\L=[]
 |.brw,L,M=>H a=some o/\W.s a/\M=[]/\L=[]
 |.bro,L,M=>H a=some o/\M=[]/\L=[]
 |.scr,L,M=>((Rd H a o/\W.free a)∨F a o)/\M=[]/\L=[]
variable{H:Hp}{W:Wn}{o:HO}{m:Mk}
theorem b7.sub{F:Addr->HO->Prop}(h:b7 F H W a o m L M):Vs M L:=by
 cases m with
 |own=>rw[h.2];exact List.sublist_cons_self a M
 |frz=>rw[h.2.2.1];exact YT L
 |brw=>rw[h.2.2.1];exact YT L
 |bro=>rw[h.2.1];exact YT L
 |scr=>rw[h.2.1];exact YT L
theorem b7.rx{F:Addr->HO->Prop}(h:b7 F H W a o m L M):Rd H a o∨F a o:=by
 cases m with
 |own=>exact .inl (.inl h.1)
 |frz=>exact .inl (.inl h.1)
 |brw=>exact .inl (.inl h.1)
 |bro=>exact .inl (.inl h.1)
 |scr=>exact h.1.imp (λz=>z.1) id
variable{xs:List V}
theorem b7.sq{K:Tn}(h:b7 (KO K) H W a (.lst xs) m L M):SqL K H a xs:=by
 rcases h.rx with z|⟨ys,e,z⟩
 .exact .inl z
 .cases e
  exact .inr z
variable{kvs:List (Key×V)}
theorem b7.rdD{K:Tn}(h:b7 (KO K) H W a (.dK kvs) m L M):Rd H a (.dK kvs):=by
 rcases h.rx with z|⟨ys,e,z⟩
 .exact z
 .cases e
theorem b7.at{F:Addr->HO->Prop}(h:b7 F H W a o m L M)(N:m≠.scr):H a=some o:=by
 cases m with
 |own=>exact h.1
 |frz=>exact h.1
 |brw=>exact h.1
 |bro=>exact h.1
 |scr=>exact absurd rfl N
mutual
noncomputable def Rep(G:Gc)(H:Hp)(W:Wn):D->V->List Addr->Prop
 |.non,v,L=>v= .non/\L=[]
 |.bl b,v,L=>v= .bl b/\L=[]
 |.int i,v,L=>v= .int i/\L=[]
 |.str x,v,L=>v= .str x/\L=[]
 |.ty n,v,L=>v= .ty n/\L=[]
 |.tup ds,v,L=>∃a xs,v= .ref a/\H a=some (.tup xs)/\aC G H W ds xs L
 |.lst m ds,v,L=>∃a xs M,v= .ref a/\aC G H W ds xs M/\b7 (KO G.K) H W a (.lst xs) m L M
 |.dct m ks ds,v,L=>∃a kvs M,v= .ref a/\(List.map (·.1) kvs=ks/\ks.Nodup)/\aC G H W ds (List.map (·.2) kvs) M/\b7 (KO G.K) H W a (.dK kvs) m L M
 |.ins m c fs ds,v,L=>∃a C dx kvs M,v= .ref a/\G.mg c=some (.ref C)/\List.map (·.1) kvs=fs/\aC G H W ds (List.map (·.2) kvs) M/\b7 (KO G.K) H W a (.ins C dx kvs) m L M
noncomputable def aC(G:Gc)(H:Hp)(W:Wn):List D->List V->List Addr->Prop
 |[],xs,L=>xs=[]/\L=[]
 |d::r,xs,L=>∃x ys M M',xs=x::ys/\L=M++M'/\Rep G H W d x M/\aC G H W r ys M'
end
variable{G:Gc}
theorem aC.nil:aC G H W [] [] []:=by simp[aC]
theorem aC.cons{d:D}{r:List D}{x:V}{ys:List V}{M M':List Addr}(h:Rep G H W d x M)(t:aC G H W r ys M'):aC G H W (d::r) (x::ys) (M++M'):=by
 rw[aC];exact⟨x,ys,M,M',rfl,rfl,h,t⟩
variable{d:D}
theorem aC.one{x:V}(h:Rep G H W d x M):aC G H W [d] [x] M:=by
 have:=aC.cons h aC.nil;rwa[T3]at this
theorem aC.inv{r:List D}(h:aC G H W (d::r) xs L):∃x ys M M',xs=x::ys/\L=M++M'/\Rep G H W d x M/\aC G H W r ys M':=by
 rw[aC]at h;exact h
theorem aC.inv0(h:aC G H W [] xs L):xs=[]/\L=[]:=by
 rw[aC]at h;exact h
theorem aC.length:∀{ds:List D}{xs:List V}{L:List Addr},aC G H W ds xs L->ds.length=xs.length
 |[],xs,L,h=>by rw[h.inv0.1];rfl
 |d::r,xs,L,h=>by
  obtain⟨x,ys,M,M',rfl,_,_,h⟩:=h.inv;simp[aC.length h]
theorem aC.append:∀{ds es:List D}{xs ys:List V}{L M:List Addr},aC G H W ds xs L->aC G H W es ys M->aC G H W (ds++es) (xs++ys) (L++M)
 |[],es,xs,ys,L,M,h,h'=>by obtain⟨rfl,rfl⟩:=h.inv0;exact h'
 |d::r,es,xs,ys,L,M,h,h'=>by
  obtain⟨x,zs,A,B,rfl,rfl,h1,h2⟩:=h.inv;rw[V_];exact .cons h1 (aC.append h2 h')
theorem aC.split:∀{ds es:List D}{xs:List V}{L:List Addr},aC G H W (ds++es) xs L->∃ys zs A B,xs=ys++zs/\L=A++B/\aC G H W ds ys A/\aC G H W es zs B
 |[],es,xs,L,h=>⟨[],xs,[],L,rfl,rfl,.nil,h⟩
 |d::r,es,xs,L,h=>by
  obtain⟨x,zs,A,B,rfl,rfl,h1,h2⟩:=aC.inv (r:=r++es) h;obtain⟨ys,z,q,Z,rfl,rfl,O,F⟩:=aC.split h2;exact⟨x::ys,z,A++q,Z,rfl,by rw[V_],.cons h1 O,F⟩
variable{ds:List D}
theorem aC.at(h:aC G H W ds xs L)(e:ds[j]? =some d) :
  ∃A B x ys zs I M N,ds=A++d::B/\A.length=j/\xs=ys++x::zs/\ys.length=j/\L=I++(M++N)/\aC G H W A ys I/\Rep G H W d x M/\aC G H W B zs N:=by
 have q:j<ds.length:=(List.getElem?_eq_some_iff.mp e).1;have hd:ds=ds.take j++d::ds.drop (j+1):=by
  have:ds[j]=d:=(List.getElem?_eq_some_iff.mp e).2;rw[←this,VG,Wf]
 rw[hd]at h;obtain⟨ys,zs,A,B,rfl,rfl,h1,h2⟩:=aC.split h;obtain⟨x,z,M,M',rfl,rfl,O,F⟩:=h2.inv;have Y:(ds.take j).length=j:=by rw[Vu];omega
 exact⟨_,_,x,ys,z,A,M,M',hd,Y,rfl,by rw[←h1.length];exact Y,rfl,h1,O,F⟩
theorem aC.get(h:aC G H W ds xs L)(e:ds[j]? =some d):∃x M,xs[j]? =some x/\Rep G H W d x M/\Vs M L:=by
 obtain⟨A,B,x,ys,zs,I,M,N,_,_,rfl,Y,rfl,_,h,_⟩:=h.at e;exact⟨x,M,by rw[Vb (by omega),Y,Wq];rfl,h,(V5 M N).trans (UV I _)⟩
def muO:HO->Bool
 |.lst _=>true
 |.dK _=>true
 |.ins _ _ _=>true
 |_=>false
def Mu(H:Hp)(a:Addr):Prop:=∃o,H a=some o/\muO o=true
mutual
noncomputable def aB:D->Bool
 |.tup ds=>au ds
 |.lst m ds=>m != .brw&&au ds
 |.dct m _ ds=>m != .brw&&au ds
 |.ins m _ _ ds=>m != .brw&&au ds
 |_=>true
noncomputable def au:List D->Bool
 |[]=>true
 |d::r=>aB d&&au r
end
mutual
noncomputable def aA:D->Bool
 |.tup ds=>az ds
 |.lst m ds=>m != .bro&&az ds
 |.dct m _ ds=>m != .bro&&az ds
 |.ins m _ _ ds=>m != .bro&&az ds
 |_=>true
noncomputable def az:List D->Bool
 |[]=>true
 |d::r=>aA d&&az r
end
def clean(d:D):Bool:=aB d&&aA d
structure Evo(H H':Hp)(W W':Wn):Prop where
 k:∀b u,H b=some u->W.free b->H' b=some u/\W'.free b
 t:∀b xs,H b=some (.tup xs)->H' b=some (.tup xs)
def IW(H H':Hp)(W W':Wn):Prop:=∀b u,H b=some u->W.s b->H' b=some u/\W'.s b
variable{H':Hp}{W':Wn}
theorem Evo.rd(e:Evo H H' W W')(h:Rd H a o)(f:W.free a):Rd H' a o/\W'.free a:=by
 rcases h with h|⟨u,h⟩
 .exact⟨.inl (e.k a _ h f).1,(e.k a _ h f).2⟩
 .exact⟨.inr ⟨u,(e.k a _ h f).1⟩,(e.k a _ h f).2⟩
theorem b7.mono{F:Addr->HO->Prop}(e:Evo H H' W W')(h:b7 F H W a o m L M)(U:m≠.brw∨IW H H' W W')(B:m≠.bro∨Same H H')(V:∀c∈L,∀u,H c=some u->H' c=some u):b7 F H' W' a o m L M:=by
 cases m with
 |own=>exact⟨V a (by rw[h.2];simp) o h.1,h.2⟩
 |frz=>exact⟨(e.k a o h.1 h.2.1).1,(e.k a o h.1 h.2.1).2,h.2.2⟩
 |brw=>
  have q:=(U.resolve_left λz=>z rfl) a o h.1 h.2.1;exact⟨q.1,q.2,h.2.2⟩
 |bro=>exact⟨(B.resolve_left λz=>z rfl) a o h.1,h.2⟩
 |scr=>exact⟨h.1.imp (λz=>e.rd z.1 z.2) id,h.2⟩
theorem Same.rd(s:Same H H')(h:Rd H a o):Rd H' a o:=h.imp (s _ _) λ⟨u,z⟩=>⟨u,s _ _ z⟩
mutual
theorem Rep.mono(e:Evo H H' W W'):∀{d:D}{v:V}{L:List Addr},Rep G H W d v L->(aB d=true∨IW H H' W W')->(aA d=true∨Same H H')->(∀c∈L,∀u,H c=some u->H' c=some u)->Rep G H' W' d v L
 |.non,v,L,h,_,_,_=>by rw[Rep]at h⊢;exact h
 |.bl _,v,L,h,_,_,_=>by rw[Rep]at h⊢;exact h
 |.int _,v,L,h,_,_,_=>by rw[Rep]at h⊢;exact h
 |.str _,v,L,h,_,_,_=>by rw[Rep]at h⊢;exact h
 |.ty _,v,L,h,_,_,_=>by rw[Rep]at h⊢;exact h
 |.tup ds,v,L,h,b,o,hl=>by
  rw[Rep]at h⊢;obtain⟨a,xs,rfl,U,Z⟩:=h;exact⟨a,xs,rfl,e.t a xs U,aC.mono e Z (by simpa[aB]using b) (by simpa[aA]using o) hl⟩
 |.lst m ds,v,L,h,b,o,hl=>by
  rw[Rep]at h⊢;obtain⟨a,xs,M,rfl,Z,hs⟩:=h;exact⟨a,xs,M,rfl,aC.mono e Z (b.imp (λz=>by simp[aB]at z;exact z.2) id) (o.imp (λz=>by simp[aA]at z;exact z.2) id) λc O=>hl c (hs.sub.subset O),hs.mono e (b.imp (λz=>by simp[aB]at z;exact z.1) id) (o.imp (λz=>by simp[aA]at z;exact z.1) id) hl⟩
 |.dct m ks ds,v,L,h,b,o,hl=>by
  rw[Rep]at h⊢;obtain⟨a,xs,M,rfl,I,Z,hs⟩:=h;exact⟨a,xs,M,rfl,I,aC.mono e Z (b.imp (λz=>by simp[aB]at z;exact z.2) id) (o.imp (λz=>by simp[aA]at z;exact z.2) id) λc O=>hl c (hs.sub.subset O),hs.mono e (b.imp (λz=>by simp[aB]at z;exact z.1) id) (o.imp (λz=>by simp[aA]at z;exact z.1) id) hl⟩
 |.ins m c fs ds,v,L,h,b,o,hl=>by
  rw[Rep]at h⊢;obtain⟨a,C,dx,xs,M,rfl,B,I,Z,hs⟩:=h;exact⟨a,C,dx,xs,M,rfl,B,I,aC.mono e Z (b.imp (λz=>by simp[aB]at z;exact z.2) id) (o.imp (λz=>by simp[aA]at z;exact z.2) id) λc O=>hl c (hs.sub.subset O),hs.mono e (b.imp (λz=>by simp[aB]at z;exact z.1) id) (o.imp (λz=>by simp[aA]at z;exact z.1) id) hl⟩
theorem aC.mono(e:Evo H H' W W'):∀{ds:List D}{vs:List V}{L:List Addr},aC G H W ds vs L->(au ds=true∨IW H H' W W')->(az ds=true∨Same H H')->(∀c∈L,∀u,H c=some u->H' c=some u)->aC G H' W' ds vs L
 |[],vs,L,h,_,_,_=>by rw[aC]at h⊢;exact h
 |d::r,vs,L,h,b,o,hl=>by
  obtain⟨x,ys,M,M',rfl,rfl,h1,h2⟩:=h.inv;exact .cons (Rep.mono e h1 (b.imp (λz=>by simp[au]at z;exact z.1) id) (o.imp (λz=>by simp[az]at z;exact z.1) id) λb U=>hl b (Th _ U))
   (aC.mono e h2 (b.imp (λz=>by simp[au]at z;exact z.2) id) (o.imp (λz=>by simp[az]at z;exact z.2) id) λb U=>hl b (Tc _ U))
end
structure Up(H H':Hp)(W W':Wn):Prop where
 s:Same H H'
 f:∀b u,H b=some u->W.free b->W'.free b
 n:∀b u,H b=some u->W.s b->W'.s b
theorem Up.evo(u:Up H H' W W'):Evo H H' W W':=⟨λb o h f=>⟨u.s b o h,u.f b o h f⟩,λb xs h=>u.s b _ h⟩
theorem Up.evoN(u:Up H H' W W'):IW H H' W W':=λb o h f=>⟨u.s b o h,u.n b o h f⟩
theorem Up.refl:Up H H W W:=⟨Same.refl H,λ_ _ _ f=>f,λ_ _ _ f=>f⟩
variable{H2:Hp}{Z:Wn}
theorem Up.trans(a:Up H H' W W')(b:Up H' H2 W' Z):Up H H2 W Z:=⟨a.s.trans b.s,λc u h f=>b.f c u (a.s c u h) (a.f c u h f),λc u h f=>b.n c u (a.s c u h) (a.n c u h f)⟩
variable{v:V}
theorem Rep.up(h:Rep G H W d v L)(u:Up H H' W W'):Rep G H' W' d v L:=h.mono u.evo (.inr u.evoN) (.inr u.s) λc _ o e=>u.s c o e
theorem aC.up{d:List D}{v:List V}(h:aC G H W d v L)(u:Up H H' W W'):aC G H' W' d v L:=h.mono u.evo (.inr u.evoN) (.inr u.s) λc _ o e=>u.s c o e
def Wn.add(W:Wn)(L:List Addr):Wn:=⟨λa=>a∈L∨W.n a,W.s,W.o⟩
theorem Up.add(s:Same H H')(V:∀a∈L,H a=none):Up H H' W (W.add L):=⟨s,λb u h f=>⟨λz=>z.elim (λz=>by rw[V b z]at h;cases h) f.1,f.2⟩,λb u h f=>f⟩
theorem Up.same(s:Same H H'):Up H H' W W:=⟨s,λ_ _ _ f=>f,λ_ _ _ f=>f⟩
def mkV(ob:Bool):Mk->Mk
 |.own=>if ob then .bro else .brw
 |m=>m
def mkF:Mk->Mk
 |.scr=>.scr
 |_=>.frz
mutual
noncomputable def view(ob:Bool):D->D
 |.tup ds=>.tup (dw ob ds)
 |.lst m ds=>.lst (mkV ob m) (dw ob ds)
 |.dct m ks ds=>.dct (mkV ob m) ks (dw ob ds)
 |.ins m c fs ds=>.ins (mkV ob m) c fs (dw ob ds)
 |d=>d
noncomputable def dw(ob:Bool):List D->List D
 |[]=>[]
 |d::r=>view ob d::dw ob r
end
mutual
noncomputable def fz:D->D
 |.tup ds=>.tup (fzL ds)
 |.lst m ds=>.lst (mkF m) (fzL ds)
 |.dct m ks ds=>.dct (mkF m) ks (fzL ds)
 |.ins m c fs ds=>.ins (mkF m) c fs (fzL ds)
 |d=>d
noncomputable def fzL:List D->List D
 |[]=>[]
 |d::r=>fz d::fzL r
end
theorem eE(ob:Bool):∀ds:List D,dw ob ds=ds.map (view ob)
 |[]=>rfl
 |d::r=>by rw[dw,eE ob r];rfl
theorem gG:∀ds:List D,fzL ds=ds.map fz
 |[]=>rfl
 |d::r=>by rw[fzL,gG r];rfl
theorem b7.view{F:Addr->HO->Prop}{ob:Bool}(hn:ob=false->∀c∈L,W.s c)(h:b7 F H W a o m L M):b7 F H W a o (mkV ob m) [] []:=by
 cases m with
 |own=>
  cases ob with
  |false=>exact⟨h.1,hn rfl a (by rw[h.2];simp),rfl,rfl⟩
  |true=>exact⟨h.1,rfl,rfl⟩
 |frz=>exact⟨h.1,h.2.1,rfl,rfl⟩
 |brw=>exact⟨h.1,h.2.1,rfl,rfl⟩
 |bro=>exact⟨h.1,rfl,rfl⟩
 |scr=>exact⟨h.1,rfl,rfl⟩
mutual
theorem Rep.view{ob:Bool}:∀{d:D}{v:V}{L:List Addr},Rep G H W d v L->(ob=false->∀c∈L,W.s c)->Rep G H W (view ob d) v []
 |.non,v,L,h,_=>by rw[Rep]at h;simp[Jb.view,Rep,h]
 |.bl _,v,L,h,_=>by rw[Rep]at h;simp[Jb.view,Rep,h]
 |.int _,v,L,h,_=>by rw[Rep]at h;simp[Jb.view,Rep,h]
 |.str _,v,L,h,_=>by rw[Rep]at h;simp[Jb.view,Rep,h]
 |.ty _,v,L,h,_=>by rw[Rep]at h;simp[Jb.view,Rep,h]
 |.tup ds,v,L,h,hn=>by
  rw[Rep]at h;rw[Jb.view,Rep];obtain⟨a,xs,rfl,U,Z⟩:=h;exact⟨a,xs,rfl,U,aC.view Z hn⟩
 |.lst m ds,v,L,h,hn=>by
  rw[Rep]at h;rw[Jb.view,Rep];obtain⟨a,xs,M,rfl,Z,hs⟩:=h;exact⟨a,xs,[],rfl,aC.view Z λz c O=>hn z c (hs.sub.subset O),hs.view hn⟩
 |.dct m ks ds,v,L,h,hn=>by
  rw[Rep]at h;rw[Jb.view,Rep];obtain⟨a,xs,M,rfl,I,Z,hs⟩:=h;exact⟨a,xs,[],rfl,I,aC.view Z λz c O=>hn z c (hs.sub.subset O),hs.view hn⟩
 |.ins m c fs ds,v,L,h,hn=>by
  rw[Rep]at h;rw[Jb.view,Rep];obtain⟨a,C,dx,xs,M,rfl,B,I,Z,hs⟩:=h;exact⟨a,C,dx,xs,[],rfl,B,I,aC.view Z λz c O=>hn z c (hs.sub.subset O),hs.view hn⟩
theorem aC.view{ob:Bool}:∀{ds:List D}{vs:List V}{L:List Addr},aC G H W ds vs L->(ob=false->∀c∈L,W.s c)->aC G H W (dw ob ds) vs []
 |[],vs,L,h,_=>by obtain⟨rfl,_⟩:=h.inv0;rw[dw];exact .nil
 |d::r,vs,L,h,hn=>by
  obtain⟨x,ys,M,M',rfl,rfl,h1,h2⟩:=h.inv;rw[dw];exact .cons (M:=[]) (M':=[]) (Rep.view h1 λz c O=>hn z c (Th _ O)) (aC.view h2 λz c O=>hn z c (Tc _ O))
end
structure Les(H:Hp)(W W':Wn)(L:List Addr):Prop where
 f:∀a,W.free a->W'.free a
 l:∀a∈L,W'.free a
theorem Les.sub(h:Les H W W' L)(s:∀a∈M,a∈L):Les H W W' M:=⟨h.f,λa Y=>h.l a (s a Y)⟩
def lA(W:Wn):Prop:=∀a,W.free a
theorem b7.fz{F:Addr->HO->Prop}(hs:Les H W W' L)(hn:(m≠.brw/\m≠.bro)∨lA W')(h:b7 F H W a o m L M):b7 F H W' a o (mkF m) [] []:=by
 cases m with
 |own=>exact⟨h.1,hs.l a (by rw[h.2];simp),rfl,rfl⟩
 |frz=>exact⟨h.1,hs.f a h.2.1,rfl,rfl⟩
 |brw=>exact⟨h.1,hn.elim (λz=>absurd rfl z.1) λz=>z a,rfl,rfl⟩
 |bro=>exact⟨h.1,hn.elim (λz=>absurd rfl z.2) λz=>z a,rfl,rfl⟩
 |scr=>exact⟨h.1.imp (λz=>⟨z.1,hs.f a z.2⟩) id,rfl,rfl⟩
mutual
theorem Rep.fz:∀{d:D}{v:V}{L:List Addr},Rep G H W d v L->Les H W W' L->(clean d=true∨lA W')->Rep G H W' (fz d) v []
 |.non,v,L,h,_,_=>by rw[Rep]at h;simp[Jb.fz,Rep,h]
 |.bl _,v,L,h,_,_=>by rw[Rep]at h;simp[Jb.fz,Rep,h]
 |.int _,v,L,h,_,_=>by rw[Rep]at h;simp[Jb.fz,Rep,h]
 |.str _,v,L,h,_,_=>by rw[Rep]at h;simp[Jb.fz,Rep,h]
 |.ty _,v,L,h,_,_=>by rw[Rep]at h;simp[Jb.fz,Rep,h]
 |.tup ds,v,L,h,hs,c=>by
  rw[Rep]at h;rw[Jb.fz,Rep];obtain⟨a,xs,rfl,U,Z⟩:=h;exact⟨a,xs,rfl,U,aC.fz Z hs (c.imp (λz=>by simpa[clean,aB,aA]using z) id)⟩
 |.lst m ds,v,L,h,he,c=>by
  rw[Rep]at h;rw[Jb.fz,Rep];obtain⟨a,xs,M,rfl,Z,hs⟩:=h;exact⟨a,xs,[],rfl,aC.fz Z (he.sub λc O=>hs.sub.subset O) (c.imp (λz=>by simp[clean,aB,aA]at z;exact⟨z.1.2,z.2.2⟩) id),hs.fz he (c.imp (λz=>by simp[clean,aB,aA]at z;exact⟨z.1.1,z.2.1⟩) id)⟩
 |.dct m ks ds,v,L,h,he,c=>by
  rw[Rep]at h;rw[Jb.fz,Rep];obtain⟨a,xs,M,rfl,I,Z,hs⟩:=h;exact⟨a,xs,[],rfl,I,aC.fz Z (he.sub λc O=>hs.sub.subset O) (c.imp (λz=>by simp[clean,aB,aA]at z;exact⟨z.1.2,z.2.2⟩) id),hs.fz he (c.imp (λz=>by simp[clean,aB,aA]at z;exact⟨z.1.1,z.2.1⟩) id)⟩
 |.ins m c' fs ds,v,L,h,he,c=>by
  rw[Rep]at h;rw[Jb.fz,Rep];obtain⟨a,C,dx,xs,M,rfl,B,I,Z,hs⟩:=h;exact⟨a,C,dx,xs,[],rfl,B,I,aC.fz Z (he.sub λc O=>hs.sub.subset O) (c.imp (λz=>by simp[clean,aB,aA]at z;exact⟨z.1.2,z.2.2⟩) id),hs.fz he (c.imp (λz=>by simp[clean,aB,aA]at z;exact⟨z.1.1,z.2.1⟩) id)⟩
theorem aC.fz:∀{ds:List D}{vs:List V}{L:List Addr},aC G H W ds vs L->Les H W W' L->((au ds=true/\az ds=true)∨lA W')->aC G H W' (fzL ds) vs []
 |[],vs,L,h,_,_=>by obtain⟨rfl,_⟩:=h.inv0;rw[fzL];exact .nil
 |d::r,vs,L,h,he,c=>by
  obtain⟨x,ys,M,M',rfl,rfl,h1,h2⟩:=h.inv;rw[fzL];exact .cons (M:=[]) (M':=[]) (Rep.fz h1 (he.sub λc O=>Th _ O) (c.imp (λz=>by simp[clean,au,az]at z⊢;exact⟨z.1.1,z.2.1⟩) id))
   (aC.fz h2 (he.sub λc O=>Tc _ O) (c.imp (λz=>by simp[clean,au,az]at z⊢;exact⟨z.1.2,z.2.2⟩) id))
end
mutual
theorem yN:∀d:D,aB (Jb.fz d)=true
 |.non=>rfl|.bl _=>rfl|.int _=>rfl|.str _=>rfl|.ty _=>rfl
 |.tup ds=>by simp[Jb.fz,aB,fH ds]
 |.lst m ds=>by cases m<;>simp[Jb.fz,aB,fH ds,mkF]
 |.dct m _ ds=>by cases m<;>simp[Jb.fz,aB,fH ds,mkF]
 |.ins m _ _ ds=>by cases m<;>simp[Jb.fz,aB,fH ds,mkF]
theorem fH:∀ds:List D,au (fzL ds)=true
 |[]=>rfl
 |d::r=>by simp[fzL,au,yN d,fH r]
end
mutual
theorem xU:∀d:D,aA (Jb.fz d)=true
 |.non=>rfl|.bl _=>rfl|.int _=>rfl|.str _=>rfl|.ty _=>rfl
 |.tup ds=>by simp[Jb.fz,aA,fJ ds]
 |.lst m ds=>by cases m<;>simp[Jb.fz,aA,fJ ds,mkF]
 |.dct m _ ds=>by cases m<;>simp[Jb.fz,aA,fJ ds,mkF]
 |.ins m _ _ ds=>by cases m<;>simp[Jb.fz,aA,fJ ds,mkF]
theorem fJ:∀ds:List D,az (fzL ds)=true
 |[]=>rfl
 |d::r=>by simp[fzL,az,xU d,fJ r]
end
theorem Hc(d:D):clean (Jb.fz d)=true:=by simp[clean,yN,xU]
mutual
theorem Rep.dom:∀{d:D}{v:V}{L:List Addr},Rep G H W d v L->∀a∈L,Mu H a
 |.non,v,L,h=>by rw[Rep]at h;rw[h.2];simp
 |.bl _,v,L,h=>by rw[Rep]at h;rw[h.2];simp
 |.int _,v,L,h=>by rw[Rep]at h;rw[h.2];simp
 |.str _,v,L,h=>by rw[Rep]at h;rw[h.2];simp
 |.ty _,v,L,h=>by rw[Rep]at h;rw[h.2];simp
 |.tup ds,v,L,h=>by
  rw[Rep]at h;obtain⟨a,xs,rfl,q,Z⟩:=h;exact aC.dom Z
 |.lst m ds,v,L,h=>by
  rw[Rep]at h;obtain⟨a,xs,M,rfl,Z,hs⟩:=h;intro b U;cases m with
  |own=>
   rw[hs.2]at U;rcases Tf.mp U with z|z
   .rw[z];exact⟨_,hs.1,rfl⟩
   .exact aC.dom Z b z
  |frz=>rw[hs.2.2.2]at U;cases U
  |brw=>rw[hs.2.2.2]at U;cases U
  |bro=>rw[hs.2.2]at U;cases U
  |scr=>rw[hs.2.2]at U;cases U
 |.dct m ks ds,v,L,h=>by
  rw[Rep]at h;obtain⟨a,xs,M,rfl,I,Z,hs⟩:=h;intro b U;cases m with
  |own=>
   rw[hs.2]at U;rcases Tf.mp U with z|z
   .rw[z];exact⟨_,hs.1,rfl⟩
   .exact aC.dom Z b z
  |frz=>rw[hs.2.2.2]at U;cases U
  |brw=>rw[hs.2.2.2]at U;cases U
  |bro=>rw[hs.2.2]at U;cases U
  |scr=>rw[hs.2.2]at U;cases U
 |.ins m c fs ds,v,L,h=>by
  rw[Rep]at h;obtain⟨a,C,dx,xs,M,rfl,B,I,Z,hs⟩:=h;intro b U;cases m with
  |own=>
   rw[hs.2]at U;rcases Tf.mp U with z|z
   .rw[z];exact⟨_,hs.1,rfl⟩
   .exact aC.dom Z b z
  |frz=>rw[hs.2.2.2]at U;cases U
  |brw=>rw[hs.2.2.2]at U;cases U
  |bro=>rw[hs.2.2]at U;cases U
  |scr=>rw[hs.2.2]at U;cases U
theorem aC.dom:∀{ds:List D}{vs:List V}{L:List Addr},aC G H W ds vs L->∀a∈L,Mu H a
 |[],vs,L,h=>by rw[h.inv0.2];simp
 |d::r,vs,L,h=>by
  obtain⟨x,ys,M,M',rfl,rfl,h1,h2⟩:=h.inv;intro a Y;rcases S9.mp Y with z|z
  .exact Rep.dom h1 a z
  .exact aC.dom h2 a z
end
abbrev En:=List (Option D)
abbrev Ad:=Nat->List Addr
def Rel(G:Gc)(H:Hp)(W:Wn)(ob:Nat->Bool)(ρ:En)(σ:L2.St):Prop:=∀(i:Nat)(d:D),ρ[i]? =some (some d)->∃v L,σ[i]? =some (some v)/\Rep G H W d v L/\(ob i=false->∀c∈L,W.s c)
def WOk(H:Hp)(W:Wn):Prop:=∀a,W.n a∨W.s a∨W.o a->Mu H a
variable{ρ:En}{σ:L2.St}
theorem Rel.up(r:Rel G H W ob ρ σ)(u:Up H H' W W'):Rel G H' W' ob ρ σ:=λi d e=>let⟨v,L,h1,h2,h3⟩:=r i d e;⟨v,L,h1,h2.up u,λz c O=>let⟨o,ho,_⟩:=h2.dom c O;u.n c o ho (h3 z c O)⟩
theorem WOk.add(h:WOk H W)(s:Same H H')(V:∀a∈L,Mu H' a):WOk H' (W.add L):=λa Y=>by
 rcases Y with(z|z)|z
 .exact V a z
 .obtain⟨o,h1,h2⟩:=h a (.inl z);exact⟨o,s a o h1,h2⟩
 .obtain⟨o,h1,h2⟩:=h a (.inr z);exact⟨o,s a o h1,h2⟩
def wn(ob:Nat->Bool)(S:Ad)(Fr:Addr->Prop):Wn:=⟨Fr,λa=>∃i,ob i=false/\a∈S i,λa=>∃i,ob i=true/\a∈S i⟩
def inS(S:Ad)(a:Addr):Prop:=∃i,a∈S i
def inO(ob:Nat->Bool)(S:Ad)(a:Addr):Prop:=∃i,ob i=true/\a∈S i
def plus(M:List Addr)(Fr:Addr->Prop):Addr->Prop:=λa=>a∈M∨Fr a
structure Sta(G:Gc)(H:Hp)(ob:Nat->Bool)(ρ:En)(σ:L2.St)(S:Ad)(Fr:Addr->Prop):Prop where
 len:ρ.length=σ.length
 sl:∀(i:Nat)(d:D),ρ[i]? =some (some d)->∃v,σ[i]? =some (some v)/\Rep G H (wn ob S Fr) d v (S i)/\clean d=true
 em:∀i,(∀d,ρ[i]?≠some (some d))->S i=[]
 nd:∀i,(S i).Nodup
 dj:∀i j a,a∈S i->a∈S j->i=j
 fdj:∀i a,Fr a->a∉S i
 fdm:∀a,Fr a->Mu H a
section
variable{G:Gc}{H H':Hp}{ob:Nat->Bool}{ρ:En}{σ:L2.St}{S S':Ad}{Fr Fr':Addr->Prop}
theorem Sta.mu(s:Sta G H ob ρ σ S Fr){i:Nat}{a:Addr}(h:a∈S i):Mu H a:=by
 by_cases e:∃d,ρ[i]? =some (some d)
 .obtain⟨d,e⟩:=e
  obtain⟨v,_,r,_⟩:=s.sl i d e;exact r.dom a h
 .rw[s.em i λd z=>e ⟨d,z⟩]at h
  cases h
theorem Sta.wok(s:Sta G H ob ρ σ S Fr):WOk H (wn ob S Fr):=λa Y=>by
 rcases Y with z|⟨i,_,z⟩|⟨i,_,z⟩
 .exact s.fdm a z
 .exact s.mu z
 .exact s.mu z
theorem Sta.rel(s:Sta G H ob ρ σ S Fr):Rel G H (wn ob S Fr) ob ρ σ:=λi d e=>by
 obtain⟨v,h1,h2,_⟩:=s.sl i d e;exact⟨v,S i,h1,h2,λz c O=>⟨i,z,O⟩⟩
theorem Sta.grow(s:Sta G H ob ρ σ S Fr)(I:Same H H')(h1:∀a,Fr' a->Fr a∨(H a=none/\Mu H' a)):Sta G H' ob ρ σ S Fr' where
 len:=s.len
 sl:=λi d e=>by
  obtain⟨v,q1,q2,B⟩:=s.sl i d e;have O:aB d=true/\aA d=true:=by simpa[clean]using B
  have F:Evo H H' (wn ob S Fr) (wn ob S Fr'):=⟨λb u h f=>⟨I b u h,⟨λz=>(h1 b z).elim f.1 (λz=>by rw[z.1]at h;cases h),f.2⟩⟩,λb xs h=>I b _ h⟩;exact⟨v,q1,q2.mono F (.inl O.1) (.inl O.2) λc _ u e=>I c u e,B⟩
 em:=s.em
 nd:=s.nd
 dj:=s.dj
 fdj:=λi a h z=>by
  rcases h1 a h with q|q
  .exact s.fdj i a q z
  .obtain⟨o,ho,_⟩:=s.mu z
   rw[q.1]at ho;cases ho
 fdm:=λa h=>by
  rcases h1 a h with q|q
  .obtain⟨o,ho,hm⟩:=s.fdm a q
   exact⟨o,I a o ho,hm⟩
  .exact q.2
theorem Sta.lessF(s:Sta G H ob ρ σ S Fr)(h1:∀a,Fr' a->Fr a):Sta G H ob ρ σ S Fr':=s.grow (Same.refl H) λa h=>.inl (h1 a h)
end
def RfE(G:Gc)(ob:Nat->Bool)(t:TE)(f:En->Option D):Prop:=∀(ρ:En)(d:D),f ρ=some d->∀(σ:L2.St)(H:Hp)(W:Wn),Rel G H W ob ρ σ->WOk H W->∀Q:VK,
 (∀v H' L,Same H H'->Rep G H' (W.add L) d v L->(∀a∈L,H a=none)->L.Nodup->Q v H')->t σ H Q
def RfT(G:Gc)(ob:Nat->Bool)(t:TT)(f:En->Option Bool):Prop:=∀(ρ:En)(b:Bool),f ρ=some b->∀(σ:L2.St)(H:Hp)(W:Wn),Rel G H W ob ρ σ->WOk H W->∀Q:Bool->Hp->Prop,
 (∀H',Same H H'->Q b H')->t σ H Q
def RfA(G:Gc)(ob:Nat->Bool)(t:TA)(f:En->Option (List D)):Prop:=∀(ρ:En)(ds:List D),f ρ=some ds->∀(σ:L2.St)(H:Hp)(W:Wn),Rel G H W ob ρ σ->WOk H W->∀Q:List V->Hp->Prop,
 (∀vs H' L,Same H H'->aC G H' (W.add L) ds vs L->(∀a∈L,H a=none)->L.Nodup->Q vs H')->t σ H Q
structure Eff(ob:Nat->Bool)(H H':Hp)(S S':Ad)(M:List Addr):Prop where
 kp:∀b u,H b=some u->¬inO ob S b->H' b=some u
 sn:∀i,ob i=false->S' i=S i
 gr:∀i a,ob i=true->a∈S' i->inO ob S a∨H a=none
 fm:∀a∈M,inO ob S a∨H a=none
def j4(G:Gc)(ob:Nat->Bool)(t:TE)(f:En->Option (D×En)):Prop:=∀(ρ:En)(d:D)(I:En),f ρ=some (d,I)->∀(σ:L2.St)(H:Hp)(S:Ad)(Fr:Addr->Prop),Sta G H ob ρ σ S Fr->∀Q:VK,
 (∀v H' M S',Sta G H' ob I σ S' (plus M Fr)->Rep G H' (wn ob S' (plus M Fr)) d v M->M.Nodup->Eff ob H H' S S' M->Q v H')->t σ H Q
def wy(G:Gc)(ob:Nat->Bool)(t:TT)(f:En->Option (Bool×En)):Prop:=∀(ρ:En)(b:Bool)(I:En),f ρ=some (b,I)->∀(σ:L2.St)(H:Hp)(S:Ad)(Fr:Addr->Prop),Sta G H ob ρ σ S Fr->∀Q:Bool->Hp->Prop,
 (∀H' S',Sta G H' ob I σ S' Fr->Eff ob H H' S S' []->Q b H')->t σ H Q
def ye(G:Gc)(ob:Nat->Bool)(t:TA)(f:En->Option (List D×En)):Prop:=∀(ρ:En)(ds:List D)(I:En),f ρ=some (ds,I)->∀(σ:L2.St)(H:Hp)(S:Ad)(Fr:Addr->Prop),Sta G H ob ρ σ S Fr->∀Q:List V->Hp->Prop,
 (∀vs H' M S',Sta G H' ob I σ S' (plus M Fr)->aC G H' (wn ob S' (plus M Fr)) ds vs M->M.Nodup->Eff ob H H' S S' M->Q vs H')->t σ H Q
inductive Fl where
 |nx (ρ:En)|ret (d:D) (ρ:En)|brk (ρ:En)|cnt (ρ:En)
def zP(P:Nat->Bool)(σ F:L2.St):Prop:=∀i,P i=true->F[i]? =σ[i]?
variable{P:Nat->Bool}
theorem zP.refl:zP P σ σ:=λ_ _=>rfl
theorem zP.trans{B σ2:L2.St}(a:zP P σ B)(b:zP P B σ2):zP P σ σ2:=λi h=>(b i h).trans (a i h)
structure Mv(P:Nat->Bool)(H H':Hp)(σ σ':L2.St)(S S':Ad)(M:List Addr):Prop where
 kp:∀b u,H b=some u->¬inS S b->b∉M->H' b=some u
 gr:∀i a,a∈S' i->inS S a∨a∈M∨H a=none
 pr:zP P σ σ'
variable{S:Ad}
theorem Mv.trans{H1:Hp}{B σ2:L2.St}{S1 S2:Ad}(a:Mv P H H1 σ B S S1 M)(b:Mv P H1 H2 B σ2 S1 S2 []):Mv P H H2 σ σ2 S S2 M where
 kp:=λc u h n m=>b.kp c u (a.kp c u h n m) (λ⟨i,z⟩=>(a.gr i c z).elim n λz=>z.elim m λe=>by rw[h]at e;cases e) (by simp)
 gr:=λi c z=>by
  rcases b.gr i c z with⟨j,q⟩|q|q
  .exact a.gr j c q
  .cases q
  .by_cases h:inS S c
   .exact .inl h
   .by_cases hm:c∈M
    .exact .inr (.inl hm)
    .refine .inr (.inr ?_)
     cases e:H c with
     |none=>rfl
     |some u=>rw[a.kp c u e h hm]at q;cases q
 pr:=a.pr.trans b.pr
theorem Eff.mv{S':Ad}(e:Eff ob H H' S S' M):Mv P H H' σ σ S S' []where
 kp:=λb u h n _=>e.kp b u h λ⟨i,_,z⟩=>n ⟨i,z⟩
 gr:=λi a z=>by
  cases h:ob i with
  |false=>rw[e.sn i h]at z;exact .inl ⟨i,z⟩
  |true=>exact(e.gr i a h z).imp (λ⟨j,_,q⟩=>⟨j,q⟩) .inr
 pr:=.refl
def Aft(G:Gc)(ob P:Nat->Bool)(H:Hp)(σ:L2.St)(S:Ad)(Fr:Addr->Prop)(E:Ends):Fl->Prop
 |.nx I=>∀F H' S',Sta G H' ob I F S' Fr->Mv P H H' σ F S S' []->E.nx F H'
 |.brk I=>∀F H' S',Sta G H' ob I F S' Fr->Mv P H H' σ F S S' []->E.bk F H'
 |.cnt I=>∀F H' S',Sta G H' ob I F S' Fr->Mv P H H' σ F S S' []->E.ct F H'
 |.ret d I=>∀v F H' M S',Sta G H' ob I F S' (plus M Fr)->Rep G H' (wn ob S' (plus M Fr)) d v M->clean d=true->M.Nodup->(∀a∈M,inS S a∨H a=none)->Mv P H H' σ F S S' []->E.rt v H'
def RfS(G:Gc)(ob P:Nat->Bool)(t:TS)(f:En->Option Fl):Prop:=∀(ρ:En)(r:Fl),f ρ=some r->∀(σ:L2.St)(H:Hp)(S:Ad)(Fr:Addr->Prop),Sta G H ob ρ σ S Fr->∀E:Ends,Aft G ob P H σ S Fr E r->t E σ H
def RfG(G:Gc)(ob P:Nat->Bool)(g:TG)(f:D->En->Option En):Prop:=∀(d:D)(ρ I:En),f d ρ=some I->∀(v:V)(σ:L2.St)(H:Hp)(S:Ad)(M:List Addr)(Fr:Addr->Prop),Sta G H ob ρ σ S (plus M Fr)->Rep G H (wn ob S (plus M Fr)) d v M->M.Nodup->(∀a∈M,¬Fr a)->
 ∀Q:L2.St->Hp->Prop,(∀F H' S',Sta G H' ob I F S' Fr->Mv P H H' σ F S S' M->Q F H')->g v σ H Q
def Sw(G:Gc)(ob P:Nat->Bool)(g:TGs)(f:List D->En->Option En):Prop:=∀(ds:List D)(ρ I:En),f ds ρ=some I->∀(vs:List V)(σ:L2.St)(H:Hp)(S:Ad)(M:List Addr)(Fr:Addr->Prop),Sta G H ob ρ σ S (plus M Fr)->aC G H (wn ob S (plus M Fr)) ds vs M->M.Nodup->(∀a∈M,¬Fr a)->
 ∀Q:L2.St->Hp->Prop,(∀F H' S',Sta G H' ob I F S' Fr->Mv P H H' σ F S S' M->Q F H')->g vs σ H Q
structure PV{ι:Type}(X:ι->Cx)(G:Gc)(ob:Nat->Bool)(e:Expr)(f:En->Option D):Prop where
 mk::(ex:∃t,(∀c,PE (X c) e t)/\RfE G ob t f)
structure PVT{ι:Type}(X:ι->Cx)(G:Gc)(ob:Nat->Bool)(e:Expr)(f:En->Option Bool):Prop where
 mk::(ex:∃t,(∀c,PT (X c) e t)/\RfT G ob t f)
structure PVW{ι:Type}(X:ι->Cx)(G:Gc)(ob:Nat->Bool)(e:Expr)(f:En->Option Bool):Prop where
 mk::(ex:∃t,(∀c,PW (X c) e t)/\RfT G ob t f)
structure PVA{ι:Type}(X:ι->Cx)(G:Gc)(ob:Nat->Bool)(es:List Expr)(f:En->Option (List D)):Prop where
 mk::(ex:∃t,(∀c,PA (X c) es t)/\RfA G ob t f)
structure PVe{ι:Type}(X:ι->Cx)(G:Gc)(ob:Nat->Bool)(e:Expr)(f:En->Option (D×En)):Prop where
 mk::(ex:∃t,(∀c,PE (X c) e t)/\j4 G ob t f)
structure Av{ι:Type}(X:ι->Cx)(G:Gc)(ob:Nat->Bool)(e:Expr)(f:En->Option (Bool×En)):Prop where
 mk::(ex:∃t,(∀c,PT (X c) e t)/\wy G ob t f)
structure KN{ι:Type}(X:ι->Cx)(G:Gc)(ob:Nat->Bool)(e:Expr)(f:En->Option (Bool×En)):Prop where
 mk::(ex:∃t,(∀c,PW (X c) e t)/\wy G ob t f)
structure rm{ι:Type}(X:ι->Cx)(G:Gc)(ob:Nat->Bool)(es:List Expr)(f:En->Option (List D×En)):Prop where
 mk::(ex:∃t,(∀c,PA (X c) es t)/\ye G ob t f)
structure PVS{ι:Type}(X:ι->Cx)(G:Gc)(ob P:Nat->Bool)(st:Stmt)(f:En->Option Fl):Prop where
 mk::(ex:∃t,(∀c,PS (X c) st t)/\RfS G ob P t f)
structure oE{ι:Type}(X:ι->Cx)(G:Gc)(ob P:Nat->Bool)(st:List Stmt)(f:En->Option Fl):Prop where
 mk::(ex:∃t,(∀c,PSs (X c) st t)/\RfS G ob P t f)
structure PVG{ι:Type}(X:ι->Cx)(G:Gc)(ob P:Nat->Bool)(tg:Expr)(f:D->En->Option En):Prop where
 mk::(ex:∃t,(∀c,PG (X c) tg t)/\RfG G ob P t f)
theorem cA(h1:L.Nodup)(h2:M.Nodup)(O:∀a∈L,a∉M):(L++M).Nodup:=Tu.mpr ⟨h1,h2,λa Y b U e=>O a Y (e▸U)⟩
def Wn.drop(W:Wn)(L:List Addr):Wn:=⟨λa=>W.n a/\a∉L,W.s,W.o⟩
def Wn.tmp(W:Wn)(a:Addr):Prop:=W.n a/\¬W.s a/\¬W.o a
theorem WOk.tmp(w:WOk H W)(V:∀a∈L,H a=none):∀a∈L,(W.add L).tmp a:=λa Y=>by
 refine⟨.inl Y,λz=>?_,λz=>?_⟩
 .obtain⟨o,ho,_⟩:=w a (.inr (.inl z));rw[V a Y]at ho;cases ho
 .obtain⟨o,ho,_⟩:=w a (.inr (.inr z));rw[V a Y]at ho;cases ho
def Done(G:Gc)(H:Hp)(W:Wn)(O:List Addr)(d:D)(Q:VK):Prop:=∀v H' L,Same H H'->Rep G H' ((W.drop O).add L) d v L->(∀a∈L,a∈O∨H a=none)->L.Nodup->Q v H'
def OpV(G:Gc)(r:R2)(g:D->D->Option D):Prop:=∀(dx Y d:D),g dx Y=some d->∀(x y:V)(H:Hp)(W:Wn)(I O:List Addr),Rep G H W dx x I->Rep G H W Y y O->(I++O).Nodup->(∀a∈I++O,W.tmp a)->WOk H W->∀Q:VK,Done G H W (I++O) d Q->r x y H Q
def UnV(G:Gc)(r:V->Hp->VK->Prop)(g:D->Option D):Prop:=∀(dx d:D),g dx=some d->∀(x:V)(H:Hp)(W:Wn)(I:List Addr),Rep G H W dx x I->I.Nodup->(∀a∈I,W.tmp a)->WOk H W->∀Q:VK,Done G H W I d Q->r x H Q
def CaV(G:Gc)(r:List V->Hp->VK->Prop)(g:List D->Option D):Prop:=∀(ds:List D)(d:D),g ds=some d->∀(xs:List V)(H:Hp)(W:Wn)(O:List Addr),aC G H W ds xs O->O.Nodup->(∀a∈O,W.tmp a)->WOk H W->∀Q:VK,Done G H W O d Q->r xs H Q
def MtV(G:Gc)(r:V->List V->Hp->VK->Prop)(g:D->List D->Option D):Prop:=∀(dx:D)(ds:List D)(d:D),g dx ds=some d->∀(x:V)(xs:List V)(H:Hp)(W:Wn)(I O:List Addr),Rep G H W dx x I->aC G H W ds xs O->(I++O).Nodup->(∀a∈I++O,W.tmp a)->WOk H W->∀Q:VK,Done G H W (I++O) d Q->r x xs H Q
theorem WOk.new(w:WOk H W)(V:∀a∈L,H a=none)(h:W.n a):a∉L:=λz=>by
 obtain⟨o,B,_⟩:=w a (.inl h);rw[V a z]at B;cases B
variable{O:List Addr}{Q:VK}
theorem Done.scal(h:Done G H W O d Q)(r:∀W,Rep G H W d v []):Q v H:=h v H [] (Same.refl H) (r _) (by simp) List.nodup_nil
theorem _root_.L2.Same.none'(s:Same H H')(h:H' a=none):H a=none:=Same.free s h
variable{ta tb:TE}{fa fb:En->Option D}{R:V->V->Hp->Prop}
theorem RfE.two(Y:RfE G ob ta fa)(U:RfE G ob tb fb){dx dy:D}(e1:fa ρ=some dx)(e2:fb ρ=some dy)(r:Rel G H W ob ρ σ)(w:WOk H W)
  (h:∀x y H' L M,Same H H'->Rep G H' (W.add (L++M)) dx x L->Rep G H' (W.add (L++M)) dy y M->(∀a∈L++M,H a=none)->(L++M).Nodup->WOk H' (W.add (L++M))->R x y H'):ta σ H λx H1=>tb σ H1 λy H2=>R x y H2:=by
 refine Y ρ dx e1 σ H W r w _ λx H1 L Z rx fx nx=>?_;have F:Up H H1 W (W.add L):=.add Z fx;have w1:WOk H1 (W.add L):=w.add Z rx.dom;refine U ρ dy e2 σ H1 (W.add L) (r.up F) w1 _ λy H2 M O N I ny=>?_;have q:∀a∈L,a∉M:=λa h1 h2=>by
  obtain⟨o,B,_⟩:=rx.dom a h1;rw[I a h2]at B;cases B
 have eW:∀a,((W.add L).add M).n a↔(W.add (L++M)).n a:=λa=>by
  show(a∈M∨a∈L∨W.n a)↔(a∈L++M∨W.n a);rw[S9];constructor
  .rintro(z|z|z)
   .exact .inl (.inr z)
   .exact .inl (.inl z)
   .exact .inr z
  .rintro((z|z)|z)
   .exact .inr (.inl z)
   .exact .inl z
   .exact .inr (.inr z)
 have a0:(W.add L).add M=W.add (L++M):=by
  show Wn.mk _ _ _=Wn.mk _ _ _;congr 1;funext a;exact propext (eW a)
 have u2:Up H1 H2 (W.add L) (W.add (L++M)):=by rw[←a0];exact .add O I
 rw[a0]at N;refine h x y H2 L M (Z.trans O) (rx.up u2) N (λa Y=>?_) (cA nx ny q) ?_
 .rcases S9.mp Y with z|z
  .exact fx a z
  .exact Z.none' (I a z)
 .rw[←a0]
  exact w1.add O N.dom
def aq(b:Bool)(i:Nat):En->Option D:=λρ=>match ρ[i]? with
 |some (some d)=>some (view b d)
 |_=>none
def eC(d:D):En->Option D:=λ_=>some d
theorem pU(W:Wn):W.add []=W:=by
 cases W;simp[Wn.add]
theorem Pg:RfE G ob (xj i) (aq (ob i) i):=λρ d e σ H W r w Q q=>by
 unfold aq at e;split at e
 .rename_i d0 e0
  cases e;obtain⟨v,L,h1,h2,O⟩:=r i d0 e0;refine⟨v,h1,q v H [] (Same.refl H) ?_ (by simp) List.nodup_nil⟩;rw[pU];exact h2.view O
 .cases e
variable{X:ι->Cx}
theorem aj(b:Bool)(i:Nat)(U:ob i=b:=by rfl)(z:∀c,(X c).N[i]? =some x:=by intro _;rfl)(B:∀c,Vis (X c).env.scope x:=by intro _;first|exact Vr rfl|exact U8 (Vr rfl)|exact U8 (U8 rfl))(hd:(x==("__debug__":Str))=false:=by decide)(V:(x==("__classdict__":Str))=false:=by decide):PV X G ob (.Name x pos) (aq b i):=⟨_,λc=>pv i (z c) (B c) hd V,by rw[←U];exact Pg⟩
theorem HD(h:∀H W,Rep G H W d v []):RfE G ob (tC v) (eC d):=λρ d' e σ H W r w Q q=>by
 cases e;exact q v H [] (Same.refl H) (h _ _) (by simp) List.nodup_nil
theorem aL{i j pos}:PV X G ob (.Constant (.int i) j pos) (eC (.int i)):=⟨_,λc=>Hh,HD λ_ _=>by simp[Rep]⟩
theorem yK{b j pos}:PV X G ob (.Constant (.bool b) j pos) (eC (.bl b)):=⟨_,λc=>R0,HD λ_ _=>by simp[Rep]⟩
theorem NB{j pos}:PV X G ob (.Constant .none j pos) (eC .non):=⟨_,λc=>O6,HD λ_ _=>by simp[Rep]⟩
theorem jo{x j pos}:PV X G ob (.Constant (.str x) j pos) (eC (.str x)):=⟨_,λc=>zB,HD λ_ _=>by simp[Rep]⟩
theorem QJ{n:String}(q:∀c,Gl (X c) x)(N:∀c,(X c).mg x=none)(B:V3 x=some (.type n))(hn:x≠"__name__":=by decide)(hd:(x==("__debug__":Str))=false:=by decide):PV X G ob (.Name x pos) (eC (.ty n)):=⟨_,λc=>QM (q c) (N c) B hn hd,HD λ_ _=>by simp[Rep]⟩
structure OpB{ι:Type}(X:ι->Cx)(G:Gc)(f:Value->Value->Sem Value)(g:D->D->Option D):Prop where
 ex:∃r,(∀c,OpR (X c) f r)/\OpV G r g
structure UnB{ι:Type}(X:ι->Cx)(G:Gc)(f:Value->Sem Value)(g:D->Option D):Prop where
 ex:∃r,(∀c,UnR (X c) f r)/\UnV G r g
structure IxB{ι:Type}(X:ι->Cx)(G:Gc)(g:D->D->Option D):Prop where
 ex:∃r,(∀c,IxR (X c) r)/\OpV G r g
structure CaB{ι:Type}(X:ι->Cx)(G:Gc)(f:Value)(g:List D->Option D):Prop where
 ex:∃r,(∀c,fO (X c) f r)/\CaV G r g
structure MtB{ι:Type}(X:ι->Cx)(G:Gc)(T id:String)(g:D->List D->Option D):Prop where
 ex:∃r,(∀c,MtR (X c) id r)/\MtV G r g/\∀dx ds d,g dx ds=some d->∀(x:V)(H:Hp)(W:Wn)(Lx:List Addr),Rep G H W dx x Lx->tyV G.K T x H
def e2(g:D->D->Option D)(fa fb:En->Option D):En->Option D:=λρ=>(fa ρ).bind λx=>(fb ρ).bind λy=>g x y
def e1(g:D->Option D)(fa:En->Option D):En->Option D:=λρ=>(fa ρ).bind g
variable{g:D->D->Option D}
theorem Bg{r:R2}(B:OpV G r g)(Y:RfE G ob ta fa)(U:RfE G ob tb fb):RfE G ob (tOp r ta tb) (e2 g fa fb):=λρ d e σ H W F w Q q=>by
 unfold e2 at e;cases h1:fa ρ with
 |none=>rw[h1]at e;cases e
 |some dx=>
  rw[h1]at e;cases h2:fb ρ with
  |none=>simp[h2]at e
  |some Z=>
   have e:g dx Z=some d:=by simpa[h2]using e
   refine RfE.two Y U h1 h2 F w λx y H' L M s rx N V nd w'=>?_;refine B dx Z d e x y H' _ L M rx N nd (w.tmp V) w' Q λv H2 L2 O r2 f2 I=>?_;refine q v H2 L2 (s.trans O) ?_ (λa Y=>(f2 a Y).elim (V a) λz=>s.none' z) I;exact r2.up ⟨Same.refl _,λb u U f=>⟨λz=>z.elim (λz=>f.1 (.inl z)) λz=>f.1 (.inr ⟨.inr z,WOk.new w V z⟩),f.2⟩,λ_ _ _ f=>f⟩
theorem Q5{r:V->Hp->VK->Prop}{g:D->Option D}(B:UnV G r g)(Y:RfE G ob ta fa):RfE G ob (tUn r ta) (e1 g fa):=λρ d e σ H W F w Q q=>by
 unfold e1 at e;cases h1:fa ρ with
 |none=>rw[h1]at e;cases e
 |some dx=>
  rw[h1]at e;have e:g dx=some d:=by simpa using e
  refine Y ρ dx h1 σ H W F w _ λx H' L s rx Z nd=>?_;refine B dx d e x H' _ L rx nd (w.tmp Z) (w.add s rx.dom) Q λv H2 L2 O N f2 I=>?_;refine q v H2 L2 (s.trans O) ?_ (λa Y=>(f2 a Y).elim (Z a) λz=>s.none' z) I;exact N.up ⟨Same.refl _,λb u U f=>⟨λz=>z.elim (λz=>f.1 (.inl z)) λz=>f.1 (.inr ⟨.inr z,WOk.new w Z z⟩),f.2⟩,λ_ _ _ f=>f⟩
def aJ:En->Option (List D):=λ_=>some []
def ak(fa:En->Option D)(V:En->Option (List D)):En->Option (List D):=λρ=>(fa ρ).bind λx=>(V ρ).bind λxs=>some (x::xs)
theorem Ji:RfA G ob Ob aJ:=λρ ds e σ H W F w Q q=>by
 cases e;exact q [] H [] (Same.refl H) .nil (by simp) List.nodup_nil
variable{t:TA}
theorem KJ{V:En->Option (List D)}(Y:RfE G ob ta fa)(Z:RfA G ob t V):RfA G ob (xx ta t) (ak fa V):=λρ ds e σ H W F w Q q=>by
 unfold ak at e;cases h1:fa ρ with
 |none=>rw[h1]at e;cases e
 |some dx=>
  rw[h1]at e;cases h2:V ρ with
  |none=>simp[h2]at e
  |some es=>
   have e:dx::es=ds:=by simpa[h2]using e
   subst e;refine Y ρ dx h1 σ H W F w _ λx H1 L s1 rx fx nx=>?_;have u1:Up H H1 W (W.add L):=.add s1 fx;have w1:WOk H1 (W.add L):=w.add s1 rx.dom;refine Z ρ es h2 σ H1 (W.add L) (F.up u1) w1 _ λys H2 M O N I ny=>?_;have a0:∀a∈L,a∉M:=λa h1 h2=>by
    obtain⟨o,B,_⟩:=rx.dom a h1;rw[I a h2]at B;cases B
   have u2:Up H1 H2 (W.add L) (W.add (L++M)):=⟨O,λb u U f=>⟨λz=>z.elim (λz=>(S9.mp z).elim (λz=>f.1 (.inl z)) λz=>by rw[I b z]at U;cases U) λz=>f.1 (.inr z),f.2⟩,λ_ _ _ f=>f⟩;refine q (x::ys) H2 (L++M) (s1.trans O) (.cons (rx.up u2) (N.up ⟨Same.refl _,λb u U f=>⟨λz=>?_,f.2⟩,λ_ _ _ f=>f⟩)) (λa Y=>?_) (cA nx ny a0)
   .rcases z with z|z
    .exact(S9.mp z).elim (λz=>f.1 (.inr (.inl z))) λz=>f.1 (.inl z)
    .exact f.1 (.inr (.inr z))
   .rcases S9.mp Y with z|z
    .exact fx a z
    .exact s1.none' (I a z)
variable{r:List V->Hp->VK->Prop}{f:En->Option (List D)}
theorem tE{g:List D->Option D}(B:CaV G r g)(h:RfA G ob t f):RfE G ob (λσ H Q=>t σ H λvs H1=>r vs H1 Q) (λρ=>(f ρ).bind g):=λρ d e σ H W F w Q q=>by
 cases h1:f ρ with
 |none=>simp[h1]at e
 |some ds=>
  have e:g ds=some d:=by simpa[h1]using e
  refine h ρ ds h1 σ H W F w _ λxs H' L s rx Z nd=>?_;refine B ds d e xs H' _ L rx nd (w.tmp Z) (w.add s rx.dom) Q λv H2 L2 O N f2 I=>?_;refine q v H2 L2 (s.trans O) ?_ (λa Y=>(f2 a Y).elim (Z a) λz=>s.none' z) I;exact N.up ⟨Same.refl _,λb u U f=>⟨λz=>z.elim (λz=>f.1 (.inl z)) λz=>f.1 (.inr ⟨.inr z,WOk.new w Z z⟩),f.2⟩,λ_ _ _ f=>f⟩
def eAp(g:List D->Option D)(f:En->Option (List D)):En->Option D:=λρ=>(f ρ).bind g
theorem RP{r:V->List V->Hp->VK->Prop}{g:D->List D->Option D}{to:TE}{fo:En->Option D}(B:MtV G r g)(a0:∀dx ds d,g dx ds=some d->∀(x:V)(H:Hp)(W:Wn)(I:List Addr),Rep G H W dx x I->tyV G.K T x H)
  (h0:RfE G ob to fo) (h:RfA G ob t f):RfE G ob (tBM G.K T r to t) (λρ=>(fo ρ).bind λx=>(f ρ).bind λds=>g x ds):=λρ d e σ H W F w Q q=>by
 cases h1:fo ρ with
 |none=>simp[h1]at e
 |some dx=>
  cases h2:f ρ with
  |none=>simp[h1,h2]at e
  |some ds=>
   have e:g dx ds=some d:=by simpa[h1,h2]using e
   refine h0 ρ dx h1 σ H W F w _ λx H1 L Z rx fx nx=>⟨a0 dx ds d e x H1 _ L rx,?_⟩;have u1:Up H H1 W (W.add L):=.add Z fx;have w1:WOk H1 (W.add L):=w.add Z rx.dom;refine h ρ ds h2 σ H1 (W.add L) (F.up u1) w1 _ λys H2 M O N fy ny=>?_;have a1:∀a∈L,a∉M:=λa h1 h2=>by
    obtain⟨o,B,_⟩:=rx.dom a h1;rw[fy a h2]at B;cases B
   have u2:Up H1 H2 (W.add L) (W.add (L++M)):=⟨O,λb u U f=>⟨λz=>z.elim (λz=>(S9.mp z).elim (λz=>f.1 (.inl z)) λz=>by rw[fy b z]at U;cases U) λz=>f.1 (.inr z),f.2⟩,λ_ _ _ f=>f⟩;have u3:Up H2 H2 ((W.add L).add M) (W.add (L++M)):=⟨Same.refl _,λb u U f=>⟨λz=>by
    rcases z with z|z
    .exact(S9.mp z).elim (λz=>f.1 (.inr (.inl z))) λz=>f.1 (.inl z)
    .exact f.1 (.inr (.inr z)),f.2⟩,λ_ _ _ f=>f⟩
   have w2:WOk H2 (W.add (L++M)):=w.add (Z.trans O) λa Y=>(S9.mp Y).elim (λz=>let⟨o,h,m⟩:=rx.dom a z;⟨o,O a o h,m⟩) (N.dom a);refine B dx ds d e x ys H2 (W.add (L++M)) L M (rx.up u2) (N.up u3) (cA nx ny a1) (w.tmp λa Y=>(S9.mp Y).elim (fx a) λz=>Z.none' (fy a z)) w2 Q λv H3 L3 s3 r3 f3 n3=>?_;refine q v H3 L3 ((Z.trans O).trans s3) ?_ (λa Y=>(f3 a Y).elim (λz=>?_) λz=>(Z.trans O).none' z) n3
   .exact r3.up ⟨Same.refl _,λb u U f=>⟨λz=>z.elim (λz=>f.1 (.inl z)) λz=>f.1 (.inr ⟨.inr z,WOk.new w (λa Y=>(S9.mp Y).elim (fx a) λz=>Z.none' (fy a z)) z⟩),f.2⟩,λ_ _ _ f=>f⟩
   .rcases S9.mp z with z|z
    .exact fx a z
    .exact Z.none' (fy a z)
variable{a b:Expr}
theorem bY{op:Operator}(o:OpB X G (Vp op) g)(Y:PV X G ob a fa)(U:PV X G ob b fb):PV X G ob (.BinOp a op b pos) (e2 g fa fb):=let⟨r,o1,o2⟩:=o.ex;let⟨t,a1,a2⟩:=Y.ex;let⟨u,b1,b2⟩:=U.ex;⟨_,λc=>Mi (o1 c) (a1 c) (b1 c),Bg o2 a2 b2⟩
theorem Oz(o:OpB X G (UL op) g)(Y:PV X G ob a fa)(U:PV X G ob b fb)(N:XR op b=false:=by with_unfolding_all rfl):PV X G ob (.Compare a [op] [b] pos) (e2 g fa fb):=let⟨r,o1,o2⟩:=o.ex;let⟨t,a1,a2⟩:=Y.ex;let⟨u,b1,b2⟩:=U.ex;⟨_,λc=>CJ (o1 c) (a1 c) (b1 c) N,Bg o2 a2 b2⟩
theorem uL{op:UnaryOp}{g:D->Option D}(o:UnB X G (unaryOp op) g)(Y:PV X G ob a fa):PV X G ob (.UnaryOp op a pos) (e1 g fa):=let⟨r,o1,o2⟩:=o.ex;let⟨t,a1,a2⟩:=Y.ex;⟨_,λc=>Rw (o1 c) (a1 c),Q5 o2 a2⟩
theorem fZ(o:IxB X G g)(Y:PV X G ob a fa)(U:PV X G ob b fb)(hs:qN b:=by exact λ_ _=>rfl):PV X G ob (.Subscript a b pos) (e2 g fa fb):=let⟨r,o1,o2⟩:=o.ex;let⟨t,a1,a2⟩:=Y.ex;let⟨u,b1,b2⟩:=U.ex;⟨_,λc=>Ft (o1 c) (a1 c) (b1 c) hs,Bg o2 a2 b2⟩
theorem ao:PVA X G ob [] aJ:=⟨_,λc=>FP,Ji⟩
theorem aa{f:En->Option D}{V:En->Option (List D)}(Y:PV X G ob e f)(Z:PVA X G ob es V)(hs:∀c,Tj (e::es) (X c).env=(false,eval e (X c).env)::Tj es (X c).env:=by intro _;rfl):PVA X G ob (e::es) (ak f V):=let⟨t,a1,a2⟩:=Y.ex;let⟨u,b1,b2⟩:=Z.ex;⟨_,λc=>nT (a1 c) (b1 c) (hs c),KJ a2 b2⟩
theorem dR{id:String}{g:List D->Option D}(o:CaB X G (.builtin id) g)(q:∀c,Gl (X c) x)(N:∀c,(X c).mg x=none)(B:V3 x=some (.builtin id))(Y:PVA X G ob (e::es) f)(hn:x≠"__name__":=by decide)(O:(x==("__debug__":Str))=false:=by decide)(V:∀c,Tj (e::es) (X c).env=(false,eval e (X c).env)::Tj es (X c).env:=by intro _;rfl)(z:∀c,(Vf pos (Tj es (X c).env)).any (·.1)=false:=by intro _;rfl):PV X G ob (.Call (.Name x p) (e::es) [] pos) (eAp g f):=let⟨r,o1,o2⟩:=o.ex;let⟨t,a1,a2⟩:=Y.ex;⟨_,λc=>xK (o1 c) (q c) (N c) B (a1 c) hn O (V c) (z c),tE o2 a2⟩
theorem iw{g:List D->Option D}(o:CaB X G (.type T) g)(q:∀c,Gl (X c) x)(N:∀c,(X c).mg x=none)(B:V3 x=some (.type T))(Y:PVA X G ob (e::es) f)(hn:x≠"__name__":=by decide)(O:(x==("__debug__":Str))=false:=by decide)(V:∀c,Tj (e::es) (X c).env=(false,eval e (X c).env)::Tj es (X c).env:=by intro _;rfl)(z:∀c,(Vf pos (Tj es (X c).env)).any (·.1)=false:=by intro _;rfl):PV X G ob (.Call (.Name x p) (e::es) [] pos) (eAp g f):=let⟨r,o1,o2⟩:=o.ex;let⟨t,a1,a2⟩:=Y.ex;⟨_,λc=>u9 (o1 c) (q c) (N c) B (a1 c) hn O (V c) (z c),tE o2 a2⟩
def aZ(ds:List D):Option D:=if ds.length<=1000 then some (.tup ds)else none
def bK(ds:List D):Option D:=if ds.length<=1000 then some (.lst .own ds)else none
theorem yu(h:n<=1000):n<=Te:=V4 h (by decide)
theorem CV:CaV G (λxs H Q=>xs.length<=Te/\∀p,H p=none->Q (.ref p) (upd H p (.tup xs))) aZ:=λds d e xs H W O r nd hn w Q q=>by
 unfold aZ at e;split at e
 .rename_i hl
  cases e;refine⟨yu (by rw[←r.length];exact hl),λp N=>?_⟩;have I:Same H (upd H p (.tup xs)):=Same.new N;refine q (.ref p) _ O I ?_ (λa Y=>.inl Y) nd;rw[Rep];exact⟨p,xs,rfl,aM,r.up ⟨I,λb u U f=>⟨λz=>z.elim (λz=>f.1 (hn b z).1) λz=>f.1 z.1,f.2⟩,λ_ _ _ f=>f⟩⟩
 .cases e
theorem Bd:CaV G (λxs H Q=>xs.length<=Te/\∀p,H p=none->Q (.ref p) (upd H p (.lst xs))) bK:=λds d e xs H W O r nd hn w Q q=>by
 unfold bK at e;split at e
 .rename_i hl
  cases e;refine⟨yu (by rw[←r.length];exact hl),λp N=>?_⟩;have I:Same H (upd H p (.lst xs)):=Same.new N;refine q (.ref p) _ (p::O) I ?_ (λa Y=>(Tf.mp Y).elim (λz=>.inr (by rw[z];exact N)) .inl) (T5.mpr ⟨λz=>?_,nd⟩)
  .rw[Rep]
   exact⟨p,xs,O,rfl,r.up ⟨I,λb u U f=>⟨λz=>z.elim (λz=>(Tf.mp z).elim (λz=>by rw[z,N]at U;cases U) λz=>f.1 (hn b z).1) λz=>f.1 z.1,f.2⟩,λ_ _ _ f=>f⟩,aM,rfl⟩
  .obtain⟨o,ho,_⟩:=r.dom p z
   rw[N]at ho;cases ho
 .cases e
variable{k:Nat}
theorem dF(h:PVA X G ob es f):PV X G ob (.Tuple es k pos) (eAp aZ f):=let⟨t,a1,a2⟩:=h.ex;⟨_,λc=>Af (a1 c),tE CV a2⟩
theorem g8(h:PVA X G ob es f):PV X G ob (.List es pos) (eAp bK f):=let⟨t,a1,a2⟩:=h.ex;⟨_,λc=>Gz (a1 c),tE Bd a2⟩
section
variable{G:Gc}{ob:Nat->Bool}{H H1 H2:Hp}{S S1 S2:Ad}{L M:List Addr}{ρ ρ1:En}{σ:L2.St}{Fr:Addr->Prop}
theorem Eff.refl:Eff ob H H S S []:=⟨λ_ _ h _=>h,λ_ _=>rfl,λi a h z=>.inl ⟨i,h,z⟩,by simp⟩
theorem Eff.back(e:Eff ob H H1 S S1 L){a:Addr}(h:H1 a=none):inO ob S a∨H a=none:=by
 by_cases z:inO ob S a
 .exact .inl z
 .refine .inr ?_
  cases q:H a with
  |none=>rfl
  |some u=>rw[e.kp a u q z]at h;cases h
theorem Eff.inO(e:Eff ob H H1 S S1 L){a:Addr}(h:inO ob S1 a):inO ob S a∨H a=none:=let⟨i,h1,h2⟩:=h;e.gr i a h1 h2
theorem Eff.notO(e:Eff ob H H1 S S1 L){a:Addr}{u:HO}(h:H a=some u)(n:¬Jb.inO ob S a):¬Jb.inO ob S1 a:=λz=>(e.inO z).elim n λz=>by rw[h]at z;cases z
theorem Eff.trans(a:Eff ob H H1 S S1 L)(b:Eff ob H1 H2 S1 S2 M):Eff ob H H2 S S2 (L++M)where
 kp:=λc u h n=>b.kp c u (a.kp c u h n) (a.notO h n)
 sn:=λi h=>(b.sn i h).trans (a.sn i h)
 gr:=λi c h z=>(b.gr i c h z).elim a.inO a.back
 fm:=λc O=>(S9.mp O).elim (a.fm c) λz=>(b.fm c z).elim a.inO a.back
theorem Eff.same(a:Eff ob H H1 S S1 L)(s:Same H1 H2)(h:∀c∈M,c∈L∨H1 c=none):Eff ob H H2 S S1 M where
 kp:=λc u O n=>s c u (a.kp c u O n)
 sn:=a.sn
 gr:=a.gr
 fm:=λc O=>(h c O).elim (a.fm c) a.back
theorem Sta.notO(s:Sta G H ob ρ σ S Fr){a:Addr}(h:Fr a):¬inO ob S a:=λ⟨i,_,z⟩=>s.fdj i a h z
theorem Sta.tmp(s:Sta G H ob ρ σ S Fr){a:Addr}(h:Fr a):(wn ob S Fr).tmp a:=⟨h,λ⟨i,_,z⟩=>s.fdj i a h z,λ⟨i,_,z⟩=>s.fdj i a h z⟩
theorem Eff.evo(s:Sta G H ob ρ σ S Fr)(e:Eff ob H H1 S S1 M):Evo H H1 (wn ob S Fr) (wn ob S1 (plus M Fr))where
 k:=λb u h f=>⟨e.kp b u h f.2.2,λz=>z.elim (λz=>(e.fm b z).elim f.2.2 λq=>by rw[h]at q;cases q) f.1,λ⟨i,h1,h2⟩=>f.2.1 ⟨i,h1,by rw[←e.sn i h1];exact h2⟩,e.notO h f.2.2⟩
 t:=λb xs h=>by
  have I:∀u,H b=some u->muO u=false->H1 b=some u:=λu F m=>e.kp b u F λ⟨i,_,z⟩=>by
   obtain⟨o,B,N⟩:=s.mu z;rw[F]at B;cases B;rw[m]at N;cases N
  exact I _ h rfl
theorem Eff.evoN(s:Sta G H ob ρ σ S Fr)(e:Eff ob H H1 S S1 M):IW H H1 (wn ob S Fr) (wn ob S1 (plus M Fr)):=λb u h ⟨i,h1,h2⟩=>
 ⟨e.kp b u h (λ⟨j,q1,q2⟩=>by rw[s.dj i j b h2 q2,q1]at h1;cases h1),⟨i,h1,by rw[e.sn i h1];exact h2⟩⟩
theorem Eff.keepsF(s:Sta G H ob ρ σ S Fr)(e:Eff ob H H1 S S1 M){a:Addr}(h:Fr a):∀u,H a=some u->H1 a=some u:=λu F=>e.kp a u F (s.notO h)
theorem lu{L M:List Addr}:plus M (plus L Fr)=plus (L++M) Fr:=by
 funext a;simp only[plus,S9,eq_iff_iff];constructor
 .rintro(z|z|z)
  .exact .inl (.inr z)
  .exact .inl (.inl z)
  .exact .inr z
 .rintro((z|z)|z)
  .exact .inr (.inl z)
  .exact .inl z
  .exact .inr (.inr z)
theorem Mr{F:List Addr}{d:D}{v:V}(s:Sta G H1 ob ρ1 σ S1 (plus L Fr))(e:Eff ob H H1 S S1 L)(I:Same H1 H2)(r:Rep G H2 (((wn ob S1 (plus L Fr)).drop L).add F) d v F)(f:∀a∈F,a∈L∨H1 a=none)(B:Sta G H ob ρ σ S Fr) :
  Sta G H2 ob ρ1 σ S1 (plus F Fr)/\Rep G H2 (wn ob S1 (plus F Fr)) d v F/\Eff ob H H2 S S1 F:=by
 refine⟨s.grow I λa h=>?_,r.up ⟨Same.refl _,λb u U q=>⟨λz=>?_,q.2⟩,λ_ _ _ q=>q⟩,e.same I f⟩
 .rcases h with h|h
  .exact(f a h).imp .inl λz=>⟨z,r.dom a h⟩
  .exact .inl (.inr h)
 .rcases z with z|z
  .exact q.1 (.inl z)
  .refine q.1 (.inr ⟨.inr z,λh=>?_⟩)
   rcases e.fm b h with y|y
   .exact B.notO z y
   .obtain⟨o,ho,_⟩:=B.fdm b z
    rw[y]at ho;cases ho
end
def eUp(f:En->Option D):En->Option (D×En):=λρ=>(f ρ).map λd=>(d,ρ)
theorem ux{f:En->Option D}(h:RfE G ob ta f):j4 G ob ta (eUp f):=λρ d I e σ H S Fr s Q q=>by
 unfold eUp at e;cases h1:f ρ with
 |none=>rw[h1]at e;cases e
 |some d0=>
  rw[h1]at e;cases e;refine h ρ d h1 σ H _ s.rel s.wok Q λv H' L B r V nd=>?_;exact q v H' L S (s.grow B λa z=>z.elim (λz=>.inr ⟨V a z,r.dom a z⟩) .inl) r nd ⟨λb u U _=>B b u U,λ_ _=>rfl,λi a h z=>.inl ⟨i,h,z⟩,λa Y=>.inr (V a Y)⟩
def pR(f:En->Option Bool):En->Option (Bool×En):=λρ=>(f ρ).map λd=>(d,ρ)
theorem Hz{t:TT}{f:En->Option Bool}(h:RfT G ob t f):wy G ob t (pR f):=λρ d I e σ H S Fr s Q q=>by
 unfold pR at e;cases h1:f ρ with
 |none=>rw[h1]at e;cases e
 |some d0=>
  rw[h1]at e;cases e;refine h ρ d h1 σ H _ s.rel s.wok Q λH' B=>?_;exact q H' S (s.grow B λa z=>.inl z) ⟨λb u U _=>B b u U,λ_ _=>rfl,λi a h z=>.inl ⟨i,h,z⟩,by simp⟩
def cU(f:En->Option (List D)):En->Option (List D×En):=λρ=>(f ρ).map λd=>(d,ρ)
theorem N5(h:RfA G ob t f):ye G ob t (cU f):=λρ d I e σ H S Fr s Q q=>by
 unfold cU at e;cases h1:f ρ with
 |none=>rw[h1]at e;cases e
 |some d0=>
  rw[h1]at e;cases e;refine h ρ d h1 σ H _ s.rel s.wok Q λv H' L B r V nd=>?_;exact q v H' L S (s.grow B λa z=>z.elim (λz=>.inr ⟨V a z,r.dom a z⟩) .inl) r nd ⟨λb u U _=>B b u U,λ_ _=>rfl,λi a h z=>.inl ⟨i,h,z⟩,λa Y=>.inr (V a Y)⟩
theorem bQ{f:En->Option D}(h:PV X G ob e f):PVe X G ob e (eUp f):=let⟨t,a1,a2⟩:=h.ex;⟨t,a1,ux a2⟩
theorem vO{f:En->Option Bool}(h:PVT X G ob e f):Av X G ob e (pR f):=let⟨t,a1,a2⟩:=h.ex;⟨t,a1,Hz a2⟩
theorem aX{e:List Expr}(h:PVA X G ob e f):rm X G ob e (cU f):=let⟨t,a1,a2⟩:=h.ex;⟨t,a1,N5 a2⟩
variable{fa fb:En->Option (D×En)}
theorem j4.two(Y:j4 G ob ta fa)(U:j4 G ob tb fb){ρ1 ρ2:En}{dx dy:D}(e1:fa ρ=some (dx,ρ1))(e2:fb ρ1=some (dy,ρ2))(F:aA dx=true){Fr:Addr->Prop}(s:Sta G H ob ρ σ S Fr)
  (h:∀x y H' L M S',Sta G H' ob ρ2 σ S' (plus (L++M) Fr)->Rep G H' (wn ob S' (plus (L++M) Fr)) dx x L->Rep G H' (wn ob S' (plus (L++M) Fr)) dy y M->(L++M).Nodup->Eff ob H H' S S' (L++M)->R x y H'):ta σ H λx H1=>tb σ H1 λy H2=>R x y H2:=by
 refine Y ρ dx ρ1 e1 σ H S Fr s _ λx H1 L S1 Z rx nx I=>?_;refine U ρ1 dy ρ2 e2 σ H1 S1 (plus L Fr) Z _ λy H2 M S2 s2 N q B=>?_;have a0:=rx.mono (B.evo Z) (.inr (B.evoN Z)) (.inl F) λc O u hu=>B.keepsF Z (.inl O) u hu;rw[lu]at s2 N a0;refine h x y H2 L M S2 s2 a0 N (cA nx q λa h1 h2=>?_) (I.trans B);rcases B.fm a h2 with z|z
 .exact Z.notO (.inl h1) z
 .obtain⟨o,ho,_⟩:=rx.dom a h1
  rw[z]at ho;cases ho
def ee2(g:D->D->Option D)(fa fb:En->Option (D×En)):En->Option (D×En):=λρ=>(fa ρ).bind λp=>(fb p.2).bind λq=>if aA p.1 then(g p.1 q.1).map λd=>(d,q.2)else none
theorem wA{r:R2}(B:OpV G r g)(Y:j4 G ob ta fa)(U:j4 G ob tb fb):j4 G ob (tOp r ta tb) (ee2 g fa fb):=λρ d I e σ H S Fr s Q q=>by
 unfold ee2 at e;cases h1:fa ρ with
 |none=>simp[h1]at e
 |some p=>
  obtain⟨dx,ρ1⟩:=p;cases h2:fb ρ1 with
  |none=>simp[h1,h2]at e
  |some p=>
   obtain⟨V,ρ2⟩:=p;cases F:aA dx with
   |false=>simp[h1,h2,F]at e
   |true=>
    cases O:g dx V with
    |none=>simp[h1,h2,F,O]at e
    |some d'=>
     obtain⟨rfl,rfl⟩:d'=d/\ρ2=I:=by simpa[h1,h2,F,O]using e
     refine j4.two Y U h1 h2 F s λx y H' L M S' s' rx N nd ef=>?_;refine B dx V _ O x y H' _ L M rx N nd (λa Y=>s'.tmp (.inl Y)) s'.wok Q λv H3 L3 s3 r3 Z z=>?_;obtain⟨q1,q2,q3⟩:=Mr s' ef s3 r3 Z s;exact q v H3 L3 S' q1 q2 z q3
def ee1(g:D->Option D)(fa:En->Option (D×En)):En->Option (D×En):=λρ=>(fa ρ).bind λp=>(g p.1).map λd=>(d,p.2)
def bT(fa:En->Option (D×En))(V:En->Option (List D×En)):En->Option (List D×En):=λρ=>(fa ρ).bind λp=>(V p.2).bind λq=>if aA p.1 then some (p.1::q.1,q.2)else none
theorem Ip{V:En->Option (List D×En)}(Y:j4 G ob ta fa)(Z:ye G ob t V):ye G ob (xx ta t) (bT fa V):=λρ ds I e σ H S Fr s Q q=>by
 unfold bT at e;cases h1:fa ρ with
 |none=>simp[h1]at e
 |some p=>
  obtain⟨dx,ρ1⟩:=p;cases h2:V ρ1 with
  |none=>simp[h1,h2]at e
  |some p=>
   obtain⟨es,ρ2⟩:=p;cases F:aA dx with
   |false=>simp[h1,h2,F]at e
   |true=>
    obtain⟨rfl,rfl⟩:dx::es=ds/\ρ2=I:=by simpa[h1,h2,F]using e
    refine Y ρ dx ρ1 h1 σ H S Fr s _ λx H1 L S1 s1 rx nx f1=>?_;refine Z ρ1 es _ h2 σ H1 S1 (plus L Fr) s1 _ λys H2 M S2 s2 N ny B=>?_;have U:=rx.mono (B.evo s1) (.inr (B.evoN s1)) (.inl F) λc O u hu=>B.keepsF s1 (.inl O) u hu;rw[lu]at s2 N U;refine q (x::ys) H2 (L++M) S2 s2 (.cons U N) (cA nx ny λa h1 h2=>?_) (f1.trans B);rcases B.fm a h2 with z|z
    .exact s1.notO (.inl h1) z
    .obtain⟨o,ho,_⟩:=rx.dom a h1
     rw[z]at ho;cases ho
def oM(g:List D->Option D)(f:En->Option (List D×En)):En->Option (D×En):=λρ=>(f ρ).bind λp=>(g p.1).map λd=>(d,p.2)
variable{f:En->Option (List D×En)}
theorem vM{g:List D->Option D}(B:CaV G r g)(h:ye G ob t f):j4 G ob (λσ H Q=>t σ H λvs H1=>r vs H1 Q) (oM g f):=λρ d I e σ H S Fr s Q q=>by
 unfold oM at e;cases h1:f ρ with
 |none=>simp[h1]at e
 |some p=>
  obtain⟨ds,ρ1⟩:=p;cases O:g ds with
  |none=>simp[h1,O]at e
  |some d'=>
   obtain⟨rfl,rfl⟩:d'=d/\ρ1=I:=by simpa[h1,O]using e
   refine h ρ ds _ h1 σ H S Fr s _ λxs H' L S' s' rx nd U=>?_;refine B ds _ O xs H' _ L rx nd (λa Y=>s'.tmp (.inl Y)) s'.wok Q λv H3 F N r3 Z z=>?_;obtain⟨q1,q2,q3⟩:=Mr s' U N r3 Z s;exact q v H3 F S' q1 q2 z q3
theorem mz{op:Operator}(o:OpB X G (Vp op) g)(Y:PVe X G ob a fa)(U:PVe X G ob b fb):PVe X G ob (.BinOp a op b pos) (ee2 g fa fb):=let⟨r,o1,o2⟩:=o.ex;let⟨t,a1,a2⟩:=Y.ex;let⟨u,b1,b2⟩:=U.ex;⟨_,λc=>Mi (o1 c) (a1 c) (b1 c),wA o2 a2 b2⟩
theorem Jr(o:OpB X G (UL op) g)(Y:PVe X G ob a fa)(U:PVe X G ob b fb)(N:XR op b=false:=by with_unfolding_all rfl):PVe X G ob (.Compare a [op] [b] pos) (ee2 g fa fb):=let⟨r,o1,o2⟩:=o.ex;let⟨t,a1,a2⟩:=Y.ex;let⟨u,b1,b2⟩:=U.ex;⟨_,λc=>CJ (o1 c) (a1 c) (b1 c) N,wA o2 a2 b2⟩
theorem o5(o:IxB X G g)(Y:PVe X G ob a fa)(U:PVe X G ob b fb)(hs:qN b:=by exact λ_ _=>rfl):PVe X G ob (.Subscript a b pos) (ee2 g fa fb):=let⟨r,o1,o2⟩:=o.ex;let⟨t,a1,a2⟩:=Y.ex;let⟨u,b1,b2⟩:=U.ex;⟨_,λc=>Ft (o1 c) (a1 c) (b1 c) hs,wA o2 a2 b2⟩
theorem bc{f:En->Option (D×En)}{V:En->Option (List D×En)}(Y:PVe X G ob e f)(Z:rm X G ob es V)(hs:∀c,Tj (e::es) (X c).env=(false,eval e (X c).env)::Tj es (X c).env:=by intro _;rfl):rm X G ob (e::es) (bT f V):=let⟨t,a1,a2⟩:=Y.ex;let⟨u,b1,b2⟩:=Z.ex;⟨_,λc=>nT (a1 c) (b1 c) (hs c),Ip a2 b2⟩
variable{g:List D->Option D}
theorem Ey{id:String}(o:CaB X G (.builtin id) g)(q:∀c,Gl (X c) x)(N:∀c,(X c).mg x=none)(B:V3 x=some (.builtin id))(Y:rm X G ob (e::es) f)(hn:x≠"__name__":=by decide)(O:(x==("__debug__":Str))=false:=by decide)(V:∀c,Tj (e::es) (X c).env=(false,eval e (X c).env)::Tj es (X c).env:=by intro _;rfl)(z:∀c,(Vf pos (Tj es (X c).env)).any (·.1)=false:=by intro _;rfl):PVe X G ob (.Call (.Name x p) (e::es) [] pos) (oM g f):=let⟨r,o1,o2⟩:=o.ex;let⟨t,a1,a2⟩:=Y.ex;⟨_,λc=>xK (o1 c) (q c) (N c) B (a1 c) hn O (V c) (z c),vM o2 a2⟩
theorem zG(o:CaB X G (.type T) g)(q:∀c,Gl (X c) x)(N:∀c,(X c).mg x=none)(B:V3 x=some (.type T))(Y:rm X G ob (e::es) f)(hn:x≠"__name__":=by decide)(O:(x==("__debug__":Str))=false:=by decide)(V:∀c,Tj (e::es) (X c).env=(false,eval e (X c).env)::Tj es (X c).env:=by intro _;rfl)(z:∀c,(Vf pos (Tj es (X c).env)).any (·.1)=false:=by intro _;rfl):PVe X G ob (.Call (.Name x p) (e::es) [] pos) (oM g f):=let⟨r,o1,o2⟩:=o.ex;let⟨t,a1,a2⟩:=Y.ex;⟨_,λc=>u9 (o1 c) (q c) (N c) B (a1 c) hn O (V c) (z c),vM o2 a2⟩
theorem BK(h:rm X G ob es f):PVe X G ob (.Tuple es k pos) (oM aZ f):=let⟨t,a1,a2⟩:=h.ex;⟨_,λc=>Af (a1 c),vM CV a2⟩
theorem Kq(h:rm X G ob es f):PVe X G ob (.List es pos) (oM bK f):=let⟨t,a1,a2⟩:=h.ex;⟨_,λc=>Gz (a1 c),vM Bd a2⟩
def truth:D->Option Bool
 |.non=>some false
 |.bl b=>some b
 |.int i=>some (i !=0)
 |.str y=>if y.length<=Te then some ((y.length:Int)!=0)else none
 |.lst _ ds=>some (!ds.isEmpty)
 |.tup ds=>some (!ds.isEmpty)
 |.dct m _ ds=>if m= .scr then none else some (!ds.isEmpty)
 |_=>none
theorem pC(r:aC G H W ds xs L):ds.isEmpty=xs.isEmpty:=by
 have:=r.length;cases ds<;>cases xs<;>simp_all
theorem Gx{k:Bool}(r:Rep G H W d v L)(h:truth d=some k):J1 G.K v H k:=by
 cases d with
 |non=>rw[Rep]at r;obtain⟨rfl,_⟩:=r;cases h;rfl
 |bl b=>rw[Rep]at r;obtain⟨rfl,_⟩:=r;cases h;rfl
 |int i=>rw[Rep]at r;obtain⟨rfl,_⟩:=r;cases h;rfl
 |str y=>
  rw[Rep]at r;obtain⟨rfl,_⟩:=r;simp only[truth]at h;split at h
  .cases h;exact⟨‹_›,rfl⟩
  .cases h
 |ty n=>cases h
 |tup ds=>
  rw[Rep]at r;obtain⟨a,xs,rfl,U,Z⟩:=r;cases h;exact .inr (.inl ⟨xs,SqT.of U,by rw[pC Z]⟩)
 |lst m ds=>
  rw[Rep]at r;obtain⟨a,xs,M,rfl,Z,hs⟩:=r;cases h;exact .inl ⟨xs,hs.sq,by rw[pC Z]⟩
 |dct m ks ds=>
  rw[Rep]at r;obtain⟨a,kvs,M,rfl,I,Z,hs⟩:=r;simp only[truth]at h;split at h
  .cases h
  .cases h
   refine .inr (.inr ⟨kvs,hs.at ‹_›,?_⟩);rw[pC Z];cases kvs<;>rfl
 |ins m c fs ds=>cases h
section
variable{ι:Type}{X:ι->Cx}{G:Gc}{ob:Nat->Bool}{a b:Expr}{pos:Pos}
def qz(f:En->Option D):En->Option Bool:=λρ=>(f ρ).bind truth
theorem Nk{ta:TE}{f:En->Option D}(h:RfE G ob ta f):RfT G ob (λσ H Q=>ta σ H λx H'=>∃k,J1 G.K x H' k/\Q k H') (qz f):=λρ k e σ H W F w Q q=>by
 unfold qz at e;cases h1:f ρ with
 |none=>simp[h1]at e
 |some d=>
  have e:truth d=some k:=by simpa[h1]using e
  exact h ρ d h1 σ H W F w _ λx H' L s r V nd=>⟨k,Gx r e,q H' s⟩
theorem wB{f:En->Option D}(h:PV X G ob a f)(V:∀c,∀q,aaB a (X c).env q=(do let v ←q;standAt a.pos;Xh [v] (truthy v)):=by intro _;intro _;rfl)(z:∀c,(X c).K=G.K:=by intro _;rfl):PVT X G ob a (qz f):=let⟨t,a1,a2⟩:=h.ex;⟨_,λc=>(by have h:=Iw (a1 c) (V c);rw[z c]at h;exact h),Nk a2⟩
def isB:D->Option Bool
 |.bl b=>some b
 |_=>none
def eB(f:En->Option D):En->Option Bool:=λρ=>(f ρ).bind isB
def eeB(f:En->Option (D×En)):En->Option (Bool×En):=λρ=>(f ρ).bind λp=>(isB p.1).map λb=>(b,p.2)
theorem zf{d:D}{k:Bool}(h:isB d=some k):d= .bl k:=by
 cases d<;>simp[isB]at h;rw[h]
theorem Su{ta:TE}{f:En->Option D}(h:RfE G ob ta f):RfT G ob (Iv ta) (eB f):=λρ k e σ H W F w Q q=>by
 unfold eB at e;cases h1:f ρ with
 |none=>simp[h1]at e
 |some d=>
  have e:isB d=some k:=by simpa[h1]using e
  have:=zf e;subst this;refine h ρ _ h1 σ H W F w _ λx H' L s r V nd=>⟨k,?_,q H' s⟩;rw[Rep]at r;exact r.1
theorem RK{ta:TE}{f:En->Option (D×En)}(h:j4 G ob ta f):wy G ob (Iv ta) (eeB f):=λρ k I e σ H S Fr s Q q=>by
 unfold eeB at e;cases h1:f ρ with
 |none=>simp[h1]at e
 |some p=>
  obtain⟨d,ρ1⟩:=p;cases h2:isB d with
  |none=>simp[h1,h2]at e
  |some N=>
   obtain⟨rfl,rfl⟩:N=k/\ρ1=I:=by simpa[h1,h2]using e
   have:=zf h2;subst this;refine h ρ _ _ h1 σ H S Fr s _ λx H' M S' s' r nd U=>⟨N,?_,q H' S' (s'.lessF λa z=>.inr z) (U.same (Same.refl _) (by simp))⟩;rw[Rep]at r;exact r.1
theorem dG{fa fb:En->Option D}{op:CmpOp}{g:D->D->Option D}(o:OpB X G (UL op) g)(Y:PV X G ob a fa)(U:PV X G ob b fb)(N:XR op b=false:=by with_unfolding_all rfl):PVT X G ob (.Compare a [op] [b] pos) (eB (e2 g fa fb)):=let⟨r,o1,o2⟩:=o.ex;let⟨t,a1,a2⟩:=Y.ex;let⟨u,b1,b2⟩:=U.ex;⟨_,λc=>CQ (o1 c) (a1 c) (b1 c) N,Su (Bg o2 a2 b2)⟩
theorem nP{fa fb:En->Option (D×En)}{op:CmpOp}{g:D->D->Option D}(o:OpB X G (UL op) g)(Y:PVe X G ob a fa)(U:PVe X G ob b fb)(N:XR op b=false:=by with_unfolding_all rfl):Av X G ob (.Compare a [op] [b] pos) (eeB (ee2 g fa fb)):=let⟨r,o1,o2⟩:=o.ex;let⟨t,a1,a2⟩:=Y.ex;let⟨u,b1,b2⟩:=U.ex;⟨_,λc=>CQ (o1 c) (a1 c) (b1 c) N,RK (wA o2 a2 b2)⟩
def mU(f g:En->Option Bool):En->Option Bool:=λρ=>(f ρ).bind λc=>if c then g ρ else some false
def eOr(f g:En->Option Bool):En->Option Bool:=λρ=>(f ρ).bind λc=>if c then some true else g ρ
def vB(f:En->Option Bool):En->Option Bool:=λρ=>(f ρ).map λc=>!c
def yQ(f g:En->Option (Bool×En)):En->Option (Bool×En):=λρ=>(f ρ).bind λp=>if p.1 then g p.2 else some (false,p.2)
theorem Od{t u:TT}{f g:En->Option Bool}(h:RfT G ob t f)(h':RfT G ob u g):RfT G ob (Nb t u) (mU f g):=λρ k e σ H W F w Q q=>by
 unfold mU at e;cases h1:f ρ with
 |none=>simp[h1]at e
 |some c=>
  refine h ρ c h1 σ H W F w _ λH1 Z=>?_;cases c with
  |false=>
   have:false=k:=by simpa[h1]using e
   subst this;exact vR (q H1 Z)
  |true=>
   have e:g ρ=some k:=by simpa[h1]using e
   exact qy (h' ρ k e σ H1 W (F.up (Up.same Z)) (λa Y=>let⟨o,z,m⟩:=w a Y;⟨o,Z a o z,m⟩) Q λH2 O=>q H2 (Z.trans O))
theorem Qm{t u:TT}{f g:En->Option Bool}(h:RfT G ob t f)(h':RfT G ob u g):RfT G ob (tOr t u) (eOr f g):=λρ k e σ H W F w Q q=>by
 unfold eOr at e;cases h1:f ρ with
 |none=>simp[h1]at e
 |some c=>
  refine h ρ c h1 σ H W F w _ λH1 Z=>?_;cases c with
  |true=>
   have:true=k:=by simpa[h1]using e
   subst this;exact qy (q H1 Z)
  |false=>
   have e:g ρ=some k:=by simpa[h1]using e
   exact vR (h' ρ k e σ H1 W (F.up (Up.same Z)) (λa Y=>let⟨o,z,m⟩:=w a Y;⟨o,Z a o z,m⟩) Q λH2 O=>q H2 (Z.trans O))
theorem Pj{t:TT}{f:En->Option Bool}(h:RfT G ob t f):RfT G ob (RT t) (vB f):=λρ k e σ H W F w Q q=>by
 unfold vB at e;cases h1:f ρ with
 |none=>simp[h1]at e
 |some c=>
  have:(!c)=k:=by simpa[h1]using e
  subst this;exact h ρ c h1 σ H W F w _ λH1 Z=>q H1 Z
theorem Km{t u:TT}{f g:En->Option (Bool×En)}(h:wy G ob t f)(h':wy G ob u g):wy G ob (Nb t u) (yQ f g):=λρ k I e σ H S Fr s Q q=>by
 unfold yQ at e;cases h1:f ρ with
 |none=>simp[h1]at e
 |some p=>
  obtain⟨c,ρ1⟩:=p;refine h ρ c ρ1 h1 σ H S Fr s _ λH1 S1 Z z=>?_;cases c with
  |false=>
   obtain⟨rfl,rfl⟩:false=k/\ρ1=I:=by simpa[h1]using e
   exact vR (q H1 S1 Z z)
  |true=>
   have e:g ρ1=some (k,I):=by simpa[h1]using e
   exact qy (h' ρ1 k I e σ H1 S1 Fr Z Q λH2 S2 O B=>q H2 S2 O (z.trans B))
variable{rest:List Expr}{fa fb:En->Option Bool}{ga gb:En->Option (Bool×En)}
theorem Ci(Y:PVT X G ob a fa)(U:PVW X G ob (.BoolOp .And (b::rest) pos) fb):PVW X G ob (.BoolOp .And (a::b::rest) pos) (mU fa fb):=let⟨t,a1,a2⟩:=Y.ex;let⟨u,b1,b2⟩:=U.ex;⟨_,λc=>G_ (a1 c) (b1 c),Od a2 b2⟩
theorem HW(Y:PVT X G ob a fa)(U:PVW X G ob (.BoolOp .Or (b::rest) pos) fb):PVW X G ob (.BoolOp .Or (a::b::rest) pos) (eOr fa fb):=let⟨t,a1,a2⟩:=Y.ex;let⟨u,b1,b2⟩:=U.ex;⟨_,λc=>Ro (a1 c) (b1 c),Qm a2 b2⟩
theorem xM(Y:PVT X G ob a fa):PVW X G ob (.BoolOp .And [a] pos) fa:=let⟨t,a1,a2⟩:=Y.ex;⟨_,λc=>Bt (a1 c),a2⟩
theorem Bq(Y:PVT X G ob a fa):PVW X G ob (.BoolOp .Or [a] pos) fa:=let⟨t,a1,a2⟩:=Y.ex;⟨_,λc=>Nz (a1 c),a2⟩
theorem Bw(h:PVW X G ob a fa):PVT X G ob a fa:=let⟨t,a1,a2⟩:=h.ex;⟨_,λc=>PW.pt (a1 c),a2⟩
theorem Bk(Y:PVT X G ob a fa):PVT X G ob (.UnaryOp .Not a pos) (vB fa):=let⟨t,a1,a2⟩:=Y.ex;⟨_,λc=>NZ (a1 c),Pj a2⟩
theorem Fw(Y:Av X G ob a ga)(U:KN X G ob (.BoolOp .And (b::rest) pos) gb):KN X G ob (.BoolOp .And (a::b::rest) pos) (yQ ga gb):=let⟨t,a1,a2⟩:=Y.ex;let⟨u,b1,b2⟩:=U.ex;⟨_,λc=>G_ (a1 c) (b1 c),Km a2 b2⟩
theorem Dq(Y:Av X G ob a ga):KN X G ob (.BoolOp .And [a] pos) ga:=let⟨t,a1,a2⟩:=Y.ex;⟨_,λc=>Bt (a1 c),a2⟩
theorem Oj(h:KN X G ob a ga):Av X G ob a ga:=let⟨t,a1,a2⟩:=h.ex;⟨_,λc=>PW.pt (a1 c),a2⟩
def Sy(f g:En->Option D):En->Option D:=λρ=>(f ρ).bind λx=>(isB x).bind λc=>if c then g ρ else some (.bl false)
theorem WOk.up{H H':Hp}{W:Wn}(w:WOk H W)(s:Same H H'):WOk H' W:=λa Y=>let⟨o,z,m⟩:=w a Y;⟨o,s a o z,m⟩
end
section
variable{G:Gc}{ob P:Nat->Bool}{H H1 H2:Hp}{S S1 S2:Ad}{L M:List Addr}{ρ ρ1:En}{σ:L2.St}{Fr:Addr->Prop}
def bO(S:Ad)(i:Nat)(M:List Addr):Ad:=λj=>if j=i then M else S j
theorem cP{i:Nat}:bO S i M i=M:=Tz rfl
theorem cR{i j:Nat}(h:j≠i):bO S i M j=S j:=TQ h
theorem bJ{i j:Nat}{a:Addr}(h:a∈bO S i M j):(j=i/\a∈M)∨(j≠i/\a∈S j):=by
 by_cases e:j=i
 .rw[e,cP]at h;exact .inl ⟨e,h⟩
 .rw[cR e]at h;exact .inr ⟨e,h⟩
theorem Mv.refl:Mv P H H σ σ S S M:=⟨λ_ _ h _ _=>h,λi a z=>.inl ⟨i,z⟩,.refl⟩
theorem Sta.store{i:Nat}{d:D}{v:V}(s:Sta G H ob ρ σ S (plus M Fr))(r:Rep G H (wn ob S (plus M Fr)) d v M)(O:clean d=true)(nd:M.Nodup)(N:∀a∈M,¬Fr a) :
  ∃S',Sta G H ob (ρ.set i (some d)) (σ.set i (some v)) S' Fr/\∀j a,a∈S' j->inS S a∨a∈M:=by
 by_cases hi:i<ρ.length
 .refine⟨bO S i M,⟨by simp[s.len],λj e q=>?_,λj F=>?_,λj=>?_,λj k a h1 h2=>?_,λj a h1 h2=>?_,λa h=>s.fdm a (.inr h)⟩,λj a h=>?_⟩
  .have ev:Evo H H (wn ob S (plus M Fr)) (wn ob (bO S i M) Fr):=⟨λb u h f=>⟨h,⟨λz=>f.1 (.inr z),λ⟨k,h1,h2⟩=>?_,λ⟨k,h1,h2⟩=>?_⟩⟩,λ_ _ h=>h⟩
   .by_cases e:j=i
    .subst e
     have:d=e:=by simpa[hi]using q
     have:d=e:=this;subst this;have Y:j<σ.length:=by rw[←s.len];exact hi
     refine⟨v,by simp[Y],?_,O⟩;rw[cP];have Z:aB d=true/\aA d=true:=by simpa[clean]using O
     exact r.mono ev (.inl Z.1) (.inl Z.2) λ_ _ _ h=>h
    .rw[List.getElem?_set_ne (U0 e)]at q
     obtain⟨v',h1,h2,I⟩:=s.sl j _ q;refine⟨v',by rw[List.getElem?_set_ne (U0 e)];exact h1,?_,I⟩;rw[cR e];have Z:=(by simpa[clean]using I:aB _=true/\aA _=true);exact h2.mono ev (.inl Z.1) (.inl Z.2) λ_ _ _ h=>h
   .rcases bJ h2 with⟨_,z⟩|⟨_,z⟩
    .exact f.1 (.inl z)
    .exact f.2.1 ⟨k,h1,z⟩
   .rcases bJ h2 with⟨_,z⟩|⟨_,z⟩
    .exact f.1 (.inl z)
    .exact f.2.2 ⟨k,h1,z⟩
  .by_cases e:j=i
   .subst e
    exact absurd (by simp[hi]) (F d)
   .rw[cR e]
    exact s.em j λd'=>by have:=F d';rwa[List.getElem?_set_ne (U0 e)]at this
  .by_cases e:j=i
   .rw[e,cP];exact nd
   .rw[cR e];exact s.nd j
  .rcases bJ h1 with⟨e1,z1⟩|⟨e1,z1⟩<;>rcases bJ h2 with⟨e2,B⟩|⟨e2,B⟩
   .rw[e1,e2]
   .exact absurd B (s.fdj k a (.inl z1))
   .exact absurd z1 (s.fdj j a (.inl B))
   .exact s.dj j k a z1 B
  .rcases bJ h2 with⟨_,z⟩|⟨_,z⟩
   .exact N a z h1
   .exact s.fdj j a (.inr h1) z
  .rcases bJ h with⟨_,z⟩|⟨_,z⟩
   .exact .inr z
   .exact .inl ⟨j,z⟩
 .have h1:ρ.set i (some d)=ρ:=Z_ (by omega)
  have h2:σ.set i (some v)=σ:=Z_ (by rw[←s.len];omega);rw[h1,h2];exact⟨S,s.lessF λa z=>.inr z,λj a h=>.inl ⟨j,h⟩⟩
end
section
variable{ι:Type}{X:ι->Cx}{G:Gc}{ob P:Nat->Bool}
def fY:En->Option Fl:=λρ=>some (.nx ρ)
def a_(f g:En->Option Fl):En->Option Fl:=λρ=>match f ρ with
 |some (.nx ρ')=>g ρ'
 |r=>r
theorem Aft.from{G:Gc}{H H1:Hp}{σ B:L2.St}{S S1:Ad}{Fr:Addr->Prop}{E:Ends}(m:Mv P H H1 σ B S S1 []):∀{r:Fl},Aft G ob P H σ S Fr E r->Aft G ob P H1 B S1 Fr E r
 |.nx ρ',h=>λF H' S' s m'=>h F H' S' s (m.trans m')
 |.brk ρ',h=>λF H' S' s m'=>h F H' S' s (m.trans m')
 |.cnt ρ',h=>λF H' S' s m'=>h F H' S' s (m.trans m')
 |.ret d ρ',h=>λv F H' M S' s r c n f m'=>h v F H' M S' s r c n (λa Y=>by
  rcases f a Y with⟨i,z⟩|z
  .exact(m.gr i a z).elim .inl λz=>z.elim (λz=>by cases z) .inr
  .by_cases q:inS S a
   .exact .inl q
   .refine .inr ?_
    cases e:H a with
    |none=>rfl
    |some u=>rw[m.kp a u e q (by simp)]at z;cases z) (m.trans m')
theorem Kr:RfS G ob P Ml fY:=λρ r e σ H S Fr s E h=>by
 cases e;exact h σ H S s .refl
theorem K1{t u:TS}{f g:En->Option Fl}(h1:RfS G ob P t f)(h2:RfS G ob P u g):RfS G ob P (RM t u) (a_ f g):=λρ r e σ H S Fr s E h=>by
 unfold a_ at e;cases O:f ρ with
 |none=>rw[O]at e;cases e
 |some z=>
  rw[O]at e;refine h1 ρ z O σ H S Fr s _ ?_;cases z with
  |nx I=>exact λF H' S' s' m=>h2 I r e F H' S' Fr s' E (h.from m)
  |brk I=>cases e;exact h
  |cnt I=>cases e;exact h
  |ret d I=>cases e;exact h
theorem dJ:oE X G ob P [] fY:=⟨_,λc=>Kh,Kr⟩
theorem aD{st:Stmt}{rest:List Stmt}{f g:En->Option Fl}(h1:PVS X G ob P st f)(h2:oE X G ob P rest g):oE X G ob P (st::rest) (a_ f g):=let⟨t,a1,a2⟩:=h1.ex;let⟨u,b1,b2⟩:=h2.ex;⟨_,λc=>Fq (a1 c) (b1 c),K1 a2 b2⟩
theorem aN{st:Stmt}{f:En->Option Fl}(h1:PVS X G ob P st f):oE X G ob P [st] f:=let⟨t,a1,a2⟩:=h1.ex;⟨_,λc=>Lb (a1 c),a2⟩
def tgN(i:Nat):D->En->Option En:=λd ρ=>if clean d then some (ρ.set i (some d))else none
theorem gP{i:Nat}(B:P i=false):RfG G ob P (tH i) (tgN i):=λd ρ I e v σ H S M Fr s r nd N Q q=>by
 unfold tgN at e;split at e
 .rename_i hc
  cases e;obtain⟨S',s',h⟩:=s.store r hc nd N (i:=i);refine q _ H S' s' ⟨λb u h _ _=>h,λj a z=>(h j a z).imp id .inl,λj V=>?_⟩;have:j≠i:=λz=>by rw[z,B]at V;cases V
  rw[List.getElem?_set_ne (U0 this)]
 .cases e
def dh:List D->En->Option En:=λds ρ=>match ds with
 |[]=>some ρ
 |_=>none
def aQ(f:D->En->Option En)(g:List D->En->Option En):List D->En->Option En:=λds ρ=>match ds with
 |d::r=>(f d ρ).bind λρ1=>g r ρ1
 |[]=>none
def tgT(n:Nat)(g:List D->En->Option En):D->En->Option En:=λd ρ=>match d with
 |.tup ds=>if ds.length=n/\az ds=true/\au ds=true then g ds ρ else none
 |_=>none
theorem I_:Sw G ob P Ou dh:=λds ρ I e vs σ H S M Fr s r nd N Q q=>by
 cases ds with
 |nil=>
  cases e;obtain⟨rfl,rfl⟩:=r.inv0;exact⟨rfl,q σ H S (s.lessF λa z=>.inr z) .refl⟩
 |cons d r=>cases e
def GQ(G:Gc)(ob P:Nat->Bool)(g:TGs)(f:List D->En->Option En):Prop:=∀(ds:List D)(ρ I:En),au ds=true->az ds=true->f ds ρ=some I->∀(vs:List V)(σ:L2.St)(H:Hp)(S:Ad)(M:List Addr)(Fr:Addr->Prop),Sta G H ob ρ σ S (plus M Fr)->aC G H (wn ob S (plus M Fr)) ds vs M->M.Nodup->(∀a∈M,¬Fr a)->
 ∀Q:L2.St->Hp->Prop,(∀F H' S',Sta G H' ob I F S' Fr->Mv P H H' σ F S S' M->Q F H')->g vs σ H Q
theorem yz:GQ G ob P Ou dh:=λds ρ I _ _ e=>I_ ds ρ I e
theorem pO{t:TG}{u:TGs}{f:D->En->Option En}{g:List D->En->Option En}(h1:RfG G ob P t f)(h2:GQ G ob P u g):GQ G ob P (Mt t u) (aQ f g):=λds ρ I V c2 e vs σ H S M Fr s r nd hF Q q=>by
 cases ds with
 |nil=>cases e
 |cons d ds=>
  obtain⟨x,ys,M1,M2,rfl,rfl,F,Z⟩:=r.inv;simp only[au,az,TY]at V c2;simp only[aQ]at e;cases h3:f d ρ with
  |none=>rw[h3]at e;cases e
  |some ρ1=>
   have e:g ds ρ1=some I:=by simpa[h3]using e
   have a0:=Tu.mp nd;have a1:plus (M1++M2) Fr=plus M1 (plus M2 Fr):=by
    funext a;simp only[plus,S9,or_assoc]
   rw[a1]at s F Z;refine⟨x,ys,rfl,h1 d ρ ρ1 h3 x σ H S M1 (plus M2 Fr) s F a0.1 (λa Y z=>?_) _ λa2 H1 S1 s1 m1=>?_⟩
   .rcases z with z|z
    .exact a0.2.2 a Y a z rfl
    .exact hF a (Th _ Y) z
   .have ev:Evo H H1 (wn ob S (plus M1 (plus M2 Fr))) (wn ob S1 (plus M2 Fr)):=⟨λb u U f=>?_,λb xs h=>?_⟩
    .have hr1:aC G H1 (wn ob S1 (plus M2 Fr)) ds ys M2:=Z.mono ev (.inl V.2) (.inl c2.2) λc O u hu=>m1.kp c u hu (λ⟨i,z⟩=>s.fdj i c (.inr (.inl O)) z) λz=>a0.2.2 c z c O rfl
     refine h2 ds ρ1 I V.2 c2.2 e ys a2 H1 S1 M2 Fr s1 hr1 a0.2.1 (λa Y=>hF a (Tc _ Y)) Q λσ2 H2 S2 s2 m2=>q σ2 H2 S2 s2 ⟨λb u U n1 n2=>?_,λi a z=>?_,m1.pr.trans m2.pr⟩
     .have n3:b∉M1:=λz=>n2 (Th _ z)
      exact m2.kp b u (m1.kp b u U n1 n3) (λ⟨i,z⟩=>(m1.gr i b z).elim n1 λz=>z.elim n3 λz=>by rw[U]at z;cases z) λz=>n2 (Tc _ z)
     .rcases m2.gr i a z with⟨j,z⟩|z|z
      .exact(m1.gr j a z).imp id λz=>z.imp (Th _) id
      .exact .inr (.inl (Tc _ z))
      .by_cases q1:inS S a
       .exact .inl q1
       .by_cases q2:a∈M1
        .exact .inr (.inl (Th _ q2))
        .refine .inr (.inr ?_)
         cases e:H a with
         |none=>rfl
         |some u=>rw[m1.kp a u e q1 q2]at z;cases z
    .have n1:¬inS S b:=λ⟨i,z⟩=>by
      cases B:ob i with
      |false=>exact f.2.1 ⟨i,B,z⟩
      |true=>exact f.2.2 ⟨i,B,z⟩
     have n2:b∉M1:=λz=>f.1 (.inl z);refine⟨m1.kp b u U n1 n2,λz=>f.1 (.inr z),λ⟨i,_,z⟩=>?_,λ⟨i,_,z⟩=>?_⟩
     .exact(m1.gr i b z).elim n1 λz=>z.elim n2 λz=>by rw[U]at z;cases z
     .exact(m1.gr i b z).elim n1 λz=>z.elim n2 λz=>by rw[U]at z;cases z
    .have no:∀u,H b=some u->muO u=false->H1 b=some u:=λu hu m=>m1.kp b u hu (λ⟨i,z⟩=>by
       obtain⟨o,B,N⟩:=s.mu z;rw[hu]at B;cases B;rw[m]at N;cases N) λz=>by
       obtain⟨o,B,N⟩:=F.dom b z;rw[hu]at B;cases B;rw[m]at N;cases N
     exact no _ h rfl
theorem Kv{n:Nat}{t:TGs}{g:List D->En->Option En}(h:GQ G ob P t g):RfG G ob P (Rg G.K n t) (tgT n g):=λd ρ I e v σ H S M Fr s r nd N Q q=>by
 cases d with
 |tup ds=>
  simp only[tgT]at e;split at e
  .rename_i hl
   rw[Rep]at r;obtain⟨a,xs,rfl,U,Z⟩:=r;exact⟨a,xs,rfl,SqT.of U,by rw[←Z.length];exact hl.1,h ds ρ I hl.2.2 hl.2.1 e xs σ H S M Fr s Z nd N Q q⟩
  .cases e
 |_=>cases e
structure KC{ι:Type}(X:ι->Cx)(G:Gc)(ob P:Nat->Bool)(tg:List Expr)(f:List D->En->Option En):Prop where
 mk::(ex:∃t,(∀c,PGs (X c) tg t)/\GQ G ob P t f)
theorem aV(i:Nat){x:Str}{pos:Pos}(z:∀c,(X c).N.Nodup)(I:P i=false:=by rfl)(hi:∀c,(X c).N[i]? =some x:=by intro _;rfl)(F:∀c,Loc (X c).env.scope x:=by intro _;first|exact Vr rfl|exact U8 rfl)(Z:∀c,(X c).fn x=true∨(X c).env.scope.names.lookup x=some .local:=by intro _;first|exact .inl rfl|exact .inr rfl):PVG X G ob P (.Name x pos) (tgN i):=⟨_,λc=>vL (z c) (hi c) (F c) (Z c),gP I⟩
theorem dU:KC X G ob P [] dh:=⟨_,λc=>K3,yz⟩
theorem aU{e:Expr}{es:List Expr}{f:D->En->Option En}{g:List D->En->Option En}(h1:PVG X G ob P e f)(h2:KC X G ob P es g)(hs:∀c,(VR (e::es) (X c).env).map (·.2)=Yx e (X c).env::(VR es (X c).env).map (·.2):=by intro _;rfl):KC X G ob P (e::es) (aQ f g):=let⟨t,a1,a2⟩:=h1.ex;let⟨u,b1,b2⟩:=h2.ex;⟨_,λc=>Fd (a1 c) (b1 c) (hs c),pO a2 b2⟩
theorem fX{es:List Expr}{k n:Nat}{pos:Pos}{g:List D->En->Option En}(O:∀c,(X c).calm=true)(h:KC X G ob P es g)(hn:∀c,(VR es (X c).env).length=n:=by intro _;rfl)(q:∀c,(VR es (X c).env).findIdx? (·.1)=none:=by intro _;rfl)(z:∀c,(X c).K=G.K:=by intro _;rfl):PVG X G ob P (.Tuple es k pos) (tgT n g):=let⟨t,a1,a2⟩:=h.ex;⟨_,λc=>(by rw[←z c];exact P_ (O c) (a1 c) (hn c) (q c)),Kv a2⟩
def bI(f:En->Option D)(g:D->En->Option En):En->Option Fl:=λρ=>(f ρ).bind λd=>(g d ρ).map .nx
def di(f:En->Option (D×En))(g:D->En->Option En):En->Option Fl:=λρ=>(f ρ).bind λp=>(g p.1 p.2).map .nx
theorem iB{Fr:Addr->Prop}:plus [] Fr=Fr:=by funext a;simp[plus]
theorem iR{te:TE}{t:TG}{f:En->Option (D×En)}{g:D->En->Option En}(h:j4 G ob te f)(hg:RfG G ob P t g):RfS G ob P (Fy te t) (di f g):=λρ r e σ H S Fr s E q=>by
 unfold di at e;cases h1:f ρ with
 |none=>simp[h1]at e
 |some p=>
  obtain⟨d,ρ1⟩:=p;cases h2:g d ρ1 with
  |none=>simp[h1,h2]at e
  |some ρ2=>
   have:Fl.nx ρ2=r:=by simpa[h1,h2]using e
   subst this;refine h ρ d ρ1 h1 σ H S Fr s _ λv H1 M S1 Z V nd I=>?_;have N:∀a∈M,¬Fr a:=λa Y z=>by
    rcases I.fm a Y with q|q
    .exact s.notO z q
    .obtain⟨o,B,_⟩:=s.fdm a z
     rw[q]at B;cases B
   refine hg d ρ1 ρ2 h2 v σ H1 S1 M Fr Z V nd N _ λF H' S' s' m=>q F H' S' s' ⟨λb u U O n2=>?_,λi a z=>?_,m.pr⟩
   .have hno:¬inO ob S b:=λ⟨i,_,z⟩=>O ⟨i,z⟩
    refine m.kp b u (I.kp b u U hno) (λ⟨i,z⟩=>?_) λz=>(I.fm b z).elim hno λz=>by rw[U]at z;cases z
    cases B:ob i with
    |false=>rw[I.sn i B]at z;exact O ⟨i,z⟩
    |true=>exact(I.gr i b B z).elim hno λz=>by rw[U]at z;cases z
   .rcases m.gr i a z with⟨j,z⟩|z|z
    .cases B:ob j with
     |false=>rw[I.sn j B]at z;exact .inl ⟨j,z⟩
     |true=>exact(I.gr j a B z).imp (λ⟨k,_,z⟩=>⟨k,z⟩) .inr
    .exact(I.fm a z).imp (λ⟨k,_,z⟩=>⟨k,z⟩) .inr
    .exact(I.back z).imp (λ⟨k,_,z⟩=>⟨k,z⟩) .inr
theorem vU{f:En->Option D}{g:D->En->Option En}:di (eUp f) g=bI f g:=by
 funext ρ;unfold di bI eUp;cases f ρ<;>rfl
section
variable{tg e:Expr}{pos:Pos}{g:D->En->Option En}
theorem lJ{f:En->Option D}(V:PV X G ob e f)(q:PVG X G ob P tg g)(hs:∀c,Xj [tg] e pos.line (X c).env=pure false:=by intro _;rfl)(N:∀c,YK [tg] e (X c).env=pure none:=by intro _;rfl)(h1:∀c,(VR [tg] (X c).env).map (·.2)=[Yx tg (X c).env]:=by intro _;rfl):PVS X G ob P (.Assign [tg] e pos) (bI f g):=let⟨t,a1,a2⟩:=V.ex;let⟨u,b1,b2⟩:=q.ex;⟨_,λc=>Ir (a1 c) (b1 c) (hs c) (N c) (h1 c),by rw[←vU];exact iR (ux a2) b2⟩
theorem oY{f:En->Option (D×En)}(V:PVe X G ob e f)(q:PVG X G ob P tg g)(hs:∀c,Xj [tg] e pos.line (X c).env=pure false:=by intro _;rfl)(N:∀c,YK [tg] e (X c).env=pure none:=by intro _;rfl)(h1:∀c,(VR [tg] (X c).env).map (·.2)=[Yx tg (X c).env]:=by intro _;rfl):PVS X G ob P (.Assign [tg] e pos) (di f g):=let⟨t,a1,a2⟩:=V.ex;let⟨u,b1,b2⟩:=q.ex;⟨_,λc=>Ir (a1 c) (b1 c) (hs c) (N c) (h1 c),iR a2 b2⟩
theorem bw(i:Nat){x:Str}{pos':Pos}{f:En->Option D}(z:∀c,(X c).N.Nodup)(V:PV X G ob e f)(I:P i=false:=by rfl)(hi:∀c,(X c).N[i]? =some x:=by intro _;rfl)(F:∀c,Loc (X c).env.scope x:=by intro _;first|exact Vr rfl|exact U8 rfl)(hs:∀c,WT e (some (.Name x pos')) pos.line (X c).env=pure false:=by intro _;rfl)(Z:∀c,(X c).fn x=true∨(X c).env.scope.names.lookup x=some .local:=by intro _;first|exact .inl rfl|exact .inr rfl):PVS X G ob P (.Assign [.Name x pos'] e pos) (bI f (tgN i)):=let⟨t,a1,a2⟩:=V.ex;⟨_,λc=>FW (z c) (hi c) (F c) (a1 c) (hs c) (Z c),by rw[←vU];exact iR (ux a2) (gP I)⟩
theorem dN(i:Nat){x:Str}{pos':Pos}{f:En->Option (D×En)}(z:∀c,(X c).N.Nodup)(V:PVe X G ob e f)(I:P i=false:=by rfl)(hi:∀c,(X c).N[i]? =some x:=by intro _;rfl)(F:∀c,Loc (X c).env.scope x:=by intro _;first|exact Vr rfl|exact U8 rfl)(hs:∀c,WT e (some (.Name x pos')) pos.line (X c).env=pure false:=by intro _;rfl)(Z:∀c,(X c).fn x=true∨(X c).env.scope.names.lookup x=some .local:=by intro _;first|exact .inl rfl|exact .inr rfl):PVS X G ob P (.Assign [.Name x pos'] e pos) (di f (tgN i)):=let⟨t,a1,a2⟩:=V.ex;⟨_,λc=>FW (z c) (hi c) (F c) (a1 c) (hs c) (Z c),iR a2 (gP I)⟩
end
def tK(f:En->Option (List D×En))(g:List D->En->Option En):En->Option Fl:=λρ=>(f ρ).bind λp=>if au p.1/\az p.1 then(g p.1 p.2).map .nx else none
theorem H9{ta:TA}{i j:Nat}(hi:P i=false)(V:P j=false){f:En->Option (List D×En)}(h:ye G ob ta f):RfS G ob P (Rh i j ta) (tK f (aQ (tgN i) (aQ (tgN j) dh))):=λρ r e σ H S Fr s E q=>by
 unfold tK at e;cases h1:f ρ with
 |none=>simp[h1]at e
 |some p=>
  obtain⟨ds,ρ1⟩:=p;by_cases O:au ds/\az ds
  .cases h2:(aQ (tgN i) (aQ (tgN j) dh)) ds ρ1 with
   |none=>simp[h1,h2,O]at e
   |some ρ2=>
    have:Fl.nx ρ2=r:=by simpa[h1,h2,O]using e
    subst this;refine h ρ ds ρ1 h1 σ H S Fr s _ λvs H1 M S1 Z r1 nd I=>?_;have N:∀a∈M,¬Fr a:=λa Y z=>by
     rcases I.fm a Y with q|q
     .exact s.notO z q
     .obtain⟨o,B,_⟩:=s.fdm a z
      rw[q]at B;cases B
    have a0:=pO (gP (G:=G) (ob:=ob) hi) (pO (gP V) yz) ds ρ1 ρ2 O.1 O.2 h2 vs σ H1 S1 M Fr Z r1 nd N (λF H'=>E.nx F H') λF H' S' s' m=>q F H' S' s' ⟨λb u U n1 n2=>?_,λi a z=>?_,m.pr⟩
    .obtain⟨v,rr,e1,v2,r2,e2,e3,k⟩:=a0
     subst e3;exact⟨v,v2,by rw[e1,e2],k⟩
    .have hno:¬inO ob S b:=λ⟨i,_,z⟩=>n1 ⟨i,z⟩
     refine m.kp b u (I.kp b u U hno) (λ⟨i,z⟩=>?_) λz=>(I.fm b z).elim hno λz=>by rw[U]at z;cases z
     cases B:ob i with
     |false=>rw[I.sn i B]at z;exact n1 ⟨i,z⟩
     |true=>exact(I.gr i b B z).elim hno λz=>by rw[U]at z;cases z
    .rcases m.gr i a z with⟨j,z⟩|z|z
     .cases B:ob j with
      |false=>rw[I.sn j B]at z;exact .inl ⟨j,z⟩
      |true=>exact(I.gr j a B z).imp (λ⟨k,_,z⟩=>⟨k,z⟩) .inr
     .exact(I.fm a z).imp (λ⟨k,_,z⟩=>⟨k,z⟩) .inr
     .exact(I.back z).imp (λ⟨k,_,z⟩=>⟨k,z⟩) .inr
  .simp[h1,O]at e
section
variable{x y:Str}{a b:Expr}{px py pt pos:Pos}{kt k2 pt2}
theorem GP(i j:Nat){f:En->Option (List D×En)}(O:∀c,(X c).calm=true)(z:∀c,(X c).N.Nodup)(Y:rm X G ob [a,b] f)(q:P i=false:=by rfl)(I:P j=false:=by rfl)(hi:∀c,(X c).N[i]? =some x:=by intro _;rfl)(V:∀c,(X c).N[j]? =some y:=by intro _;rfl)(B:i≠j:=by decide)(F:∀c,(X c).env.scope.names.lookup x=some .local:=by intro _;rfl)(Z:∀c,(X c).env.scope.names.lookup y=some .local:=by intro _;rfl)(U:∀c,YK [.Tuple [.Name x px,.Name y py] kt pt] (.Tuple [a,b] k2 pt2) (X c).env=pure (some [x,y]):=by intro _;rfl)(hs:∀c,Xj [.Tuple [.Name x px,.Name y py] kt pt] (.Tuple [a,b] k2 pt2) pos.line (X c).env=pure false:=by intro _;rfl) :
 PVS X G ob P (.Assign [.Tuple [.Name x px,.Name y py] kt pt] (.Tuple [a,b] k2 pt2) pos) (tK f (aQ (tgN i) (aQ (tgN j) dh))):=let⟨t,a1,a2⟩:=Y.ex;⟨_,λc=>Oq (O c) (z c) (hi c) (V c) B (F c) (Z c) (a1 c) (U c) (hs c),H9 q I a2⟩
end
def sIf(c:En->Option Bool)(f g:En->Option Fl):En->Option Fl:=λρ=>(c ρ).bind λb=>if b then f ρ else g ρ
def ur(c:En->Option (Bool×En))(f g:En->Option Fl):En->Option Fl:=λρ=>(c ρ).bind λp=>if p.1 then f p.2 else g p.2
theorem QR{c:En->Option Bool}{f g:En->Option Fl}:ur (pR c) f g=sIf c f g:=by
 funext ρ;unfold ur sIf pR;cases c ρ<;>rfl
theorem BW{tc:TT}{t u:TS}{c:En->Option (Bool×En)}{f g:En->Option Fl}(O:wy G ob tc c)(h1:RfS G ob P t f)(h2:RfS G ob P u g):RfS G ob P (Q4 tc t u) (ur c f g):=λρ r e σ H S Fr s E q=>by
 unfold ur at e;cases z:c ρ with
 |none=>simp[z]at e
 |some p=>
  obtain⟨b,ρ1⟩:=p;refine O ρ b ρ1 z σ H S Fr s _ λH1 S1 Z I=>?_;have m:Mv P H H1 σ σ S S1 []:=I.mv;cases b with
  |true=>exact qy (h1 ρ1 r (by simpa[z]using e) σ H1 S1 Fr Z E (q.from m))
  |false=>exact vR (h2 ρ1 r (by simpa[z]using e) σ H1 S1 Fr Z E (q.from m))
theorem jn{c:Expr}{a b:List Stmt}{pos:Pos}{fc:En->Option Bool}{f g:En->Option Fl}(O:PVT X G ob c fc)(Y:oE X G ob P a f)(U:oE X G ob P b g):PVS X G ob P (.If c a b pos) (sIf fc f g):=let⟨v,c1,c2⟩:=O.ex;let⟨t,a1,a2⟩:=Y.ex;let⟨u,b1,b2⟩:=U.ex;⟨_,λc=>Ms (c1 c) (a1 c) (b1 c),by rw[←QR];exact BW (Hz c2) a2 b2⟩
theorem qJ{c:Expr}{a b:List Stmt}{pos:Pos}{fc:En->Option (Bool×En)}{f g:En->Option Fl}(O:Av X G ob c fc)(Y:oE X G ob P a f)(U:oE X G ob P b g):PVS X G ob P (.If c a b pos) (ur fc f g):=let⟨v,c1,c2⟩:=O.ex;let⟨t,a1,a2⟩:=Y.ex;let⟨u,b1,b2⟩:=U.ex;⟨_,λc=>Ms (c1 c) (a1 c) (b1 c),BW c2 a2 b2⟩
def rH(f:En->Option (D×En)):En->Option Fl:=λρ=>(f ρ).bind λp=>if clean p.1 then some (.ret p.1 p.2)else none
def iW(f:En->Option D):En->Option Fl:=λρ=>(f ρ).bind λd=>if clean d then some (.ret d ρ)else none
theorem M4{f:En->Option D}:rH (eUp f)=iW f:=by
 funext ρ;unfold rH iW eUp;cases f ρ<;>rfl
theorem x_{te:TE}{f:En->Option (D×En)}(h:j4 G ob te f):RfS G ob P (G4 te) (rH f):=λρ r e σ H S Fr s E q=>by
 unfold rH at e;cases h1:f ρ with
 |none=>simp[h1]at e
 |some p=>
  obtain⟨d,ρ1⟩:=p;cases O:clean d with
  |false=>simp[h1,O]at e
  |true=>
   have:Fl.ret d ρ1=r:=by simpa[h1,O]using e
   subst this;exact h ρ d ρ1 h1 σ H S Fr s _ λv H1 M S1 Z B nd I=>q v σ H1 M S1 Z B O nd (λa Y=>(I.fm a Y).imp (λ⟨i,_,z⟩=>⟨i,z⟩) id) I.mv
theorem eV{e:Expr}{pos:Pos}{f:En->Option D}(V:PV X G ob e f):PVS X G ob P (.Return (some e) pos) (iW f):=let⟨t,a1,a2⟩:=V.ex;⟨_,λc=>qX (a1 c),by rw[←M4];exact x_ (ux a2)⟩
theorem Fj{e:Expr}{pos:Pos}{f:En->Option (D×En)}(V:PVe X G ob e f):PVS X G ob P (.Return (some e) pos) (rH f):=let⟨t,a1,a2⟩:=V.ex;⟨_,λc=>qX (a1 c),x_ a2⟩
theorem Sta.move{G:Gc}{H:Hp}{ρ:En}{σ:L2.St}{S:Ad}{Fr:Addr->Prop}{i:Nat}{d:D}(s:Sta G H ob ρ σ S Fr)(e:ρ[i]? =some (some d)) :
  ∃v,σ[i]? =some (some v)/\clean d=true/\Sta G H ob (ρ.set i none) σ (bO S i []) (plus (S i) Fr)/\Rep G H (wn ob (bO S i []) (plus (S i) Fr)) d v (S i):=by
 obtain⟨v,h1,h2,O⟩:=s.sl i d e;have I:Evo H H (wn ob S Fr) (wn ob (bO S i []) (plus (S i) Fr)):=⟨λb u h f=>⟨h,⟨λz=>z.elim (λz=>?_) f.1,λ⟨k,q1,q2⟩=>?_,λ⟨k,q1,q2⟩=>?_⟩⟩,λ_ _ h=>h⟩
 .have Z:=(by simpa[clean]using O:aB d=true/\aA d=true)
  refine⟨v,h1,O,⟨by simp[s.len],λj d' B=>?_,λj V=>?_,λj=>?_,λj k a q1 q2=>?_,λj a q1 q2=>?_,λa h=>?_⟩,h2.mono I (.inl Z.1) (.inl Z.2) λ_ _ _ h=>h⟩
  .by_cases e':j=i
   .subst e'
    rw[W5]at B;split at B
    .split at B
     .simp at B
     .cases B
    .exact absurd rfl ‹_›
   .rw[List.getElem?_set_ne (U0 e')]at B
    obtain⟨v',q1,q2,q⟩:=s.sl j _ B;refine⟨v',q1,?_,q⟩;rw[cR e'];have Z:=(by simpa[clean]using q:aB d'=true/\aA d'=true);exact q2.mono I (.inl Z.1) (.inl Z.2) λ_ _ _ h=>h
  .by_cases e':j=i
   .rw[e',cP]
   .rw[cR e']
    exact s.em j λd'=>by have:=V d';rwa[List.getElem?_set_ne (U0 e')]at this
  .by_cases e':j=i
   .rw[e',cP];exact List.nodup_nil
   .rw[cR e'];exact s.nd j
  .rcases bJ q1 with⟨_,z⟩|⟨_,z⟩
   .cases z
   .rcases bJ q2 with⟨_,z'⟩|⟨_,z'⟩
    .cases z'
    .exact s.dj j k a z z'
  .rcases bJ q2 with⟨_,z⟩|⟨n,z⟩
   .cases z
   .rcases q1 with q1|q1
    .exact n (s.dj j i a z q1)
    .exact s.fdj j a q1 z
  .rcases h with h|h
   .exact s.mu h
   .exact s.fdm a h
 .cases ho:ob i with
  |false=>exact f.2.1 ⟨i,ho,z⟩
  |true=>exact f.2.2 ⟨i,ho,z⟩
 .rcases bJ q2 with⟨_,z⟩|⟨_,z⟩
  .cases z
  .exact f.2.1 ⟨k,q1,z⟩
 .rcases bJ q2 with⟨_,z⟩|⟨_,z⟩
  .cases z
  .exact f.2.2 ⟨k,q1,z⟩
def jf(i:Nat):En->Option Fl:=λρ=>match ρ[i]? with
 |some (some d)=>some (.ret d (ρ.set i none))
 |_=>none
theorem G9{i:Nat}:RfS G ob P (G4 (xj i)) (jf i):=λρ r e σ H S Fr s E q=>by
 unfold jf at e;split at e
 .rename_i d h1
  cases e;obtain⟨v,h2,O,F,U⟩:=s.move h1;exact⟨v,h2,q v σ H (S i) (bO S i []) F U O (s.nd i) (λa Y=>.inl ⟨i,Y⟩) ⟨λ_ _ h _ _=>h,λj a z=>(bJ z).elim (λz=>by cases z.2) λz=>.inl ⟨j,z.2⟩,.refl⟩⟩
 .cases e
theorem jx(i:Nat){x:Str}{pos pos':Pos}(z:∀c,(X c).N[i]? =some x:=by intro _;rfl)(B:∀c,Vis (X c).env.scope x:=by intro _;first|exact Vr rfl|exact U8 (Vr rfl)|exact U8 (U8 rfl))(hd:(x==("__debug__":Str))=false:=by decide)(V:(x==("__classdict__":Str))=false:=by decide):PVS X G ob P (.Return (some (.Name x pos)) pos') (jf i):=⟨_,λc=>qX (pv i (z c) (B c) hd V),G9⟩
end
def mkO:Mk->Mk
 |.own=>.frz
 |m=>m
mutual
noncomputable def fzo:D->D
 |.tup ds=>.tup (gZ ds)
 |.lst m ds=>.lst (mkO m) (gZ ds)
 |.dct m ks ds=>.dct (mkO m) ks (gZ ds)
 |.ins m c fs ds=>.ins (mkO m) c fs (gZ ds)
 |d=>d
noncomputable def gZ:List D->List D
 |[]=>[]
 |d::r=>fzo d::gZ r
end
theorem jt:∀ds:List D,gZ ds=ds.map fzo
 |[]=>rfl
 |d::r=>by rw[gZ,jt r];rfl
variable{a:Addr}
theorem b7.fzo{F:Addr->HO->Prop}(hs:Les H W W' L)(hn:∀a,W.s a->W'.s a)(h:b7 F H W a o m L M):b7 F H W' a o (mkO m) [] []:=by
 cases m with
 |own=>exact⟨h.1,hs.l a (by rw[h.2];simp),rfl,rfl⟩
 |frz=>exact⟨h.1,hs.f a h.2.1,rfl,rfl⟩
 |brw=>exact⟨h.1,hn a h.2.1,rfl,rfl⟩
 |bro=>exact⟨h.1,rfl,rfl⟩
 |scr=>exact⟨h.1.imp (λz=>⟨z.1,hs.f a z.2⟩) id,rfl,rfl⟩
mutual
theorem Rep.fzo(hn:∀a,W.s a->W'.s a):∀{d:D}{v:V}{L:List Addr},Rep G H W d v L->Les H W W' L->Rep G H W' (fzo d) v []
 |.non,v,L,h,_=>by rw[Rep]at h;simp[Jb.fzo,Rep,h]
 |.bl _,v,L,h,_=>by rw[Rep]at h;simp[Jb.fzo,Rep,h]
 |.int _,v,L,h,_=>by rw[Rep]at h;simp[Jb.fzo,Rep,h]
 |.str _,v,L,h,_=>by rw[Rep]at h;simp[Jb.fzo,Rep,h]
 |.ty _,v,L,h,_=>by rw[Rep]at h;simp[Jb.fzo,Rep,h]
 |.tup ds,v,L,h,hs=>by
  rw[Rep]at h;rw[Jb.fzo,Rep];obtain⟨a,xs,rfl,U,Z⟩:=h;exact⟨a,xs,rfl,U,aC.fzo hn Z hs⟩
 |.lst m ds,v,L,h,he=>by
  rw[Rep]at h;rw[Jb.fzo,Rep];obtain⟨a,xs,M,rfl,Z,hs⟩:=h;exact⟨a,xs,[],rfl,aC.fzo hn Z (he.sub λc O=>hs.sub.subset O),hs.fzo he hn⟩
 |.dct m ks ds,v,L,h,he=>by
  rw[Rep]at h;rw[Jb.fzo,Rep];obtain⟨a,xs,M,rfl,I,Z,hs⟩:=h;exact⟨a,xs,[],rfl,I,aC.fzo hn Z (he.sub λc O=>hs.sub.subset O),hs.fzo he hn⟩
 |.ins m c' fs ds,v,L,h,he=>by
  rw[Rep]at h;rw[Jb.fzo,Rep];obtain⟨a,C,dx,xs,M,rfl,B,I,Z,hs⟩:=h;exact⟨a,C,dx,xs,[],rfl,B,I,aC.fzo hn Z (he.sub λc O=>hs.sub.subset O),hs.fzo he hn⟩
theorem aC.fzo(hn:∀a,W.s a->W'.s a):∀{ds:List D}{vs:List V}{L:List Addr},aC G H W ds vs L->Les H W W' L->aC G H W' (gZ ds) vs []
 |[],vs,L,h,_=>by obtain⟨rfl,_⟩:=h.inv0;rw[gZ];exact .nil
 |d::r,vs,L,h,he=>by
  obtain⟨x,ys,M,M',rfl,rfl,h1,h2⟩:=h.inv;rw[gZ];exact .cons (M:=[]) (M':=[]) (Rep.fzo hn h1 (he.sub λc O=>Th _ O)) (aC.fzo hn h2 (he.sub λc O=>Tc _ O))
end
mutual
theorem Ek:∀{d:D},aB d=true->aB (Jb.fzo d)=true
 |.non,_=>rfl|.bl _,_=>rfl|.int _,_=>rfl|.str _,_=>rfl|.ty _,_=>rfl
 |.tup ds,h=>by simp[aB]at h;simp[Jb.fzo,aB,e_ h]
 |.lst m ds,h=>by simp[aB]at h;cases m<;>simp[Jb.fzo,aB,e_ h.2,mkO]<;>simp at h
 |.dct m _ ds,h=>by simp[aB]at h;cases m<;>simp[Jb.fzo,aB,e_ h.2,mkO]<;>simp at h
 |.ins m _ _ ds,h=>by simp[aB]at h;cases m<;>simp[Jb.fzo,aB,e_ h.2,mkO]<;>simp at h
theorem e_:∀{ds:List D},au ds=true->au (gZ ds)=true
 |[],_=>rfl
 |d::r,h=>by simp[au]at h;simp[gZ,au,Ek h.1,e_ h.2]
end
mutual
theorem Ew:∀{d:D},aA d=true->aA (Jb.fzo d)=true
 |.non,_=>rfl|.bl _,_=>rfl|.int _,_=>rfl|.str _,_=>rfl|.ty _,_=>rfl
 |.tup ds,h=>by simp[aA]at h;simp[Jb.fzo,aA,eZ h]
 |.lst m ds,h=>by simp[aA]at h;cases m<;>simp[Jb.fzo,aA,eZ h.2,mkO]<;>simp at h
 |.dct m _ ds,h=>by simp[aA]at h;cases m<;>simp[Jb.fzo,aA,eZ h.2,mkO]<;>simp at h
 |.ins m _ _ ds,h=>by simp[aA]at h;cases m<;>simp[Jb.fzo,aA,eZ h.2,mkO]<;>simp at h
theorem eZ:∀{ds:List D},az ds=true->az (gZ ds)=true
 |[],_=>rfl
 |d::r,h=>by simp[az]at h;simp[gZ,az,Ew h.1,eZ h.2]
end
structure Wk(G:Gc)(J:It)(Lt:Hp->Wn->Prop)(items:List D):Prop where
 go:∀(i:Nat)(d:D),items[i]? =some d->∀H W,Lt H W->J.go i H
 yld:∀(i:Nat)(d:D),items[i]? =some d->∀H W,Lt H W->∀x H',J.yld i H x H'->Same H H'/\Rep G H' W d x []
 stop:∀H W,Lt H W->J.stop items.length H
def LtB(b:Bool)(H:Hp)(W:Wn):Hp->Wn->Prop:=λH2 Z=>if b=true then Evo H H2 W Z else Up H H2 W Z
variable{b:Bool}
theorem LtB.up(u:Up H H2 W Z):LtB b H W H2 Z:=by
 cases b with
 |true=>exact qy u.evo
 |false=>exact vR u
def RfI(G:Gc)(ob:Nat->Bool)(wi:TI)(f:En->Option (Bool×List D)):Prop:=∀(ρ:En)(b:Bool)(items:List D),f ρ=some (b,items)->∀(σ:L2.St)(H:Hp)(W:Wn),Rel G H W ob ρ σ->WOk H W->∀R:It->Hp->Prop,
 (∀J H',Same H H'->Wk G J (LtB b H' W) items->R J H')->wi σ H R
structure PVI{ι:Type}(X:ι->Cx)(G:Gc)(ob:Nat->Bool)(tg it:Expr)(f:En->Option (Bool×List D)):Prop where
 mk::(ex:∃t,(∀c,PI (X c) tg it t)/\RfI G ob t f)
def h_(lo:Int)(n:Nat):List D:=(Ue n).map λ(k:Nat)=>D.int (lo+(k:Int))
def o8(f:En->Option (List D)):En->Option (Bool×List D):=λρ=>(f ρ).bind λds=>match ds with
 |[.int j]=>if -(2 ^ 62)<=j/\j<2 ^ 62 then some (true,h_ 0 j.toNat)else none
 |_=>none
theorem Hw{q:Hp->Wn->Prop}{lo:Int}:Wk G (Itr lo n) q (h_ lo n)where
 go:=λi d e H W _=>by
  have:=(List.getElem?_eq_some_iff.mp e).1;show i<n;simpa[h_]using this
 yld:=λi d e H W _ x H' h=>by
  obtain⟨rfl,rfl⟩:=h;have:d= .int (lo+(i:Int)):=by
   unfold h_ at e;rw[List.getElem?_map]at e;have hi:i<n:=by
    have:=(List.getElem?_eq_some_iff.mp (show(h_ lo n)[i]? =some d by unfold h_;rw[List.getElem?_map];exact e)).1;simpa[h_]using this
   rw[abg hi]at e;simpa using e.symm
  subst this;exact⟨Same.refl _,by rw[Rep];exact⟨rfl,rfl⟩⟩
 stop:=λH W _=>by
  show n<=(h_ lo n).length;simp[h_]
variable{f:En->Option (List D)}
theorem O4(h:RfA G ob t f):RfI G ob (Gh t) (o8 f):=λρ b items e σ H W z w R q=>by
 unfold o8 at e;cases h1:f ρ with
 |none=>simp[h1]at e
 |some ds=>
  rw[h1]at e;simp only[S8]at e;split at e
  .rename_i j
   split at e
   .rename_i hj
    cases e;refine h ρ _ h1 σ H W z w _ λvs H' L s r B nd=>?_;obtain⟨x,ys,M,M',rfl,_,F,V⟩:=r.inv;obtain⟨rfl,_⟩:=V.inv0;rw[Rep]at F;obtain⟨rfl,_⟩:=F;exact⟨j,rfl,hj.1,hj.2,q _ H' s Hw⟩
   .cases e
  .cases e
def eF:D->Option (Bool×List D)
 |.lst m ds=>some (clean (.lst m ds),gZ ds)
 |.tup ds=>some (clean (.tup ds),gZ ds)
 |_=>none
def itS(f:En->Option D):En->Option (Bool×List D):=λρ=>(f ρ).bind eF
theorem Et{F:Addr->HO->Prop}{W1:Wn}(h:b7 F H W1 a o m L M)(V:Les H W1 W L)(hn:W1.s a->W.s a)(U:b=true->m≠.brw/\m≠.bro)(l:LtB b H W H2 Z):Rd H2 a o∨F a o:=by
 cases b with
 |false=>
  have u:Up H H2 W Z:=(TQ Uk).mp l;exact h.rx.imp (Same.rd u.s) id
 |true=>
  have e:Evo H H2 W Z:=(Tz rfl).mp l;cases m with
  |own=>exact .inl (.inl (e.k a o h.1 (V.l a (by rw[h.2];simp))).1)
  |frz=>exact .inl (.inl (e.k a o h.1 (V.f a h.2.1)).1)
  |brw=>exact absurd rfl (U rfl).1
  |bro=>exact absurd rfl (U rfl).2
  |scr=>exact h.1.imp (λz=>(e.rd z.1 (V.f a z.2)).1) id
theorem QV{K:Tn}(h:Rd H a (.lst xs)∨KO K a (.lst xs)):SqL K H a xs:=by
 rcases h with z|⟨ys,e,z⟩
 .exact .inl z
 .cases e
  exact .inr z
theorem LtB.rep(l:LtB b H W H2 Z)(U:b=true->aB d=true/\aA d=true)(r:Rep G H W d v []):Rep G H2 Z d v []:=by
 cases b with
 |false=>exact r.up ((TQ Uk).mp l)
 |true=>exact r.mono ((Tz rfl).mp l) (.inl (U rfl).1) (.inl (U rfl).2) (by simp)
theorem LtB.tup{H H2:Hp}{W Z:Wn}{b:Bool}{K:Tn}{a:Addr}{xs:List V}(l:LtB b H W H2 Z)(h:H a=some (.tup xs)):SqT K H2 a xs:=by
 cases b with
 |false=>exact SqT.of (((TQ Uk).mp l).s a _ h)
 |true=>exact SqT.of (((Tz rfl).mp l).t a xs h)
theorem gB(h:au ds=true)(e:ds[i]? =some d):aB d=true:=by
 induction ds generalizing i with
 |nil=>simp at e
 |cons a r Z=>
  simp only[au,TY]at h;cases i with
  |zero=>
   have:a=d:=by simpa using e
   rw[←this];exact h.1
  |succ i=>exact Z h.2 (by simpa using e)
theorem gm(h:az ds=true)(e:ds[i]? =some d):aA d=true:=by
 induction ds generalizing i with
 |nil=>simp at e
 |cons a r Z=>
  simp only[az,TY]at h;cases i with
  |zero=>
   have:a=d:=by simpa using e
   rw[←this];exact h.1
  |succ i=>exact Z h.2 (by simpa using e)
structure Parts(G:Gc)(H:Hp)(W:Wn)(b:Bool)(es:List D)(xs:List V):Prop where
 r:aC G H W es xs []
 c:b=true->au es=true/\az es=true
theorem Parts.at{G:Gc}{H H2:Hp}{W Z:Wn}{b:Bool}{es:List D}{xs:List V}(p:Parts G H W b es xs)(l:LtB b H W H2 Z){i:Nat}{d:D}{x:V}(e:es[i]? =some d)(F:xs[i]? =some x):Rep G H2 Z d x []:=by
 obtain⟨y,M,h1,h2,O⟩:=p.r.get e;rw[F]at h1;cases h1;have:M=[]:=by simpa using O
 subst this;exact l.rep (λz=>⟨gB (p.c z).1 e,gm (p.c z).2 e⟩) h2
theorem BZ{es:List D}(w:WOk H W)(s:Same H H')(r:Rep G H' (W.add L) d v L)(B:∀a∈L,H a=none)(e:eF d=some (b,es)) :
  ∃a xs,v= .ref a/\Parts G H' W b es xs/\((∀H2 q,LtB b H' W H2 q->SqL G.K H2 a xs)∨(∀H2 q,LtB b H' W H2 q->SqT G.K H2 a xs)):=by
 have free:∀a∈L,W.free a:=λa Y=>⟨λz=>?_,λz=>?_,λz=>?_⟩
 .have les:Les H' (W.add L) W L:=⟨λa f=>⟨λz=>f.1 (.inr z),f.2⟩,free⟩
  cases d with
  |lst m ds=>
   simp only[eF,Xr,aa9]at e;obtain⟨rfl,rfl⟩:=e;rw[Rep]at r;obtain⟨a,xs,M,rfl,Z,hs⟩:=r;refine⟨a,xs,rfl,⟨aC.fzo (W:=W.add L) (W':=W) (λ_ z=>z) Z (les.sub λc O=>hs.sub.subset O),λz=>?_⟩,.inl λH2 q l=>QV (Et hs les (λz=>z) (λz=>?_) l)⟩
   .simp[clean,aB,aA]at z
    exact⟨e_ z.1.2,eZ z.2.2⟩
   .simp[clean,aB,aA]at z
    exact⟨z.1.1,z.2.1⟩
  |tup ds=>
   simp only[eF,Xr,aa9]at e;obtain⟨rfl,rfl⟩:=e;rw[Rep]at r;obtain⟨a,xs,rfl,U,Z⟩:=r;refine⟨a,xs,rfl,⟨aC.fzo (W:=W.add L) (W':=W) (λ_ z=>z) Z les,λz=>?_⟩,.inr λH2 q l=>l.tup U⟩;simp[clean,aB,aA]at z;exact⟨e_ z.1,eZ z.2⟩
  |_=>simp[eF]at e
 .obtain⟨o,ho,_⟩:=w a (.inl z);rw[B a Y]at ho;cases ho
 .obtain⟨o,ho,_⟩:=w a (.inr (.inl z));rw[B a Y]at ho;cases ho
 .obtain⟨o,ho,_⟩:=w a (.inr (.inr z));rw[B a Y]at ho;cases ho
theorem aC.getV(h:aC G H W ds xs L)(e:ds[i]? =some d):∃x,xs[i]? =some x:=let⟨x,_,h,_⟩:=h.get e;⟨x,h⟩
theorem K_{f:En->Option D}(h:RfE G ob te f):RfI G ob (Qu G.K te) (itS f):=λρ b items e σ H W F w R q=>by
 unfold itS at e;cases h1:f ρ with
 |none=>simp[h1]at e
 |some d=>
  have e:eF d=some (b,items):=by simpa[h1]using e
  refine h ρ d h1 σ H W F w _ λv H' L s r V nd=>?_;obtain⟨a,xs,rfl,p,hs⟩:=BZ w s r V e;refine⟨a,rfl,?_⟩;rcases hs with hs|hs
  .refine .inl ⟨⟨xs,hs H' W (LtB.up Up.refl)⟩,q _ H' s ⟨λi d e H2 Z l=>?_,λi d e H2 Z l x Y y=>?_,λH2 Z l=>?_⟩⟩
   .obtain⟨x,hx⟩:=p.r.getV e
    exact⟨xs,x,hs H2 Z l,hx⟩
   .obtain⟨rfl,y⟩:=y
    exact⟨Same.refl _,p.at l e (y xs (hs _ Z l))⟩
   .exact⟨xs,hs H2 Z l,by rw[p.r.length];exact Tg _⟩
  .refine .inr ⟨⟨xs,hs H' W (LtB.up Up.refl)⟩,q _ H' s ⟨λi d e H2 Z l=>?_,λi d e H2 Z l x Y y=>?_,λH2 Z l=>?_⟩⟩
   .obtain⟨x,hx⟩:=p.r.getV e
    exact⟨xs,x,hs H2 Z l,hx⟩
   .obtain⟨rfl,y⟩:=y
    exact⟨Same.refl _,p.at l e (y xs (hs _ Z l))⟩
   .exact⟨xs,hs H2 Z l,by rw[p.r.length];exact Tg _⟩
def jR:Nat->List D->List D
 |_,[]=>[]
 |i,d::r=>.tup [.int (i:Int),d]::jR (i+1) r
theorem ju:∀(ds:List D)(k i:Nat),(jR k ds)[i]? =(ds[i]?).map λd=>.tup [.int ((k+i:Nat):Int),d]
 |[],k,i=>by simp[jR]
 |d::r,k,i=>by
  cases i with
  |zero=>simp[jR]
  |succ i=>
   simp only[jR,Uh];rw[ju r (k+1) i,show k+1+i=k+(i+1)by omega]
theorem jr:∀(ds:List D)(k:Nat),(jR k ds).length=ds.length
 |[],k=>rfl
 |d::r,k=>by simp[jR,jr r (k+1)]
def itE(f:En->Option (List D)):En->Option (Bool×List D):=λρ=>(f ρ).bind λds=>match ds with
 |[d]=>(eF d).map λp=>(p.1,jR 0 p.2)
 |_=>none
theorem Hs(h:RfA G ob t f):RfI G ob (Ja G.K t) (itE f):=λρ b items e σ H W rl w R q=>by
 unfold itE at e;cases h1:f ρ with
 |none=>simp[h1]at e
 |some ds=>
  rw[h1]at e;simp only[S8]at e;split at e
  .rename_i d
   cases h2:eF d with
   |none=>simp[h2]at e
   |some p=>
    obtain⟨b',es⟩:=p;obtain⟨rfl,rfl⟩:b'=b/\jR 0 es=items:=by simpa[h2]using e
    refine h ρ _ h1 σ H W rl w _ λvs H' L s r fr nd=>?_;obtain⟨v,ys,M,M',rfl,rfl,B,hy⟩:=r.inv;obtain⟨rfl,rfl⟩:=hy.inv0;rw[T3]at B fr;obtain⟨a,xs,rfl,p,hs⟩:=BZ w s B fr h2;have a0:∀(i:Nat)(d':D)(z:Addr)(x:V)(H2:Hp)(Z:Wn),(jR 0 es)[i]? =some d'->LtB b' H' W H2 Z->H2 z=none->xs[i]? =some x->Same H2 (upd H2 z (.tup [.int i,x]))/\Rep G (upd H2 z (.tup [.int i,x])) Z d' (.ref z) []:=λi d' z x H2 Z e l N F=>by
     rw[ju]at e;cases O:es[i]? with
     |none=>rw[O]at e;cases e
     |some d0=>
      rw[O]at e;have e:D.tup [.int (i:Int),d0]=d':=by simpa using e
      subst e;have I:Same H2 (upd H2 z (.tup [.int i,x])):=Same.new N;refine⟨I,?_⟩;rw[Rep];refine⟨z,_,rfl,aM,.cons (M:=[]) (M':=[]) (by rw[Rep];exact⟨rfl,rfl⟩) (.one ((p.at l O F).up (Up.same I)))⟩
    refine⟨a,rfl,?_⟩;have U:∀(i:Nat)(d':D),(jR 0 es)[i]? =some d'->∃x,xs[i]? =some x:=λi d' e=>by
     rw[ju]at e;cases O:es[i]? with
     |none=>rw[O]at e;cases e
     |some d0=>exact p.r.getV O
    rcases hs with hs|hs
    .refine .inl ⟨⟨xs,hs H' W (LtB.up Up.refl)⟩,q _ H' s ⟨λi d e H2 Z l=>?_,λi d e H2 Z l x Y y=>?_,λH2 Z l=>?_⟩⟩
     .obtain⟨x,F⟩:=U i d e
      exact⟨xs,x,hs H2 Z l,F⟩
     .obtain⟨z,v,N,rfl,B,rfl⟩:=y
      exact a0 i d z v H2 Z e l N (B xs (hs _ Z l))
     .exact⟨xs,hs H2 Z l,by rw[jr,p.r.length];exact Tg _⟩
    .refine .inr ⟨⟨xs,hs H' W (LtB.up Up.refl)⟩,q _ H' s ⟨λi d e H2 Z l=>?_,λi d e H2 Z l x Y y=>?_,λH2 Z l=>?_⟩⟩
     .obtain⟨x,F⟩:=U i d e
      exact⟨xs,x,hs H2 Z l,F⟩
     .obtain⟨z,v,N,rfl,B,rfl⟩:=y
      exact a0 i d z v H2 Z e l N (B xs (hs _ Z l))
     .exact⟨xs,hs H2 Z l,by rw[jr,p.r.length];exact Tg _⟩
  .cases e
variable{a:Expr}
theorem zY(q:∀c,Gl (X c) "range")(N:∀c,(X c).mg "range"=none)(Y:PVA X G ob [a] f)(hs:∀c,Tj [a] (X c).env=[(false,eval a (X c).env)]:=by intro _;rfl):PVI X G ob tg (.Call (.Name "range" p) [a] [] pos) (o8 f):=let⟨t,a1,a2⟩:=Y.ex;⟨_,λc=>uF (q c) (N c) (a1 c) (hs c),O4 a2⟩
theorem jF{f:En->Option D}(Y:PV X G ob a f)(z:∀c,(X c).K=G.K:=by intro _;rfl):PVI X G ob tg a (itS f):=let⟨t,a1,a2⟩:=Y.ex;⟨_,λc=>(by rw[←z c];exact Nf (a1 c)),K_ a2⟩
theorem xF(q:∀c,Gl (X c) "enumerate")(N:∀c,(X c).mg "enumerate"=none)(Y:PVA X G ob [a] f)(hs:∀c,Tj [a] (X c).env=[(false,eval a (X c).env)]:=by intro _;rfl)(z:∀c,(X c).K=G.K:=by intro _;rfl):PVI X G ob (.Tuple elts x1 tpos) (.Call (.Name "enumerate" p) [a] [] pos) (itE f):=let⟨t,a1,a2⟩:=Y.ex;⟨_,λc=>(by rw[←z c];exact Jj (q c) (N c) (a1 c) (hs c)),Hs a2⟩
def forL(tg:D->En->Option En)(B:En->Option Fl):List D->En->Option Fl
 |[],ρ=>some (.nx ρ)
 |d::r,ρ=>(tg d ρ).bind λρ1=>match B ρ1 with
  |some (.nx ρ2)=>forL tg B r ρ2
  |some (.cnt ρ2)=>forL tg B r ρ2
  |some (.brk ρ2)=>some (.nx ρ2)
  |o=>o
def iD(it:En->Option (Bool×List D))(tg:D->En->Option En)(B:En->Option Fl):En->Option Fl:=λρ=>(it ρ).bind λp=>if p.1=true then forL tg B p.2 ρ else none
theorem Aj{σ2:L2.St}{S2:Ad}{Fr:Addr->Prop}(s:Sta G H ob ρ σ S Fr)(m:Mv P H H2 σ σ2 S S2 []):Evo H H2 (wn ob S Fr) (wn ob S2 Fr)where
 k:=λb u U f=>by
  have O:¬inS S b:=λ⟨i,z⟩=>by
   cases B:ob i with
   |false=>exact f.2.1 ⟨i,B,z⟩
   |true=>exact f.2.2 ⟨i,B,z⟩
  have I:¬inS S2 b:=λ⟨i,z⟩=>(m.gr i b z).elim O λz=>z.elim (λz=>by cases z) λz=>by rw[U]at z;cases z
  exact⟨m.kp b u U O (by simp),f.1,λ⟨i,_,z⟩=>I ⟨i,z⟩,λ⟨i,_,z⟩=>I ⟨i,z⟩⟩
 t:=λb xs h=>by
  have q:∀u,H b=some u->muO u=false->H2 b=some u:=λu F mu=>m.kp b u F (λ⟨i,z⟩=>by
   obtain⟨o,B,N⟩:=s.mu z;rw[F]at B;cases B;rw[mu]at N;cases N) (by simp)
  exact q _ h rfl
variable{tg:D->En->Option En}{B:En->Option Fl}{tb:TS}{wi:TI}{it:En->Option (Bool×List D)}
theorem Bb{g:TG}(hi:RfI G ob wi it)(hg:RfG G ob P g tg)(U:RfS G ob P tb B):RfS G ob P (Kd wi g tb) (iD it tg B):=λρ r e σ H S Fr s E q=>by
 unfold iD at e;cases h1:it ρ with
 |none=>simp[h1]at e
 |some p=>
  obtain⟨b,items⟩:=p;cases b with
  |false=>simp[h1]at e
  |true=>
   have e:forL tg B items ρ=some r:=by simpa[h1]using e
   refine hi ρ true items h1 σ H _ s.rel s.wok _ λJ H1 I wk=>?_;have Z:Sta G H1 ob ρ σ S Fr:=s.grow I λa z=>.inl z;have m1:Mv P H H1 σ σ S S []:=⟨λb u h _ _=>I b u h,λi a z=>.inl ⟨i,z⟩,.refl⟩;have q1:=q.from m1;have a0:∀{ρ2:En}{σ2:L2.St}{H2:Hp}{S2:Ad},Mv P H1 H2 σ σ2 S S2 []->LtB true H1 (wn ob S Fr) H2 (wn ob S2 Fr):=λm=>qy (Aj Z m);refine⟨λi m σ2 H2=>i+m=items.length/\∃ρ2 S2,Sta G H2 ob ρ2 σ2 S2 Fr/\Mv P H1 H2 σ σ2 S S2 []/\forL tg B (items.drop i) ρ2=some r,⟨items.length,by omega,ρ,S,Z,.refl,e⟩,?_⟩;rintro i m σ2 H2 ⟨a7,ρ2,S2,s2,m2,e2⟩;by_cases a3:i<items.length
   .refine .inr ⟨wk.go i items[i] (by simp[a3]) H2 _ (a0 (ρ2:=ρ2) m2),λF H'=>(i+1)+(m-1)=items.length/\∃ρ2 S2,Sta G H' ob ρ2 F S2 Fr/\Mv P H1 H' σ F S S2 []/\forL tg B (items.drop (i+1)) ρ2=some r,λF H' h=>⟨m-1,by omega,h⟩,λx Y V=>?_⟩
    obtain⟨N,rx⟩:=wk.yld i items[i] (by simp[a3]) H2 _ (a0 (ρ2:=ρ2) m2) x Y V;rw[←VG a3,forL]at e2;cases O:tg items[i] ρ2 with
    |none=>simp[O]at e2
    |some a4=>
     rw[O]at e2;simp only[S8]at e2;have a6:Sta G Y ob ρ2 σ2 S2 Fr:=s2.grow N λa z=>.inl z;refine hg items[i] ρ2 a4 O x σ2 Y S2 [] Fr (by rw[iB];exact a6) (by rw[iB];exact rx) List.nodup_nil (by simp) _ λa5 H4 S4 s4 m4=>?_;have a2:Mv P H1 H4 σ a5 S S4 []:=(m2.trans (S2:=S2) ⟨λb u h _ _=>N b u h,λi a z=>.inl ⟨i,z⟩,.refl⟩).trans m4;cases h5:B a4 with
     |none=>rw[h5]at e2;cases e2
     |some fl=>
      rw[h5]at e2;refine U a4 fl h5 a5 H4 S4 Fr s4 _ ?_;cases fl with
      |nx a1=>exact λF H' S' s' m'=>⟨by omega,a1,S',s',a2.trans m',e2⟩
      |cnt a1=>exact λF H' S' s' m'=>⟨by omega,a1,S',s',a2.trans m',e2⟩
      |brk a1=>cases e2;exact λF H' S' s' m'=>q1 F H' S' s' (a2.trans m')
      |ret d a1=>cases e2;exact q1.from a2
   .have hl:i=items.length:=by omega
    rw[hl,Wb,forL]at e2;cases e2;subst hl;exact .inl ⟨wk.stop H2 _ (a0 (ρ2:=ρ2) m2),q1 σ2 H2 S2 s2 m2⟩
variable{f:En->Option Fl}
theorem jc{tg iter:Expr}{B:List Stmt}{g:D->En->Option En}(N:∀c,Zw (model (X c).prog (X c).w) (X c).A (X c).env (X c).xe)(O:∀c,(X c).calm=true)(hi:PVI X G ob tg iter it)(q:PVG X G ob P tg g)(U:oE X G ob P B f)(hs:∀c,∀x,VJ iter (X c).env x=pure x:=by intro _;intro _;rfl):PVS X G ob P (.For tg iter B [] pos) (iD it g f):=let⟨v,c1,c2⟩:=hi.ex;let⟨t,a1,a2⟩:=q.ex;let⟨u,b1,b2⟩:=U.ex;⟨_,λc=>zW (N c) (O c) (c1 c) (a1 c) (b1 c) (hs c),Bb c2 a2 b2⟩
def iK(c:En->Option (Bool×En))(B:En->Option Fl):Nat->En->Option Fl
 |0,_=>none
 |n+1,ρ=>(c ρ).bind λp=>if p.1=true then(match B p.2 with
  |some (.nx ρ2)=>iK c B n ρ2
  |some (.cnt ρ2)=>iK c B n ρ2
  |some (.brk ρ2)=>some (.nx ρ2)
  |o=>o)else some (.nx p.2)
theorem DR{tc:TT}{c:En->Option (Bool×En)}(n:Nat)(O:wy G ob tc c)(U:RfS G ob P tb B):RfS G ob P (HQ tc tb) (iK c B n):=λρ r e σ H S Fr s E q=>by
 refine⟨λm σ2 H2=>∃ρ2 S2,Sta G H2 ob ρ2 σ2 S2 Fr/\Mv P H H2 σ σ2 S S2 []/\iK c B m ρ2=some r,⟨n,ρ,S,s,.refl,e⟩,?_⟩;rintro m σ2 H2 ⟨ρ2,S2,s2,V,e2⟩;cases m with
 |zero=>cases e2
 |succ m=>
  rw[iK]at e2;cases h1:c ρ2 with
  |none=>simp[h1]at e2
  |some p=>
   obtain⟨b,a0⟩:=p;rw[h1]at e2;simp only[S8]at e2;refine O ρ2 b a0 h1 σ2 H2 S2 Fr s2 _ λY S3 N Z=>?_;have m3:Mv P H Y σ σ2 S S3 []:=V.trans Z.mv;cases b with
   |false=>
    simp only[Uo,VM]at e2;cases e2;exact vR (q σ2 Y S3 N m3)
   |true=>
    simp only[Ud]at e2;refine qy ⟨λF H'=>∃ρ2 S2,Sta G H' ob ρ2 F S2 Fr/\Mv P H H' σ F S S2 []/\iK c B m ρ2=some r,λF H' h=>⟨m,Xb m,h⟩,?_⟩;cases h5:B a0 with
    |none=>rw[h5]at e2;cases e2
    |some z=>
     rw[h5]at e2;refine U a0 z h5 σ2 Y S3 Fr N _ ?_;cases z with
     |nx I=>exact λF H' S' s' m'=>⟨I,S',s',m3.trans m',e2⟩
     |cnt I=>exact λF H' S' s' m'=>⟨I,S',s',m3.trans m',e2⟩
     |brk I=>cases e2;exact λF H' S' s' m'=>q F H' S' s' (m3.trans m')
     |ret d I=>cases e2;exact q.from m3
theorem vg(n:Nat){B:List Stmt}{fc:En->Option (Bool×En)}(N:∀c,Zw (model (X c).prog (X c).w) (X c).A (X c).env (X c).xe)(O:Av X G ob c fc)(U:oE X G ob P B f):PVS X G ob P (.While c B [] pos) (iK fc f n):=let⟨v,c1,c2⟩:=O.ex;let⟨u,b1,b2⟩:=U.ex;⟨_,λc=>H_ (N c) (c1 c) (b1 c),DR n c2 b2⟩
def qZ(i:Nat)(ρ:En):Option En:=match ρ[i]? with
 |some (some d)=>some (ρ.set i (some (fz d)))
 |_=>none
theorem Sta.freeze{I:En}{Fr:Addr->Prop}(s:Sta G H ob ρ σ S Fr)(e:qZ i ρ=some I):Sta G H ob I σ (bO S i []) Fr:=by
 unfold qZ at e;split at e
 .rename_i d h1
  cases e;obtain⟨v,h2,O,F,U⟩:=s.move h1;have Z:Sta G H ob (ρ.set i none) σ (bO S i []) Fr:=F.lessF λa z=>.inr z;have N:i<ρ.length:=(List.getElem?_eq_some_iff.mp h1).1;have q:Rep G H (wn ob (bO S i []) Fr) (fz d) v []:=by
   refine U.fz ⟨λa f=>⟨λz=>f.1 (.inr z),f.2⟩,λa Y=>⟨λz=>s.fdj i a z Y,λ⟨j,q1,q2⟩=>?_,λ⟨j,q1,q2⟩=>?_⟩⟩ (.inl O)
   .rcases bJ q2 with⟨_,z⟩|⟨n,z⟩
    .cases z
    .exact n (s.dj j i a z Y)
   .rcases bJ q2 with⟨_,z⟩|⟨n,z⟩
    .cases z
    .exact n (s.dj j i a z Y)
  refine⟨by simp[s.len],λj d' B=>?_,λj V=>?_,Z.nd,Z.dj,Z.fdj,Z.fdm⟩
  .by_cases e':j=i
   .subst e'
    have:fz d=d':=by simpa[N]using B
    subst this;exact⟨v,h2,by rw[cP];exact q,Hc d⟩
   .rw[List.getElem?_set_ne (U0 e')]at B
    exact Z.sl j d' (by rw[List.getElem?_set_ne (U0 e')];exact B)
  .by_cases e':j=i
   .rw[e',cP]
   .exact Z.em j λd'=>by have:=V d';rw[List.getElem?_set_ne (U0 e')]at this⊢;exact this
 .cases e
def sFz(i:Nat)(f:En->Option Fl):En->Option Fl:=λρ=>(qZ i ρ).bind f
theorem OD{t:TS}(h:RfS G ob P t f):RfS G ob P t (sFz i f):=λρ r e σ H S Fr s E q=>by
 unfold sFz at e;cases h1:qZ i ρ with
 |none=>simp[h1]at e
 |some ρ1=>
  have e:f ρ1=some r:=by simpa[h1]using e
  have m:Mv P H H σ σ S (bO S i []) []:=⟨λ_ _ h _ _=>h,λj a z=>(bJ z).elim (λz=>by cases z.2) λz=>.inl ⟨j,z.2⟩,.refl⟩;exact h ρ1 r e σ H (bO S i []) Fr (s.freeze h1) E (q.from m)
theorem vq(i:Nat){st:Stmt}(h:PVS X G ob P st f):PVS X G ob P st (sFz i f):=let⟨t,a1,a2⟩:=h.ex;⟨t,a1,OD a2⟩
mutual
noncomputable def cM:D->Bool
 |.tup ds=>bG ds
 |.lst m ds=>m== .own&&bG ds
 |.dct m _ ds=>m== .own&&bG ds
 |.ins m _ _ ds=>m== .own&&bG ds
 |_=>true
noncomputable def bG:List D->Bool
 |[]=>true
 |d::r=>cM d&&bG r
end
mutual
theorem Rep.own:∀{d:D}{v:V}{L:List Addr},Rep G H W d v L->cM d=true->Rep G H W' d v L
 |.non,v,L,h,_=>by rw[Rep]at h⊢;exact h
 |.bl _,v,L,h,_=>by rw[Rep]at h⊢;exact h
 |.int _,v,L,h,_=>by rw[Rep]at h⊢;exact h
 |.str _,v,L,h,_=>by rw[Rep]at h⊢;exact h
 |.ty _,v,L,h,_=>by rw[Rep]at h⊢;exact h
 |.tup ds,v,L,h,o=>by
  rw[Rep]at h⊢;obtain⟨a,xs,rfl,U,Z⟩:=h;exact⟨a,xs,rfl,U,aC.own Z (by simpa[cM]using o)⟩
 |.lst m ds,v,L,h,o=>by
  rw[Rep]at h⊢;obtain⟨a,xs,M,rfl,Z,hs⟩:=h;simp[cM]at o;obtain⟨rfl,o⟩:=o;exact⟨a,xs,M,rfl,aC.own Z o,hs⟩
 |.dct m ks ds,v,L,h,o=>by
  rw[Rep]at h⊢;obtain⟨a,xs,M,rfl,I,Z,hs⟩:=h;simp[cM]at o;obtain⟨rfl,o⟩:=o;exact⟨a,xs,M,rfl,I,aC.own Z o,hs⟩
 |.ins m c fs ds,v,L,h,o=>by
  rw[Rep]at h⊢;obtain⟨a,C,dx,xs,M,rfl,B,I,Z,hs⟩:=h;simp[cM]at o;obtain⟨rfl,o⟩:=o;exact⟨a,C,dx,xs,M,rfl,B,I,aC.own Z o,hs⟩
theorem aC.own:∀{ds:List D}{vs:List V}{L:List Addr},aC G H W ds vs L->bG ds=true->aC G H W' ds vs L
 |[],vs,L,h,_=>by rw[aC]at h⊢;exact h
 |d::r,vs,L,h,o=>by
  obtain⟨x,ys,M,M',rfl,rfl,h1,h2⟩:=h.inv;simp[bG]at o;exact .cons (Rep.own h1 o.1) (aC.own h2 o.2)
end
def W1(Fr:Addr->Prop):Wn:=⟨Fr,λ_=>False,λ_=>False⟩
def spP(G:Gc)(F:List D->Option D):Sp:=λvs H Q _=>∃(ds:List D)(Fr:Addr->Prop),aC G H (W1 Fr) ds vs []/\au ds=true/\az ds=true/\(∀a,Fr a->Mu H a)/\∃d,F ds=some d/\
 ∀v H' L,Same H H'->Rep G H' (W1 (plus L Fr)) d v L->(∀a∈L,H a=none)->L.Nodup->clean d=true->Q v H'
def en0(n:Nat)(ds:List D):En:=ds.map some++U3 (n-ds.length) none
def fnP(F n:Nat)(B:En->Option Fl):List D->Option D:=λds=>if ds.length=F then(B (en0 n ds)).bind λr=>match r with
 |.ret d _=>some d
 |.nx _=>some .non
 |_=>none else none
theorem Bv(h:(en0 n ds)[i]? =some (some d)):ds[i]? =some d:=by
 unfold en0 at h;by_cases hi:i<ds.length
 .rw[Uq (by simpa using hi)]at h
  simpa using h
 .rw[Vb (by simpa using Nat.le_of_not_lt hi)]at h
  rw[aag]at h;split at h
  .simp at h
  .cases h
theorem R9{vs:List V}{Fr:Addr->Prop}(r:aC G H (W1 Fr) ds vs [])(q:au ds=true)(B:az ds=true)(fm:∀a,Fr a->Mu H a):Sta G H ob (en0 N.length ds) (L2.start N vs) (λ_=>[]) Fr where
 len:=by simp[en0,L2.start,r.length]
 sl:=λi d e=>by
  have e:=Bv e;obtain⟨x,M,h1,h2,O⟩:=r.get e;have:M=[]:=by simpa using O
  subst this;refine⟨x,?_,h2.up ⟨Same.refl _,λb u U f=>⟨f.1,λ⟨j,_,z⟩=>(by cases z),λ⟨j,_,z⟩=>(by cases z)⟩,λb u U f=>f.elim⟩,by simp[clean,gB q e,gm B e]⟩;unfold L2.start;have hi:i<vs.length:=(List.getElem?_eq_some_iff.mp h1).1;rw[Uq (by simpa using hi)];simp[h1]
 em:=λ_ _=>rfl
 nd:=λ_=>List.nodup_nil
 dj:=λi j a h=>by cases h
 fdj:=λi a _ h=>by cases h
 fdm:=fm
section
variable{P:Program}{w:World}{K:PySem.W.Frag}{mg:Str->Option Value}{base:Heap}
theorem Ox{a:Addr}:¬inS (λ_=>[]) a:=λ⟨_,z⟩=>by cases z
theorem okP{x O:Str}{st:Stmt}{f:Addr}{fd:U_}{N ps:List Str}{k:Nat}{ob Pr:Nat->Bool}{B:En->Option Fl}(F:Fun K x O st f fd)(S:bV N ps (aK st))
  (U:∀(V:Value)(A:U4)(outer:List Env)(s:S6)(H:Hp)(E:XK),ie k (A.deeper (Yz O (aK st) s.heap.objs.size f V))->oE (λ_:Unit=>(yp CX0 P w K mg base N O (aK st) f V A outer s H E).nox) ⟨K,mg⟩ ob Pr (bF st) B) :
  eX P w K mg base CX0 (k+1) f fd ps (spP ⟨K,mg⟩ (fnP ps.length N.length B)):=by
 refine F.ok S (λvs H Q E h=>?_) (λV A outer s H vs Q E Z h=>?_)
 .obtain⟨ds,Fr,r,_,_,_,d,e,_⟩:=h
  unfold fnP at e;split at e
  .rename_i hl
   rw[←r.length];exact hl
  .cases e
 .obtain⟨ds,Fr,r,c1,c2,fm,d,e,q⟩:=h
  obtain⟨t,a1,a2⟩:=(U V A outer s H E Z).ex;refine⟨t,a1 (),?_⟩;unfold fnP at e;split at e
  .cases h1:B (en0 N.length ds)with
   |none=>simp[h1]at e
   |some fl=>
    rw[h1]at e;simp only[S8]at e;refine a2 _ fl h1 (L2.start N vs) H (λ_=>[]) Fr (R9 (ob:=ob) r c1 c2 fm) _ ?_;have a3:∀{S':Ad}{M:List Addr}{b:Addr},(wn ob S' (plus M Fr)).free b->(W1 (plus M Fr)).free b:=λz=>⟨z.1,id,id⟩;cases fl with
    |nx I=>
     cases e;exact λa4 H' S' s' m=>q .non H' [] (λb o h=>m.kp b o h Ox (by simp)) (by rw[Rep];exact⟨rfl,rfl⟩) (by simp) List.nodup_nil rfl
    |ret d' I=>
     cases e;exact λv a4 H' M S' s' r' c n f m=>q v H' M (λb o h=>m.kp b o h Ox (by simp)) (by
      have a0:=(by simpa[clean]using c:aB d=true/\aA d=true);have ev:Evo H' H' (wn ob S' (plus M Fr)) (W1 (plus M Fr)):=⟨λb u h z=>⟨h,a3 z⟩,λ_ _ h=>h⟩;exact r'.mono ev (.inl a0.1) (.inl a0.2) λ_ _ _ h=>h) (λa Y=>(f a Y).resolve_left Ox) n c
    |brk I=>cases e
    |cnt I=>cases e
  .cases e
end
def cV(F:List D->Option D)(ds:List D):Option D:=(F (fzL ds)).bind λd=>if(au ds&&az ds)||cM d then some d else none
theorem HX{F:List D->Option D}{E:XK}:CaV G (λvs H Q=>spP G F (vs++[]) H Q E) (cV F):=λds d e xs H W O r nd hn w Q q=>by
 unfold cV at e;cases h1:F (fzL ds)with
 |none=>simp[h1]at e
 |some d'=>
  rw[h1]at e;simp only[S8]at e;split at e
  .rename_i hc
   cases e;rw[T3];by_cases N:au ds=true/\az ds=true
   .refine⟨fzL ds,λa=>(W.n a∨W.s a∨W.o a)/\a∉O,r.fz ⟨λa f=>⟨λz=>z.1.elim f.1 λz=>z.elim f.2.1 f.2.2,id,id⟩,λa Y=>⟨λz=>z.2 Y,id,id⟩⟩ (.inl N),fH ds,fJ ds,λa h=>w a h.1,d,h1,λv H' L s U V n c=>?_⟩
    refine q v H' L s ?_ (λa Y=>.inr (V a Y)) n;have Z:=(by simpa[clean]using c:aB d=true/\aA d=true);have hL:∀a∈L,a∉O:=λa Y z=>by
     obtain⟨o,B,_⟩:=r.dom a z;rw[V a Y]at B;cases B
    have I:Evo H' H' (W1 (plus L λa=>(W.n a∨W.s a∨W.o a)/\a∉O)) ((W.drop O).add L):=⟨λb u h f=>⟨h,⟨λz=>z.elim (λz=>f.1 (.inl z)) λz=>f.1 (.inr ⟨.inl z.1,z.2⟩),λz=>f.1 (.inr ⟨.inr (.inl z),λy=>?_⟩),λz=>f.1 (.inr ⟨.inr (.inr z),λy=>?_⟩)⟩⟩,λ_ _ h=>h⟩
    .exact U.mono I (.inl Z.1) (.inl Z.2) λ_ _ _ h=>h
    .exact(hn b y).2.1 z
    .exact(hn b y).2.2 z
   .have B:cM d=true:=by
     simp only[X6,TY]at hc;exact hc.resolve_left N
    refine⟨fzL ds,λ_=>False,r.fz ⟨λa f=>⟨id,id,id⟩,λa Y=>⟨id,id,id⟩⟩ (.inr λa=>⟨id,id,id⟩),fH ds,fJ ds,λa h=>h.elim,d,h1,λv H' L s U V n c=>?_⟩;exact q v H' L s (U.own B) (λa Y=>.inr (V a Y)) n
  .cases e
theorem jm{F:List D->Option D}{f:En->Option (List D)}(C:∀c,Cal (X c).prog (X c).w (X c).K (X c).mg (X c).base k x ps (spP G F))(Z:∀c,ie k (X c).A)(Y:PVA X G ob (e::es) f)(q:∀c,Gl (X c) x:=by intro _;rfl)(O:(x==("__debug__":Str))=false:=by decide)(V:∀c,Tj (e::es) (X c).env=(false,eval e (X c).env)::Tj es (X c).env:=by intro _;rfl)(z:∀c,(Vf pos (Tj es (X c).env)).any (·.1)=false:=by intro _;rfl) :
 PV X G ob (.Call (.Name x p) (e::es) [] pos) (eAp (cV F) f):=let⟨t,a1,a2⟩:=Y.ex;⟨_,λc=>Gq (C c) (Z c) (q c) (a1 c) O (V c) (z c),tE HX a2⟩
variable{a:Addr}
theorem b7.fz2{F:Addr->HO->Prop}(hs:Les H W W' L)(U:m≠.brw∨∀a,W.s a->W'.free a)(B:m≠.bro∨lA W')(h:b7 F H W a o m L M):b7 F H W' a o (mkF m) [] []:=by
 cases m with
 |own=>exact⟨h.1,hs.l a (by rw[h.2];simp),rfl,rfl⟩
 |frz=>exact⟨h.1,hs.f a h.2.1,rfl,rfl⟩
 |brw=>exact⟨h.1,U.elim (λz=>absurd rfl z) λz=>z a h.2.1,rfl,rfl⟩
 |bro=>exact⟨h.1,B.elim (λz=>absurd rfl z) λz=>z a,rfl,rfl⟩
 |scr=>exact⟨h.1.imp (λz=>⟨z.1,hs.f a z.2⟩) id,rfl,rfl⟩
mutual
theorem Rep.fz2:∀{d:D}{v:V}{L:List Addr},Rep G H W d v L->Les H W W' L->(aB d=true∨∀a,W.s a->W'.free a)->(aA d=true∨lA W')->Rep G H W' (fz d) v []
 |.non,v,L,h,_,_,_=>by rw[Rep]at h;simp[Jb.fz,Rep,h]
 |.bl _,v,L,h,_,_,_=>by rw[Rep]at h;simp[Jb.fz,Rep,h]
 |.int _,v,L,h,_,_,_=>by rw[Rep]at h;simp[Jb.fz,Rep,h]
 |.str _,v,L,h,_,_,_=>by rw[Rep]at h;simp[Jb.fz,Rep,h]
 |.ty _,v,L,h,_,_,_=>by rw[Rep]at h;simp[Jb.fz,Rep,h]
 |.tup ds,v,L,h,hs,c,o=>by
  rw[Rep]at h;rw[Jb.fz,Rep];obtain⟨a,xs,rfl,U,Z⟩:=h;exact⟨a,xs,rfl,U,aC.fz2 Z hs (by simpa[aB]using c) (by simpa[aA]using o)⟩
 |.lst m ds,v,L,h,he,c,o=>by
  rw[Rep]at h;rw[Jb.fz,Rep];obtain⟨a,xs,M,rfl,Z,hs⟩:=h;exact⟨a,xs,[],rfl,aC.fz2 Z (he.sub λc O=>hs.sub.subset O) (c.imp (λz=>by simp[aB]at z;exact z.2) id) (o.imp (λz=>by simp[aA]at z;exact z.2) id),hs.fz2 he (c.imp (λz=>by simp[aB]at z;exact z.1) id) (o.imp (λz=>by simp[aA]at z;exact z.1) id)⟩
 |.dct m ks ds,v,L,h,he,c,o=>by
  rw[Rep]at h;rw[Jb.fz,Rep];obtain⟨a,xs,M,rfl,I,Z,hs⟩:=h;exact⟨a,xs,[],rfl,I,aC.fz2 Z (he.sub λc O=>hs.sub.subset O) (c.imp (λz=>by simp[aB]at z;exact z.2) id) (o.imp (λz=>by simp[aA]at z;exact z.2) id),hs.fz2 he (c.imp (λz=>by simp[aB]at z;exact z.1) id) (o.imp (λz=>by simp[aA]at z;exact z.1) id)⟩
 |.ins m c' fs ds,v,L,h,he,c,o=>by
  rw[Rep]at h;rw[Jb.fz,Rep];obtain⟨a,C,dx,xs,M,rfl,B,I,Z,hs⟩:=h;exact⟨a,C,dx,xs,[],rfl,B,I,aC.fz2 Z (he.sub λc O=>hs.sub.subset O) (c.imp (λz=>by simp[aB]at z;exact z.2) id) (o.imp (λz=>by simp[aA]at z;exact z.2) id),hs.fz2 he (c.imp (λz=>by simp[aB]at z;exact z.1) id) (o.imp (λz=>by simp[aA]at z;exact z.1) id)⟩
theorem aC.fz2:∀{ds:List D}{vs:List V}{L:List Addr},aC G H W ds vs L->Les H W W' L->(au ds=true∨∀a,W.s a->W'.free a)->(az ds=true∨lA W')->aC G H W' (fzL ds) vs []
 |[],vs,L,h,_,_,_=>by obtain⟨rfl,_⟩:=h.inv0;rw[fzL];exact .nil
 |d::r,vs,L,h,he,c,o=>by
  obtain⟨x,ys,M,M',rfl,rfl,h1,h2⟩:=h.inv;rw[fzL];exact .cons (M:=[]) (M':=[]) (Rep.fz2 h1 (he.sub λc O=>Th _ O) (c.imp (λz=>by simp[au]at z;exact z.1) id) (o.imp (λz=>by simp[az]at z;exact z.1) id))
   (aC.fz2 h2 (he.sub λc O=>Tc _ O) (c.imp (λz=>by simp[au]at z;exact z.2) id) (o.imp (λz=>by simp[az]at z;exact z.2) id))
end
def spI(G:Gc)(ob pr:Nat->Bool)(F:List D->Option (D×List D)):Sp:=λvs H Q _=>∃(ds:List D)(S:Ad)(Fr:Addr->Prop),Sta G H ob (ds.map some) (vs.map some) S Fr/\(∀i,pr i=false->S i=[])/\∃d q,F ds=some (d,q)/\
 ∀v H' M S',Sta G H' ob (q.map some) (vs.map some) S' (plus M Fr)->Rep G H' (wn ob S' (plus M Fr)) d v M->clean d=true->M.Nodup->(∀a∈M,inS S a∨H a=none)->Mv (λ_=>false) H H' [] [] S S' []->Q v H'
def outs(pr:Nat->Bool)(ρ:En):Nat->List D->Option (List D)
 |_,[]=>some []
 |i,d::r=>(if pr i=true then(match ρ[i]? with
  |some (some e)=>some e
  |_=>none)else some d).bind λe=>(outs pr ρ (i+1) r).map λt=>e::t
def fnI(pr:Nat->Bool)(F n:Nat)(B:En->Option Fl):List D->Option (D×List D):=λds=>if ds.length=F then(B (en0 n ds)).bind λr=>match r with
 |.ret d ρ=>(outs pr ρ 0 ds).map λo=>(d,o)
 |.nx ρ=>(outs pr ρ 0 ds).map λo=>(.non,o)
 |_=>none else none
theorem Dc{pr:Nat->Bool}{ρ:En}:∀{ds F:List D}{k:Nat},outs pr ρ k ds=some F->F.length=ds.length/\∀i d,F[i]? =some d->(pr (k+i)=true/\ρ[k+i]? =some (some d))∨(pr (k+i)=false/\ds[i]? =some d)
 |[],F,k,e=>by
  cases e;exact⟨rfl,λi d h=>by simp at h⟩
 |d0::r,F,k,e=>by
  rw[outs]at e;cases h2:outs pr ρ (k+1) r with
  |none=>
   rw[h2]at e;simp at e
  |some t=>
   rw[h2]at e;obtain⟨q,N⟩:=Dc h2;have V:∃B,F=B::t/\((pr k=true/\ρ[k]? =some (some B))∨(pr k=false/\d0=B)):=by
    split at e
    .rename_i hp
     split at e
     .rename_i B h0
      exact⟨B,by simpa using e.symm,.inl ⟨hp,h0⟩⟩
     .simp at e
    .rename_i hp
     exact⟨d0,by simpa using e.symm,.inr ⟨by simpa using hp,rfl⟩⟩
   obtain⟨B,rfl,I⟩:=V;refine⟨by simp[q],λi d h=>?_⟩;cases i with
   |zero=>
    have:B=d:=by simpa using h
    subst this;exact I.imp id λz=>⟨z.1,by simp[z.2]⟩
   |succ i=>
    have:=N i d (by simpa using h);rw[show k+1+i=k+(i+1)by omega]at this;simpa using this
theorem jG{xs:List α}{x:α}(h:(xs.map some)[i]? =some (some x)):xs[i]? =some x:=by
 rw[List.getElem?_map]at h;cases e:xs[i]? with
 |none=>rw[e]at h;cases h
 |some y=>rw[e]at h;simpa using h
theorem dm{xs:List α}{x:α}(h:xs[i]? =some x):(xs.map some)[i]? =some (some x):=by rw[List.getElem?_map,h];rfl
theorem SX{vs:List V}{Fr:Addr->Prop}(s:Sta G H ob (ds.map some) (vs.map some) S Fr):Sta G H ob (en0 N.length ds) (L2.start N vs) S Fr where
 len:=by have:=s.len;simp at this;simp[en0,L2.start,this]
 sl:=λi d e=>by
  obtain⟨v,h1,h2,O⟩:=s.sl i d (dm (Bv e));refine⟨v,?_,h2,O⟩;unfold L2.start;have hi:i<(vs.map some).length:=(List.getElem?_eq_some_iff.mp h1).1;rw[Uq hi];exact h1
 em:=λi h=>s.em i λd e=>h d (by
  unfold en0;have hi:i<(ds.map some).length:=(List.getElem?_eq_some_iff.mp e).1;rw[Uq hi];exact e)
 nd:=s.nd
 dj:=s.dj
 fdj:=s.fdj
 fdm:=s.fdm
section
variable{P:Program}{w:World}{K:PySem.W.Frag}{mg:Str->Option Value}{base:Heap}
theorem xV{G:Gc}{H H':Hp}{ob pr:Nat->Bool}{ds F:List D}{vs:List V}{N:List Str}{S S1:Ad}{Fr:Addr->Prop}{ρ:En}{σ:L2.St}{M:List Addr}(s:Sta G H ob (ds.map some) (vs.map some) S Fr)(hp:∀i,pr i=false->S i=[])(Z:Sta G H' ob ρ σ S1 (plus M Fr))
  (m:Mv pr H H' (L2.start N vs) σ S S1 []) (hM:∀a∈M,inS S a∨H a=none) (e:outs pr ρ 0 ds=some F) :
  Sta G H' ob (F.map some) (vs.map some) (λi=>if pr i=true/\i<ds.length then S1 i else[]) (plus M Fr):=by
 obtain⟨Y,q⟩:=Dc e;have lv:ds.length=vs.length:=by have:=s.len;simpa using this
 have sub:∀{i a},a∈(if pr i=true/\i<ds.length then S1 i else[])->a∈S1 i:=λ{i a} z=>by
  split at z
  .exact z
  .cases z
 refine⟨by simp[Y,lv],λi d h=>?_,λi h=>?_,λi=>?_,λi j a h1 h2=>Z.dj i j a (sub h1) (sub h2),λi a h z=>Z.fdj i a h (sub z),Z.fdm⟩
 .have h:=jG h
  have hi:i<ds.length:=by rw[←Y];exact(List.getElem?_eq_some_iff.mp h).1
  rcases q i d h with⟨h1,h2⟩|⟨h1,h2⟩
  .rw[Xz]at h1 h2
   obtain⟨v,q1,q2,q3⟩:=Z.sl i d h2;have e1:=m.pr i h1;rw[q1]at e1;refine⟨v,?_,?_,q3⟩
   .unfold L2.start at e1
    rw[Uq (by simp;omega)]at e1;exact e1.symm
   .rw[Tz ⟨h1,hi⟩]
    have a0:=(by simpa[clean]using q3:aB d=true/\aA d=true);have I:Evo H' H' (wn ob S1 (plus M Fr)) (wn ob (λi=>if pr i=true/\i<ds.length then S1 i else[]) (plus M Fr)):=⟨λb u U f=>⟨U,⟨f.1,λ⟨j,O,B⟩=>f.2.1 ⟨j,O,sub B⟩,λ⟨j,O,B⟩=>f.2.2 ⟨j,O,sub B⟩⟩⟩,λ_ _ h=>h⟩;exact q2.mono I (.inl a0.1) (.inl a0.2) λ_ _ _ h=>h
  .rw[Xz]at h1
   obtain⟨v,q1,q2,q3⟩:=s.sl i d (dm h2);refine⟨v,q1,?_,q3⟩;rw[TQ λz=>by rw[h1]at z;cases z.1];rw[hp i h1]at q2;have a0:=(by simpa[clean]using q3:aB d=true/\aA d=true);have a1:=Aj s (σ2:=σ) (H2:=H') (S2:=S1) (P:=λ_=>false) ⟨m.kp,m.gr,λi h=>by cases h⟩;have I:Evo H H' (wn ob S Fr) (wn ob (λi=>if pr i=true/\i<ds.length then S1 i else[]) (plus M Fr)):=⟨λb u U f=>?_,a1.t⟩
   .exact q2.mono I (.inl a0.1) (.inl a0.2) (by simp)
   .obtain⟨k1,k2⟩:=a1.k b u U f
    refine⟨k1,λz=>z.elim (λz=>?_) f.1,λ⟨j,O,B⟩=>k2.2.1 ⟨j,O,sub B⟩,λ⟨j,O,B⟩=>k2.2.2 ⟨j,O,sub B⟩⟩;rcases hM b z with⟨j,y⟩|y
    .cases ho:ob j with
     |false=>exact f.2.1 ⟨j,ho,y⟩
     |true=>exact f.2.2 ⟨j,ho,y⟩
    .rw[U]at y;cases y
 .split
  .rename_i z
   exfalso;have hi:i<F.length:=by rw[Y];exact z.2
   exact h F[i] (dm (by simp[hi]))
  .rfl
 .show(if pr i=true/\i<ds.length then S1 i else[]).Nodup
  split
  .exact Z.nd i
  .exact List.nodup_nil
theorem okI{x O:Str}{st:Stmt}{f:Addr}{fd:U_}{N ps:List Str}{k:Nat}{ob pr:Nat->Bool}{B:En->Option Fl}(F:Fun K x O st f fd)(S:bV N ps (aK st))
  (U:∀(V:Value)(A:U4)(outer:List Env)(s:S6)(H:Hp)(E:XK),ie k (A.deeper (Yz O (aK st) s.heap.objs.size f V))->oE (λ_:Unit=>(yp CX0 P w K mg base N O (aK st) f V A outer s H E).nox) ⟨K,mg⟩ ob pr (bF st) B) :
  eX P w K mg base CX0 (k+1) f fd ps (spI ⟨K,mg⟩ ob pr (fnI pr ps.length N.length B)):=by
 refine F.ok S (λvs H Q E h=>?_) (λV A outer s H vs Q E Z h=>?_)
 .obtain⟨ds,S,Fr,st,_,d,ds',e,_⟩:=h
  unfold fnI at e;split at e
  .rename_i hl
   have:=st.len;simp at this;rw[←this];exact hl
  .cases e
 .obtain⟨ds,S0,Fr,st,hp,d,ds',e,q⟩:=h
  obtain⟨t,a1,Y⟩:=(U V A outer s H E Z).ex;refine⟨t,a1 (),?_⟩;unfold fnI at e;split at e
  .cases h1:B (en0 N.length ds)with
   |none=>simp[h1]at e
   |some fl=>
    rw[h1]at e;simp only[S8]at e;refine Y _ fl h1 (L2.start N vs) H S0 Fr (SX st) _ ?_;have sub:∀{S1:Ad}{i a},a∈(if pr i=true/\i<ds.length then S1 i else[])->a∈S1 i:=λ{S1 i a} z=>by
     split at z
     .exact z
     .cases z
    cases fl with
    |nx I=>
     cases h2:outs pr I 0 ds with
     |none=>simp[h2]at e
     |some o=>
      obtain⟨rfl,rfl⟩:D.non=d/\o=ds':=by simpa[h2]using e
      refine λa3 H' S1 s1 m=>q .non H' [] _ (xV st hp (M:=[]) (by rw[iB];exact s1) m (by simp) h2) (by rw[Rep];exact⟨rfl,rfl⟩) rfl List.nodup_nil (by simp) ⟨m.kp,λi a z=>m.gr i a (sub z),λi h=>by cases h⟩
    |ret d' I=>
     cases h2:outs pr I 0 ds with
     |none=>simp[h2]at e
     |some o=>
      obtain⟨rfl,rfl⟩:d'=d/\o=ds':=by simpa[h2]using e
      refine λv a3 H' M S1 s1 r c n f m=>q v H' M _ (xV st hp s1 m f h2) ?_ c n f ⟨m.kp,λi a z=>m.gr i a (sub z),λi h=>by cases h⟩;have a0:=(by simpa[clean]using c:aB d'=true/\aA d'=true);have ev:Evo H' H' (wn ob S1 (plus M Fr)) (wn ob (λi=>if pr i=true/\i<ds.length then S1 i else[]) (plus M Fr)):=⟨λb u U f=>⟨U,⟨f.1,λ⟨j,z1,z2⟩=>f.2.1 ⟨j,z1,sub z2⟩,λ⟨j,z1,z2⟩=>f.2.2 ⟨j,z1,sub z2⟩⟩⟩,λ_ _ h=>h⟩;exact r.mono ev (.inl a0.1) (.inl a0.2) λ_ _ _ h=>h
    |brk I=>cases e
    |cnt I=>cases e
  .cases e
end
def RfM(G:Gc)(ob:Nat->Bool)(t:TA)(js:List Nat)(f:En->Option (List D×En)):Prop:=∀(ρ:En)(ds:List D)(I:En),f ρ=some (ds,I)->∀(σ:L2.St)(H:Hp)(S:Ad)(Fr:Addr->Prop),Sta G H ob ρ σ S Fr->
 ∀us:List V,js.map (λj=>σ[j]?)=us.map (λu=>some (some u))->∀Q:List V->Hp->Prop,
 (∀vs H' M S',Sta G H' ob I σ S' (plus M Fr)->aC G H' (wn ob S' (plus M Fr)) ds vs M->M.Nodup->Eff ob H H' S S' M->Q (us++vs) H')->t σ H Q
structure PVM{ι:Type}(X:ι->Cx)(G:Gc)(ob:Nat->Bool)(es:List Expr)(js:List Nat)(f:En->Option (List D×En)):Prop where
 mk::(ex:∃t,(∀c,PA (X c) es t)/\RfM G ob t js f)
variable{f:En->Option (List D×En)}
theorem bu(h:rm X G ob es f):PVM X G ob es [] f:=by
 obtain⟨t,z,Y⟩:=h.ex;refine⟨t,z,λρ ds I e σ H S Fr s us F Q q=>?_⟩;have:us=[]:=by simpa using F
 subst this;exact Y ρ ds I e σ H S Fr s Q q
theorem bj(i:Nat)(h:PVM X G ob es js f)(z:∀c,(X c).N[i]? =some x:=by intro _;rfl)(B:∀c,Vis (X c).env.scope x:=by intro _;first|exact Vr rfl|exact U8 (Vr rfl)|exact U8 (U8 rfl))(hd:(x==("__debug__":Str))=false:=by decide)(V:(x==("__classdict__":Str))=false:=by decide)(hs:∀c,Tj (.Name x pos::es) (X c).env=(false,eval (.Name x pos) (X c).env)::Tj es (X c).env:=by intro _;rfl):PVM X G ob (.Name x pos::es) (i::js) f:=by
 obtain⟨t,O,Y⟩:=h.ex;refine⟨_,λc=>nT (pv i (z c) (B c) hd V) (O c) (hs c),λρ ds I e σ H S Fr s us F Q q=>?_⟩;cases us with
 |nil=>simp at F
 |cons u us=>
  rw[TF,TF]at F;injection F with h1 h2;exact⟨u,h1,Y ρ ds I e σ H S Fr s us h2 _ λvs H' M S' s' r n U=>q vs H' M S' s' r n U⟩
def objs(js:List Nat)(ρ:En):Option (List D):=js.mapM λj=>ρ[j]?.bind id
def kJ:List Nat->List D->En->En
 |j::js,d::ds,ρ=>kJ js ds (ρ.set j (some d))
 |_,_,ρ=>ρ
def eIo(F:List D->Option (D×List D))(js:List Nat)(f:En->Option (List D×En)):En->Option (D×En):=λρ=>if(objs js ρ).isSome=true then(f ρ).bind λp=>(objs js p.2).bind λos=>if az p.1=true then(F (os++fzL p.1)).bind λq=>
 if au p.1=true∨(cM q.1=true/\bG (q.2.take js.length)=true)then some (q.1,kJ js q.2 p.2)else none else none else none
theorem vQ{ρ:En}:∀{js:List Nat}{os:List D},objs js ρ=some os->os.length=js.length/\∀(k j:Nat),js[k]? =some j->∃d,os[k]? =some d/\ρ[j]? =some (some d)
 |[],os,h=>by
  have:os=[]:=by simpa[objs]using h.symm
  subst this;exact⟨rfl,λk j h=>by simp at h⟩
 |j::js,os,h=>by
  unfold objs at h;rw[aaN]at h;cases h1:ρ[j]?.bind id with
  |none=>simp[h1]at h
  |some d=>
   cases h2:js.mapM (λj=>ρ[j]?.bind id)with
   |none=>simp[h1,h2]at h
   |some t=>
    have:os=d::t:=by simpa[h1,h2]using h.symm
    subst this;obtain⟨l,g⟩:=vQ (js:=js) (os:=t) h2;refine⟨by simp[l],λk i e=>?_⟩;cases k with
    |zero=>
     have:j=i:=by simpa using e
     subst this;refine⟨d,rfl,?_⟩;cases O:ρ[j]? with
     |none=>rw[O]at h1;cases h1
     |some o=>rw[O]at h1;simpa using h1
    |succ k=>simpa using g k i (by simpa using e)
theorem uN:∀(js:List Nat)(ds:List D)(ρ:En),(kJ js ds ρ).length=ρ.length
 |[],ds,ρ=>by cases ds<;>rfl
 |_::_,[],ρ=>rfl
 |j::js,d::ds,ρ=>by rw[kJ,uN js ds];simp
theorem j9:∀{js:List Nat}{ds:List D}{ρ:En}{j:Nat},j∉js->(kJ js ds ρ)[j]? =ρ[j]?
 |[],ds,ρ,j,_=>by cases ds<;>rfl
 |_::_,[],ρ,j,_=>rfl
 |i::js,d::ds,ρ,j,h=>by
  rw[kJ,j9 (λz=>h (T7 _ z)),List.getElem?_set_ne λz=>h (by rw[z];exact Ur)]
theorem rQ:∀{js:List Nat}{ds:List D}{ρ:En}{k j:Nat}{d:D},js.Nodup->js[k]? =some j->ds[k]? =some d->j<ρ.length->(kJ js ds ρ)[j]? =some (some d)
 |[],ds,ρ,k,j,d,_,h,_,_=>by simp at h
 |_::_,[],ρ,k,j,d,_,_,h,_=>by simp at h
 |i::js,d0::ds,ρ,k,j,d,n,h1,h2,hl=>by
  rw[kJ];cases k with
  |zero=>
   have e1:i=j:=by simpa using h1
   have e2:d0=d:=by simpa using h2
   subst e1 e2;rw[j9 (T5.mp n).1];simp[hl]
  |succ k=>exact rQ (T5.mp n).2 (by simpa using h1) (by simpa using h2) (by simpa using hl)
def pick(S:Ad)(js:List Nat):Ad:=λi=>match js[i]? with
 |some j=>S j
 |none=>[]
theorem gW(h:a∈pick S js i):∃j,js[i]? =some j/\a∈S j:=by
 unfold pick at h;split at h
 .rename_i j e;exact⟨j,e,h⟩
 .cases h
def back(S:Ad)(js:List Nat)(Sc:Ad):Ad:=λj=>match js.idxOf? j with
 |some i=>Sc i
 |none=>S j
theorem qR(h:js.idxOf? j=some i):js[i]? =some j:=by
 obtain⟨h1,h2,O⟩:=Uz.mp h;have:js[i]=j:=by simpa using h2
 rw[Td h1,this]
theorem yr(h:js.idxOf? j=none):j∉js:=by
 intro z;have:=Ut.mp h j z;simp at this
theorem Qe(n:js.Nodup)(h:js[i]? =some j):js.idxOf? j=some i:=by
 cases e:js.idxOf? j with
 |none=>exact absurd (T9 h) (yr e)
 |some k=>
  have:=qR e;have I:k<js.length:=(List.getElem?_eq_some_iff.mp this).1;rw[(ZW I n).mp (this.trans h.symm)]
theorem J6{Sc:Ad}(n:js.Nodup)(h:js[i]? =some j):back S js Sc j=Sc i:=by unfold back;rw[Qe n h]
theorem wG{Sc:Ad}(h:j∉js):back S js Sc j=S j:=by
 unfold back;split
 .rename_i i e;exact absurd (T9 (qR e)) h
 .rfl
theorem jz{Sc:Ad}(h:a∈back S js Sc j):(∃i,js[i]? =some j/\a∈Sc i)∨(j∉js/\a∈S j):=by
 unfold back at h;split at h
 .rename_i i e;exact .inl ⟨i,qR e,h⟩
 .rename_i e;exact .inr ⟨yr e,h⟩
theorem vH(h:bG (ds.take k)=true)(e:ds[i]? =some d)(hi:i<k):cM d=true:=by
 induction ds generalizing k i with
 |nil=>simp at e
 |cons a r Z=>
  cases k with
  |zero=>omega
  |succ k=>
   rw[List.take_succ_cons,bG,TY]at h;cases i with
   |zero=>
    have:a=d:=by simpa using e
    rw[←this];exact h.1
   |succ i=>exact Z h.2 (by simpa using e) (by omega)
theorem BR:∀{js:List Nat},(∀j∈js,∃u,σ[j]? =some (some u))->∃us:List V,js.map (λj=>σ[j]?)=us.map (λu=>some (some u))
 |[],_=>⟨[],rfl⟩
 |j::js,h=>by
  obtain⟨us,F⟩:=BR (js:=js) λi hi=>h i (T7 _ hi);obtain⟨u,q⟩:=h j Ur;exact⟨u::us,by rw[TF,TF,F,q]⟩
theorem Nv{oc:Nat->Bool}{F:List D->Option (D×List D)}(hj:js.Nodup)(B:∀j∈js,ob j=true)(N:∀i,i<js.length->pr i=true)(h:RfM G ob t js f){E:XK} :
  j4 G ob (λσ H Q=>t σ H λvs H1=>spI G oc pr F (vs++[]) H1 Q E) (eIo F js f):=λρ d c9 e σ H S Fr s Q q=>by
 unfold eIo at e;split at e
 .rename_i hsome
  cases h0:objs js ρ with
  |none=>rw[h0]at hsome;cases hsome
  |some d6=>
   cases h1:f ρ with
   |none=>simp[h1]at e
   |some p=>
    obtain⟨ds,ρ1⟩:=p;rw[h1]at e;simp only[S8]at e;cases h2:objs js ρ1 with
    |none=>simp[h2]at e
    |some os=>
     rw[h2]at e;simp only[S8]at e;split at e
     .rename_i hbro
      cases h3:F (os++fzL ds)with
      |none=>simp[h3]at e
      |some z=>
       obtain⟨d1,a2⟩:=z;rw[h3]at e;simp only[S8]at e;split at e
       .rename_i b4
        obtain⟨rfl,rfl⟩:d1=d/\kJ js a2 ρ1=c9:=by simpa using e
        obtain⟨l0,g0⟩:=vQ h0;obtain⟨l1,g1⟩:=vQ h2;have b2:∃us:List V,js.map (λj=>σ[j]?)=us.map (λu=>some (some u)):=by
         have:∀j∈js,∃u,σ[j]? =some (some u):=λj hj=>by
          obtain⟨k,I⟩:=Y7.mp hj;obtain⟨d0,_,q2⟩:=g0 k j I;obtain⟨v,q3,_⟩:=s.sl j d0 q2;exact⟨v,q3⟩
         exact BR this
        obtain⟨us,b2⟩:=b2;have b7:us.length=js.length:=by have:=congrArg V8 b2;simpa using this.symm
        have c3:∀(k j:Nat)(u:V),js[k]? =some j->us[k]? =some u->σ[j]? =some (some u):=λk j u h1 h2=>by
         have:=congrArg (λl=>l[k]?) b2;simp only[List.getElem?_map,h1,h2,Ux,Xr]at this;exact this
        refine h ρ ds ρ1 h1 σ H S Fr s us b2 _ λvs H1 M S1 Z r1 d5 c5=>?_;rw[T3];have b3:∀{i a},a∈pick S1 js i->inO ob S1 a:=λ{i a} z=>by
         obtain⟨j,e,y⟩:=gW z;exact⟨j,B j (T9 e),y⟩
        have a1:∀{a},inS (pick S1 js) a->inO ob S1 a:=λ⟨i,z⟩=>b3 z;have b1:∀{i a},a∈S1 i->¬(wn ob S1 (plus M Fr)).free a:=λ{i a} z f=>by
         cases a9:ob i with
         |false=>exact f.2.1 ⟨i,a9,z⟩
         |true=>exact f.2.2 ⟨i,a9,z⟩
        let a6:Addr->Prop:=λa=>au ds=true/\((Fr a∨inS S1 a)/\¬inS (pick S1 js) a)
        have a8:∀a,(wn ob S1 (plus M Fr)).free a->(wn oc (pick S1 js) a6).free a:=λa f=>by
         refine⟨λz=>?_,λ⟨i,_,z⟩=>?_,λ⟨i,_,z⟩=>?_⟩
         .rcases z.2.1 with y|⟨i,y⟩
          .exact f.1 (.inr y)
          .exact b1 y f
         .exact f.2.2 (b3 z)
         .exact f.2.2 (b3 z)
        have c8:∀a∈M,¬Fr a:=λa Y z=>by
         rcases c5.fm a Y with y|y
         .exact s.notO z y
         .obtain⟨o,B,_⟩:=s.fdm a z
          rw[y]at B;cases B
        have c1:∀a∈M,(wn oc (pick S1 js) a6).free a:=λa Y=>by
         refine⟨λz=>?_,λ⟨i,_,z⟩=>?_,λ⟨i,_,z⟩=>?_⟩
         .rcases z.2.1 with y|⟨i,y⟩
          .exact c8 a Y y
          .exact Z.fdj i a (.inl Y) y
         .obtain⟨j,_,y⟩:=gW z;exact Z.fdj j a (.inl Y) y
         .obtain⟨j,_,y⟩:=gW z;exact Z.fdj j a (.inl Y) y
        have c6:aC G H1 (wn oc (pick S1 js) a6) (fzL ds) vs []:=by
         refine r1.fz2 ⟨a8,c1⟩ ?_ (.inl hbro);by_cases c7:au ds=true
         .exact .inl c7
         .refine .inr λa Y=>⟨λz=>c7 z.1,λ⟨i,_,z⟩=>?_,λ⟨i,_,z⟩=>?_⟩
          .obtain⟨i1,o1,y1⟩:=Y
           obtain⟨i2,o2,y2⟩:=b3 z;rw[Z.dj i1 i2 a y1 y2,o2]at o1;cases o1
          .obtain⟨i1,o1,y1⟩:=Y
           obtain⟨i2,o2,y2⟩:=b3 z;rw[Z.dj i1 i2 a y1 y2,o2]at o1;cases o1
        have sc:Sta G H1 oc ((os++fzL ds).map some) ((us++vs).map some) (pick S1 js) a6:=by
         refine⟨by simp[l1,b7,c6.length],λi d0 hi=>?_,λi hi=>?_,λi=>?_,λi k a h1 h2=>?_,λi a h1 h2=>h1.2.2 ⟨i,h2⟩,λa Y=>?_⟩
         .have hi:=jG hi
          by_cases b5:i<js.length
          .obtain⟨dd,q1,q2⟩:=g1 i js[i] (by simp[b5])
           rw[Uq (by omega),q1]at hi;cases hi;obtain⟨v,q3,q4,q5⟩:=Z.sl _ _ q2;have a3:=(by simpa[clean]using q5:aB d0=true/\aA d0=true);have d2:∃u,us[i]? =some u:=⟨us[i],by simp[b7,b5]⟩;obtain⟨u,hu⟩:=d2;have:=c3 i js[i] u (by simp[b5]) hu;rw[q3]at this;cases this;refine⟨v,dm (by rw[Uq (by omega)];exact hu),?_,q5⟩;have:pick S1 js i=S1 js[i]:=by unfold pick;rw[Td b5]
           rw[this];have ev:Evo H1 H1 (wn ob S1 (plus M Fr)) (wn oc (pick S1 js) a6):=⟨λb u h f=>⟨h,a8 b f⟩,λ_ _ h=>h⟩;exact q4.mono ev (.inl a3.1) (.inl a3.2) λ_ _ _ h=>h
          .rw[Vb (by omega)]at hi
           obtain⟨x,M',q1,q2,q3⟩:=c6.get hi;have:M'=[]:=by simpa using q3
           subst this;refine⟨x,dm (by rw[Vb (by omega),b7,←l1];exact q1),?_,by simp[clean,gB (fH ds) hi,gm (fJ ds) hi]⟩;have:pick S1 js i=[]:=by unfold pick;rw[We (by omega)]
           rw[this];exact q2
         .unfold pick
          split
          .rename_i j hj'
           exfalso;obtain⟨dd,q1,q2⟩:=g1 i j hj';exact hi dd (dm (by rw[Uq (by rw[l1];exact(List.getElem?_eq_some_iff.mp hj').1)];exact q1))
          .rfl
         .unfold pick
          split
          .exact Z.nd _
          .exact List.nodup_nil
         .obtain⟨j1,e1,y1⟩:=gW h1
          obtain⟨j2,e2,y2⟩:=gW h2;have:=Z.dj j1 j2 a y1 y2;rw[this,←e2]at e1;exact(ZW (by
           cases hh:js[i]? with
           |none=>rw[hh,e2]at e1;cases e1
           |some _=>exact(List.getElem?_eq_some_iff.mp hh).1) hj).mp e1
         .rcases Y.2.1 with y|⟨i,y⟩
          .exact Z.fdm a (.inr y)
          .exact Z.mu y
        refine⟨os++fzL ds,pick S1 js,a6,sc,λi hi=>?_,d1,a2,h3,λv H2 Mc Sc s2 r2 c2 n2 b6 m2=>?_⟩
        .unfold pick
         split
         .rename_i j hj'
          rw[N i (List.getElem?_eq_some_iff.mp hj').1]at hi;cases hi
         .rfl
        .have l2:a2.length=(os++fzL ds).length:=by
          have h1:=s2.len;have h2:=sc.len;simp only[Tv]at h1 h2;rw[h1,←h2]
         have kept:∀b u,H1 b=some u->¬inS (pick S1 js) b->H2 b=some u:=λb u U n=>m2.kp b u U n (by simp);have a5:∀{i b},b∈Sc i->inS (pick S1 js) b∨H1 b=none:=λ{i b} z=>(m2.gr i b z).imp id λy=>y.resolve_left (by simp);have b9:∀{b},Fr b->¬inS (pick S1 js) b:=λ{b} z ⟨i,y⟩=>by obtain⟨j,_,y⟩:=gW y;exact Z.fdj j b (.inr z) y
         have a0:∀{j b},j∉js->b∈S1 j->¬inS (pick S1 js) b:=λ{j b} hn z ⟨i,y⟩=>by
          obtain⟨k,e,y⟩:=gW y;rw[Z.dj j k b z y]at hn;exact hn (T9 e)
         have c0:∀{i b},b∈S1 i->H1 b≠none:=λ{i b} z y=>by obtain⟨o,B,_⟩:=Z.mu z;rw[y]at B;cases B
         have ev:Evo H1 H2 (wn ob S1 (plus M Fr)) (wn ob (back S1 js Sc) (plus Mc Fr)):=by
          refine⟨λb u U f=>?_,λb xs h=>?_⟩
          .have n1:¬inS (pick S1 js) b:=λz=>f.2.2 (a1 z)
           have n2:∀i,b∉back S1 js Sc i:=λi z=>by
            rcases jz z with⟨k,_,y⟩|⟨_,y⟩
            .rcases a5 y with y|y
             .exact n1 y
             .rw[U]at y;cases y
            .exact b1 y f
           refine⟨kept b u U n1,λz=>?_,λ⟨i,_,z⟩=>n2 i z,λ⟨i,_,z⟩=>n2 i z⟩;rcases z with z|z
           .rcases b6 b z with y|y
            .exact n1 y
            .rw[U]at y;cases y
           .exact f.1 (.inr z)
          .have no:∀u,H1 b=some u->muO u=false->H2 b=some u:=λu hu mu=>kept b u hu λ⟨i,z⟩=>by
            obtain⟨j,_,z⟩:=gW z;obtain⟨o,B,hm⟩:=Z.mu z;rw[hu]at B;cases B;rw[mu]at hm;cases hm
           exact no _ h rfl
         have conv:∀(e:D)(x:V)(L:List Addr),(au ds=true∨cM e=true)->clean e=true->Rep G H2 (wn oc Sc (plus Mc a6)) e x L->Rep G H2 (wn ob (back S1 js Sc) (plus Mc Fr)) e x L:=λe x L O b4 r=>by
          rcases O with O|O
          .have a3:=(by simpa[clean]using b4:aB e=true/\aA e=true)
           have d4:Evo H2 H2 (wn oc Sc (plus Mc a6)) (wn ob (back S1 js Sc) (plus Mc Fr)):=⟨λb u U f=>?_,λ_ _ h=>h⟩
           .exact r.mono d4 (.inl a3.1) (.inl a3.2) λ_ _ _ h=>h
           .have nSc:∀i,b∉Sc i:=λi z=>by
             cases a9:oc i with
             |false=>exact f.2.1 ⟨i,a9,z⟩
             |true=>exact f.2.2 ⟨i,a9,z⟩
            have nb:∀j,b∉back S1 js Sc j:=λj z=>by
             rcases jz z with⟨k,_,y⟩|⟨hn,y⟩
             .exact nSc k y
             .exact f.1 (.inr ⟨O,.inr ⟨j,y⟩,a0 hn y⟩)
            refine⟨U,λz=>?_,λ⟨i,_,z⟩=>nb i z,λ⟨i,_,z⟩=>nb i z⟩;rcases z with z|z
            .exact f.1 (.inl z)
            .exact f.1 (.inr ⟨O,.inl z,b9 z⟩)
          .exact r.own O
         have d3:∀(j:Nat)(d0:D),(kJ js a2 ρ1)[j]? =some (some d0)->∃v,σ[j]? =some (some v)/\Rep G H2 (wn ob (back S1 js Sc) (plus Mc Fr)) d0 v (back S1 js Sc j)/\clean d0=true:=λj d0 a7=>by
          by_cases a4:j∈js
          .obtain⟨k,I⟩:=Y7.mp a4
           have c4:k<js.length:=(List.getElem?_eq_some_iff.mp I).1;obtain⟨dd,q1,q2⟩:=g1 k j I;have b8:j<ρ1.length:=(List.getElem?_eq_some_iff.mp q2).1;have b0:k<a2.length:=by rw[l2,Ui];omega
           rw[rQ hj I (d:=a2[k]) (by simp[b0]) b8]at a7;cases a7;obtain⟨v,q3,q4,q5⟩:=s2.sl k a2[k] (dm (by simp[b0]));have q3:=jG q3;rw[Uq (by omega)]at q3;refine⟨v,c3 k j v I q3,?_,q5⟩;rw[J6 hj I];refine conv _ _ _ (b4.imp id λz=>vH z.2 (by simp[b0]) c4) q5 q4
          .rw[j9 a4]at a7
           obtain⟨v,q1,q2,q3⟩:=Z.sl j d0 a7;have a3:=(by simpa[clean]using q3:aB d0=true/\aA d0=true);refine⟨v,q1,?_,q3⟩;rw[wG a4];exact q2.mono ev (.inl a3.1) (.inl a3.2) λc O u hu=>kept c u hu (a0 a4 O)
         refine q v H2 Mc (back S1 js Sc) ⟨?_,d3,?_,?_,?_,?_,?_⟩ (conv _ _ _ (b4.imp id λz=>z.1) c2 r2) n2 ?_
         .rw[uN];exact Z.len
         .intro j a7
          by_cases a4:j∈js
          .obtain⟨k,I⟩:=Y7.mp a4
           obtain⟨dd,q1,q2⟩:=g1 k j I;have b8:j<ρ1.length:=(List.getElem?_eq_some_iff.mp q2).1;have c4:k<js.length:=(List.getElem?_eq_some_iff.mp I).1;have b0:k<a2.length:=by rw[l2,Ui];omega
           exact absurd (rQ hj I (d:=a2[k]) (by simp[b0]) b8) (a7 _)
          .rw[wG a4]
           exact Z.em j λd0=>by have:=a7 d0;rwa[j9 a4]at this
         .intro j
          unfold back;split
          .exact s2.nd _
          .exact Z.nd j
         .intro i k a y1 y2
          rcases jz y1 with⟨i1,e1,z1⟩|⟨e1,z1⟩<;>rcases jz y2 with⟨i2,e2,z2⟩|⟨e2,z2⟩
          .have:=s2.dj i1 i2 a z1 z2
           rw[this,e2]at e1;exact(UG e1).symm
          .rcases a5 z1 with y|y
           .exact absurd y (a0 e2 z2)
           .exact absurd y (c0 z2)
          .rcases a5 z2 with y|y
           .exact absurd y (a0 e1 z1)
           .exact absurd y (c0 z1)
          .exact Z.dj i k a z1 z2
         .intro j a Y z
          rcases jz z with⟨i,_,y⟩|⟨hn,y⟩
          .rcases Y with Y|Y
           .exact s2.fdj i a (.inl Y) y
           .rcases a5 y with y|y
            .exact b9 Y y
            .obtain⟨o,B,_⟩:=Z.fdm a (.inr Y)
             rw[y]at B;cases B
          .rcases Y with Y|Y
           .rcases b6 a Y with y'|y'
            .exact a0 hn y y'
            .exact c0 y y'
           .exact Z.fdj j a (.inr Y) y
         .intro a Y
          rcases Y with Y|Y
          .exact r2.dom a Y
          .obtain⟨o,B,hm⟩:=Z.fdm a (.inr Y)
           exact⟨o,kept a o B (b9 Y),hm⟩
         .have ef2:Eff ob H1 H2 S1 (back S1 js Sc) Mc:=by
           refine⟨λb u U n=>kept b u U λz=>n (a1 z),λi hi=>wG (λz=>by rw[B i z]at hi;cases hi),λi a hi z=>?_,λa Y=>(b6 a Y).imp (λy=>a1 y) id⟩;rcases jz z with⟨k,_,y⟩|⟨_,y⟩
           .exact(a5 y).imp (λy=>a1 y) id
           .exact .inl ⟨i,hi,y⟩
          exact(c5.trans ef2).same (Same.refl _) λc O=>.inl (Tc _ O)
       .cases e
     .cases e
 .cases e
theorem bR(js:List Nat){U:Nat->Bool}{F:List D->Option (D×List D)}(C:∀c,Cal (X c).prog (X c).w (X c).K (X c).mg (X c).base k x ps (spI G U pr F))(Z:∀c,ie k (X c).A)(Y:PVM X G ob (e::es) js f)(V:js.Nodup:=by decide)(B:∀j∈js,ob j=true:=by decide)(N:∀i,i<js.length->pr i=true:=by decide)(q:∀c,Gl (X c) x:=by intro _;rfl)(O:(x==("__debug__":Str))=false:=by decide)(I:∀c,Tj (e::es) (X c).env=(false,eval e (X c).env)::Tj es (X c).env:=by intro _;rfl)(z:∀c,(Vf pos (Tj es (X c).env)).any (·.1)=false:=by intro _;rfl) :
 PVe X G ob (.Call (.Name x p) (e::es) [] pos) (eIo F js f):=let⟨t,a1,a2⟩:=Y.ex;⟨_,λc=>Gq (C c) (Z c) (q c) (a1 c) O (I c) (z c),Nv V B N a2⟩
def kids:D->List D
 |.tup ds=>ds
 |.lst _ ds=>ds
 |.dct _ _ ds=>ds
 |.ins _ _ _ ds=>ds
 |_=>[]
def za:D->List D->D
 |.tup _,es=>.tup es
 |.lst m _,es=>.lst m es
 |.dct m ks _,es=>.dct m ks es
 |.ins m c fs _,es=>.ins m c fs es
 |d,_=>d
def dg:List Nat->D->Option D
 |[],d=>some d
 |j::p,d=>((kids d)[j]?).bind (dg p)
def cB:List Nat->D->D->D
 |[],e,_=>e
 |j::p,e,d=>match(kids d)[j]? with
  |some c=>za d ((kids d).set j (cB p e c))
  |none=>d
theorem Evo.trans{H1:Hp}{W1:Wn}(a:Evo H H1 W W1)(b:Evo H1 H2 W1 Z):Evo H H2 W Z:=⟨λc u h f=>let⟨h1,f1⟩:=a.k c u h f;b.k c u h1 f1,λc xs h=>b.t c xs (a.t c xs h)⟩
structure Foc(G:Gc)(H:Hp)(W:Wn)(d0:D)(v0:V)(L:List Addr)(p:List Nat)(d:D)(v:V)(M:List Addr):Prop where
 r:Rep G H W d v M
 b:∃A B,L=A++(M++B)/\∀H' W' d' M',Evo H H' W W'->(∀c∈A++B,∀u,H c=some u->H' c=some u)->Rep G H' W' d' v M'->Rep G H' W' (cB p d' d0) v0 (A++(M'++B))
theorem Foc.nil(r:Rep G H W d v L):Foc G H W d v L [] d v L:=⟨r,[],[],by simp,λH' W' d' M' _ _ h=>by simpa[cB]using h⟩
variable{p:List Nat}{d0:D}
theorem Foc.mono{H1:Hp}{W1:Wn}{q:V}(f:Foc G H W d0 q L p d v M)(O:clean d=true∨Up H H1 W W1)(e:Evo H H1 W W1)(k:∀c∈L,∀u,H c=some u->H1 c=some u):Foc G H1 W1 d0 q L p d v M:=by
 obtain⟨A,B,I,U⟩:=f.b;refine⟨?_,A,B,I,λH' W' d' M' e' N Y=>U H' W' d' M' (e.trans e') (λc O u F=>N c O u (k c ?_ u F)) Y⟩
 .rcases O with O|O
  .have hcc:=(by simpa[clean]using O:aB d=true/\aA d=true)
   exact f.r.mono e (.inl hcc.1) (.inl hcc.2) λc O u F=>k c (by rw[I];simp[O]) u F
  .exact f.r.up O
 .rw[I]
  simp only[S9]at O⊢;rcases O with z|z<;>simp[z]
theorem Iz(p:List Nat)(j:Nat)(e:D):∀(d0:D){d:D},dg p d0=some d->(kids d)[j]?≠none->cB (p++[j]) e d0=cB p (cB [j] e d) d0:=by
 induction p with
 |nil=>intro d0 d h _;cases h;rfl
 |cons k p Z=>
  intro d0 d h hn;simp only[dg]at h;cases h1:(kids d0)[k]? with
  |none=>simp[h1]at h
  |some c=>
   have h:dg p c=some d:=by simpa[h1]using h
   rw[Ug,cB,cB,h1];simp only;rw[Z c h hn]
theorem Gn(p:List Nat)(j:Nat):∀(d0:D){d:D},dg p d0=some d->dg (p++[j]) d0=(kids d)[j]?:=by
 induction p with
 |nil=>
  intro d0 d h;cases h;simp only[List.nil_append,dg];cases (kids d0)[j]?<;>rfl
 |cons k p Z=>
  intro d0 d h;simp only[dg]at h;cases h1:(kids d0)[k]? with
  |none=>simp[h1]at h
  |some c=>
   have h:dg p c=some d:=by simpa[h1]using h
   rw[Ug,dg,h1];exact Z c h
theorem ir(h:clean (.lst m ds)=true):au ds=true/\az ds=true:=by simp[clean,aB,aA]at h;exact⟨h.1.2,h.2.2⟩
theorem gA{a b:List D}:au (a++b)=(au a&&au b):=by
 induction a with
 |nil=>rfl
 |cons d r Z=>rw[Ug,au,au,Z,acf]
theorem gn{a b:List D}:az (a++b)=(az a&&az b):=by
 induction a with
 |nil=>rfl
 |cons d r Z=>rw[Ug,az,az,Z,acf]
variable{c:D}
theorem aC.kid(Z:aC G H W ds xs L)(U:au ds=true)(ho:az ds=true)(e:ds[j]? =some c) :
  ∃x A M B,xs[j]? =some x/\L=A++(M++B)/\Rep G H W c x M/\∀H' W' d' M',Evo H H' W W'->(∀b∈A++B,∀u,H b=some u->H' b=some u)->Rep G H' W' d' x M'->aC G H' W' (ds.set j d') xs (A++(M'++B)):=by
 obtain⟨P,Q,x,ys,zs,LA,M1,N,rfl,q,rfl,Y,rfl,h1,h2,O⟩:=Z.at e;simp only[gA,gn,au,az,TY]at U ho;refine⟨x,LA,M1,N,by rw[Vb (by omega),Y,Wq];rfl,rfl,h2,λH' W' d' M' I kp z=>?_⟩;rw[←q,XC _ _ (Tg _),Wq];exact aC.append (h1.mono I (.inl U.1) (.inl ho.1) λb U u F=>kp b (Th _ U) u F) (aC.cons z (O.mono I (.inl U.2.2) (.inl ho.2.2) λb U u F=>kp b (Tc _ U) u F))
theorem Foc.lst{ds:List D}(r:Rep G H W (.lst .own ds) v L)(O:clean (.lst .own ds)=true)(e:ds[j]? =some c):∃a xs x M,v= .ref a/\H a=some (.lst xs)/\xs.length=ds.length/\xs[j]? =some x/\Foc G H W (.lst .own ds) v L [j] c x M:=by
 rw[Rep]at r;obtain⟨a,xs,N,rfl,Z,Y,rfl⟩:=r;obtain⟨h1,h2⟩:=ir O;obtain⟨x,A,M,B,F,rfl,rx,U⟩:=Z.kid h1 h2 e;refine⟨a,xs,x,M,rfl,Y,Z.length.symm,F,rx,a::A,B,by simp,λH' W' d' M' I kp z=>?_⟩;have q:cB [j] d' (.lst .own ds)= .lst .own (ds.set j d'):=by simp only[cB,kids,e,za]
 rw[q,Rep];exact⟨a,xs,A++(M'++B),rfl,U H' W' d' M' I (λb U u V=>kp b (T7 _ U) u V) z,kp a (by simp) _ Y,by simp⟩
theorem Foc.tup{ds:List D}(r:Rep G H W (.tup ds) v L)(O:clean (.tup ds)=true)(e:ds[j]? =some c):∃a xs x M,v= .ref a/\H a=some (.tup xs)/\xs.length=ds.length/\xs[j]? =some x/\Foc G H W (.tup ds) v L [j] c x M:=by
 rw[Rep]at r;obtain⟨a,xs,rfl,Y,Z⟩:=r;have N:au ds=true/\az ds=true:=by simpa[clean,aB,aA]using O
 obtain⟨x,A,M,B,F,rfl,rx,U⟩:=Z.kid N.1 N.2 e;refine⟨a,xs,x,M,rfl,Y,Z.length.symm,F,rx,A,B,rfl,λH' W' d' M' I kp z=>?_⟩;have q:cB [j] d' (.tup ds)= .tup (ds.set j d'):=by simp only[cB,kids,e,za]
 rw[q,Rep];exact⟨a,xs,rfl,I.t a xs Y,U H' W' d' M' I kp z⟩
variable{ks:List Key}
theorem Foc.dct(r:Rep G H W (.dct .own ks ds) v L)(O:clean (.dct .own ks ds)=true)(e:ds[j]? =some c):∃a kvs x M,v= .ref a/\H a=some (.dK kvs)/\(kvs.map (·.1)=ks/\ks.Nodup)/\(kvs.map (·.2))[j]? =some x/\Foc G H W (.dct .own ks ds) v L [j] c x M:=by
 rw[Rep]at r;obtain⟨a,kvs,N,rfl,I,Z,Y,rfl⟩:=r;have V:au ds=true/\az ds=true:=by simp[clean,aB,aA]at O;exact O
 obtain⟨x,A,M,B,F,rfl,rx,U⟩:=Z.kid V.1 V.2 e;refine⟨a,kvs,x,M,rfl,Y,I,F,rx,a::A,B,by simp,λH' W' d' M' ev kp z=>?_⟩;have q:cB [j] d' (.dct .own ks ds)= .dct .own ks (ds.set j d'):=by simp only[cB,kids,e,za]
 rw[q,Rep];exact⟨a,kvs,A++(M'++B),rfl,I,U H' W' d' M' ev (λb U u hu=>kp b (T7 _ U) u hu) z,kp a (by simp) _ Y,by simp⟩
theorem Foc.trans{q x:V}(f:Foc G H W d0 q O p d v L)(g:Foc G H W d v L [j] c x M)(N:dg p d0=some d)(hj:(kids d)[j]?≠none):Foc G H W d0 q O (p++[j]) c x M:=by
 obtain⟨A,B,hL,U⟩:=f.b;obtain⟨A',Z,a0,Y⟩:=g.b;refine⟨g.r,A++A',Z++B,by rw[hL,a0];simp,λH' W' d' M' I kp r'=>?_⟩;rw[Iz p j d' d0 N hj];have:=U H' W' (cB [j] d' d) (A'++(M'++Z)) I (λb U u F=>kp b ?_ u F) (Y H' W' d' M' I (λb U u F=>kp b ?_ u F) r')
 .simpa using this
 .simp only[S9]at U⊢
  rcases U with z|z<;>simp[z]
 .simp only[S9]at U⊢
  rcases U with z|z<;>simp[z]
def RfP(G:Gc)(ob:Nat->Bool)(t:TE)(i:Nat)(pf:En->Option (List Nat)):Prop:=∀(ρ:En)(p:List Nat),pf ρ=some p->∀(σ:L2.St)(H:Hp)(S:Ad)(Fr:Addr->Prop),Sta G H ob ρ σ S Fr->∃d0 d,ρ[i]? =some (some d0)/\dg p d0=some d/\∀Q:VK,
 (∀v q H' M,Same H H'->σ[i]? =some (some q)->Foc G H' (wn ob S Fr) d0 q (S i) p d v M->Q v H')->t σ H Q
structure PVP{ι:Type}(X:ι->Cx)(G:Gc)(ob:Nat->Bool)(e:Expr)(i:Nat)(pf:En->Option (List Nat)):Prop where
 mk::(ex:∃t,(∀c,PE (X c) e t)/\RfP G ob t i pf)
def fj(i:Nat):En->Option (List Nat):=λρ=>match ρ[i]? with
 |some (some _)=>some []
 |_=>none
theorem dH(i:Nat)(z:∀c,(X c).N[i]? =some x:=by intro _;rfl)(B:∀c,Vis (X c).env.scope x:=by intro _;first|exact Vr rfl|exact U8 (Vr rfl)|exact U8 (U8 rfl))(hd:(x==("__debug__":Str))=false:=by decide)
  (V:(x==("__classdict__":Str))=false:=by decide):PVP X G ob (.Name x pos) i (fj i):=by
 refine⟨_,λc=>pv i (z c) (B c) hd V,λρ p e σ H S Fr s=>?_⟩;unfold fj at e;split at e
 .rename_i d h1
  cases e;obtain⟨v,h2,O,F⟩:=s.sl i d h1;exact⟨d,d,h1,rfl,λQ q=>⟨v,h2,q v v H _ (Same.refl H) h2 (.nil O)⟩⟩
 .cases e
theorem lL:∀{p:List Nat}{d:D},clean d0=true->dg p d0=some d->clean d=true:=by
 intro p
 induction p generalizing d0 with
 |nil=>intro d h e;cases e;exact h
 |cons j p Z=>
  intro d h e;simp only[dg]at e;cases h1:(kids d0)[j]? with
  |none=>simp[h1]at e
  |some c=>
   have e:dg p c=some d:=by simpa[h1]using e
   refine Z ?_ e;have I:au (kids d0)=true/\az (kids d0)=true:=by
    cases d0<;>simp[kids,clean,aB,aA,au,az]at h h1⊢<;>(try exact h)<;>exact⟨h.1.2,h.2.2⟩
   simp[clean,gB I.1 h1,gm I.2 h1]
def cg:D->Option Key
 |.int i=>some (.inl i)
 |.str x=>some (.inr x)
 |_=>none
def cu(ks:List Key)(k:Key):Option Nat:=ks.findIdx? λx=>decide (x=k)
def ixP:D->D->Option Nat
 |.lst .own ds,.int i=>ixN ds.length i
 |.tup ds,.int i=>ixN ds.length i
 |.dct .own ks ds,k=>(cg k).bind λk=>(cu ks k).bind λj=>if j<ds.length then some j else none
 |_,_=>none
def ue(i:Nat)(pf:En->Option (List Nat))(fk:En->Option D):En->Option (List Nat):=λρ=>(pf ρ).bind λp=>(fk ρ).bind λk=>match ρ[i]? with
 |some (some d0)=>(dg p d0).bind λd=>(ixP d k).bind λj=>if j<(kids d).length then some (p++[j])else none
 |_=>none
def JW:R2:=λx y H Q=>∃a v,x= .ref a/\ou H a y (some v)/\Q v H
variable{Y:Cx}
theorem Lj(V:Y.A.units+1<cLine):IxR Y JW:=by
 intro O Z pins s σ H x y v u Q I rx N h hs;obtain⟨a,z,rfl,g,q⟩:=h;cases rx;exact tail_any (yd I g) PySem.F.slot_dict_getitem.lookup (Eu V I g N λw' s3 U B=>⟨z,H,U,B,q⟩) hs
theorem HH(F:Y.A.units+1<cLine):IxR Y (λx y H Q=>rIx Y.K x y H Q∨JW x y H Q):=PQ.or (Lj F)
theorem eQ:∀{kvs:List (Key×V)}{k:Key}{j:Nat},cu (kvs.map (·.1)) k=some j->gw kvs k=(kvs.map (·.2))[j]?
 |[],k,j,h=>by simp[cu]at h
 |(k0,v)::r,k,j,h=>by
  simp only[TF,cu,abu]at h;by_cases e:k0=k
  .subst e
   simp at h;subst h;simp[gw]
  .rw[T8 e]at h
   simp only[Uo,VM]at h;cases h1:(r.map (·.1)).findIdx? (λx=>decide (x=k))with
   |none=>rw[h1]at h;cases h
   |some i=>
    rw[h1]at h;have:i+1=j:=by simpa using h
    subst this;have Z:=eQ (kvs:=r) (k:=k) (j:=i) h1;simp only[gw,Wo,T8 e,TF,Uh];exact Z
theorem iu:∀{kvs:List (Key×V)}{k:Key},cu (kvs.map (·.1)) k=none->gw kvs k=none
 |[],k,h=>rfl
 |(k0,v)::r,k,h=>by
  simp only[TF,cu,abu]at h;by_cases e:k0=k
  .subst e
   simp at h
  .rw[T8 e]at h
   simp only[Uo,VM]at h;have h1:(r.map (·.1)).findIdx? (λx=>decide (x=k))=none:=by
    cases h1:(r.map (·.1)).findIdx? (λx=>decide (x=k))with
    |none=>rfl
    |some i=>rw[h1]at h;cases h
   have Z:=iu (kvs:=r) (k:=k) h1;simp only[gw,Wo,T8 e];exact Z
theorem gH{k:Key}(r:Rep G H W d v L)(h:cg d=some k):v=kV k:=by
 cases d<;>simp[cg]at h<;>subst h<;>rw[Rep]at r<;>exact r.1
variable{pf:En->Option (List Nat)}{fk:En->Option D}
theorem Ke{to ti:TE}{i0:Nat}(B:RfP G ob to i0 pf)(hi:RfE G ob ti fk):RfP G ob (tOp (λx y H Q=>rIx G.K x y H Q∨JW x y H Q) to ti) i0 (ue i0 pf fk):=λρ p e σ H S Fr s=>by
 unfold ue at e;cases h1:pf ρ with
 |none=>simp[h1]at e
 |some p0=>
  cases h2:fk ρ with
  |none=>simp[h1,h2]at e
  |some k=>
   rw[h1,h2]at e;simp only[S8]at e;split at e
   .rename_i d0 h3
    cases h4:dg p0 d0 with
    |none=>simp[h4]at e
    |some d=>
     cases U:ixP d k with
     |none=>simp[h4,U]at e
     |some j=>
      by_cases h6:j<(kids d).length
      .obtain rfl:p0++[j]=p:=by simpa[h4,U,h6]using e
       obtain⟨a7,d',g1,g2,g3⟩:=B ρ p0 h1 σ H S Fr s;rw[h3]at g1;cases g1;rw[h4]at g2;cases g2;have a1:clean d=true:=lL (let⟨_,_,_,h⟩:=s.sl i0 d0 h3;h) h4;refine⟨d0,(kids d)[j],h3,by rw[Gn p0 j d0 h4,Td h6],λQ q=>?_⟩;refine g3 _ λv v0 H1 M Z a5 a6=>?_;have a2:Sta G H1 ob ρ σ S Fr:=s.grow Z λa z=>.inl z;refine hi ρ k h2 σ H1 _ a2.rel a2.wok _ λy H2 L2 O N fy ny=>?_;have up:Up H1 H2 (wn ob S Fr) (wn ob S Fr):=Up.same O;have a0:=a6.mono (.inr up) up.evo λc _ u hu=>O c u hu;have V:(kids d)[j]? =some (kids d)[j]:=Td h6;have fin:∀x M',Foc G H2 (wn ob S Fr) d v M [j] (kids d)[j] x M'->Q x H2:=λx M' f=>q x v0 H2 M' (Z.trans O) a5 (a0.trans f h4 (by rw[V];simp));cases d with
       |lst m ds=>
        cases m<;>(try(simp[ixP]at U));cases k<;>(try(simp[ixP]at U));rename_i n;rw[Rep]at N;obtain⟨a,xs,x,M',rfl,Y,hl,F,f⟩:=Foc.lst a0.r a1 V;refine .inl (.inl ⟨a,xs,n,x,rfl,N.1,SqL.of Y,?_,fin x M' f⟩);unfold atI;rw[hl,U];exact F
       |tup ds=>
        cases k<;>(try(simp[ixP]at U));rename_i n;rw[Rep]at N;obtain⟨a,xs,x,M',rfl,Y,hl,F,f⟩:=Foc.tup a0.r a1 V;refine .inl (.inr (.inl ⟨a,xs,n,x,rfl,N.1,SqT.of Y,?_,fin x M' f⟩));unfold atI;rw[hl,U];exact F
       |dct m ks ds=>
        cases m<;>(try(simp[ixP]at U));cases I:cg k with
        |none=>simp[I]at U
        |some kk=>
         cases F:cu ks kk with
         |none=>simp[I,F]at U
         |some j'=>
          have:j'=j:=by
           have:=U;simp[I,F]at this;exact this.2
          subst this;obtain⟨a,kvs,x,M',rfl,Y,a3,a4,f⟩:=Foc.dct a0.r a1 V;refine .inr ⟨a,x,rfl,?_,fin x M' f⟩;have:=gH N I;subst this;have hv:=eQ (kvs:=kvs) (k:=kk) (j:=j') (by rw[a3.1];exact F);rw[a4]at hv;rw[←hv];exact ou.k Y
       |_=>simp[ixP]at U
      .simp[h4,U,h6]at e
   .cases e
theorem wY{o i:Expr}{q:Nat}(F:∀c,(X c).A.units+1<cLine)(B:PVP X G ob o q pf)(hi:PV X G ob i fk)(hs:qN i:=by exact λ_ _=>rfl)(z:∀c,(X c).K=G.K:=by intro _;rfl):PVP X G ob (.Subscript o i pos) q (ue q pf fk):=let⟨t,a1,a2⟩:=B.ex;let⟨u,b1,b2⟩:=hi.ex;⟨_,λc=>(by rw[←z c];exact Ft (HH (F c)) (a1 c) (b1 c) hs),Ke a2 b2⟩
def MuV(G:Gc)(r:V->List V->Hp->VK->Prop)(op:D->List D->Option (D×D)):Prop:=∀(d:D)(es:List D)(d' res:D),op d es=some (d',res)->∀(v:V)(xs:List V)(H:Hp)(W:Wn)(M N:List Addr),Rep G H W d v M->aC G H W es xs N->(M++N).Nodup->(∀a∈M,¬W.free a)->
 clean d=true->au es=true->az es=true->∀Q:VK,(∀x H' M' R,(∀b u,H b=some u->b∉M->H' b=some u)->(∀W',Evo H H' W W'->Rep G H' W' d' v M'/\Rep G H' W' res x R)->(M'++R).Nodup->(∀a∈M'++R,a∈M∨a∈N∨H a=none)->clean d'=true->clean res=true->Q x H')->r v xs H Q
theorem Aw{e:D}:∀{p:List Nat},clean d0=true->clean e=true->clean (cB p e d0)=true:=by
 intro p
 induction p generalizing d0 with
 |nil=>intro _ h;exact h
 |cons j p Z=>
  intro h V;simp only[cB];cases h1:(kids d0)[j]? with
  |none=>exact h
  |some c=>
   have O:clean c=true:=lL (p:=[j]) h (by simp[dg,h1]);have:=Z (d0:=c) O V;have q:∀{ds:List D}{j:Nat}{x:D},au ds=true->az ds=true->clean x=true->au (ds.set j x)=true/\az (ds.set j x)=true:=λ{ds}=>by
    induction ds with
    |nil=>intro j x a b _;simp[a,b]
    |cons y r z=>
     intro j x a b B;simp only[au,az,TY]at a b;have F:=(by simpa[clean]using B:aB x=true/\aA x=true);cases j with
     |zero=>simp[au,az,F,a,b]
     |succ j=>simp only[Us,au,az,TY];exact⟨⟨a.1,(z a.2 b.2 B).1⟩,⟨b.1,(z a.2 b.2 B).2⟩⟩
   cases d0<;>simp only[kids,List.getElem?_nil]at h1<;>(try cases h1)<;>simp only[za,kids]<;>simp[clean,aB,aA]at h⊢
   .exact⟨(q h.1 h.2 this).1,(q h.1 h.2 this).2⟩
   .exact⟨⟨h.1.1,(q h.1.2 h.2.2 this).1⟩,h.2.1,(q h.1.2 h.2.2 this).2⟩
   .exact⟨⟨h.1.1,(q h.1.2 h.2.2 this).1⟩,h.2.1,(q h.1.2 h.2.2 this).2⟩
   .exact⟨⟨h.1.1,(q h.1.2 h.2.2 this).1⟩,h.2.1,(q h.1.2 h.2.2 this).2⟩
variable{res:D}
theorem Sta.mut{Fr:Addr->Prop}{d':D}{v0 x:V}{N M' R:List Addr}(s:Sta G H ob ρ σ S (plus N Fr))(e:ρ[i]? =some (some d0))(b3:σ[i]? =some (some v0))(b4:Foc G H (wn ob S (plus N Fr)) d0 v0 (S i) p d v M)
  (hF:∀a∈N,¬Fr a) (kp:∀b u,H b=some u->b∉M->H' b=some u) (Z:∀W',Evo H H' (wn ob S (plus N Fr)) W'->Rep G H' W' d' v M'/\Rep G H' W' res x R) (nd:(M'++R).Nodup) (gr:∀a∈M'++R,a∈M∨a∈N∨H a=none) (O:clean d'=true) :
  ∃S',Sta G H' ob (ρ.set i (some (cB p d' d0))) σ S' (plus R Fr)/\Rep G H' (wn ob S' (plus R Fr)) res x R/\(∀j,j≠i->S' j=S j)/\(∀a∈S' i,a∈S i∨a∈N∨H a=none)/\(∀a∈R,a∈S i∨a∈N∨H a=none)/\(∀b u,H b=some u->b∉S i->H' b=some u):=by
 obtain⟨A,B,hL,U⟩:=b4.b;have a7:i<ρ.length:=(List.getElem?_eq_some_iff.mp e).1;have a1:∀a∈M,a∈S i:=λa Y=>by rw[hL];simp[Y]
 have a2:∀a∈A++B,a∈S i/\a∉M:=λa Y=>by
  have hn:=s.nd i;rw[hL]at hn;have h1:=Tu.mp hn;have h2:=Tu.mp h1.2.1;rcases S9.mp Y with z|z
  .exact⟨by rw[hL];simp[z],λy=>h1.2.2 a z a (by simp[y]) rfl⟩
  .exact⟨by rw[hL];simp[z],λy=>h2.2.2 a y a z rfl⟩
 have a8:∀a∈M'++R,∀j,j≠i->a∉S j:=λa Y j hj z=>by
  rcases gr a Y with y|y|y
  .exact hj (s.dj j i a z (a1 a y))
  .exact s.fdj j a (.inl y) z
  .obtain⟨o,ho,_⟩:=s.mu z;rw[y]at ho;cases ho
 have b5:∀a∈M'++R,¬Fr a:=λa Y z=>by
  rcases gr a Y with y|y|y
  .exact s.fdj i a (.inr z) (a1 a y)
  .exact hF a y z
  .obtain⟨o,ho,_⟩:=s.fdm a (.inr z);rw[y]at ho;cases ho
 have a3:∀a∈M'++R,a∉A++B:=λa Y z=>by
  obtain⟨z1,z2⟩:=a2 a z;rcases gr a Y with y|y|y
  .exact z2 y
  .exact s.fdj i a (.inl y) z1
  .obtain⟨o,ho,_⟩:=s.mu z1;rw[y]at ho;cases ho
 let S':=bO S i (A++(M'++B))
 have a5:∀a∈S' i,a∈S i∨a∈N∨H a=none:=λa Y=>by
  have Y:a∈bO S i (A++(M'++B)) i:=Y;rw[cP]at Y;simp only[S9]at Y;rcases Y with z|z|z
  .exact .inl (a2 a (Th _ z)).1
  .exact(gr a (Th _ z)).imp (a1 a) id
  .exact .inl (a2 a (Tc _ z)).1
 have a6:∀b u,H b=some u->(wn ob S (plus N Fr)).free b->H' b=some u/\(wn ob S' (plus R Fr)).free b:=λb u U f=>by
  have nS:∀j,b∉S j:=λj z=>by
   cases ho:ob j with
   |false=>exact f.2.1 ⟨j,ho,z⟩
   |true=>exact f.2.2 ⟨j,ho,z⟩
  have b1:∀j,b∉S' j:=λj z=>by
   by_cases hj:j=i
   .subst hj
    rcases a5 b z with y|y|y
    .exact nS j y
    .exact f.1 (.inl y)
    .rw[U]at y;cases y
   .have z:b∈bO S i (A++(M'++B)) j:=z
    rw[cR hj]at z;exact nS j z
  refine⟨kp b u U λz=>nS i (a1 b z),λz=>?_,λ⟨j,_,z⟩=>b1 j z,λ⟨j,_,z⟩=>b1 j z⟩;rcases z with z|z
  .rcases gr b (Tc _ z)with y|y|y
   .exact nS i (a1 b y)
   .exact f.1 (.inl y)
   .rw[U]at y;cases y
  .exact f.1 (.inr z)
 have I:Evo H H' (wn ob S (plus N Fr)) (wn ob S' (plus R Fr)):=⟨a6,λb xs h=>by
  have no:∀u,H b=some u->muO u=false->H' b=some u:=λu F mu=>kp b u F λz=>by
   obtain⟨o,ho,hm⟩:=s.mu (a1 b z);rw[F]at ho;cases ho;rw[mu]at hm;cases hm
  exact no _ h rfl⟩
 obtain⟨r1,r2⟩:=Z _ I;have b0:=Tu.mp nd;refine⟨S',⟨by simp[s.len],λj dj hj=>?_,λj hj=>?_,λj=>?_,λj k a h1 h2=>?_,λj a h1 h2=>?_,λa Y=>?_⟩,r2,λj hj=>cR hj,a5,λa Y=>(gr a (Tc _ Y)).imp (a1 a) id,λb u U n=>kp b u U λz=>n (a1 b z)⟩
 .by_cases a0:j=i
  .subst a0
   have:cB p d' d0=dj:=by simpa[a7]using hj
   subst this;have b2:clean d0=true:=let⟨_,_,_,h⟩:=s.sl j d0 e;h;refine⟨v0,b3,?_,Aw b2 O⟩;show Rep G H' _ _ v0 (bO S j (A++(M'++B)) j);rw[cP];exact U H' _ d' M' I (λc O u F=>kp c u F (a2 c O).2) r1
  .rw[List.getElem?_set_ne (U0 a0)]at hj
   obtain⟨w,q1,q2,q⟩:=s.sl j dj hj;have a9:=(by simpa[clean]using q:aB dj=true/\aA dj=true);refine⟨w,q1,?_,q⟩;show Rep G H' _ dj w (bO S i (A++(M'++B)) j);rw[cR a0];exact q2.mono I (.inl a9.1) (.inl a9.2) λc O u F=>kp c u F λz=>a0 (s.dj j i c O (a1 c z))
 .by_cases a0:j=i
  .subst a0
   exact absurd (by simp[a7]) (hj (cB p d' d0))
  .show bO S i (A++(M'++B)) j=[]
   rw[cR a0];exact s.em j λd1=>by have:=hj d1;rwa[List.getElem?_set_ne (U0 a0)]at this
 .by_cases a0:j=i
  .subst a0
   show(bO S j (A++(M'++B)) j).Nodup;rw[cP];have hn:=s.nd j;rw[hL]at hn;have h1:=Tu.mp hn;have h2:=Tu.mp h1.2.1;refine cA h1.1 (cA b0.1 h2.2.1 λa Y z=>a3 a (Th _ Y) (Tc _ z)) λa Y z=>?_;rcases S9.mp z with z|z
   .exact a3 a (Th _ z) (Th _ Y)
   .exact h1.2.2 a Y a (by simp[z]) rfl
  .show(bO S i (A++(M'++B)) j).Nodup
   rw[cR a0];exact s.nd j
 .have key:∀{j:Nat}{a:Addr},j≠i->a∈S j->a∈S' i->False:=λ{j a} hj z1 z2=>by
   have z2:a∈bO S i (A++(M'++B)) i:=z2;rw[cP]at z2;simp only[S9]at z2;rcases z2 with z|z|z
   .exact hj (s.dj j i a z1 (a2 a (Th _ z)).1)
   .exact a8 a (Th _ z) j hj z1
   .exact hj (s.dj j i a z1 (a2 a (Tc _ z)).1)
  by_cases a0:j=i<;>by_cases a4:k=i
  .rw[a0,a4]
  .subst a0
   have h2:a∈bO S j (A++(M'++B)) k:=h2;rw[cR a4]at h2;exact(key a4 h2 h1).elim
  .subst a4
   have h1:a∈bO S k (A++(M'++B)) j:=h1;rw[cR a0]at h1;exact(key a0 h1 h2).elim
  .have h1:a∈bO S i (A++(M'++B)) j:=h1
   have h2:a∈bO S i (A++(M'++B)) k:=h2;rw[cR a0]at h1;rw[cR a4]at h2;exact s.dj j k a h1 h2
 .by_cases a0:j=i
  .subst a0
   have h2:a∈bO S j (A++(M'++B)) j:=h2;rw[cP]at h2;simp only[S9]at h2;rcases h1 with h1|h1
   .rcases h2 with z|z|z
    .exact a3 a (Tc _ h1) (Th _ z)
    .exact b0.2.2 a z a h1 rfl
    .exact a3 a (Tc _ h1) (Tc _ z)
   .rcases h2 with z|z|z
    .exact s.fdj j a (.inr h1) (a2 a (Th _ z)).1
    .exact b5 a (Th _ z) h1
    .exact s.fdj j a (.inr h1) (a2 a (Tc _ z)).1
  .have h2:a∈bO S i (A++(M'++B)) j:=h2
   rw[cR a0]at h2;rcases h1 with h1|h1
   .exact a8 a (Tc _ h1) j a0 h2
   .exact s.fdj j a (.inr h1) h2
 .rcases Y with Y|Y
  .exact r2.dom a Y
  .obtain⟨o,ho,hm⟩:=s.fdm a (.inr Y)
   exact⟨o,kp a o ho λz=>s.fdj i a (.inr Y) (a1 a z),hm⟩
section
variable{ι:Type}{X:ι->Cx}{G:Gc}{ob P:Nat->Bool}
theorem j_{G:Gc}{r:V->List V->Hp->VK->Prop}{op:D->List D->Option (D×D)}{H:Hp}{ρ:En}{σ:L2.St}{S:Ad}{Fr:Addr->Prop}{i:Nat}{p:List Nat}{d0 d d' res:D}{v v0:V}{M N:List Addr}{es:List D}{xs:List V}(hm:MuV G r op)(s:Sta G H ob ρ σ S (plus N Fr))(e:ρ[i]? =some (some d0))(F:σ[i]? =some (some v0))(hp:dg p d0=some d)
  (z:Foc G H (wn ob S (plus N Fr)) d0 v0 (S i) p d v M) (U:aC G H (wn ob S (plus N Fr)) es xs N) (nd:N.Nodup) (hF:∀a∈N,¬Fr a) (c1:au es=true) (c2:az es=true) (h:op d es=some (d',res)) {Q:VK}
  (q:∀x H' R S',Sta G H' ob (ρ.set i (some (cB p d' d0))) σ S' (plus R Fr)->Rep G H' (wn ob S' (plus R Fr)) res x R->R.Nodup->clean res=true->(∀j,j≠i->S' j=S j)->(∀a∈S' i,a∈S i∨a∈N∨H a=none)->(∀a∈R,a∈S i∨a∈N∨H a=none)->(∀b u,H b=some u->b∉S i->H' b=some u)->Q x H'):r v xs H Q:=by
 have O:Vs M (S i):=by
  obtain⟨A,B,hL,_⟩:=z.b;rw[hL];exact(V5 M B).trans (UV A _)
 have a2:clean d0=true:=let⟨_,_,_,h⟩:=s.sl i d0 e;h;refine hm d es d' res h v xs H _ M N z.r U (cA (O.nodup (s.nd i)) nd λa h1 h2=>s.fdj i a (.inl h2) (O.subset h1)) (λa Y f=>?_) (lL a2 hp) c1 c2 Q λx H' M' R kp Z I gr a1 a0=>?_
 .cases ho:ob i with
  |false=>exact f.2.1 ⟨i,ho,O.subset Y⟩
  |true=>exact f.2.2 ⟨i,ho,O.subset Y⟩
 .obtain⟨S',q1,q2,q3,q4,q5,q6⟩:=s.mut e F z hF kp Z I gr a1
  exact q x H' R S' q1 q2 (Tu.mp I).2.1 a0 q3 q4 q5 q6
def upS(op:D->List D->Option (D×D))(i:Nat)(p:List Nat)(es:List D)(ρ:En):Option (D×En):=match ρ[i]? with
 |some (some d0)=>(dg p d0).bind λd=>if au es=true/\az es=true then(op d es).map λq=>(q.2,ρ.set i (some (cB p q.1 d0)))else none
 |_=>none
theorem v6{op:D->List D->Option (D×D)}{i:Nat}{p:List Nat}{es:List D}{ρ I:En}{res:D}(h:upS op i p es ρ=some (res,I)):∃d0 d d',ρ[i]? =some (some d0)/\dg p d0=some d/\au es=true/\az es=true/\op d es=some (d',res)/\I=ρ.set i (some (cB p d' d0)):=by
 unfold upS at h;split at h
 .rename_i d0 h1
  cases h2:dg p d0 with
  |none=>simp[h2]at h
  |some d=>
   by_cases O:au es=true/\az es=true
   .cases h3:op d es with
    |none=>simp[h2,O,h3]at h
    |some q=>
     obtain⟨d',z⟩:=q;obtain⟨rfl,rfl⟩:z=res/\ρ.set i (some (cB p d' d0))=I:=by simpa[h2,O,h3]using h
     exact⟨d0,d,d',h1,h2,O.1,O.2,h3,rfl⟩
   .simp[h2,O]at h
 .cases h
def pF(op:D->List D->Option (D×D))(i:Nat)(pf:En->Option (List Nat))(f:En->Option (List D)):En->Option (D×En):=λρ=>(pf ρ).bind λp=>(f ρ).bind λes=>upS op i p es ρ
def mL(op:D->List D->Option (D×D))(i:Nat)(pf:En->Option (List Nat))(f:En->Option (List D)):En->Option Fl:=λρ=>(pF op i pf f ρ).map λq=>.nx q.2
def yo(op:D->List D->Option (D×D))(i:Nat)(pf:En->Option (List Nat))(f:En->Option (List D×En)):En->Option Fl:=λρ=>(pf ρ).bind λp=>(f ρ).bind λq=>(upS op i p q.1 q.2).map λq=>.nx q.2
def Ao(G:Gc)(T:String)(op:D->List D->Option (D×D)):Prop:=∀d es q,op d es=some q->∀(v:V)(H:Hp)(W:Wn)(L:List Addr),Rep G H W d v L->tyV G.K T v H
theorem HN{T:String}{r:V->List V->Hp->VK->Prop}{op:D->List D->Option (D×D)}{to:TE}{t:TA}{i:Nat}{pf:En->Option (List Nat)}{f:En->Option (List D)}(hm:MuV G r op)(ht:Ao G T op)(B:RfP G ob to i pf)(Y:RfA G ob t f){ρ I:En}{res:D}(e:pF op i pf f ρ=some (res,I))
  {σ:L2.St} {H:Hp} {S:Ad} {Fr:Addr->Prop} (s:Sta G H ob ρ σ S Fr) {Q:VK}
  (q:∀x H' R S',Sta G H' ob I σ S' (plus R Fr)->Rep G H' (wn ob S' (plus R Fr)) res x R->R.Nodup->clean res=true->(∀j,j≠i->S' j=S j)->(∀a∈S' i,a∈S i∨H a=none)->(∀a∈R,a∈S i∨H a=none)->(∀b u,H b=some u->b∉S i->H' b=some u)->Q x H'):tBM G.K T r to t σ H Q:=by
 unfold pF at e;cases h1:pf ρ with
 |none=>simp[h1]at e
 |some p=>
  cases h2:f ρ with
  |none=>simp[h1,h2]at e
  |some es=>
   have e:upS op i p es ρ=some (res,I):=by simpa[h1,h2]using e
   obtain⟨d0,d,d',g1,g2,c1,c2,g3,rfl⟩:=v6 e;obtain⟨a5,dd,k1,k2,k3⟩:=B ρ p h1 σ H S Fr s;rw[g1]at k1;cases k1;rw[g2]at k2;cases k2;refine k3 _ λv v0 H1 M Z a3 a1=>⟨ht d es _ g3 v H1 _ M a1.r,?_⟩;have a0:Sta G H1 ob ρ σ S Fr:=s.grow Z λa z=>.inl z;refine Y ρ es h2 σ H1 _ a0.rel a0.wok _ λxs H2 N O re fr nd=>?_;have a4:Sta G H2 ob ρ σ S (plus N Fr):=a0.grow O λa z=>z.elim (λz=>.inr ⟨fr a z,re.dom a z⟩) .inl;have up:Up H1 H2 (wn ob S Fr) (wn ob S (plus N Fr)):=Up.add O fr;have a2:=a1.mono (.inr up) up.evo λc _ u F=>O c u F;have hF:∀a∈N,¬Fr a:=λa Y z=>by
    obtain⟨o,B,_⟩:=a0.fdm a z;rw[fr a Y]at B;cases B
   have nf:∀{a},a∈S i∨a∈N∨H2 a=none->a∈S i∨H a=none:=λ{a} z=>z.imp id λz=>z.elim (λz=>Z.none' (fr a z)) λz=>(Z.trans O).none' z;exact j_ hm a4 g1 a3 g2 a2 re nd hF c1 c2 g3 λx H' R S' q1 q2 q3 q4 q5 q6 q7 q8=>q x H' R S' q1 q2 q3 q4 q5 (λa Y=>nf (q6 a Y)) (λa Y=>nf (q7 a Y)) λb u U n=>q8 b u ((Z.trans O) b u U) n
theorem Ky{T:String}{r:V->List V->Hp->VK->Prop}{op:D->List D->Option (D×D)}{to:TE}{t:TA}{i:Nat}{pf:En->Option (List Nat)}{f:En->Option (List D)}(N:MuV G r op)(ht:Ao G T op)(B:RfP G ob to i pf)(Y:RfA G ob t f):RfS G ob P (Bx (tBM G.K T r to t)) (mL op i pf f):=λρ r e σ H S Fr s E q=>by
 unfold mL at e;cases h1:pF op i pf f ρ with
 |none=>simp[h1]at e
 |some p=>
  obtain⟨res,I⟩:=p;have:Fl.nx I=r:=by simpa[h1]using e
  subst this;refine HN N ht B Y h1 s λx H' R S' q1 q2 q3 q4 q5 Z O F=>q σ H' S' (q1.lessF λa z=>.inr z) ⟨λb u U n _=>F b u U λz=>n ⟨i,z⟩,λj a z=>?_,.refl⟩;by_cases hj:j=i
  .subst hj;exact(Z a z).imp (λz=>⟨j,z⟩) .inr
  .rw[q5 j hj]at z;exact .inl ⟨j,z⟩
theorem K7{T:String}{r:V->List V->Hp->VK->Prop}{op:D->List D->Option (D×D)}{to:TE}{t:TA}{i:Nat}{pf:En->Option (List Nat)}{f:En->Option (List D)}(Z:ob i=true)(N:MuV G r op)(ht:Ao G T op)(B:RfP G ob to i pf)(Y:RfA G ob t f):j4 G ob (tBM G.K T r to t) (pF op i pf f):=λρ d I e σ H S Fr s Q q=>by
 refine HN N ht B Y e s λx H' R S' q1 q2 q3 q4 q5 q6 O q8=>q x H' R S' q1 q2 q3 ⟨λb u U n=>q8 b u U λz=>n ⟨i,Z,z⟩,λj hj=>q5 j (λz=>by rw[z,Z]at hj;cases hj),λj a hj z=>?_,λa Y=>(O a Y).imp (λz=>⟨i,Z,z⟩) id⟩;by_cases F:j=i
 .subst F;exact(q6 a z).imp (λz=>⟨j,Z,z⟩) id
 .rw[q5 j F]at z;exact .inl ⟨j,hj,z⟩
theorem HS{T:String}{r:V->List V->Hp->VK->Prop}{op:D->List D->Option (D×D)}{to:TE}{t:TA}{i:Nat}{pf:En->Option (List Nat)}{f:En->Option (List D×En)}(a4:ob i=false)(hm:MuV G r op)(ht:Ao G T op)(B:RfP G ob to i pf)(Y:ye G ob t f)(a3:∀ρ q,f ρ=some q->q.2[i]? =ρ[i]?):RfS G ob P (Bx (tBM G.K T r to t)) (yo op i pf f):=λρ r e σ H S Fr s E q=>by
 unfold yo at e;cases h1:pf ρ with
 |none=>simp[h1]at e
 |some p=>
  cases h2:f ρ with
  |none=>simp[h1,h2]at e
  |some w=>
   obtain⟨es,ρ1⟩:=w;cases h3:upS op i p es ρ1 with
   |none=>simp[h1,h2,h3]at e
   |some w=>
    obtain⟨res,I⟩:=w;have:Fl.nx I=r:=by simpa[h1,h2,h3]using e
    subst this;obtain⟨d0,d,d',g1,g2,c1,c2,g3,rfl⟩:=v6 h3;have hs:=a3 ρ _ h2;simp only at hs;obtain⟨b0,dd,k1,k2,k3⟩:=B ρ p h1 σ H S Fr s;rw[←hs,g1]at k1;cases k1;rw[g2]at k2;cases k2;have a7:clean d0=true:=let⟨_,_,_,h⟩:=s.sl i d0 (by rw[←hs];exact g1);h;refine k3 _ λv v0 H1 M Z a8 a5=>⟨ht d es _ g3 v H1 _ M a5.r,?_⟩;have a0:Sta G H1 ob ρ σ S Fr:=s.grow Z λa z=>.inl z;refine Y ρ es ρ1 h2 σ H1 S Fr a0 _ λxs H2 N S2 a9 re nd ef=>?_;have a1:=a5.mono (.inl (lL a7 g2)) (ef.evo a0) λc O u F=>ef.kp c u F λ⟨j,hj,z⟩=>by rw[←a0.dj i j c O z,a4]at hj;cases hj
    have a2:S2 i=S i:=ef.sn i a4;rw[←a2]at a1;have hF:∀a∈N,¬Fr a:=λa Y z=>by
     rcases ef.fm a Y with y|y
     .exact a0.notO z y
     .obtain⟨o,B,_⟩:=a0.fdm a z
      rw[y]at B;cases B
    have old:∀{a},inO ob S a∨H1 a=none->inS S a∨H a=none:=λ{a} z=>z.imp (λ⟨k,_,z⟩=>⟨k,z⟩) λz=>Z.none' z;refine j_ hm a9 g1 a8 g2 a1 re nd hF c1 c2 g3 λx H' R S' q1 q2 q3 q4 q5 q6 q7 q8=>q σ H' S' (q1.lessF λa z=>.inr z) ⟨λb u U n _=>?_,λj a z=>?_,.refl⟩
    .exact q8 b u (ef.kp b u (Z b u U) λ⟨k,_,z⟩=>n ⟨k,z⟩) λz=>n ⟨i,by rw[←a2];exact z⟩
    .by_cases hj:j=i
     .subst hj
      rcases q6 a z with y|y|y
      .rw[a2]at y;exact .inl ⟨j,y⟩
      .exact(old (ef.fm a y)).imp id .inr
      .exact(old (ef.back y)).imp id .inr
     .rw[q5 j hj]at z
      cases a6:ob j with
      |false=>rw[ef.sn j a6]at z;exact .inl ⟨j,z⟩
      |true=>exact(old (ef.gr j a a6 z)).imp id .inr
structure MuB{ι:Type}(X:ι->Cx)(G:Gc)(T id:String)(op:D->List D->Option (D×D)):Prop where
 ex:∃r,(∀c,MtR (X c) id r)/\MuV G r op/\Ao G T op
section
variable{T name id:String}{op:D->List D->Option (D×D)}{o e:Expr}{es:List Expr}{apos cpos pos:Pos}{i:Nat}{pf:En->Option (List Nat)}
theorem lC{V:Str}(m:MuB X G T id op)(Z:Z0 T)(slot:Slot T V id)(F:typeOf (.builtin id)=pure (.type "method_descriptor")){f:En->Option (List D)}(B:PVP X G ob o i pf)(Y:PVA X G ob (e::es) f)(I:∀c,WT (.Call (.Attribute o V apos) (e::es) [] cpos) none pos.line (X c).env=pure false:=by intro _;rfl)(q:∀c,Wz o V (X c).env (eval o (X c).env)=eval o (X c).env:=by intro _;rfl)(O:∀c,((Vf cpos (Tj (e::es) (X c).env)).all (λx=>!x.1)&&(Yh cpos (W8 [] (X c).env)).all (λx=>x.1.isSome)
  &&decide ((e::es).length+([]:List Wd).length+(if([]:List Wd).isEmpty then 0 else 1)<30))=true:=by intro _;rfl) (N:(apos.endLine==cpos.line)=true:=by rfl) (hs:∀c,Tj (e::es) (X c).env=(false,eval e (X c).env)::Tj es (X c).env:=by intro _;rfl) (U:∀c,(Vf cpos (Tj es (X c).env)).any (·.1)=false:=by intro _;rfl) (z:∀c,(X c).K=G.K:=by intro _;rfl) :
 PVS X G ob P (.Expr (.Call (.Attribute o V apos) (e::es) [] cpos) pos) (mL op i pf f):=let⟨r,m1,m2,m3⟩:=m.ex;let⟨t,a1,a2⟩:=B.ex;let⟨u,b1,b2⟩:=Y.ex;⟨_,λc=>(by rw[←z c];exact vY (uC Z slot F (m1 c) (a1 c) (b1 c) (q c) (O c) N (hs c) (U c)) (I c)),Ky m2 m3 a2 b2⟩
theorem IV{V:Str}(m:MuB X G T id op)(pa:Z0 T)(slot:Slot T V id)(F:typeOf (.builtin id)=pure (.type "method_descriptor")){f:En->Option (List D×En)}(B:PVP X G ob o i pf)(Y:rm X G ob (e::es) f)(I:∀ρ q,f ρ=some q->q.2[i]? =ρ[i]?)(Z:ob i=false:=by rfl)(a3:∀c,WT (.Call (.Attribute o V apos) (e::es) [] cpos) none pos.line (X c).env=pure false:=by intro _;rfl)(a0:∀c,Wz o V (X c).env (eval o (X c).env)=eval o (X c).env:=by intro _;rfl)(O:∀c,((Vf cpos (Tj (e::es) (X c).env)).all (λx=>!x.1)&&(Yh cpos (W8 [] (X c).env)).all (λx=>x.1.isSome)
  &&decide ((e::es).length+([]:List Wd).length+(if([]:List Wd).isEmpty then 0 else 1)<30))=true:=by intro _;rfl) (N:(apos.endLine==cpos.line)=true:=by rfl) (hs:∀c,Tj (e::es) (X c).env=(false,eval e (X c).env)::Tj es (X c).env:=by intro _;rfl) (U:∀c,(Vf cpos (Tj es (X c).env)).any (·.1)=false:=by intro _;rfl) (z:∀c,(X c).K=G.K:=by intro _;rfl) :
 PVS X G ob P (.Expr (.Call (.Attribute o V apos) (e::es) [] cpos) pos) (yo op i pf f):=let⟨r,m1,m2,m3⟩:=m.ex;let⟨t,a1,a2⟩:=B.ex;let⟨u,b1,b2⟩:=Y.ex;⟨_,λc=>(by rw[←z c];exact vY (uC pa slot F (m1 c) (a1 c) (b1 c) (a0 c) (O c) N (hs c) (U c)) (a3 c)),HS Z m2 m3 a2 b2 I⟩
theorem Kl{V:Str}(m:MuB X G T id op)(I:Z0 T)(slot:Slot T V id)(F:typeOf (.builtin id)=pure (.type "method_descriptor")){f:En->Option (List D)}(B:PVP X G ob o i pf)(Y:PVA X G ob (e::es) f)(Z:ob i=true:=by rfl)(q:∀c,Wz o V (X c).env (eval o (X c).env)=eval o (X c).env:=by intro _;rfl)(O:∀c,((Vf cpos (Tj (e::es) (X c).env)).all (λx=>!x.1)&&(Yh cpos (W8 [] (X c).env)).all (λx=>x.1.isSome)
  &&decide ((e::es).length+([]:List Wd).length+(if([]:List Wd).isEmpty then 0 else 1)<30))=true:=by intro _;rfl) (N:(apos.endLine==cpos.line)=true:=by rfl) (hs:∀c,Tj (e::es) (X c).env=(false,eval e (X c).env)::Tj es (X c).env:=by intro _;rfl) (U:∀c,(Vf cpos (Tj es (X c).env)).any (·.1)=false:=by intro _;rfl) (z:∀c,(X c).K=G.K:=by intro _;rfl) :
 PVe X G ob (.Call (.Attribute o V apos) (e::es) [] cpos) (pF op i pf f):=let⟨r,m1,m2,m3⟩:=m.ex;let⟨t,a1,a2⟩:=B.ex;let⟨u,b1,b2⟩:=Y.ex;⟨_,λc=>(by rw[←z c];exact uC I slot F (m1 c) (a1 c) (b1 c) (q c) (O c) N (hs c) (U c)),K7 Z m2 m3 a2 b2⟩
end
structure MuT{ι:Type}(X:ι->Cx)(G:Gc)(op:D->List D->Option (D×D)):Prop where
 ex:∃t:Ec,(∀c,La (X c) t)/\MuV G (λo xs H Q=>∃i v,xs=[i,v]/\t o i v H λH'=>Q .non H') op
def gY(op:D->List D->Option (D×D))(i:Nat)(pf:En->Option (List Nat))(fk:En->Option D):D->En->Option En:=λd ρ=>(pf ρ).bind λp=>(fk ρ).bind λk=>(upS op i p [k,d] ρ).map λq=>q.2
theorem JX{t:Ec}{op:D->List D->Option (D×D)}{to ti:TE}{i:Nat}{pf:En->Option (List Nat)}{fk:En->Option D}(hm:MuV G (λo xs H Q=>∃i v,xs=[i,v]/\t o i v H λH'=>Q .non H') op)(B:RfP G ob to i pf)(hi:RfE G ob ti fk):RfG G ob P (iV to ti t) (gY op i pf fk):=λd ρ I e v σ H S M Fr s r nd hF Q q=>by
 unfold gY at e;cases h1:pf ρ with
 |none=>simp[h1]at e
 |some p=>
  cases h2:fk ρ with
  |none=>simp[h1,h2]at e
  |some k=>
   cases O:upS op i p [k,d] ρ with
   |none=>simp[h1,h2,O]at e
   |some w=>
    obtain⟨res,ρ1⟩:=w;obtain rfl:ρ1=I:=by simpa[h1,h2,O]using e
    obtain⟨d0,dd,d',g1,g2,c1,c2,g3,rfl⟩:=v6 O;obtain⟨b1,b0,k1,k2,k3⟩:=B ρ p h1 σ H S (plus M Fr) s;rw[g1]at k1;cases k1;rw[g2]at k2;cases k2;refine k3 _ λo v0 H1 M1 Z a4 a6=>?_;have a0:Sta G H1 ob ρ σ S (plus M Fr):=s.grow Z λa z=>.inl z;refine hi ρ k h2 σ H1 _ a0.rel a0.wok _ λy H2 N s2 ry V nN=>?_;have a9:Sta G H2 ob ρ σ S (plus (N++M) Fr):=a0.grow s2 λa z=>z.elim (λz=>(S9.mp z).elim (λz=>.inr ⟨V a z,ry.dom a z⟩) λz=>.inl (.inl z)) λz=>.inl (.inr z);have up:Up H1 H2 (wn ob S (plus M Fr)) (wn ob S (plus (N++M) Fr)):=⟨s2,λb u U f=>⟨λz=>z.elim (λz=>(S9.mp z).elim (λz=>by rw[V b z]at U;cases U) λz=>f.1 (.inl z)) λz=>f.1 (.inr z),f.2⟩,λ_ _ _ f=>f⟩;have a2:Up H H2 (wn ob S (plus M Fr)) (wn ob S (plus (N++M) Fr)):=(Up.same Z).trans up;have a1:=a6.mono (.inr up) up.evo λc _ u F=>s2 c u F;have a3:(wn ob S (plus M Fr)).add N=wn ob S (plus (N++M) Fr):=by
     show Wn.mk _ _ _=Wn.mk _ _ _;congr 1;funext a;simp only[plus,S9,eq_iff_iff,or_assoc];constructor
     .rintro(z|z)
      .exact .inl z
      .exact .inr z
     .rintro(z|z)
      .exact .inl z
      .exact .inr z
    rw[a3]at ry;have a8:∀a∈N,a∉M:=λa h1 h2=>by
     obtain⟨o,B,_⟩:=r.dom a h2;rw[Z.none' (V a h1)]at B;cases B
    have re:aC G H2 (wn ob S (plus (N++M) Fr)) [k,d] [y,v] (N++M):=.cons ry (.one (r.up a2));have a5:∀a∈N++M,¬Fr a:=λa Y z=>by
     rcases S9.mp Y with y|y
     .obtain⟨o,B,_⟩:=a0.fdm a (.inr z)
      rw[V a y]at B;cases B
     .exact hF a y z
    have a7:=j_ hm a9 g1 a4 g2 a1 re (cA nN nd a8) a5 c1 c2 g3 (Q:=λ_ H'=>Q σ H') λx H' R S' q1 q2 q3 q4 q5 q6 q7 q8=>q σ H' S' (q1.lessF λa z=>.inr z) ⟨λb u U n m=>?_,λj a z=>?_,.refl⟩
    .obtain⟨i1,v1,e1,k⟩:=a7
     cases e1;exact k
    .exact q8 b u ((Z.trans s2) b u U) λz=>n ⟨i,z⟩
    .by_cases hj:j=i
     .subst hj
      rcases q6 a z with y|y|y
      .exact .inl ⟨j,y⟩
      .exact(S9.mp y).elim (λy=>.inr (.inr (Z.none' (V a y)))) λy=>.inr (.inl y)
      .exact .inr (.inr ((Z.trans s2).none' y))
     .rw[q5 j hj]at z;exact .inl ⟨j,z⟩
theorem lE{op:D->List D->Option (D×D)}{o k:Expr}{pos:Pos}{i:Nat}{pf:En->Option (List Nat)}{fk:En->Option D}(m:MuT X G op)(B:PVP X G ob o i pf)(I:PV X G ob k fk)(Y:∀c,∀v,Yx (.Subscript o k pos) (X c).env v=(do
 let ov ←Xh [v] (eval o (X c).env)
 let iv ←Xh [v,ov] (eval k (X c).env)
 standAt pos
 Xh [v,ov,iv] (setItem ov iv v)
 release [v,ov,iv] []):=by intro _;intro _;rfl):PVG X G ob P (.Subscript o k pos) (gY op i pf fk):=let⟨t,m1,m2⟩:=m.ex;let⟨_,a1,a2⟩:=B.ex;let⟨_,b1,b2⟩:=I.ex;⟨_,λc=>Nh (a1 c) (b1 c) (m1 c) (Y c),JX m2 a2 b2⟩
theorem jd{G:Gc}{H:Hp}{W:Wn}:Rep G H W .non .non []:=by rw[Rep];exact⟨rfl,rfl⟩
theorem lw{ds:List D}(h1:au ds=true)(h2:az ds=true):clean (.lst .own ds)=true:=by simp[clean,aB,aA,h1,h2]
theorem v5{G:Gc}{H:Hp}{W W':Wn}{a:Addr}{xs:List V}{ds:List D}{M:List Addr}{ys:List V}(Z:aC G H W ds xs M)(q:au ds=true)(N:az ds=true)(hn:a∉M)(I:Evo H (upd H a (.lst ys)) W W'):aC G (upd H a (.lst ys)) W' ds xs M:=
 Z.mono I (.inl q) (.inl N) λc O u F=>by rw[aH (show c≠a from λz=>hn (z▸O))];exact F
def aW:D->List D->Option (D×D)
 |.lst .own ds,[e]=>if ds.length<1000000 then some (.lst .own (ds++[e]),.non)else none
 |_,_=>none
theorem tX{n:Nat}(h:n<1000000):n<Te:=T6 h (by decide)
theorem sE{G:Gc}:MuV G nO aW:=λd es d' res h v xs H W M N r re nd hM O V B Q q=>by
 unfold aW at h;split at h
 .rename_i ds e
  split at h
  .rename_i hl
   cases h;rw[Rep]at r;obtain⟨a,ys,M0,rfl,Z,Y,rfl⟩:=r;obtain⟨x,zs,N1,N2,rfl,rfl,F,hz⟩:=re.inv;obtain⟨rfl,rfl⟩:=hz.inv0;rw[T3]at nd re;obtain⟨k1,k2⟩:=ir O;have I:=Tu.mp nd;have hn:=T5.mp I.1;have a0:a∉N1:=λz=>I.2.2 a (by simp) a z rfl;simp only[au,az,TY]at V B;refine⟨a,ys,x,rfl,rfl,Y,tX (by rw[←Z.length];exact hl),q .non _ (a::(M0++N1)) [] (λb u U n=>by rw[aH (show b≠a from λz=>n (by rw[z];simp))];exact U) (λW' ev=>⟨?_,jd⟩) ?_ (λb U=>?_) (lw (by rw[gA];simp[k1,au,V]) (by rw[gn];simp[k2,az,B])) rfl⟩
   .rw[Rep]
    refine⟨a,ys++[x],M0++N1,rfl,(v5 Z k1 k2 hn.1 ev).append (.one (F.mono ev (.inl V.1) (.inl B.1) λc O u hu=>?_)),aM,rfl⟩;rw[aH (show c≠a from λz=>a0 (z▸O))];exact hu
   .rw[T3]
    exact nd
   .rw[T3]at U
    rcases Tf.mp U with z|z
    .exact .inl (by simp[z])
    .rcases S9.mp z with z|z
     .exact .inl (by simp[z])
     .exact .inr (.inl (by simp[z]))
  .cases h
 .cases h
theorem ww{T:String}{op:D->List D->Option (D×D)}(z:T="list")(h:∀d es q,op d es=some q->∃m ds,d= .lst m ds):Ao G T op:=λd es q e v H W L r=>by
 obtain⟨m,ds,rfl⟩:=h d es q e;rw[Rep]at r;obtain⟨a,xs,M,rfl,Z,hs⟩:=r;exact .inl ⟨z,xs,hs.sq⟩
theorem jN:MuB X G "list" "list.append" aW:=⟨_,λc=>uv,sE,ww rfl λd es q e=>by
 unfold aW at e;split at e
 .exact⟨_,_,rfl⟩
 .cases e⟩
def gf(ks:List Key)(ds:List D)(k:Key)(v:D):List Key×List D:=match cu ks k with
 |some j=>(ks,ds.set j v)
 |none=>(ks++[k],ds++[v])
def cC:D->List D->Option (D×D)
 |.lst .own ds,[.int k,v]=>(ixN ds.length k).map λj=>(.lst .own (ds.set j v),.non)
 |.dct .own ks ds,[k,v]=>(cg k).bind λk=>if ks.length<1000000 then some (.dct .own (gf ks ds k v).1 (gf ks ds k v).2,.non)else none
 |_,_=>none
def LK:Ec:=λo i v H Q=>MF o i v H Q∨∃a H',o= .ref a/\Gp H a i v H'/\Q H'
theorem Ks{Y:Cx}(F:Y.A.units+1<cLine):La Y LK:=by
 intro pins s σ H o i v z N u Q I O Z U h;rcases h with h|⟨a,H',rfl,g,q⟩
 .exact set_list pins s σ H o i v z N u Q I O Z U h
 .cases O
  exact Eh F I g Z U λB V=>⟨H',V,q⟩
theorem aC.set{G:Gc}{H:Hp}{W:Wn}{ds:List D}{xs:List V}{L:List Addr}{j:Nat}{c d':D}{y:V}{M':List Addr}(Z:aC G H W ds xs L)(e:ds[j]? =some c)(z:Rep G H W d' y M'):∃A M B,L=A++(M++B)/\aC G H W (ds.set j d') (xs.set j y) (A++(M'++B)):=by
 obtain⟨P,Q,x,ys,zs,I,U,N,rfl,q,rfl,Y,rfl,h1,h2,O⟩:=Z.at e;refine⟨I,U,N,rfl,?_⟩;rw[←q,XC _ _ (Tg _),Wq];rw[show P.length=ys.length by omega,XC _ _ (Tg _),Wq];exact aC.append h1 (aC.cons z O)
theorem jJ{ds:List D}{j:Nat}{x:D}(h:au ds=true)(F:aB x=true):au (ds.set j x)=true:=by
 induction ds generalizing j with
 |nil=>simpa using h
 |cons y r Z=>
  simp only[au,TY]at h;cases j with
  |zero=>simp[au,F,h]
  |succ j=>simp only[Us,au,TY];exact⟨h.1,Z h.2⟩
theorem jA{ds:List D}{j:Nat}{x:D}(h:az ds=true)(F:aA x=true):az (ds.set j x)=true:=by
 induction ds generalizing j with
 |nil=>simpa using h
 |cons y r Z=>
  simp only[az,TY]at h;cases j with
  |zero=>simp[az,F,h]
  |succ j=>simp only[Us,az,TY];exact⟨h.1,Z h.2⟩
theorem M7{n:Nat}{k:Int}{j:Nat}(h:ixN n k=some j):j<n:=by
 unfold ixN at h;split at h
 .split at h
  .cases h;omega
  .cases h
 .split at h
  .cases h;omega
  .cases h
theorem v_{ks:List Key}{k:Key}{j:Nat}(h:cu ks k=some j):j<ks.length:=(Uz.mp h).1
theorem yj:∀{kvs:List (Key×V)}{k:Key}{j:Nat}{v:V},cu (kvs.map (·.1)) k=some j->(kvs.map (·.1)).Nodup->(putK kvs k v).map (·.1)=kvs.map (·.1)/\(putK kvs k v).map (·.2)=(kvs.map (·.2)).set j v:=by
 intro kvs k j v h n;have hj:=Uz.mp h;obtain⟨Y,I,_⟩:=hj;have U:j<kvs.length:=by simpa using Y
 have F:kvs[j].1=k:=by simpa using I
 have q:(kvs.any λkv=>decide (kv.1=k))=true:=XM.mpr ⟨kvs[j],Vw _,by simpa using F⟩;unfold putK;rw[Tz q];constructor
 .rw[TX]
  apply UW;intro p _;simp only[W4];split<;>rfl
 .apply Yu
  intro i;rw[TX,List.getElem?_map];by_cases B:j=i
  .subst B
   rw[Wa (by simpa using U)];simp[U,F]
  .rw[List.getElem?_set_ne B,List.getElem?_map]
   cases e:kvs[i]? with
   |none=>rfl
   |some p=>
    have N:i<kvs.length:=(List.getElem?_eq_some_iff.mp e).1;have O:kvs[i]=p:=(List.getElem?_eq_some_iff.mp e).2;have Z:p.1≠k:=λz=>by
     have e1:(kvs.map (·.1))[i]? =(kvs.map (·.1))[j]?:=by
      rw[List.getElem?_map,List.getElem?_map,e,Td U];simp[z,F]
     exact B ((ZW (by simpa using N) n).mp e1).symm
    simp[Z]
theorem jy{kvs:List (Key×V)}{k:Key}{v:V}(h:cu (kvs.map (·.1)) k=none):putK kvs k v=kvs++[(k,v)]:=by
 unfold putK;rw[TQ];intro z;obtain⟨p,N,e⟩:=XM.mp z;have:=Ut.mp h p.1 (Tp.mpr ⟨p,N,rfl⟩);simp at this e;exact this e
theorem yq{ks:List Key}{k:Key}(h:cu ks k=none):k∉ks:=λz=>by
 have:=Ut.mp h k z;simp at this
theorem Cz{G:Gc}:MuV G (λo xs H Q=>∃i v,xs=[i,v]/\LK o i v H λH'=>Q .non H') cC:=λd es d' res h v xs H W M N r re nd hM O c1 c2 Q q=>by
 unfold cC at h;split at h
 .rename_i ds k e
  cases V:ixN ds.length k with
  |none=>simp[V]at h
  |some j=>
   obtain⟨rfl,rfl⟩:D.lst .own (ds.set j e)=d'/\D.non=res:=by simpa[V]using h
   rw[Rep]at r;obtain⟨a,ys,M0,rfl,Z,Y,rfl⟩:=r;obtain⟨x1,zs,N1,N2,rfl,rfl,a2,hz⟩:=re.inv;obtain⟨x,zs,N3,N4,rfl,rfl,F,hz⟩:=hz.inv;obtain⟨rfl,rfl⟩:=hz.inv0;rw[Rep]at a2;obtain⟨rfl,rfl⟩:=a2;rw[T3,List.nil_append]at nd re;obtain⟨k1,k2⟩:=ir O;have a1:=Tu.mp nd;have hn:=T5.mp a1.1;have a3:a∉N3:=λz=>a1.2.2 a (by simp) a z rfl;simp only[au,az,TY]at c1 c2;have a7:=M7 V;obtain⟨A,M1,B,a8,a5⟩:=Z.set (Td a7) F;have a0:Vs (A++B) M0:=by rw[a8];exact(Ww A).append (UV M1 B)
   refine⟨_,_,rfl,.inl ⟨a,ys,k,j,rfl,rfl,Y,by rw[←Z.length];exact V,q .non _ (a::(A++(N3++B))) [] (λb u U n=>by rw[aH (show b≠a from λz=>n (by rw[z];simp))];exact U) (λW' ev=>⟨?_,jd⟩) ?_ (λb U=>?_) (lw (jJ k1 c1.2.1) (jA k2 c2.2.1)) rfl⟩⟩
   .rw[Rep]
    refine⟨a,_,A++(N3++B),rfl,?_,aM,rfl⟩;refine a5.mono ev (.inl (jJ k1 c1.2.1)) (.inl (jA k2 c2.2.1)) λc O u hu=>?_;rw[aH (show c≠a from λz=>?_)]
    .exact hu
    .subst z
     simp only[S9]at O;rcases O with y|y|y
     .exact hn.1 (a0.subset (by simp[y]))
     .exact a3 y
     .exact hn.1 (a0.subset (by simp[y]))
   .rw[T3]
    have n2:=a0.nodup hn.2;have n3:=Tu.mp n2;have a4:∀z∈N3,z∉A++B:=λz h1 h2=>a1.2.2 z (T7 _ (a0.subset h2)) z h1 rfl;refine T5.mpr ⟨λy=>?_,cA n3.1 (cA a1.2.1 n3.2.1 λz h1 h2=>a4 z h1 (by simp[h2])) λz h1 h2=>?_⟩
    .simp only[S9]at y
     rcases y with y|y|y
     .exact hn.1 (a0.subset (by simp[y]))
     .exact a3 y
     .exact hn.1 (a0.subset (by simp[y]))
    .rcases S9.mp h2 with y|y
     .exact a4 z y (by simp[h1])
     .exact n3.2.2 z h1 z y rfl
   .rw[T3]at U
    rcases Tf.mp U with z|z
    .exact .inl (by simp[z])
    .simp only[S9]at z
     rcases z with z|z|z
     .exact .inl (T7 _ (a0.subset (by simp[z])))
     .exact .inr (.inl (by simp[z]))
     .exact .inl (T7 _ (a0.subset (by simp[z])))
 .rename_i ks ds k0 e
  cases I:cg k0 with
  |none=>simp[I]at h
  |some k=>
   rw[I]at h;simp only[S8]at h;split at h
   .rename_i hl
    cases h;rw[Rep]at r;obtain⟨a,kvs,M0,rfl,⟨rfl,a6⟩,Z,Y,rfl⟩:=r;obtain⟨x1,zs,N1,N2,rfl,rfl,a2,hz⟩:=re.inv;obtain⟨x,zs,N3,N4,rfl,rfl,F,hz⟩:=hz.inv;obtain⟨rfl,rfl⟩:=hz.inv0;have a9:=gH a2 I;subst a9;have b0:N1=[]:=by
     cases k0<;>simp[cg]at I<;>rw[Rep]at a2<;>exact a2.2
    subst b0;rw[T3,List.nil_append]at nd re;have k1:au ds=true/\az ds=true:=by simp[clean,aB,aA]at O;exact O
    have a1:=Tu.mp nd;have hn:=T5.mp a1.1;have a3:a∉N3:=λz=>a1.2.2 a (by simp) a z rfl;simp only[au,az,TY]at c1 c2;have b1:kvs.length<Te:=tX (by simpa using hl);refine⟨_,_,rfl,.inr ⟨a,_,rfl,Gp.k (k:=k) Y b1,?_⟩⟩;cases V:cu (kvs.map (·.1)) k with
    |some j=>
     have a7:j<ds.length:=by rw[Z.length];simpa using v_ V
     obtain⟨A,M1,B,a8,a5⟩:=Z.set (Td a7) F;obtain⟨p1,p2⟩:=yj (v:=x) V a6;have a0:Vs (A++B) M0:=by rw[a8];exact(Ww A).append (UV M1 B)
     refine q .non _ (a::(A++(N3++B))) [] (λb u U n=>by rw[aH (show b≠a from λz=>n (by rw[z];simp))];exact U) (λW' ev=>⟨?_,jd⟩) ?_ (λb U=>?_) ?_ rfl
     .simp only[gf,V]
      rw[Rep];refine⟨a,_,A++(N3++B),rfl,⟨p1,a6⟩,?_,aM,rfl⟩;rw[p2];refine a5.mono ev (.inl (jJ k1.1 c1.2.1)) (.inl (jA k1.2 c2.2.1)) λc O u hu=>?_;rw[aH (show c≠a from λz=>?_)]
      .exact hu
      .subst z
       simp only[S9]at O;rcases O with y|y|y
       .exact hn.1 (a0.subset (by simp[y]))
       .exact a3 y
       .exact hn.1 (a0.subset (by simp[y]))
     .rw[T3]
      have n2:=a0.nodup hn.2;have n3:=Tu.mp n2;have a4:∀z∈N3,z∉A++B:=λz h1 h2=>a1.2.2 z (T7 _ (a0.subset h2)) z h1 rfl;refine T5.mpr ⟨λy=>?_,cA n3.1 (cA a1.2.1 n3.2.1 λz h1 h2=>a4 z h1 (by simp[h2])) λz h1 h2=>?_⟩
      .simp only[S9]at y
       rcases y with y|y|y
       .exact hn.1 (a0.subset (by simp[y]))
       .exact a3 y
       .exact hn.1 (a0.subset (by simp[y]))
      .rcases S9.mp h2 with y|y
       .exact a4 z y (by simp[h1])
       .exact n3.2.2 z h1 z y rfl
     .rw[T3]at U
      rcases Tf.mp U with z|z
      .exact .inl (by simp[z])
      .simp only[S9]at z
       rcases z with z|z|z
       .exact .inl (T7 _ (a0.subset (by simp[z])))
       .exact .inr (.inl (by simp[z]))
       .exact .inl (T7 _ (a0.subset (by simp[z])))
     .simp[gf,V,clean,aB,aA,jJ k1.1 c1.2.1,jA k1.2 c2.2.1]
    |none=>
     rw[jy V];refine q .non _ (a::(M0++N3)) [] (λb u U n=>by rw[aH (show b≠a from λz=>n (by rw[z];simp))];exact U) (λW' ev=>⟨?_,jd⟩) ?_ (λb U=>?_) ?_ rfl
     .simp only[gf,V]
      rw[Rep];refine⟨a,_,M0++N3,rfl,⟨by simp,?_⟩,?_,aM,rfl⟩
      .exact Tu.mpr ⟨a6,by simp,λy hy z hz=>by
        have:z=k:=by simpa using hz
        subst this;exact λe=>yq V (e▸hy)⟩
      .rw[Uy]
       refine(Z.mono ev (.inl k1.1) (.inl k1.2) λc O u hu=>?_).append (.one (F.mono ev (.inl c1.2.1) (.inl c2.2.1) λc O u hu=>?_))
       .rw[aH (show c≠a from λz=>hn.1 (z▸O))];exact hu
       .rw[aH (show c≠a from λz=>a3 (z▸O))];exact hu
     .rw[T3];exact nd
     .rw[T3]at U
      rcases Tf.mp U with z|z
      .exact .inl (by simp[z])
      .rcases S9.mp z with z|z
       .exact .inl (by simp[z])
       .exact .inr (.inl (by simp[z]))
     .simp[gf,V,clean,aB,aA,gA,gn,au,az,k1,c1,c2]
   .cases h
 .cases h
theorem lz(F:∀c,(X c).A.units+1<cLine):MuT X G cC:=⟨_,λc=>Ks (F c),Cz⟩
end
noncomputable abbrev InX(X:ι->Cx)(N':List Str)(scope:Scope):ι×(Addr×S6×Hp×List Addr)->Cx:=λp=>bh (X p.1) N' scope p.2.1 p.2.2.1 p.2.2.2.1 p.2.2.2.2
def gU(cap:List (Option Nat))(ρ:En):En:=cap.map λo=>o.bind λj=>(ρ[j]?).bind id
def obC(cap:List (Option Nat))(ob:Nat->Bool):Nat->Bool:=λi=>match cap[i]? with
 |some (some j)=>ob j
 |_=>false
variable{x:α}{l:List (Option α)}
theorem oA{α:Type}{cap:List (Option Nat)}{l:List (Option α)}{x:α}(h:(cap.map λo=>o.bind λj=>(l[j]?).bind id)[i]? =some (some x)):∃j,cap[i]? =some (some j)/\l[j]? =some (some x):=by
 rw[List.getElem?_map]at h;cases e:cap[i]? with
 |none=>rw[e]at h;cases h
 |some o=>
  rw[e]at h;cases o with
  |none=>simp at h
  |some j=>
   refine⟨j,rfl,?_⟩;have h:(l[j]?).bind id=some x:=by simpa using h
   cases e2:l[j]? with
   |none=>rw[e2]at h;cases h
   |some o=>rw[e2]at h;simpa using h
theorem wL{α:Type}{cap:List (Option Nat)}{l:List (Option α)}{x:α}(h:cap[i]? =some (some j))(h2:l[j]? =some (some x)):(cap.map λo=>o.bind λj=>(l[j]?).bind id)[i]? =some (some x):=by
 rw[List.getElem?_map,h];simp[h2]
theorem Rel.cap{cap:List (Option Nat)}(r:Rel G H W ob ρ σ):Rel G H W (obC cap ob) (gU cap ρ) (dM cap σ):=λi d e=>by
 obtain⟨j,h1,h2⟩:=oA e;obtain⟨v,L,q1,q2,q⟩:=r j d h2;refine⟨v,L,wL h1 q1,q2,λz=>q ?_⟩;unfold obC at z;rw[h1]at z;exact z
def JR(G:Gc)(ob own:Nat->Bool)(g:TG)(f:D->En->Option En):Prop:=∀(d:D)(ρ I:En),f d ρ=some I->∀(x:V)(σ:L2.St)(H:Hp)(W:Wn),Rep G H W d x []->Rel G H W ob ρ σ->σ.length=ρ.length->∀Q:L2.St->Hp->Prop,
 (∀F,Rel G H W ob I F->F.length=I.length->(∀j,own j=false->F[j]? =σ[j]?)->Q F H)->g x σ H Q
structure O_{ι:Type}(X:ι->Cx)(G:Gc)(ob own:Nat->Bool)(tg:Expr)(f:D->En->Option En):Prop where
 mk::(ex:∃t,(∀c,PG (X c) tg t)/\JR G ob own t f)
def tpN(i:Nat):D->En->Option En:=λd ρ=>some (ρ.set i (some d))
def tpT(n:Nat)(g:List D->En->Option En):D->En->Option En:=λd ρ=>match d with
 |.tup ds=>if ds.length=n then g ds ρ else none
 |_=>none
theorem DQ{own:Nat->Bool}(B:own i=true):JR G ob own (tH i) (tpN i):=λd ρ I e x σ H W r F Y Q q=>by
 cases e;refine q _ (λj d' V=>?_) (by simp[Y]) λj V=>?_
 .by_cases e:i=j
  .subst e
   rw[W5]at V;split at V
   .split at V
    .rename_i h2
     have:d=d':=by simpa using V
     subst this;exact⟨x,[],by simp[Y,h2],r,λ_ c O=>by cases O⟩
    .cases V
   .exact absurd rfl ‹_›
  .rw[List.getElem?_set_ne e]at V
   obtain⟨v,L,h1,h2,N⟩:=F j d' V;exact⟨v,L,by rw[List.getElem?_set_ne e];exact h1,h2,N⟩
 .have:i≠j:=λz=>by rw[←z,B]at V;cases V
  rw[List.getElem?_set_ne this]
section
variable{ι:Type}{X:ι->Cx}{G:Gc}{ob own:Nat->Bool}
theorem o6(i:Nat){x:Str}{pos:Pos}(z:∀c,(X c).N.Nodup)(B:own i=true:=by rfl)(hi:∀c,(X c).N[i]? =some x:=by intro _;rfl)(F:∀c,Loc (X c).env.scope x:=by intro _;first|exact Vr rfl|exact U8 rfl)(Z:∀c,(X c).fn x=true∨(X c).env.scope.names.lookup x=some .local:=by intro _;first|exact .inl rfl|exact .inr rfl):O_ X G ob own (.Name x pos) (tpN i):=⟨_,λc=>vL (z c) (hi c) (F c) (Z c),DQ B⟩
structure Lz{ι:Type}(X:ι->Cx)(G:Gc)(ob:Nat->Bool)(ifs:List Expr)(f:En->Option Bool):Prop where
 mk::(ex:∃t,(∀c,PTs (X c) ifs t)/\RfT G ob t f)
def eTT:En->Option Bool:=λ_=>some true
theorem m9:Lz X G ob [] eTT:=⟨_,λc=>JQ,λρ b e σ H W F w Q q=>by cases e;exact q H (Same.refl H)⟩
def lg(tg:D->En->Option En)(c:En->Option Bool)(e:En->Option D)(ρ0:En):List D->Option (List D)
 |[]=>some []
 |d::r=>(tg d ρ0).bind λρ1=>(c ρ1).bind λb=>if b=true then(e ρ1).bind λx=>(lg tg c e ρ0 r).map λt=>x::t else lg tg c e ρ0 r
def rF(cap:List (Option Nat))(it:En->Option (Bool×List D))(tg:D->En->Option En)(c:En->Option Bool)(e:En->Option D):En->Option D:=λρ=>(it ρ).bind λp=>if p.2.length<=1000000 then(lg tg c e (gU cap ρ) p.2).map λys=>.lst .own ys else none
theorem six{n:Nat}(h:n<=1000000):n<Te:=Nat.lt_of_le_of_lt h (by decide)
theorem zK{cap:List (Option Nat)}{σ F:L2.St}(O:∀i:Nat,own i=true->cap[i]?≠none->cap[i]? =some none)(h:∀j,own j=false->F[j]? =(dM cap σ)[j]?):Kp (dM cap σ) F:=λi v e=>by
 cases B:own i with
 |false=>rw[h i B];exact e
 |true=>
  obtain⟨j,h1,_⟩:=oA e;rw[O i B (by rw[h1];simp)]at h1;cases h1
theorem Lw{cap:List (Option Nat)}{wi:TI}{g:TG}{tt:TT}{te:TE}{it:En->Option (Bool×List D)}{tg:D->En->Option En}{c:En->Option Bool}{e:En->Option D}(a7:∀i:Nat,own i=true->cap[i]?≠none->cap[i]? =some none)(hi:RfI G ob wi it)(hg:JR G (obC cap ob) own g tg)(ht:RfT G (obC cap ob) tt c)(V:RfE G (obC cap ob) te e):RfE G ob (Hk cap wi g tt te) (rF cap it tg c e):=λρ d ee σ H W rl w Q q=>by
 unfold rF at ee;cases h1:it ρ with
 |none=>simp[h1]at ee
 |some p=>
  obtain⟨b,items⟩:=p;rw[h1]at ee;simp only[S8]at ee;split at ee
  .rename_i hlen
   cases h2:lg tg c e (gU cap ρ) items with
   |none=>simp[h2]at ee
   |some tot=>
    obtain rfl:D.lst .own tot=d:=by simpa[h2]using ee
    refine hi ρ b items h1 σ H W rl w _ λJ H1 Z wk=>?_;refine⟨λi m ys H2=>i+m=items.length/\ys.length<=i/\∃acc L rest,Same H1 H2/\aC G H2 (W.add L) acc ys L/\(∀a∈L,H1 a=none)/\L.Nodup/\WOk H2 (W.add L)/\lg tg c e (gU cap ρ) (items.drop i)=some rest/\acc++rest=tot,⟨items.length,by omega,by simp,[],[],tot,Same.refl _,.nil,by simp,List.nodup_nil,?_,h2,rfl⟩,?_⟩
    .rw[pU];exact w.up Z
    rintro i m ys H2 ⟨b3,b4,acc,L,rest,s2,ra,fa,na,wa,F,a0⟩;have a2:Up H1 H2 W (W.add L):=Up.add s2 fa
    .by_cases hil:i<items.length
     .have hdr:=(VG hil).symm
      rw[hdr,lg]at F;refine .inr ⟨wk.go i items[i] (by simp[hil]) H2 _ (LtB.up a2),by have:=six hlen;omega,λa4 H'=>(i+1)+(m-1)=items.length/\a4.length<=i+1/\∃acc L rest,Same H1 H'/\aC G H' (W.add L) acc a4 L/\(∀a∈L,H1 a=none)/\L.Nodup/\WOk H' (W.add L)/\lg tg c e (gU cap ρ) (items.drop (i+1))=some rest/\acc++rest=tot,λa4 H' h=>⟨m-1,by omega,h⟩,λx H3 hy=>?_⟩;obtain⟨s3,rx⟩:=wk.yld i items[i] (by simp[hil]) H2 _ (LtB.up a2) x H3 hy;cases O:tg items[i] (gU cap ρ)with
      |none=>simp[O]at F
      |some ρ1=>
       rw[O]at F;simp only[S8]at F;have a9:Rel G H3 (W.add L) (obC cap ob) (gU cap ρ) (dM cap σ):=(rl.cap).up ((Up.same Z).trans (a2.trans (Up.same s3)));have a3:=ra.up (Up.same s3 (W:=W.add L));have a8:WOk H3 (W.add L):=wa.up s3;refine hg items[i] _ ρ1 O x _ H3 (W.add L) rx a9 (by simp[gU,dM]) _ λσ2 a6 b2 k4=>⟨zK a7 k4,?_⟩;cases h4:c ρ1 with
       |none=>simp[h4]at F
       |some bb=>
        rw[h4]at F;simp only[S8]at F;refine ht ρ1 bb h4 σ2 H3 (W.add L) a6 a8 _ λH4 s4=>?_;have b0:=a6.up (Up.same s4);have a5:=a8.up s4;cases bb with
        |false=>
         simp only[Uo,VM]at F;exact vR ⟨by omega,by omega,acc,L,rest,((s2.trans s3).trans s4),a3.up (Up.same s4),fa,na,a5,F,a0⟩
        |true=>
         simp only[Ud]at F;cases h5:e ρ1 with
         |none=>simp[h5]at F
         |some y=>
          cases h6:lg tg c e (gU cap ρ) (items.drop (i+1))with
          |none=>simp[h5,h6]at F
          |some a1=>
           obtain rfl:y::a1=rest:=by simpa[h5,h6]using F
           refine qy (V ρ1 y h5 σ2 H4 (W.add L) b0 a5 _ λv H5 M s5 ry fy ny=>?_);have fM:∀a∈M,H1 a=none:=λa Y=>(((s2.trans s3).trans s4)).none' (fy a Y);have b1:∀a∈L,a∉M:=λa h1 h2=>by
            obtain⟨o,B,_⟩:=(a3.up (Up.same s4 (W:=W.add L))).dom a h1;rw[fy a h2]at B;cases B
           have u5:Up H4 H5 (W.add L) (W.add (L++M)):=⟨s5,λb u U f=>⟨λz=>z.elim (λz=>(S9.mp z).elim (λz=>f.1 (.inl z)) λz=>by rw[fy b z]at U;cases U) λz=>f.1 (.inr z),f.2⟩,λ_ _ _ f=>f⟩;have u6:Up H5 H5 ((W.add L).add M) (W.add (L++M)):=⟨Same.refl _,λb u U f=>⟨λz=>by
            rcases z with z|z
            .exact(S9.mp z).elim (λz=>f.1 (.inr (.inl z))) λz=>f.1 (.inl z)
            .exact f.1 (.inr (.inr z)),f.2⟩,λ_ _ _ f=>f⟩
           refine⟨by omega,by simp;omega,acc++[y],L++M,a1,((s2.trans s3).trans s4).trans s5,((a3.up (Up.same s4)).up u5).append (.one (ry.up u6)),λa Y=>(S9.mp Y).elim (fa a) (fM a),cA na ny b1,?_,rfl,by rw[←a0];simp⟩;exact w.add (((Z.trans s2).trans s3).trans s4 |>.trans s5) λa Y=>(S9.mp Y).elim (λz=>let⟨o,h,m⟩:=(a3.up (Up.same s4 (W:=W.add L))).dom a z;⟨o,s5 a o h,m⟩) (ry.dom a)
     .have hl:i=items.length:=by omega
      subst hl;rw[Wb,lg]at F;cases F;refine .inl ⟨wk.stop H2 _ (LtB.up a2),Wh (six (by omega)),λp N=>?_⟩;have I:Same H2 (upd H2 p (.lst ys)):=Same.new N;rw[T3]at a0;subst a0;refine q (.ref p) _ (p::L) ((Z.trans s2).trans I) ?_ (λa Y=>(Tf.mp Y).elim (λz=>by rw[z];exact(Z.trans s2).none' N) λz=>Z.none' (fa a z)) (T5.mpr ⟨λz=>?_,na⟩)
      .rw[Rep]
       exact⟨p,ys,L,rfl,ra.up ⟨I,λb u U f=>⟨λz=>z.elim (λz=>(Tf.mp z).elim (λz=>by rw[z,N]at U;cases U) λz=>f.1 (.inl z)) λz=>f.1 (.inr z),f.2⟩,λ_ _ _ f=>f⟩,aM,rfl⟩
      .obtain⟨o,B,_⟩:=ra.dom p z
       rw[N]at B;cases B
  .cases ee
end
def mO(cap:List (Option Nat)):Prop:=∀(i k j:Nat),cap[i]? =some (some j)->cap[k]? =some (some j)->i=k
def jO(cap:List (Option Nat))(S:Ad):Ad:=λi=>match cap[i]? with
 |some (some j)=>S j
 |_=>[]
def pq(cap:List (Option Nat))(S:Ad)(Fr:Addr->Prop):Addr->Prop:=λa=>Fr a∨∃j:Nat,(∀i:Nat,cap[i]?≠some (some j))/\a∈S j
theorem gO{cap:List (Option Nat)}(h:a∈jO cap S i):∃j,cap[i]? =some (some j)/\a∈S j:=by
 unfold jO at h;split at h
 .rename_i j e;exact⟨j,e,h⟩
 .cases h
theorem vA{cap:List (Option Nat)}(h:cap[i]? =some (some j)):jO cap S i=S j:=by unfold jO;rw[h]
theorem Ak{cap:List (Option Nat)}(h:cap[i]? =some (some j)):obC cap ob i=ob j:=by unfold obC;rw[h]
section
variable{G:Gc}{ob own:Nat->Bool}{cap:List (Option Nat)}
theorem v9{S:Ad}{Fr:Addr->Prop}{a:Addr}:(wn ob S Fr).free a↔(wn (obC cap ob) (jO cap S) (pq cap S Fr)).free a:=by
 constructor
 .intro f
  have q:∀j,a∉S j:=λj z=>by
   cases B:ob j with
   |false=>exact f.2.1 ⟨j,B,z⟩
   |true=>exact f.2.2 ⟨j,B,z⟩
  refine⟨λz=>z.elim f.1 λ⟨j,_,z⟩=>q j z,λ⟨i,_,z⟩=>?_,λ⟨i,_,z⟩=>?_⟩
  .obtain⟨j,_,z⟩:=gO z;exact q j z
  .obtain⟨j,_,z⟩:=gO z;exact q j z
 .intro f
  have q:∀j,a∉S j:=λj z=>by
   by_cases O:∃i:Nat,cap[i]? =some (some j)
   .obtain⟨i,hi⟩:=O
    have F:a∈jO cap S i:=by rw[vA hi];exact z
    cases B:obC cap ob i with
    |false=>exact f.2.1 ⟨i,B,F⟩
    |true=>exact f.2.2 ⟨i,B,F⟩
   .exact f.1 (.inr ⟨j,λi hi=>O ⟨i,hi⟩,z⟩)
  exact⟨λz=>f.1 (.inl z),λ⟨j,_,z⟩=>q j z,λ⟨j,_,z⟩=>q j z⟩
theorem Nr{H:Hp}{S:Ad}{Fr:Addr->Prop}{d:D}{v:V}{L:List Addr}(O:clean d=true):Rep G H (wn ob S Fr) d v L↔Rep G H (wn (obC cap ob) (jO cap S) (pq cap S Fr)) d v L:=by
 have Z:=(by simpa[clean]using O:aB d=true/\aA d=true);constructor
 .intro r
  have I:Evo H H (wn ob S Fr) (wn (obC cap ob) (jO cap S) (pq cap S Fr)):=⟨λb u U f=>⟨U,v9.mp f⟩,λ_ _ h=>h⟩;exact r.mono I (.inl Z.1) (.inl Z.2) λ_ _ _ h=>h
 .intro r
  have I:Evo H H (wn (obC cap ob) (jO cap S) (pq cap S Fr)) (wn ob S Fr):=⟨λb u U f=>⟨U,v9.mpr f⟩,λ_ _ h=>h⟩;exact r.mono I (.inl Z.1) (.inl Z.2) λ_ _ _ h=>h
theorem Sta.inn{H:Hp}{ρ:En}{σ:L2.St}{S:Ad}{Fr:Addr->Prop}(V:mO cap)(s:Sta G H ob ρ σ S Fr):Sta G H (obC cap ob) (gU cap ρ) (dM cap σ) (jO cap S) (pq cap S Fr)where
 len:=by simp[gU,dM]
 sl:=λi d e=>by
  obtain⟨j,h1,h2⟩:=oA e;obtain⟨v,q1,q2,q⟩:=s.sl j d h2;exact⟨v,wL h1 q1,by rw[vA h1];exact(Nr q).mp q2,q⟩
 em:=λi h=>by
  unfold jO;split
  .rename_i j e
   exact s.em j λd hd=>h d (wL e hd)
  .rfl
 nd:=λi=>by
  unfold jO;split
  .exact s.nd _
  .exact List.nodup_nil
 dj:=λi k a h1 h2=>by
  obtain⟨N,e1,O⟩:=gO h1;obtain⟨F,e2,B⟩:=gO h2;have:=s.dj N F a O B;subst this;exact V i k N e1 e2
 fdj:=λi a h z=>by
  obtain⟨j,e,z⟩:=gO z;rcases h with h|⟨k,I,h⟩
  .exact s.fdj j a h z
  .have:=s.dj j k a z h
   subst this;exact I i e
 fdm:=λa h=>by
  rcases h with h|⟨k,_,h⟩
  .exact s.fdm a h
  .exact s.mu h
def gh:List (Option Nat)->En->En->En
 |some j::cs,d::ds,ρ=>gh cs ds (ρ.set j d)
 |none::cs,_::ds,ρ=>gh cs ds ρ
 |_,_,ρ=>ρ
theorem lB:∀(cap:List (Option Nat))(ds ρ:En),(gh cap ds ρ).length=ρ.length
 |[],ds,ρ=>by cases ds<;>rfl
 |some j::cs,[],ρ=>rfl
 |none::cs,[],ρ=>rfl
 |some j::cs,d::ds,ρ=>by rw[gh,lB cs ds];simp
 |none::cs,d::ds,ρ=>by rw[gh,lB cs ds]
theorem km:∀{cap:List (Option Nat)}{ds ρ:En}{j:Nat},(∀i:Nat,cap[i]?≠some (some j))->(gh cap ds ρ)[j]? =ρ[j]?
 |[],ds,ρ,j,_=>by cases ds<;>rfl
 |some k::cs,[],ρ,j,_=>rfl
 |none::cs,[],ρ,j,_=>rfl
 |some k::cs,d::ds,ρ,j,h=>by
  rw[gh,km λi e=>h (i+1) (by simpa using e),List.getElem?_set_ne λz=>h 0 (by simp[z])]
 |none::cs,d::ds,ρ,j,h=>by rw[gh,km λi e=>h (i+1) (by simpa using e)]
theorem nU:∀{cap:List (Option Nat)}{ds ρ:En}{i j:Nat}{x:Option D},mO cap->cap[i]? =some (some j)->ds[i]? =some x->j<ρ.length->(gh cap ds ρ)[j]? =some x
 |[],ds,ρ,i,j,x,_,h,_,_=>by simp at h
 |some k::cs,[],ρ,i,j,x,_,_,h,_=>by simp at h
 |none::cs,[],ρ,i,j,x,_,_,h,_=>by simp at h
 |some k::cs,d::ds,ρ,i,j,x,hj,h1,h2,hl=>by
  rw[gh];cases i with
  |zero=>
   have e1:k=j:=by simpa using h1
   have e2:d=x:=by simpa using h2
   subst e1 e2;rw[km λi e=>?_]
   .simp[hl]
   .have:=hj 0 (i+1) k (by simp) (by simpa using e)
    omega
  |succ i=>exact nU (λa b c h1 h2=>by have:=hj (a+1) (b+1) c (by simpa using h1) (by simpa using h2);omega) (by simpa using h1) (by simpa using h2) (by simpa using hl)
 |none::cs,d::ds,ρ,i,j,x,hj,h1,h2,hl=>by
  rw[gh];cases i with
  |zero=>simp at h1
  |succ i=>exact nU (λa b c h1 h2=>by have:=hj (a+1) (b+1) c (by simpa using h1) (by simpa using h2);omega) (by simpa using h1) (by simpa using h2) hl
def qC(cap:List (Option Nat))(q S:Ad):Ad:=λj=>match cap.findIdx? (λo=>o==some j)with
 |some i=>q i
 |none=>S j
theorem fV{q S:Ad}{i j:Nat}(V:mO cap)(h:cap[i]? =some (some j)):qC cap q S j=q i:=by
 unfold qC;split
 .rename_i k e
  obtain⟨h1,h2,_⟩:=Uz.mp e;have:cap[k]=some j:=by simpa using h2
  rw[V i k j h (by rw[Td h1,this])]
 .rename_i e
  have:=Ut.mp e (some j) (T9 h);simp at this
theorem fQ{q S:Ad}{j:Nat}(h:∀i:Nat,cap[i]?≠some (some j)):qC cap q S j=S j:=by
 unfold qC;split
 .rename_i k e
  obtain⟨h1,h2,_⟩:=Uz.mp e;have:cap[k]=some j:=by simpa using h2
  exact absurd (by rw[Td h1,this]) (h k)
 .rfl
theorem dY(cap:List (Option Nat))(j:Nat):(∃i:Nat,cap[i]? =some (some j))∨(∀i:Nat,cap[i]?≠some (some j)):=by
 by_cases h:∃i:Nat,cap[i]? =some (some j)
 .exact .inl h
 .exact .inr λi z=>h ⟨i,z⟩
theorem Sta.out{H H':Hp}{ρ a3:En}{σ a7:L2.St}{S Si:Ad}{Fr:Addr->Prop}{M:List Addr}(V:mO cap)(s:Sta G H ob ρ σ S Fr)(B:∀i:Nat,cap[i]? =some none->True)(I:∀i j:Nat,cap[i]? =some (some j)->a7[i]? =(dM cap σ)[i]?)
  (si:Sta G H' (obC cap ob) a3 a7 Si (plus M (pq cap S Fr))) (ef:Eff (obC cap ob) H H' (jO cap S) Si M):Sta G H' ob (gh cap a3 ρ) σ (qC cap Si S) (plus M Fr)/\Eff ob H H' S (qC cap Si S) M/\
   (∀d v L,clean d=true->Rep G H' (wn (obC cap ob) Si (plus M (pq cap S Fr))) d v L->Rep G H' (wn ob (qC cap Si S) (plus M Fr)) d v L):=by
 have a0:∀{a},inO (obC cap ob) (jO cap S) a->inO ob S a:=λ{a}⟨i,h1,h2⟩=>by
  obtain⟨j,e,z⟩:=gO h2;exact⟨j,by rw[←Ak (ob:=ob) e];exact h1,z⟩
 have b0:Eff ob H H' S (qC cap Si S) M:=by
  refine⟨λb u U n=>ef.kp b u U λz=>n (a0 z),λj a4=>?_,λj a a4 z=>?_,λa Y=>(ef.fm a Y).imp a0 id⟩
  .rcases dY cap j with⟨i,hi⟩|hn
   .rw[fV V hi,ef.sn i (by rw[Ak hi];exact a4),vA hi]
   .exact fQ hn
  .rcases dY cap j with⟨i,hi⟩|hn
   .rw[fV V hi]at z
    exact(ef.gr i a (by rw[Ak hi];exact a4) z).imp a0 id
   .rw[fQ hn]at z;exact .inl ⟨j,a4,z⟩
 have a6:∀a,(wn (obC cap ob) Si (plus M (pq cap S Fr))).free a->(wn ob (qC cap Si S) (plus M Fr)).free a:=λa f=>by
  have nS:∀j,a∉qC cap Si S j:=λj z=>by
   rcases dY cap j with⟨i,hi⟩|hn
   .rw[fV V hi]at z
    cases a9:obC cap ob i with
    |false=>exact f.2.1 ⟨i,a9,z⟩
    |true=>exact f.2.2 ⟨i,a9,z⟩
   .rw[fQ hn]at z
    exact f.1 (.inr (.inr ⟨j,hn,z⟩))
  exact⟨λz=>z.elim (λz=>f.1 (.inl z)) λz=>f.1 (.inr (.inl z)),λ⟨j,_,z⟩=>nS j z,λ⟨j,_,z⟩=>nS j z⟩
 have conv:∀d v L,clean d=true->Rep G H' (wn (obC cap ob) Si (plus M (pq cap S Fr))) d v L->Rep G H' (wn ob (qC cap Si S) (plus M Fr)) d v L:=λd v L O r=>by
  have Z:=(by simpa[clean]using O:aB d=true/\aA d=true);have ev:Evo H' H' (wn (obC cap ob) Si (plus M (pq cap S Fr))) (wn ob (qC cap Si S) (plus M Fr)):=⟨λb u U f=>⟨U,a6 b f⟩,λ_ _ h=>h⟩;exact r.mono ev (.inl Z.1) (.inl Z.2) λ_ _ _ h=>h
 have a1:∀{j a},(∀i:Nat,cap[i]?≠some (some j))->a∈S j->∀i,a∉Si i:=λ{j a} hn z i y=>si.fdj i a (.inr (.inr ⟨j,hn,z⟩)) y;refine⟨⟨by rw[lB];exact s.len,λj d hd=>?_,λj hd=>?_,λj=>?_,λj k a h1 h2=>?_,λj a h z=>?_,λa h=>?_⟩,b0,conv⟩
 .rcases dY cap j with⟨i,hi⟩|hn
  .have N:j<ρ.length:=by
    have:=(List.getElem?_eq_some_iff.mp hd).1;rwa[lB]at this
   cases F:a3[i]? with
   |none=>
    have h1:a3.length<=i:=Wg.mp F;have h2:a7.length<=i:=by rw[←si.len];exact h1
    have h3:=I i j hi;rw[Wg.mpr h2]at h3;have h4:(dM cap σ).length<=i:=Wg.mp h3.symm;have h5:i<cap.length:=(List.getElem?_eq_some_iff.mp hi).1;simp[dM]at h4;omega
   |some x=>
    rw[nU V hi F N]at hd;cases hd;obtain⟨v,q1,q2,q⟩:=si.sl i d F;rw[I i j hi]at q1;obtain⟨j',e1,e2⟩:=oA q1;rw[hi]at e1;cases e1;exact⟨v,e2,by rw[fV V hi];exact conv _ _ _ q q2,q⟩
  .rw[km hn]at hd
   obtain⟨v,q1,q2,q⟩:=s.sl j d hd;refine⟨v,q1,?_,q⟩;rw[fQ hn];have Z:=(by simpa[clean]using q:aB d=true/\aA d=true);refine q2.mono (b0.evo s) (.inl Z.1) (.inl Z.2) λc O u hu=>?_;exact ef.kp c u hu λ⟨i,_,z⟩=>by
    obtain⟨k,e,z⟩:=gO z;have:=s.dj j k c O z;subst this;exact hn i e
 .rcases dY cap j with⟨i,hi⟩|hn
  .rw[fV V hi]
   refine si.em i λd a8=>?_;by_cases N:j<ρ.length
   .exact hd d (nU V hi a8 N)
   .
    obtain⟨v,q1,_⟩:=si.sl i d a8;rw[I i j hi]at q1;obtain⟨j',e1,e2⟩:=oA q1;rw[hi]at e1;cases e1;have:=(List.getElem?_eq_some_iff.mp e2).1;rw[←s.len]at this;exact N this
  .rw[fQ hn]
   exact s.em j λd=>by have:=hd d;rwa[km hn]at this
 .rcases dY cap j with⟨i,hi⟩|hn
  .rw[fV V hi];exact si.nd i
  .rw[fQ hn];exact s.nd j
 .rcases dY cap j with⟨i,hi⟩|hn<;>rcases dY cap k with⟨i',a2⟩|a5
  .rw[fV V hi]at h1
   rw[fV V a2]at h2;have:=si.dj i i' a h1 h2;subst this;rw[hi]at a2;cases a2;rfl
  .rw[fV V hi]at h1
   rw[fQ a5]at h2;exact absurd h1 (a1 a5 h2 i)
  .rw[fQ hn]at h1
   rw[fV V a2]at h2;exact absurd h2 (a1 hn h1 i')
  .rw[fQ hn]at h1
   rw[fQ a5]at h2;exact s.dj j k a h1 h2
 .rcases dY cap j with⟨i,hi⟩|hn
  .rw[fV V hi]at z
   exact si.fdj i a (h.imp id .inl) z
  .rw[fQ hn]at z
   rcases h with h|h
   .rcases ef.fm a h with y|y
    .obtain⟨k,_,y⟩:=a0 y
     have:=s.dj j k a z y;subst this;obtain⟨i,hi,y'⟩:∃i,obC cap ob i=true/\a∈jO cap S i:=by assumption
     obtain⟨k',e,y'⟩:=gO y';have:=s.dj j k' a z y';subst this;exact hn i e
    .obtain⟨o,B,_⟩:=s.mu z
     rw[y]at B;cases B
   .exact s.fdj j a h z
 .rcases h with h|h
  .exact si.fdm a (.inl h)
  .exact si.fdm a (.inr (.inl h))
end
section
variable{ι:Type}{X:ι->Cx}{G:Gc}{ob own:Nat->Bool}
def MT(G:Gc)(ob own:Nat->Bool)(g:TG)(f:D->En->Option En):Prop:=∀(d:D)(ρ I:En),f d ρ=some I->∀(x:V)(σ:L2.St)(H:Hp)(S:Ad)(Fr:Addr->Prop),Sta G H ob ρ σ S Fr->(∀i,own i=true->S i=[])->Rep G H (wn ob S Fr) d x []->∀Q:L2.St->Hp->Prop,
 (∀F,Sta G H ob I F S Fr->(∀j,own j=false->F[j]? =σ[j]?)->Q F H)->g x σ H Q
theorem Du{i:Nat}(B:own i=true):MT G ob own (tH i) (tgN i):=λd ρ I e x σ H S Fr s N r Q q=>by
 unfold tgN at e;split at e
 .rename_i hc
  cases e;refine q _ ⟨by simp[s.len],λj d' V=>?_,λj V=>?_,s.nd,s.dj,s.fdj,s.fdm⟩ λj V=>?_
  .by_cases ej:i=j
   .subst ej
    rw[W5]at V;split at V
    .split at V
     .rename_i h2
      have:d=d':=by simpa using V
      subst this;exact⟨x,by simp[←s.len,h2],by rw[N i B];exact r,hc⟩
     .cases V
    .exact absurd rfl ‹_›
   .rw[List.getElem?_set_ne ej]at V
    obtain⟨v,h1,h2,O⟩:=s.sl j d' V;exact⟨v,by rw[List.getElem?_set_ne ej];exact h1,h2,O⟩
  .by_cases ej:i=j
   .subst ej;exact N i B
   .exact s.em j λd'=>by have:=V d';rwa[List.getElem?_set_ne ej]at this
  .have:i≠j:=λz=>by rw[←z,B]at V;cases V
   rw[List.getElem?_set_ne this]
 .cases e
structure Rz{ι:Type}(X:ι->Cx)(G:Gc)(ob own:Nat->Bool)(tg:Expr)(f:D->En->Option En):Prop where
 mk::(ex:∃t,(∀c,PG (X c) tg t)/\MT G ob own t f)
theorem Eg(i:Nat){x:Str}{pos:Pos}(z:∀c,(X c).N.Nodup)(B:own i=true:=by rfl)(hi:∀c,(X c).N[i]? =some x:=by intro _;rfl)(F:∀c,Loc (X c).env.scope x:=by intro _;first|exact Vr rfl|exact U8 rfl)(Z:∀c,(X c).fn x=true∨(X c).env.scope.names.lookup x=some .local:=by intro _;first|exact .inl rfl|exact .inr rfl):Rz X G ob own (.Name x pos) (tgN i):=⟨_,λc=>vL (z c) (hi c) (F c) (Z c),Du B⟩
def je(cap:List (Option Nat))(tg:D->En->Option En)(c:En->Option Bool)(e:En->Option (D×En)):List D->En->Option (List D×En)
 |[],ρ=>some ([],ρ)
 |d::r,ρ=>(tg d (gU cap ρ)).bind λρ1=>(c ρ1).bind λb=>if b=true then(e ρ1).bind λp=>if clean p.1=true then(je cap tg c e r (gh cap p.2 ρ)).map λt=>(p.1::t.1,t.2)else none else je cap tg c e r ρ
def tM(cap:List (Option Nat))(it:En->Option (Bool×List D))(tg:D->En->Option En)(c:En->Option Bool)(e:En->Option (D×En)):En->Option (D×En):=λρ=>(it ρ).bind λp=>if p.1=true/\p.2.length<=1000000 then(je cap tg c e p.2 ρ).map λt=>(.lst .own t.1,t.2)else none
theorem Fx{cap:List (Option Nat)}{wi:TI}{g:TG}{tt:TT}{te:TE}{it:En->Option (Bool×List D)}{tg:D->En->Option En}{c:En->Option Bool}{e:En->Option (D×En)}(V:mO cap)(a6:∀i:Nat,own i=true->cap[i]?≠none->cap[i]? =some none)(hi:RfI G ob wi it)(hg:MT G (obC cap ob) own g tg)(ht:RfT G (obC cap ob) tt c)(he:j4 G (obC cap ob) te e) :
  j4 G ob (Hk cap wi g tt te) (tM cap it tg c e):=λρ d c8 ee σ H S Fr s Q q=>by
 unfold tM at ee;cases h1:it ρ with
 |none=>simp[h1]at ee
 |some p=>
  obtain⟨b,items⟩:=p;rw[h1]at ee;simp only[S8]at ee;split at ee
  .rename_i a2
   obtain⟨U,a2⟩:=a2;change b=true at U;change items.length<=1000000 at a2;subst U;cases h2:je cap tg c e items ρ with
   |none=>simp[h2]at ee
   |some w=>
    obtain⟨tot,a7⟩:=w;obtain⟨rfl,rfl⟩:D.lst .own tot=d/\a7=c8:=by simpa[h2]using ee
    refine hi ρ true items h1 σ H _ s.rel s.wok _ λJ H1 sm wk=>?_;have s1:Sta G H1 ob ρ σ S Fr:=s.grow sm λa z=>.inl z;have e1:Eff ob H H1 S S []:=⟨λb u h _=>sm b u h,λ_ _=>rfl,λi a h z=>.inl ⟨i,h,z⟩,by simp⟩;refine⟨λi m ys H2=>i+m=items.length/\ys.length<=i/\∃ρ2 S2 acc L rest,Sta G H2 ob ρ2 σ S2 (plus L Fr)/\aC G H2 (wn ob S2 (plus L Fr)) acc ys L/\L.Nodup/\au acc=true/\az acc=true/\Eff ob H1 H2 S S2 L/\je cap tg c e (items.drop i) ρ2=some (rest,a7)/\acc++rest=tot,
     ⟨items.length,by omega,by simp,ρ,S,[],[],tot,by rw[iB];exact s1,.nil,List.nodup_nil,rfl,rfl,.refl,h2,rfl⟩,?_⟩
    rintro i m ys H2 ⟨d2,d3,ρ2,S2,acc,L,rest,s2,ra,na,b1,b6,ef,a0,a1⟩;have lt:LtB true H1 (wn ob S Fr) H2 (wn (obC cap ob) (jO cap S2) (pq cap S2 (plus L Fr))):=qy ⟨λb u U f=>let⟨h1,h2⟩:=(ef.evo s1).k b u U f;⟨h1,v9.mp h2⟩,(ef.evo s1).t⟩;by_cases b0:i<items.length
    .have hdr:=(VG b0).symm
     rw[hdr,je]at a0;refine .inr ⟨wk.go i items[i] (by simp[b0]) H2 _ lt,by have:=six a2;omega,λb4 H'=>(i+1)+(m-1)=items.length/\b4.length<=i+1/\∃ρ2 S2 acc L rest,Sta G H' ob ρ2 σ S2 (plus L Fr)/\aC G H' (wn ob S2 (plus L Fr)) acc b4 L/\L.Nodup/\au acc=true/\az acc=true/\Eff ob H1 H' S S2 L/\je cap tg c e (items.drop (i+1)) ρ2=some (rest,a7)/\acc++rest=tot,λb4 H' h=>⟨m-1,by omega,h⟩,λx Y hy=>?_⟩;obtain⟨s3,rx⟩:=wk.yld i items[i] (by simp[b0]) H2 _ lt x Y hy;have c3:Sta G Y ob ρ2 σ S2 (plus L Fr):=s2.grow s3 λa z=>.inl z;have c5:Eff ob H1 Y S S2 L:=ef.same s3 λc O=>.inl O;have d1:aC G Y (wn ob S2 (plus L Fr)) acc ys L:=ra.up (Up.same s3);have si:=c3.inn (cap:=cap) V;cases h3:tg items[i] (gU cap ρ2)with
     |none=>simp[h3]at a0
     |some a3=>
      rw[h3]at a0;simp only[S8]at a0;have c7:∀k,own k=true->jO cap S2 k=[]:=λk I=>by
       unfold jO;split
       .rename_i j e
        rw[a6 k I (by rw[e];simp)]at e;cases e
       .rfl
      refine hg items[i] _ a3 h3 x _ Y _ (pq cap S2 (plus L Fr)) si c7 rx _ λa8 s4 b7=>⟨zK a6 b7,?_⟩;cases h4:c a3 with
      |none=>simp[h4]at a0
      |some bb=>
       rw[h4]at a0;simp only[S8]at a0;refine ht a3 bb h4 a8 Y _ s4.rel s4.wok _ λH4 a9=>?_;have a5:Sta G H4 ob ρ2 σ S2 (plus L Fr):=c3.grow a9 λa z=>.inl z;have d0:Sta G H4 (obC cap ob) a3 a8 (jO cap S2) (pq cap S2 (plus L Fr)):=s4.grow a9 λa z=>.inl z;have c0:Eff ob H1 H4 S S2 L:=c5.same a9 λc O=>.inl O;have b2:aC G H4 (wn ob S2 (plus L Fr)) acc ys L:=d1.up (Up.same a9);cases bb with
       |false=>
        simp only[Uo,VM]at a0;exact vR ⟨by omega,by omega,ρ2,S2,acc,L,rest,a5,b2,na,b1,b6,c0,a0,a1⟩
       |true=>
        simp only[Ud]at a0;cases h5:e a3 with
        |none=>simp[h5]at a0
        |some w=>
         obtain⟨y,b3⟩:=w;rw[h5]at a0;simp only[S8]at a0;split at a0
         .rename_i hcy
          cases h6:je cap tg c e (items.drop (i+1)) (gh cap b3 ρ2)with
          |none=>simp[h6]at a0
          |some w=>
           obtain⟨a4,c1⟩:=w;obtain⟨rfl,rfl⟩:y::a4=rest/\c1=a7:=by simpa[h6]using a0
           refine qy (he a3 y b3 h5 a8 H4 _ _ d0 _ λv H5 M S5 s5 ry ny c6=>?_);have c4:∀i j:Nat,cap[i]? =some (some j)->a8[i]? =(dM cap σ)[i]?:=λi j hi=>b7 i (by
            cases B:own i with
            |false=>rfl
            |true=>rw[a6 i B (by rw[hi];simp)]at hi;cases hi)
           obtain⟨o1,o2,o3⟩:=a5.out V (λ_ _=>trivial) c4 s5 c6;have b8:=(by simpa[clean]using hcy:aB y=true/\aA y=true);have c2:=b2.mono (o2.evo a5) (.inl b1) (.inl b6) λc O u F=>o2.keepsF a5 (.inl O) u F;rw[lu]at o1 c2;have b9:=o3 y v M hcy ry;rw[lu]at b9;have c9:∀a∈L,a∉M:=λa z1 z2=>by
            rcases o2.fm a z2 with y|y
            .exact a5.notO (.inl z1) y
            .obtain⟨o,B,_⟩:=b2.dom a z1
             rw[y]at B;cases B
           exact⟨by omega,by simp;omega,gh cap b3 ρ2,_,acc++[y],L++M,a4,o1,c2.append (.one b9),cA na ny c9,by rw[gA];simp[b1,au,b8],by rw[gn];simp[b6,az,b8],c0.trans o2,h6,by rw[←a1];simp⟩
         .cases a0
    .have hl:i=items.length:=by omega
     subst hl;rw[Wb,je]at a0;obtain⟨rfl,rfl⟩:[]=rest/\ρ2=a7:=by simpa using a0
     refine .inl ⟨wk.stop H2 _ lt,Wh (six (by omega)),λp N=>?_⟩;have b5:Same H2 (upd H2 p (.lst ys)):=Same.new N;rw[T3]at a1;subst a1;have np:p∉L:=λz=>by obtain⟨o,B,_⟩:=ra.dom p z;rw[N]at B;cases B
     have Z:Rep G (upd H2 p (.lst ys)) (wn ob S2 (plus (p::L) Fr)) (.lst .own acc) (.ref p) (p::L):=by
      rw[Rep];exact⟨p,ys,L,rfl,ra.up ⟨b5,λb u U f=>⟨λz=>z.elim (λz=>(Tf.mp z).elim (λz=>by rw[z,N]at U;cases U) λz=>f.1 (.inl z)) λz=>f.1 (.inr z),f.2⟩,λ_ _ _ f=>f⟩,aM,rfl⟩
     refine q (.ref p) _ (p::L) S2 (s2.grow b5 λa z=>?_) Z (T5.mpr ⟨np,na⟩) ?_
     .rcases z with z|z
      .rcases Tf.mp z with z|z
       .exact .inr ⟨by rw[z];exact N,Z.dom a (by simp[z])⟩
       .exact .inl (.inl z)
      .exact .inl (.inr z)
     .exact(e1.trans ef).same b5 λc O=>(Tf.mp O).elim (λz=>.inr (by rw[z];exact N)) λz=>.inl (by simpa using z)
  .cases ee
section
variable{elt target iter:Expr}{ifs:List Expr}{scope:Scope}{pos pos' pos2:Pos}{N':List Str}{it:En->Option (Bool×List D)}{tg:D->En->Option En}{fc:En->Option Bool}
variable{P:Nat->Bool}{x:Str}
theorem yO(i:Nat)(cap:List (Option Nat))(own:Nat->Bool){fe:En->Option D}(z:∀c,(X c).N.Nodup)(F:∀c,(X c).xe=NoX)(hc:∀c,(X c).calm=true)(O:∀c,fU (X c).env.scope (X c).N N' scope cap)(B:∀i:Nat,own i=true->cap[i]?≠none->cap[i]? =some none)(hi:PVI X G ob target iter it)(q:O_ (InX X N' scope) G (obC cap ob) own target tg)(U:Lz (InX X N' scope) G (obC cap ob) ifs fc)(V:PV (InX X N' scope) G (obC cap ob) elt fe)
  (I:P i=false:=by rfl) (a0:∀c,(X c).N[i]? =some x:=by intro _;rfl) (Y:∀c,Loc (X c).env.scope x:=by intro _;first|exact Vr rfl|exact U8 rfl) (hw:∀c,WT (.ListComp elt [⟨target,iter,ifs,0⟩] scope pos) (some (.Name x pos')) pos2.line (X c).env=pure true:=by intro _;rfl) (hs:∀c,∀x,VJ iter (X c).env x=pure x:=by intro _ _;rfl)
  (Z:∀c,(X c).fn x=true∨(X c).env.scope.names.lookup x=some .local:=by intro _;first|exact .inl rfl|exact .inr rfl):PVS X G ob P (.Assign [.Name x pos'] (.ListComp elt [⟨target,iter,ifs,0⟩] scope pos) pos2) (bI (rF cap it tg fc fe) (tgN i)):=
 let⟨_,i1,i2⟩:=hi.ex;let⟨_,g1,g2⟩:=q.ex;let⟨_,t1,t2⟩:=U.ex;let⟨_,e1,e2⟩:=V.ex
 ⟨_,λc=>CT (F c) (hc c) (z c) (a0 c) (Y c) (O c) (i1 c) (λC s H fp=>g1 (c,C,s,H,fp)) (λC s H fp=>t1 (c,C,s,H,fp)) (λC s H fp=>e1 (c,C,s,H,fp)) (hw c) (hs c) (Z c),by rw[←vU];exact iR (ux (Lw B i2 g2 t2 e2)) (gP I)⟩
theorem Df(i:Nat)(cap:List (Option Nat))(own:Nat->Bool){fe:En->Option (D×En)}(z:∀c,(X c).N.Nodup)(F:∀c,(X c).xe=NoX)(hc:∀c,(X c).calm=true)(O:∀c,fU (X c).env.scope (X c).N N' scope cap)(V:mO cap)(B:∀i:Nat,own i=true->cap[i]?≠none->cap[i]? =some none)(hi:PVI X G ob target iter it)(q:Rz (InX X N' scope) G (obC cap ob) own target tg)(U:Lz (InX X N' scope) G (obC cap ob) ifs fc)(he:PVe (InX X N' scope) G (obC cap ob) elt fe)
  (I:P i=false:=by rfl) (a0:∀c,(X c).N[i]? =some x:=by intro _;rfl) (Y:∀c,Loc (X c).env.scope x:=by intro _;first|exact Vr rfl|exact U8 rfl) (hw:∀c,WT (.ListComp elt [⟨target,iter,ifs,0⟩] scope pos) (some (.Name x pos')) pos2.line (X c).env=pure true:=by intro _;rfl) (hs:∀c,∀x,VJ iter (X c).env x=pure x:=by intro _ _;rfl)
  (Z:∀c,(X c).fn x=true∨(X c).env.scope.names.lookup x=some .local:=by intro _;first|exact .inl rfl|exact .inr rfl):PVS X G ob P (.Assign [.Name x pos'] (.ListComp elt [⟨target,iter,ifs,0⟩] scope pos) pos2) (di (tM cap it tg fc fe) (tgN i)):=
 let⟨_,i1,i2⟩:=hi.ex;let⟨_,g1,g2⟩:=q.ex;let⟨_,t1,t2⟩:=U.ex;let⟨_,e1,e2⟩:=he.ex
 ⟨_,λc=>CT (F c) (hc c) (z c) (a0 c) (Y c) (O c) (i1 c) (λC s H fp=>g1 (c,C,s,H,fp)) (λC s H fp=>t1 (c,C,s,H,fp)) (λC s H fp=>e1 (c,C,s,H,fp)) (hw c) (hs c) (Z c),iR (Fx V B i2 g2 t2 e2) (gP I)⟩
end
end
inductive Sc:Dt->Dt->Prop
 |bl (a b:Bool):Sc (.bl a) (.bl b)
 |int (a b:Int):Sc (.int a) (.int b)
 |str (a b:Str):Sc (.str a) (.str b)
 |non:Sc .non .non
def Flt(d e:Dt):Prop:=∃a b,d= .tup a/\e= .tup b/\∀p∈a.zip b,Sc p.1 p.2
inductive Alk:Dt->Dt->Prop
 |sc {d e:Dt}:Sc d e->Alk d e
 |lst {a b:List Dt}:(∀p∈a.zip b,Sc p.1 p.2)->Alk (.lst a) (.lst b)
 |tup {a b:List Dt}:(∀p∈a.zip b,Sc p.1 p.2)->Alk (.tup a) (.tup b)
 |deep {a b:List Dt}:(∀p∈a.zip b,Flt p.1 p.2)->Alk (.lst a) (.lst b)
 |deepT {a b:List Dt}:(∀p∈a.zip b,Flt p.1 p.2)->Alk (.tup a) (.tup b)
section
variable{X:Cx}{pins:List (Addr×Obj)}{σ:L2.St}{H:Hp}{s:Shared}{A:Around}
open PySem.SeqAt
theorem Fg{d e:Dt}{v u:V}{v' u':Value}(h:Sc d e)(h1:Brs X.K H d v)(h2:Brs X.K H e u)(z:RelV v v')(N:RelV u u'):EqAt A s v' u' (eqD d e)/\RcAt A s v' u' (eqD d e)/\RcNeAt A s v' u' (!eqD d e):=by
 cases h<;>simp only[Brs]at h1 h2<;>subst h1 h2
 case bl a b=>cases z;cases N;exact⟨EqAt.bool_bool a b,RcAt.bool_bool a b,RcNeAt.bool_bool a b⟩
 case int a b=>obtain⟨t,rfl⟩:=z;obtain⟨t',rfl⟩:=N;exact⟨EqAt.int_int a t b t',RcAt.int_int a t b t',RcNeAt.int_int a t b t'⟩
 case non=>cases z;cases N;exact⟨EqAt.same _,RcAt.none_none,RcNeAt.none_none⟩
 case str a b=>obtain⟨t,rfl⟩:=z;obtain⟨t',rfl⟩:=N;exact⟨EqAt.str_str a t b t',RcAt.str_str a t b t',RcNeAt.str_str a t b t'⟩
theorem tL{R:Dt->Dt->Prop}(hR:∀{d e:Dt}{v u:V}{v' u':Value},R d e->Brs X.K H d v->Brs X.K H e u->RelV v v'->RelV u u'->EqAt A s v' u' (eqD d e)):∀{ds es:List Dt}{ys xs:List V}{q its:List Value},(∀p∈ds.zip es,R p.1 p.2)->g_ X.K H ds ys->g_ X.K H es xs->Vals ys q->Vals xs its->
  ∀j (h1:j<q.toArray.size)(h2:j<its.toArray.size),EqAt A s q.toArray[j] its.toArray[j] (eqJ ds es j)
 |[],es,ys,xs,q,its,_,h,h',r,r',j,h1,h2=>by
  simp only[g_]at h;subst h;cases r;simp at h1
 |d::ds,[],ys,xs,q,its,_,h,h',r,r',j,h1,h2=>by
  simp only[g_]at h';subst h';cases r';simp at h2
 |d::ds,e::es,ys,xs,q,its,ha,h,h',r,r',j,h1,h2=>by
  simp only[g_]at h h';obtain⟨y,B,rfl,hd,Z⟩:=h;obtain⟨x,a0,rfl,F,I⟩:=h';cases r with
  |cons z Y=>
   cases r' with
   |cons O U=>
    cases j with
    |zero=>exact hR (ha (d,e) (by simp)) hd F z O
    |succ j=>exact tL hR (λp N=>ha p (by simp[N])) Z I Y U j (by simpa using h1) (by simpa using h2)
theorem Jd(I:Inv X pins σ H s){R:Dt->Dt->Prop}(B:∀{d e:Dt}{v u:V}{v' u':Value},R d e->Brs X.K H d v->Brs X.K H e u->RelV v v'->RelV u u'->EqAt A.in1 s v' u' (eqD d e)){ds es:List Dt}{v u:V}{v' u':Value}(h:∀p∈ds.zip es,R p.1 p.2)(h1:Brs X.K H (.lst ds) v)(h2:Brs X.K H (.lst es) u)(z:RelV v v')(N:RelV u u')(hz:A.units<cLine):RcAt A s v' u' (eqD (.lst ds) (.lst es))/\RcNeAt A s v' u' (!eqD (.lst ds) (.lst es)):=by
 simp only[Brs]at h1 h2;obtain⟨F,a7,rfl,a5,U⟩:=h1;obtain⟨a2,a6,rfl,a4,O⟩:=h2;cases z;cases N;obtain⟨q,a3,p1,_⟩:=I.list a5;obtain⟨Z,a0,p2,_⟩:=I.list a4;have l1:=U.length;have l2:=O.length;have l3:=a3.length;have l4:=a0.length;rw[show eqD (.lst ds) (.lst es)=eqL ds es by simp[eqD]];by_cases Y:ds.length=es.length
 .have e1:q.toArray.size=Z.toArray.size:=by rw[List.size_toArray,List.size_toArray];omega
  have e2:ds.length=q.toArray.size:=by rw[List.size_toArray];omega
  rw[←vG Y,e2];exact⟨RcAt.lists p1.isList p2.isList e1 hz (tL B h U O a3 a0),RcNeAt.lists p1.isList p2.isList e1 hz (tL B h U O a3 a0)⟩
 .have e1:(q.toArray.size !=Z.toArray.size)=true:=by rw[List.size_toArray,List.size_toArray];exact bne_iff_ne.mpr (by omega)
  rw[v8 Y];exact⟨RcAt.lists_lengths p1.isList p2.isList e1 hz,RcNeAt.lists_lengths p1.isList p2.isList e1 hz⟩
theorem Cp(I:Inv X pins σ H s){R:Dt->Dt->Prop}(B:∀{d e:Dt}{v u:V}{v' u':Value},R d e->Brs X.K H d v->Brs X.K H e u->RelV v v'->RelV u u'->EqAt A.in1 s v' u' (eqD d e)){ds es:List Dt}{v u:V}{v' u':Value}(h:∀p∈ds.zip es,R p.1 p.2)(h1:Brs X.K H (.tup ds) v)(h2:Brs X.K H (.tup es) u)(z:RelV v v')(N:RelV u u')(hz:A.units<cLine):RcAt A s v' u' (eqD (.tup ds) (.tup es))/\RcNeAt A s v' u' (!eqD (.tup ds) (.tup es)):=by
 simp only[Brs]at h1 h2;obtain⟨F,a7,rfl,a5,U⟩:=h1;obtain⟨a2,a6,rfl,a4,O⟩:=h2;cases z;cases N;obtain⟨q,a3,p1,_⟩:=I.tuple a5;obtain⟨Z,a0,p2,_⟩:=I.tuple a4;have l1:=U.length;have l2:=O.length;have l3:=a3.length;have l4:=a0.length;have e:eqD (.tup ds) (.tup es)=((Ue (min q.toArray.size Z.toArray.size)).all (eqJ ds es)&&q.toArray.size==Z.toArray.size):=by
  rw[show eqD (.tup ds) (.tup es)=eqL ds es by simp[eqD],List.size_toArray,List.size_toArray];by_cases Y:ds.length=es.length
  .rw[show min q.length Z.length=ds.length by omega,vG Y,show(q.length==Z.length)=true by simp;omega,YQ]
  .rw[v8 Y,show(q.length==Z.length)=false by simp;omega,acg]
 rw[e];exact⟨RcAt.tuples p1 p2 hz (tL B h U O a3 a0),RcNeAt.tuples p1 p2 hz (tL B h U O a3 a0)⟩
theorem Fz(I:Inv X pins σ H s){ds es:List Dt}{v u:V}{v' u':Value}(h:∀p∈ds.zip es,Sc p.1 p.2)(h1:Brs X.K H (.tup ds) v)(h2:Brs X.K H (.tup es) u)(z:RelV v v')(N:RelV u u')(hz:A.units<cLine):RcAt A s v' u' (eqD (.tup ds) (.tup es))/\RcNeAt A s v' u' (!eqD (.tup ds) (.tup es)):=
 Cp I (λh a b c d=>(Fg h a b c d).1) h h1 h2 z N hz
theorem Bm{K:Tn}:∀{ds es:List Dt}{xs:List V},(∀p∈ds.zip es,Sc p.1 p.2)->g_ K H ds xs->g_ K H es xs->eqL ds es=true
 |[],[],_,_,_,_=>by simp[eqL]
 |[],_::_,_,_,h,h'=>by simp only[g_]at h;subst h;simp[g_]at h'
 |_::_,[],_,_,h,h'=>by simp only[g_]at h';subst h';simp[g_]at h
 |d::r,e::q,_,ha,h,h'=>by
  simp only[g_]at h h';obtain⟨x,ys,rfl,hd,Z⟩:=h;obtain⟨_,_,e1,F,I⟩:=h';cases e1;rw[eqL,Bm (λp N=>ha p (by simp[N])) Z I,YQ];have hs:=ha (d,e) (by simp);dsimp only at hs;cases hs<;>simp only[Brs]at hd F<;>rw[hd]at F<;>first|(cases F;simp[eqD])|simp[eqD]
theorem zE(I:Inv X pins σ H s)(hz:A.units<cLine){d e:Dt}{v u:V}{v' u':Value}(h:Flt d e)(h1:Brs X.K H d v)(h2:Brs X.K H e u)(z:RelV v v')(N:RelV u u'):EqAt A s v' u' (eqD d e):=by
 obtain⟨a,b,rfl,rfl,h⟩:=h;have B:=(Fz I h h1 h2 z N hz).1;simp only[Brs]at h1 h2;obtain⟨F,a3,rfl,Z,U⟩:=h1;obtain⟨Y,a4,rfl,a0,O⟩:=h2;cases z;cases N;by_cases q:F=Y
 .subst q
  obtain rfl:=I.tuple_inj Z a0;rw[show eqD (.tup a) (.tup b)=true by rw[eqD];exact Bm h U O];exact EqAt.same _
 .exact EqAt.of_refs q B
theorem Ge(I:Inv X pins σ H s){d e:Dt}{v u:V}{v' u':Value}(h:Alk d e)(h1:Brs X.K H d v)(h2:Brs X.K H e u)(z:RelV v v')(N:RelV u u')(hz:A.units+1<cLine):RcAt A s v' u' (eqD d e)/\RcNeAt A s v' u' (!eqD d e):=by
 cases h with
 |sc h=>exact(Fg h h1 h2 z N).2
 |lst h=>exact Jd I (λh a b c d=>(Fg h a b c d).1) h h1 h2 z N (by omega)
 |tup h=>exact Fz I h h1 h2 z N (by omega)
 |deepT h=>exact Cp I (λh a b c d=>zE I (show A.units+1<cLine from hz) h a b c d) h h1 h2 z N (by omega)
 |deep h=>exact Jd I (λh a b c d=>zE I (show A.units+1<cLine from hz) h a b c d) h h1 h2 z N (by omega)
def RV(K:Tn)(A:U4):R2:=λx y H Q=>∃d e,Alk d e/\Brs K H d x/\Brs K H e y/\A.units+1<cLine/\Q (.bl (eqD d e)) H
def Qt(K:Tn)(A:U4):R2:=λx y H Q=>∃d e,Alk d e/\Brs K H d x/\Brs K H e y/\A.units+1<cLine/\Q (.bl (!eqD d e)) H
theorem N8:OpR X (UL .Eq) (RV X.K X.A):=by
 intro pins s σ H x y v u Q I rx N ⟨d,e,h,h1,h2,F,q⟩;exact(Ge I h h1 h2 rx N F).1 _ _ _ _ ⟨.bl (eqD d e),H,I,rfl,q⟩
theorem Oa:OpR X (UL .NotEq) (Qt X.K X.A):=by
 intro pins s σ H x y v u Q I rx N ⟨d,e,h,h1,h2,F,q⟩;exact(Ge I h h1 h2 rx N F).2 _ _ _ _ ⟨.bl (!eqD d e),H,I,rfl,q⟩
end
theorem OpR.or{f:Value->Value->Sem Value}{r z:R2}(h:OpR Y f r)(h':OpR Y f z):OpR Y f (λx y H Q=>r x y H Q∨z x y H Q):=λpins s σ H x y v u Q I rx N q=>q.elim (h pins s σ H x y v u Q I rx N) (h' pins s σ H x y v u Q I rx N)
theorem fO.or{f:Value}{z:List V->Hp->VK->Prop}(h:fO Y f r)(h':fO Y f z):fO Y f (λxs H Q=>r xs H Q∨z xs H Q):=λpins s σ H xs us Q I U q=>q.elim (h pins s σ H xs us Q I U) (h' pins s σ H xs us Q I U)
variable{i:Int}
theorem cQ:Rep G H W (.int i) (.int i) []:=by rw[Rep];exact⟨rfl,rfl⟩
theorem vV{i:Str}:Rep G H W (.str i) (.str i) []:=by rw[Rep];exact⟨rfl,rfl⟩
theorem eU{i:Bool}:Rep G H W (.bl i) (.bl i) []:=by rw[Rep];exact⟨rfl,rfl⟩
theorem aP(r:Rep G H W (.int i) v L):v= .int i/\L=[]:=by rw[Rep]at r;exact r
theorem bC{i:Str}(r:Rep G H W (.str i) v L):v= .str i/\L=[]:=by rw[Rep]at r;exact r
theorem tR{i:Bool}(r:Rep G H W (.bl i) v L):v= .bl i/\L=[]:=by rw[Rep]at r;exact r
variable{g:Int->Int->V}{z:D->D->Option D}
theorem C_(h:∀dx Y d,z dx Y=some d->∃i j,dx= .int i/\Y= .int j/\C i j/\∀H W,Rep G H W d (g i j) []):OpV G (rI C g) z:=λdx Y d e x y H W I B rx N nd hn w Q q=>by
 obtain⟨i,j,rfl,rfl,O,Z⟩:=h dx Y d e;obtain⟨rfl,rfl⟩:=aP rx;obtain⟨rfl,rfl⟩:=aP N;exact⟨i,j,rfl,rfl,O,q.scal (λW=>Z H W)⟩
theorem Al(h:∀dx Y d,z dx Y=some d->∃i j,dx= .int i/\Y= .int j/\∀H W,Rep G H W d (g i j) []):OpV G (rI0 g) z:=λdx Y d e x y H W I O rx N nd hn w Q q=>by
 obtain⟨i,j,rfl,rfl,Z⟩:=h dx Y d e;obtain⟨rfl,rfl⟩:=aP rx;obtain⟨rfl,rfl⟩:=aP N;exact⟨i,j,rfl,rfl,q.scal (λW=>Z H W)⟩
def iV:D->D->Option D
 |.int a,.int b=>some (.int (a-b))
 |_,_=>none
def gM:D->D->Option D
 |.int a,.int b=>if(-(2 ^ 64)<a/\a<2 ^ 64)∨(-(2 ^ 64)<b/\b<2 ^ 64)then some (.int (a*b))else none
 |_,_=>none
def iz:D->D->Option D
 |.int a,.int b=>if 0<b/\b<18446744073709551616 then some (.int (a / b))else none
 |_,_=>none
def gQ:D->D->Option D
 |.int a,.int b=>if 0<b then some (.int (a % b))else none
 |_,_=>none
def qu:D->D->Option D
 |.int a,.int b=>if 0<=b/\b<=1000000/\a.natAbs<2 ^ 64 then some (.int (a ^ b.toNat))else none
 |_,_=>none
theorem wX:OpB X G (Vp .Sub) iV:=⟨_,λc=>Pn,Al λdx Y d e=>by
 unfold iV at e;split at e
 .cases e;exact⟨_,_,rfl,rfl,λ_ _=>cQ⟩
 .cases e⟩
theorem jB:OpB X G (Vp .Mult) gM:=⟨_,λc=>Qa,C_ λdx Y d e=>by
 unfold gM at e;split at e
 .split at e
  .cases e;exact⟨_,_,rfl,rfl,‹_›,λ_ _=>cQ⟩
  .cases e
 .cases e⟩
theorem BV:OpB X G (Vp .FloorDiv) iz:=⟨_,λc=>Fp,C_ λdx Y d e=>by
 unfold iz at e;split at e
 .split at e
  .cases e;exact⟨_,_,rfl,rfl,‹_›,λ_ _=>cQ⟩
  .cases e
 .cases e⟩
theorem jE:OpB X G (Vp .Mod) gQ:=⟨_,λc=>Nj,C_ λdx Y d e=>by
 unfold gQ at e;split at e
 .split at e
  .cases e;exact⟨_,_,rfl,rfl,‹_›,λ_ _=>cQ⟩
  .cases e
 .cases e⟩
theorem Ny:OpB X G (Vp .Pow) qu:=⟨_,λc=>PP,C_ λdx Y d e=>by
 unfold qu at e;split at e
 .split at e
  .cases e;exact⟨_,_,rfl,rfl,‹_›,λ_ _=>cQ⟩
  .cases e
 .cases e⟩
def iU:D->Option D
 |.int a=>some (.int (-a))
 |_=>none
theorem pK:UnB X G (unaryOp .USub) iU:=⟨_,λc=>O9,λdx d e x H W I rx nd hn w Q q=>by
 unfold iU at e;split at e
 .cases e
  obtain⟨rfl,rfl⟩:=aP rx;exact⟨_,rfl,q.scal λW=>cQ⟩
 .cases e⟩
def cO:D->D->Option D
 |.int a,.int b=>some (.int (a+b))
 |.str a,.str b=>if a.length+b.length<=Te then some (.str (a++b))else none
 |.lst m a,.lst n b=>if m≠.scr/\n≠.scr/\a.length+b.length<=1000000 then some (.lst .own (a++b))else none
 |.tup a,.tup b=>if a.length+b.length<=1000000 then some (.tup (a++b))else none
 |_,_=>none
variable{ys:List V}
theorem vf{dx Y:List D}{I B N:List Addr}(F:aC G H W dx xs B)(hy:aC G H W Y ys N)(Z:Vs B I)(sy:Vs N O)(hn:∀a∈I++O,W.tmp a)(s:Same H H')(q:List Addr)(he:∀a∈q,H a=none):aC G H' ((W.drop (I++O)).add (q++(B++N))) (dx++Y) (xs++ys) (B++N):=by
 refine(F.append hy).up ⟨s,λb u U f=>⟨λz=>z.elim (λz=>?_) λz=>f.1 z.1,f.2⟩,λ_ _ _ f=>f⟩;rcases S9.mp z with z|z
 .rw[he b z]at U;cases U
 .rcases S9.mp z with z|z
  .exact f.1 (hn b (Th _ (Z.subset z))).1
  .exact f.1 (hn b (Tc _ (sy.subset z))).1
def QW(K:Tn):R2:=λx y H Q=>((rI0 (λi j=>.int (i+j)) x y H Q∨(∃i j,x= .str i/\y= .str j/\i.length+j.length<=Te/\Q (.str (i++j)) H))∨Rr x y H Q)∨FT K x y H Q
theorem JF:OpV G (QW G.K) cO:=λdx Y d e x y H W Lx Ly rx ry nd hn w Q q=>by
 unfold cO at e;split at e
 .cases e
  obtain⟨rfl,rfl⟩:=aP rx;obtain⟨rfl,rfl⟩:=aP ry;exact .inl (.inl (.inl ⟨_,_,rfl,rfl,q.scal λ_=>cQ⟩))
 .split at e
  .cases e
   obtain⟨rfl,rfl⟩:=bC rx;obtain⟨rfl,rfl⟩:=bC ry;exact .inl (.inl (.inr ⟨_,_,rfl,rfl,‹_›,q.scal λ_=>vV⟩))
  .cases e
 .rename_i m a n b
  split at e
  .rename_i O
   cases e;rw[Rep]at rx ry;obtain⟨p,xs,Mx,rfl,F,sx⟩:=rx;obtain⟨p',ys,My,rfl,V,sy⟩:=ry;refine .inl (.inr ⟨p,p',xs,ys,rfl,rfl,sx.at O.1,sy.at O.2.1,by rw[←F.length,←V.length];exact Wh (six O.2.2),λr Z=>?_⟩);have I:Same H (upd H r (.lst (xs++ys))):=Same.new Z;have nr:r∉Mx++My:=λz=>by
    obtain⟨o,B,_⟩:=(F.append V).dom r z;rw[Z]at B;cases B
   have a0:(Mx++My).Nodup:=(sx.sub.append sy.sub).nodup nd;refine q (.ref r) _ (r::(Mx++My)) I ?_ (λc O=>?_) (T5.mpr ⟨nr,a0⟩)
   .rw[Rep]
    exact⟨r,xs++ys,Mx++My,rfl,vf F V sx.sub sy.sub hn I [r] (by simpa using Z),aM,rfl⟩
   .rcases Tf.mp O with z|z
    .exact .inr (by rw[z];exact Z)
    .exact .inl ((sx.sub.append sy.sub).subset z)
  .cases e
 .rename_i a b
  split at e
  .rename_i O
   cases e;rw[Rep]at rx ry;obtain⟨p,xs,rfl,N,F⟩:=rx;obtain⟨p',ys,rfl,U,V⟩:=ry;have base:∀H' p2,Same H H'->H' p2=some (.tup (xs++ys))->Q (.ref p2) H':=λH' p2 I hq=>by
    refine q (.ref p2) H' (Lx++Ly) I ?_ (λc O=>.inl O) nd;rw[Rep];exact⟨p2,xs++ys,rfl,hq,vf F V (Ww _) (Ww _) hn I [] (by simp)⟩
   refine .inr ⟨p,p',xs,ys,rfl,rfl,SqT.of N,SqT.of U,by rw[←F.length,←V.length];exact Wh (six O),λz=>base H p' (Same.refl H) (by rw[z];exact U),λ_ z=>base H p (Same.refl H) (by rw[z,T3];exact N),λ_ _ r Z=>base _ r (Same.new Z) aM⟩
  .cases e
 .cases e
theorem eY(z:∀c,(X c).K=G.K:=by intro _;rfl):OpB X G (Vp .Add) cO:=⟨_,λc=>by rw[←z c];exact OpR.or (OpR.or (OpR.or Og z_) Ov) HB,JF⟩
def gLt:D->D->Option D
 |.int a,.int b=>some (.bl (decide (a<b)))
 |.str a,.str b=>some (.bl (decide (a.cps.toList<b.cps.toList)))
 |_,_=>none
def gGt:D->D->Option D
 |.int a,.int b=>some (.bl (decide (b<a)))
 |_,_=>none
def gGe:D->D->Option D
 |.int a,.int b=>some (.bl (decide (b<=a)))
 |_,_=>none
theorem Rm:OpB X G (UL .Lt) gLt:=⟨_,λc=>OpR.or QS DY,λdx Y d e x y H W I O rx N nd hn w Q q=>by
 unfold gLt at e;split at e
 .cases e
  obtain⟨rfl,rfl⟩:=aP rx;obtain⟨rfl,rfl⟩:=aP N;exact .inl ⟨_,_,rfl,rfl,q.scal λ_=>eU⟩
 .cases e
  obtain⟨rfl,rfl⟩:=bC rx;obtain⟨rfl,rfl⟩:=bC N;exact .inr ⟨_,_,rfl,rfl,q.scal λ_=>eU⟩
 .cases e⟩
theorem RN:OpB X G (UL .Gt) gGt:=⟨_,λc=>Q_,Al λdx Y d e=>by
 unfold gGt at e;split at e
 .cases e;exact⟨_,_,rfl,rfl,λ_ _=>eU⟩
 .cases e⟩
theorem Qx:OpB X G (UL .GtE) gGe:=⟨_,λc=>Qv,Al λdx Y d e=>by
 unfold gGe at e;split at e
 .cases e;exact⟨_,_,rfl,rfl,λ_ _=>eU⟩
 .cases e⟩
def iZ:D->Bool
 |.non=>true
 |_=>false
def gIs:D->D->Option D
 |x,.non=>some (.bl (iZ x))
 |_,_=>none
def rA:D->D->Option D
 |x,.non=>some (.bl (!iZ x))
 |_,_=>none
theorem El(r:Rep G H W d v L):decide (v= .non)=iZ d:=by
 cases d<;>rw[Rep]at r
 case non=>obtain⟨rfl,_⟩:=r;rfl
 case bl=>obtain⟨rfl,_⟩:=r;rfl
 case int=>obtain⟨rfl,_⟩:=r;rfl
 case str=>obtain⟨rfl,_⟩:=r;rfl
 case ty=>obtain⟨rfl,_⟩:=r;rfl
 case tup=>obtain⟨a,xs,rfl,_⟩:=r;rfl
 case lst=>obtain⟨a,xs,M,rfl,_⟩:=r;rfl
 case dct=>obtain⟨a,xs,M,rfl,_⟩:=r;rfl
 case ins=>obtain⟨a,C,dx,xs,M,rfl,_⟩:=r;rfl
theorem Gu:OpB X G (UL .IsNot) rA:=⟨_,λc=>J7,λdx Y d e x y H W I O rx N nd hn w Q q=>by
 unfold rA at e;split at e
 .cases e
  rw[Rep]at N;exact⟨N.1,by rw[El rx];exact q.scal λ_=>eU⟩
 .cases e⟩
mutual
noncomputable def dt:D->Dt
 |.non=>.non
 |.bl b=>.bl b
 |.int i=>.int i
 |.str x=>.str x
 |.tup ds=>.tup (dtL ds)
 |.lst _ ds=>.lst (dtL ds)
 |_=>.non
noncomputable def dtL:List D->List Dt
 |[]=>[]
 |d::r=>dt d::dtL r
end
mutual
noncomputable def m_:D->Bool
 |.ty _=>false
 |.dct _ _ _=>false
 |.ins _ _ _ _=>false
 |.tup ds=>kh ds
 |.lst _ ds=>kh ds
 |_=>true
noncomputable def kh:List D->Bool
 |[]=>true
 |d::r=>m_ d&&kh r
end
mutual
theorem Rep.brs{H:Hp}{W:Wn}:∀{d:D}{v:V}{L:List Addr},Rep G H W d v L->m_ d=true->Brs G.K H (dt d) v
 |.non,v,L,r,_=>by rw[Rep]at r;simp[dt,Brs,r]
 |.bl _,v,L,r,_=>by rw[Rep]at r;simp[dt,Brs,r]
 |.int _,v,L,r,_=>by rw[Rep]at r;simp[dt,Brs,r]
 |.str _,v,L,r,_=>by rw[Rep]at r;simp[dt,Brs,r]
 |.ty _,v,L,r,h=>by cases h
 |.dct _ _ _,v,L,r,h=>by cases h
 |.ins _ _ _ _,v,L,r,h=>by cases h
 |.tup ds,v,L,r,h=>by
  rw[Rep]at r;obtain⟨a,xs,rfl,U,Z⟩:=r;rw[dt,Brs];exact⟨a,xs,rfl,SqT.of U,aC.brs Z h⟩
 |.lst m ds,v,L,r,h=>by
  rw[Rep]at r;obtain⟨a,xs,M,rfl,Z,hs⟩:=r;rw[dt,Brs];exact⟨a,xs,rfl,hs.sq,aC.brs Z h⟩
theorem aC.brs{H:Hp}{W:Wn}:∀{ds:List D}{vs:List V}{L:List Addr},aC G H W ds vs L->kh ds=true->g_ G.K H (dtL ds) vs
 |[],vs,L,r,_=>by obtain⟨rfl,_⟩:=r.inv0;simp[dtL,g_]
 |d::r,vs,L,hr,h=>by
  obtain⟨x,ys,M,M',rfl,rfl,h1,h2⟩:=hr.inv;rw[kh,TY]at h;rw[dtL,g_];exact⟨x,ys,rfl,Rep.brs h1 h.1,aC.brs h2 h.2⟩
end
open Classical in
def gEq:D->D->Option D:=λx y=>if m_ x=true/\m_ y=true/\Alk (dt x) (dt y)then some (.bl (eqD (dt x) (dt y)))else none
open Classical in
def gNe:D->D->Option D:=λx y=>if m_ x=true/\m_ y=true/\Alk (dt x) (dt y)then some (.bl (!eqD (dt x) (dt y)))else none
theorem cb_eq(A:U4)(V:∀c,(X c).A=A)(F:A.units+64<cLine)(z:∀c,(X c).K=G.K:=by intro _;rfl):OpB X G (UL .Eq) gEq:=⟨RV G.K A,λc=>by rw[←z c,←V c];exact N8,λdx Y d e x y H W I O rx N nd hn w Q q=>by
 unfold gEq at e;split at e
 .rename_i hc
  cases e;exact⟨_,_,hc.2.2,rx.brs hc.1,N.brs hc.2.1,by omega,q.scal λ_=>eU⟩
 .cases e⟩
theorem Jk(A:U4)(V:∀c,(X c).A=A)(F:A.units+64<cLine)(z:∀c,(X c).K=G.K:=by intro _;rfl):OpB X G (UL .NotEq) gNe:=⟨Qt G.K A,λc=>by rw[←z c,←V c];exact Oa,λdx Y d e x y H W I O rx N nd hn w Q q=>by
 unfold gNe at e;split at e
 .rename_i hc
  cases e;exact⟨_,_,hc.2.2,rx.brs hc.1,N.brs hc.2.1,by omega,q.scal λ_=>eU⟩
 .cases e⟩
def gIx:D->D->Option D
 |.lst _ ds,.int i=>atI ds i
 |.tup ds,.int i=>atI ds i
 |.str z,.int i=>if z.length<=Te then(atI z.cps.toList i).map λc=>.str ⟨#[c]⟩else none
 |.dct _ ks ds,k=>(cg k).bind λk=>(cu ks k).bind λj=>ds[j]?
 |_,_=>none
theorem Jf(Z:aC G H W ds xs L)(e:atI ds i=some d):∃j:Nat,ds[j]? =some d/\∀x,xs[j]? =some x->atI xs i=some x:=by
 unfold atI at e⊢;rw[←Z.length];cases h:ixN ds.length i with
 |none=>simp[h]at e
 |some j=>
  refine⟨j,by simpa[h]using e,λx F=>by simpa using F⟩
variable{x:V}
theorem pN{I:List Addr}(r:Rep G H W d x M)(s:Vs M I)(nd:(I++O).Nodup)(hn:∀a∈I++O,W.tmp a)(q:Done G H W (I++O) d Q):Q x H:=by
 refine q x H M (Same.refl H) (r.up ⟨Same.refl H,λb u U f=>⟨λz=>z.elim (λz=>f.1 (hn b (Th _ (s.subset z))).1) λz=>f.1 z.1,f.2⟩,λ_ _ _ f=>f⟩) (λa Y=>.inl (Th _ (s.subset Y))) (s.nodup (Tu.mp nd).1)
theorem O8:OpV G (λx y H Q=>rIx G.K x y H Q∨JW x y H Q) gIx:=λdx Y d e x y H W Lx Ly rx N nd hn w Q q=>by
 unfold gIx at e;split at e
 .rename_i m ds i
  obtain⟨rfl,rfl⟩:=aP N;rw[Rep]at rx;obtain⟨a,xs,M,rfl,Z,hs⟩:=rx;obtain⟨j,h1,h2⟩:=Jf Z e;obtain⟨z,Mz,O,F,h5⟩:=Z.get h1;exact .inl (.inl ⟨a,xs,i,z,rfl,rfl,hs.sq,h2 z O,pN F (h5.trans hs.sub) nd hn q⟩)
 .rename_i ds i
  obtain⟨rfl,rfl⟩:=aP N;rw[Rep]at rx;obtain⟨a,xs,rfl,U,Z⟩:=rx;obtain⟨j,h1,h2⟩:=Jf Z e;obtain⟨z,Mz,O,F,h5⟩:=Z.get h1;exact .inl (.inr (.inl ⟨a,xs,i,z,rfl,rfl,SqT.of U,h2 z O,pN F h5 nd hn q⟩))
 .rename_i z i
  obtain⟨rfl,rfl⟩:=aP N;obtain⟨rfl,rfl⟩:=bC rx;split at e
  .rename_i hl
   cases h1:atI z.cps.toList i with
   |none=>simp[h1]at e
   |some c=>
    obtain rfl:D.str ⟨#[c]⟩=d:=by simpa[h1]using e
    exact .inl (.inr (.inr ⟨z,i,c,rfl,rfl,hl,h1,q.scal λ_=>vV⟩))
  .cases e
 .rename_i m ks ds
  cases I:cg Y with
  |none=>simp[I]at e
  |some k=>
   cases V:cu ks k with
   |none=>simp[I,V]at e
   |some j=>
    have e':ds[j]? =some d:=by simpa[I,V]using e
    rw[Rep]at rx;obtain⟨a,kvs,M,rfl,⟨rfl,a0⟩,Z,hs⟩:=rx;obtain⟨z,Mz,O,F,h5⟩:=Z.get e';have B:=eQ V;rw[O]at B;refine .inr ⟨a,z,rfl,.inl ⟨kvs,k,hs.rdD,gH N I,B.symm⟩,pN F (h5.trans hs.sub) nd hn q⟩
 .cases e
theorem ixb(F:∀c,(X c).A.units+1<cLine)(z:∀c,(X c).K=G.K:=by intro _;rfl):IxB X G gIx:=⟨_,λc=>by rw[←z c];exact HH (F c),O8⟩
def scV:D->Option V
 |.non=>some .non
 |.bl b=>some (.bl b)
 |.int i=>some (.int i)
 |.str x=>some (.str x)
 |_=>none
def uh:List D->Option (List V)
 |[]=>some []
 |d::r=>(scV d).bind λv=>(uh r).map λt=>v::t
theorem wW{u:V}(r:Rep G H W d v L)(h:scV d=some u):v=u/\jU u=true:=by
 cases d<;>simp[scV]at h<;>subst h<;>rw[Rep]at r<;>exact⟨r.1,rfl⟩
theorem sI:∀{ds:List D}{vs us:List V}{L:List Addr},aC G H W ds vs L->uh ds=some us->vs=us/\us.all jU=true
 |[],vs,us,L,r,h=>by
  cases h;exact⟨r.inv0.1,rfl⟩
 |d::t,vs,us,L,r,h=>by
  obtain⟨x,ys,M,M',rfl,rfl,h1,h2⟩:=r.inv;rw[uh]at h;cases e1:scV d with
  |none=>simp[e1]at h
  |some v=>
   cases e2:uh t with
   |none=>simp[e1,e2]at h
   |some w=>
    obtain rfl:v::w=us:=by simpa[e1,e2]using h
    obtain⟨rfl,I⟩:=wW h1 e1;obtain⟨rfl,B⟩:=sI h2 e2;exact⟨rfl,by simp[I,B]⟩
def Mq(x y:Str):Bool:=!(Vk y x 0 y.length 1).isEmpty
def yM:D->D->Option Bool
 |x,.lst _ ds=>(scV x).bind λv=>(uh ds).map λvs=>inV v vs
 |x,.tup ds=>(scV x).bind λv=>(uh ds).map λvs=>inV v vs
 |.str x,.str y=>some (Mq x y)
 |x,.dct _ ks _=>(cg x).map λk=>(cu ks k).isSome
 |_,_=>none
def gIn(x y:D):Option D:=(yM x y).map .bl
def dD(x y:D):Option D:=(yM x y).map λb=>.bl !b
theorem uc(F:Y.A.units+1<cLine):OpR Y (UL .NotIn) (λx y H Q=>∃a o,y= .ref a/\ou H a x o/\Q (.bl (!o.isSome)) H):=λpins s σ H x y v u Q I rx N h=>by
 obtain⟨a,o,rfl,g,q⟩:=h;cases N;exact Jx F I g rx λz U=>⟨.bl (!o.isSome),H,U,rfl,q⟩
theorem N_{dx Y:D}{y:V}{F:List Addr}(e:yM dx Y=some b)(rx:Rep G H W dx x F)(N:Rep G H W Y y O) :
  (∃p xs,y= .ref p/\(SqL G.K H p xs∨SqT G.K H p xs)/\jU x=true/\xs.all jU=true/\b=inV x xs)∨(∃i j,x= .str i/\y= .str j/\b=Mq i j)∨(∃a o,y= .ref a/\ou H a x o/\b=o.isSome):=by
 unfold yM at e;split at e
 .rename_i m ds
  cases e1:scV dx with
  |none=>simp[e1]at e
  |some v=>
   cases e2:uh ds with
   |none=>simp[e1,e2]at e
   |some vs=>
    obtain rfl:inV v vs=b:=by simpa[e1,e2]using e
    rw[Rep]at N;obtain⟨a,xs,M,rfl,Z,hs⟩:=N;obtain⟨rfl,I⟩:=wW rx e1;obtain⟨rfl,B⟩:=sI Z e2;exact .inl ⟨a,_,rfl,.inl hs.sq,I,B,rfl⟩
 .rename_i ds
  cases e1:scV dx with
  |none=>simp[e1]at e
  |some v=>
   cases e2:uh ds with
   |none=>simp[e1,e2]at e
   |some vs=>
    obtain rfl:inV v vs=b:=by simpa[e1,e2]using e
    rw[Rep]at N;obtain⟨a,xs,rfl,U,Z⟩:=N;obtain⟨rfl,I⟩:=wW rx e1;obtain⟨rfl,B⟩:=sI Z e2;exact .inl ⟨a,_,rfl,.inr (SqT.of U),I,B,rfl⟩
 .cases e
  obtain⟨rfl,_⟩:=bC rx;obtain⟨rfl,_⟩:=bC N;exact .inr (.inl ⟨_,_,rfl,rfl,rfl⟩)
 .rename_i m ks ds
  cases e1:cg dx with
  |none=>simp[e1]at e
  |some k=>
   have e':(cu ks k).isSome=b:=by simpa[e1]using e
   rw[Rep]at N;obtain⟨a,kvs,M,rfl,⟨rfl,z⟩,Z,hs⟩:=N;refine .inr (.inr ⟨a,gw kvs k,rfl,.inl ⟨kvs,k,hs.rdD,gH rx e1,rfl⟩,?_⟩);rw[←e'];cases q:cu (kvs.map (·.1)) k with
   |none=>rw[iu q];rfl
   |some j=>
    rw[eQ q,Td (by simpa using v_ q)];rfl
 .cases e
def KY(K:Tn):R2:=λx y H Q=>(rIn K true x y H Q∨(∃i j,x= .str i/\y= .str j/\Q (.bl (!(!(Vk j i 0 j.length 1).isEmpty))) H))∨∃a o,y= .ref a/\ou H a x o/\Q (.bl (!o.isSome)) H
theorem tW(F:∀c,(X c).A.units+1<cLine)(z:∀c,(X c).K=G.K:=by intro _;rfl):OpB X G (UL .NotIn) dD:=⟨KY G.K,λc=>by rw[←z c];exact OpR.or (OpR.or vy vP) (uc (F c)),λdx Y d e x y H W I V rx N nd hn w Q q=>by
 unfold dD at e;cases h1:yM dx Y with
 |none=>simp[h1]at e
 |some b=>
  obtain rfl:D.bl (!b)=d:=by simpa[h1]using e
  have B:Q (.bl (!b)) H:=q.scal λ_=>eU;rcases N_ h1 rx N with⟨p,xs,rfl,h2,O,U,rfl⟩|⟨i,j,rfl,rfl,rfl⟩|⟨a,o,rfl,h2,rfl⟩
  .exact .inl (.inl ⟨p,xs,rfl,h2,O,U,B⟩)
  .exact .inl (.inr ⟨i,j,rfl,rfl,B⟩)
  .exact .inr ⟨a,o,rfl,h2,B⟩⟩
theorem aC.inv1(r:aC G H W [d] xs L):∃x,xs=[x]/\Rep G H W d x L:=by
 obtain⟨x,ys,M,M',rfl,rfl,h1,h2⟩:=r.inv;obtain⟨rfl,rfl⟩:=h2.inv0;exact⟨x,rfl,by rw[T3];exact h1⟩
theorem aC.inv2{e:D}(r:aC G H W [d,e] xs L):∃x y M N,xs=[x,y]/\L=M++N/\Rep G H W d x M/\Rep G H W e y N:=by
 obtain⟨x,ys,M,M',rfl,rfl,h1,h2⟩:=r.inv;obtain⟨y,rfl,O⟩:=h2.inv1;exact⟨x,y,M,M',rfl,rfl,h1,O⟩
def dZ:List D->Option D
 |[.lst _ ds]=>some (.int ds.length)
 |[.tup ds]=>some (.int ds.length)
 |[.str z]=>if z.length<=Te then some (.int z.length)else none
 |[.dct m _ ds]=>if m= .scr then none else some (.int ds.length)
 |_=>none
theorem ig(B:∀c,(X c).K=G.K:=by intro _;rfl):CaB X G (.builtin "len") dZ:=⟨λxs H Q=>((∃p ys,xs=[.ref p]/\(SqL G.K H p ys∨SqT G.K H p ys)/\Q (.int ys.length) H)∨∃z,xs=[.str z]/\z.length<=Te/\Q (.int z.length) H)∨∃a kvs,xs=[V.ref a]/\H a=some (.dK kvs)/\Q (.int kvs.length) H,λc=>by rw[←B c];exact fO.or (fO.or wK vC) DK,λds d e xs H W O r nd hn w Q q=>by
 unfold dZ at e;split at e
 .cases e
  obtain⟨x,rfl,rx⟩:=r.inv1;rw[Rep]at rx;obtain⟨a,ys,M,rfl,Z,hs⟩:=rx;exact .inl (.inl ⟨a,ys,rfl,.inl hs.sq,by rw[←Z.length];exact q.scal λ_=>cQ⟩)
 .cases e
  obtain⟨x,rfl,rx⟩:=r.inv1;rw[Rep]at rx;obtain⟨a,ys,rfl,U,Z⟩:=rx;exact .inl (.inl ⟨a,ys,rfl,.inr (SqT.of U),by rw[←Z.length];exact q.scal λ_=>cQ⟩)
 .split at e
  .cases e
   obtain⟨x,rfl,rx⟩:=r.inv1;obtain⟨rfl,rfl⟩:=bC rx;exact .inl (.inr ⟨_,rfl,‹_›,q.scal λ_=>cQ⟩)
  .cases e
 .split at e
  .cases e
  .cases e
   obtain⟨x,rfl,rx⟩:=r.inv1;rw[Rep]at rx;obtain⟨a,kvs,M,rfl,I,Z,hs⟩:=rx;exact .inr ⟨a,kvs,rfl,hs.at ‹_›,by have:=Z.length;simp at this;rw[←this];exact q.scal λ_=>cQ⟩
 .cases e⟩
def wI:List D->Option D
 |[.int i]=>some (.int (if i<0 then -i else i))
 |_=>none
def mF:List D->Option D
 |[.int i]=>some (.int i)
 |[.bl k]=>some (.int (if k then 1 else 0))
 |_=>none
theorem Be:CaB X G (.type "int") mF:=⟨_,λc=>Dl,λds d e xs H W O r nd hn w Q q=>by
 unfold mF at e;split at e
 .cases e
  obtain⟨x,rfl,rx⟩:=r.inv1;obtain⟨rfl,rfl⟩:=aP rx;exact .inl ⟨_,rfl,q.scal λ_=>cQ⟩
 .cases e
  obtain⟨x,rfl,rx⟩:=r.inv1;obtain⟨rfl,rfl⟩:=tR rx;exact .inr ⟨_,rfl,q.scal λ_=>cQ⟩
 .cases e⟩
def jh:List D->Option D
 |[.int i,.int j]=>some (.int (if j<i then j else i))
 |_=>none
theorem IK(O:∀c,(X c).calm=true):CaB X G (.builtin "min") jh:=⟨_,λc=>Dr (O c),λds d e xs H W B r nd hn w Q q=>by
 unfold jh at e;split at e
 .cases e
  obtain⟨x,y,M,N,rfl,rfl,rx,z⟩:=r.inv2;obtain⟨rfl,rfl⟩:=aP rx;obtain⟨rfl,rfl⟩:=aP z;exact⟨_,_,rfl,q.scal λ_=>cQ⟩
 .cases e⟩
def qK:List D->Option D
 |[.int i,.int j]=>if 0<j/\j<1073741824 then some (.tup [.int (i / j),.int (i % j)])else none
 |_=>none
theorem zp:CaB X G (.builtin "divmod") qK:=⟨_,λc=>xn,λds d e xs H W O r nd hn w Q q=>by
 unfold qK at e;split at e
 .split at e
  .cases e
   obtain⟨x,y,M,N,rfl,rfl,rx,B⟩:=r.inv2;obtain⟨rfl,rfl⟩:=aP rx;obtain⟨rfl,rfl⟩:=aP B;refine⟨_,_,rfl,‹_›,λp z=>q (.ref p) _ [] (Same.new z) ?_ (by simp) List.nodup_nil⟩;rw[Rep];exact⟨p,_,rfl,aM,.cons (M:=[]) (M':=[]) cQ (.one cQ)⟩
  .cases e
 .cases e⟩
variable{p:Addr}
theorem pL(Z:aC G H W ds xs M)(s:Vs M O)(nd:O.Nodup)(hn:∀a∈O,W.tmp a)(N:H p=none)(q:Done G H W O (.lst .own ds) Q):Q (.ref p) (upd H p (.lst xs)):=by
 have I:Same H (upd H p (.lst xs)):=Same.new N;have F:p∉M:=λz=>by obtain⟨o,B,_⟩:=Z.dom p z;rw[N]at B;cases B
 refine q (.ref p) _ (p::M) I ?_ (λa Y=>(Tf.mp Y).elim (λz=>.inr (by rw[z];exact N)) λz=>.inl (s.subset z)) (T5.mpr ⟨F,s.nodup nd⟩);rw[Rep];exact⟨p,xs,M,rfl,Z.up ⟨I,λb u U f=>⟨λz=>z.elim (λz=>(Tf.mp z).elim (λz=>by rw[z,N]at U;cases U) λz=>f.1 (hn b (s.subset z)).1) λz=>f.1 z.1,f.2⟩,λ_ _ _ f=>f⟩,aM,rfl⟩
theorem uJ(Z:aC G H W ds xs M)(s:Vs M O)(nd:O.Nodup)(hn:∀a∈O,W.tmp a)(N:H p=none)(q:Done G H W O (.tup ds) Q):Q (.ref p) (upd H p (.tup xs)):=by
 have I:Same H (upd H p (.tup xs)):=Same.new N;refine q (.ref p) _ M I ?_ (λa Y=>.inl (s.subset Y)) (s.nodup nd);rw[Rep];exact⟨p,xs,rfl,aM,Z.up ⟨I,λb u U f=>⟨λz=>z.elim (λz=>f.1 (hn b (s.subset z)).1) λz=>f.1 z.1,f.2⟩,λ_ _ _ f=>f⟩⟩
theorem fB(Z:Rep G H W d x M)(s:Vs M O)(nd:O.Nodup)(hn:∀a∈O,W.tmp a)(q:Done G H W O d Q):Q x H:=by
 refine q x H M (Same.refl H) (Z.up ⟨Same.refl H,λb u U f=>⟨λz=>z.elim (λz=>f.1 (hn b (s.subset z)).1) λz=>f.1 z.1,f.2⟩,λ_ _ _ f=>f⟩) (λa Y=>.inl (s.subset Y)) (s.nodup nd)
def kW:List D->Option D
 |[.lst _ ds]=>some (.lst .own ds)
 |[.tup ds]=>some (.lst .own ds)
 |_=>none
def fW:List D->Option D
 |[.lst _ ds]=>some (.tup ds)
 |[.tup ds]=>some (.tup ds)
 |_=>none
theorem n6(z:∀c,(X c).K=G.K:=by intro _;rfl):CaB X G (.type "list") kW:=⟨λxs H Q=>∃p ys,xs=[.ref p]/\(SqL G.K H p ys∨SqT G.K H p ys)/\∀l,H l=none->Q (.ref l) (upd H l (.lst ys)),λc=>by rw[←z c];exact vW,λds d e xs H W O r nd hn w Q q=>by
 unfold kW at e;split at e
 .cases e
  obtain⟨x,rfl,rx⟩:=r.inv1;rw[Rep]at rx;obtain⟨a,ys,M,rfl,Z,hs⟩:=rx;exact⟨a,ys,rfl,.inl hs.sq,λp N=>pL Z hs.sub nd hn N q⟩
 .cases e
  obtain⟨x,rfl,rx⟩:=r.inv1;rw[Rep]at rx;obtain⟨a,ys,rfl,U,Z⟩:=rx;exact⟨a,ys,rfl,.inr (SqT.of U),λp N=>pL Z (Ww _) nd hn N q⟩
 .cases e⟩
theorem Es(z:∀c,(X c).K=G.K:=by intro _;rfl):CaB X G (.type "tuple") fW:=⟨λxs H Q=>∃p ys,xs=[.ref p]/\((SqL G.K H p ys/\∀l,H l=none->Q (.ref l) (upd H l (.tup ys)))∨(SqT G.K H p ys/\Q (.ref p) H)),λc=>by rw[←z c];exact uo,λds d e xs H W O r nd hn w Q q=>by
 unfold fW at e;split at e
 .cases e
  obtain⟨x,rfl,rx⟩:=r.inv1;rw[Rep]at rx;obtain⟨a,ys,M,rfl,Z,hs⟩:=rx;exact⟨a,ys,rfl,.inl ⟨hs.sq,λp N=>uJ Z hs.sub nd hn N q⟩⟩
 .cases e
  obtain⟨x,rfl,rx⟩:=r.inv1;have F:=rx;rw[Rep]at rx;obtain⟨a,ys,rfl,U,Z⟩:=rx;exact⟨a,ys,rfl,.inr ⟨SqT.of U,fB F (Ww _) nd hn q⟩⟩
 .cases e⟩
def tyN:D->Option String
 |.non=>some "NoneType"
 |.bl _=>some "bool"
 |.int _=>some "int"
 |.str _=>some "str"
 |.tup _=>some "tuple"
 |.lst m _=>if m= .scr then none else some "list"
 |.dct m _ _=>if m= .scr then none else some "dict"
 |_=>none
def okT(n:String):Bool:=n=="int"||n=="bool"||n=="str"||n=="list"||n=="tuple"
def isT(t n:String):Bool:=t==n||(t=="bool"&&n=="int")
variable{t:String}
theorem Cq{K:Tn}{n:String}(h1:tyN d=some t)(h2:okT n=true):Zi K (.type t) (.type n)=some (isT t n):=by
 have U:t="NoneType"∨t="bool"∨t="int"∨t="str"∨t="tuple"∨t="list"∨t="dict":=by
  cases d<;>simp[tyN]at h1<;>(try split at h1)<;>simp_all
 have hn:n="int"∨n="bool"∨n="str"∨n="list"∨n="tuple":=by simpa[okT,or_assoc]using h2
 rcases U with rfl|rfl|rfl|rfl|rfl|rfl|rfl<;>rcases hn with rfl|rfl|rfl|rfl|rfl<;>with_unfolding_all rfl
theorem xu(r:Rep G H W d v L)(h:tyN d=some t):j0 G.K H v (.type t):=by
 cases d with
 |non=>rw[Rep]at r;obtain⟨rfl,_⟩:=r;cases h;exact .non
 |bl b=>rw[Rep]at r;obtain⟨rfl,_⟩:=r;cases h;exact .bl _
 |int b=>rw[Rep]at r;obtain⟨rfl,_⟩:=r;cases h;exact .int _
 |str b=>rw[Rep]at r;obtain⟨rfl,_⟩:=r;cases h;exact .str _
 |ty n=>cases h
 |tup ds=>rw[Rep]at r;obtain⟨a,xs,rfl,U,Z⟩:=r;cases h;exact .tup U
 |lst m ds=>
  rw[Rep]at r;obtain⟨a,xs,M,rfl,Z,hs⟩:=r;simp only[tyN]at h;split at h
  .cases h
  .cases h;exact .lst (hs.at ‹_›)
 |dct m ks ds=>
  rw[Rep]at r;obtain⟨a,xs,M,rfl,I,Z,hs⟩:=r;simp only[tyN]at h;split at h
  .cases h
  .cases h;exact .dK (hs.at ‹_›)
 |ins m c fs ds=>cases h
def yZ:List D->Option (List String)
 |[]=>some []
 |.ty n::r=>(yZ r).map λt=>n::t
 |_::_=>none
theorem uI:∀{ds:List D}{vs:List V}{L:List Addr}{ns:List String},aC G H W ds vs L->yZ ds=some ns->vs=ns.map V.ty
 |[],vs,L,ns,r,h=>by cases h;rw[r.inv0.1];rfl
 |d::t,vs,L,ns,r,h=>by
  obtain⟨x,ys,M,M',rfl,rfl,h1,h2⟩:=r.inv;cases d<;>simp[yZ]at h;obtain⟨w,O,rfl⟩:=h;rw[Rep]at h1;rw[h1.1,uI h2 O];rfl
theorem qU{K:Tn}(h1:tyN d=some t):∀{ns:List String},ns.all okT=true->Zn K (.type t) (ns.map V9)=some (ns.any (isT t))
 |[],_=>rfl
 |n::r,h=>by
  rw[ZK,TY]at h;rw[TF,Zn,Cq h1 h.1];cases e:isT t n with
  |true=>simp[e]
  |false=>simp only[e];rw[qU h1 h.2];simp[e]
def qQ:List D->Option D
 |[x,.ty n]=>(tyN x).bind λt=>if okT n=true then some (.bl (isT t n))else none
 |[x,.tup ts]=>(tyN x).bind λt=>(yZ ts).bind λns=>if ns.all okT=true then some (.bl (ns.any (isT t)))else none
 |_=>none
theorem zV(z:∀c,(X c).K=G.K:=by intro _;rfl):CaB X G (.builtin "isinstance") qQ:=⟨λxs H Q=>(∃x n t b,xs=[x,.ty n]/\j0 G.K H x t/\Zi G.K t (.type n)=some b/\Q (.bl b) H)∨∃x F B t b,xs=[x,.ref F]/\H F=some (.tup (List.map V.ty B))/\j0 G.K H x t/\Zn G.K t (B.map V9)=some b/\Q (.bl b) H,λc=>by rw[←z c];exact fO.or xJ v4,λds d e xs H W O r nd hn w Q q=>by
 unfold qQ at e;split at e
 .rename_i x n
  cases e1:tyN x with
  |none=>simp[e1]at e
  |some t=>
   rw[e1]at e;simp only[S8]at e;split at e
   .cases e
    obtain⟨u,v,M,N,rfl,rfl,rx,I⟩:=r.inv2;rw[Rep]at I;obtain⟨rfl,_⟩:=I;exact .inl ⟨u,n,_,_,rfl,xu rx e1,Cq e1 ‹_›,q.scal λ_=>eU⟩
   .cases e
 .rename_i x ts
  cases e1:tyN x with
  |none=>simp[e1]at e
  |some t=>
   cases e2:yZ ts with
   |none=>simp[e1,e2]at e
   |some ns=>
    rw[e1,e2]at e;simp only[S8]at e;split at e
    .cases e
     obtain⟨u,v,M,N,rfl,rfl,rx,I⟩:=r.inv2;rw[Rep]at I;obtain⟨a,ys,rfl,U,Z⟩:=I;have:=uI Z e2;subst this;exact .inr ⟨u,a,ns,_,_,rfl,U,xu rx e1,qU e1 ‹_›,q.scal λ_=>eU⟩
    .cases e
 .cases e⟩
def qm(n:Nat)(i:Int):Nat:=if i<0 then(i+(n:Int)).toNat else min i.toNat n
def Ba:V->List V->Hp->VK->Prop:=λx vs H Q=>∃l xs i y,x= .ref l/\vs=[.int i,y]/\H l=some (.lst xs)/\-(2 ^ 63)<=i/\i<2 ^ 63/\V8 xs<Te/\Q .non (upd H l (.lst (xs.take (qm xs.length i)++y::xs.drop (qm xs.length i))))
variable{X:Cx}
theorem Ds:MtM X "list.insert" Ba:=by
 intro pins s σ H x vs v us Q I rx U h;obtain⟨l,xs,i,y,rfl,rfl,V,h1,h2,hz,q⟩:=h;cases rx;cases U with
 |cons Z U=>
  obtain⟨u,rfl,O⟩:=vals1 U;obtain⟨t,rfl⟩:=Z;obtain⟨z,its,n,r,Y,e⟩:=I.lstM V;refine Ym F.slot_list_insert ⟨_,e,rfl⟩ F.entry_list_insert (F.args_list_insert_3 _ _ _) (AutoSeq1.list_insert_list_int_val_1 l its.toArray n i t u (by simp[fitsIndex_both h1 h2]) (by rw[List.size_toArray];omega)) ⟨e,?_⟩;refine⟨.non,_,I.lset (its':=its.take (qm its.length i)++u::its.drop (qm its.length i)) V e ?_ ?_ ?_,rfl,q⟩
  .show(its.toArray.extract 0 (qm its.length i)).push u++its.toArray.extract (qm its.length i)=_
   apply Array.ext';simp[List.extract_eq_take_drop];exact VH (by simp)
  .rw[Y]
   exact(r.take _).append (.cons O (r.drop _))
  .simp only[Ui,Vu,T_,WN]
   omega
theorem xq{B:List V}{a0:List D}{M0 N M1 R:List Addr}(Z:aC G H W a0 B M1)(rr:Rep G H W res x R)(k1:au a0=true)(k2:az a0=true)(kr:clean res=true)
  (Y:a∉M1++R) (nd:(M1++R).Nodup) (sub:∀b∈M1++R,b∈M0∨b∈N)
  (q:∀x H' M' R,(∀b u,H b=some u->b∉a::M0->H' b=some u)->(∀W',Evo H H' W W'->Rep G H' W' (.lst .own a0) (.ref a) M'/\Rep G H' W' res x R)->(M'++R).Nodup->(∀b∈M'++R,b∈a::M0∨b∈N∨H b=none)->clean (.lst .own a0)=true->clean res=true->Q x H'):Q x (upd H a (.lst B)):=by
 have a1:=(by simpa[clean]using kr:aB res=true/\aA res=true);refine q x _ (a::M1) R (λb u U n=>by rw[aH (show b≠a from λz=>n (by rw[z];simp))];exact U) (λW' I=>⟨?_,?_⟩) ?_ (λb U=>?_) (lw k1 k2) kr
 .rw[Rep]
  exact⟨a,B,M1,rfl,v5 Z k1 k2 (λz=>Y (Th _ z)) I,aM,rfl⟩
 .exact rr.mono I (.inl a1.1) (.inl a1.2) λc O u F=>by rw[aH (show c≠a from λz=>Y (Tc _ (z▸O)))];exact F
 .rw[Ug]
  exact T5.mpr ⟨Y,nd⟩
 .rw[Ug]at U
  rcases Tf.mp U with z|z
  .exact .inl (by simp[z])
  .exact(sub b z).imp (λz=>T7 _ z) .inl
theorem gq(h:au ds=true):∀d∈ds,aB d=true:=λd hd=>let⟨i,hi⟩:=aa1 hd;gB h hi
theorem gF(h:az ds=true):∀d∈ds,aA d=true:=λd hd=>let⟨i,hi⟩:=aa1 hd;gm h hi
theorem cF:∀{ds:List D},(∀d∈ds,aB d=true)->au ds=true
 |[],_=>rfl
 |d::r,h=>by rw[au,h d (by simp),cF λe V=>h e (by simp[V])];rfl
theorem cI:∀{ds:List D},(∀d∈ds,aA d=true)->az ds=true
 |[],_=>rfl
 |d::r,h=>by rw[az,h d (by simp),cI λe V=>h e (by simp[V])];rfl
def jb:D->List D->Option (D×D)
 |.lst .own ds,[.int i]=>if ds.length<1000000 then(ixN ds.length i).bind λk=>(ds[k]?).map λe=>(.lst .own (ds.eraseIdx k),e)else none
 |_,_=>none
theorem aC.erase(h:aC G H W ds xs L)(e:ds[j]? =some d):∃x M N,xs[j]? =some x/\Rep G H W d x M/\aC G H W (ds.eraseIdx j) (xs.eraseIdx j) N/\UT (N++M) L:=by
 obtain⟨A,B,x,ys,zs,I,M,z,rfl,q,rfl,Y,rfl,h1,h2,O⟩:=h.at e;refine⟨x,M,I++z,by rw[Vb (by omega),Y,Wq];rfl,h2,?_,?_⟩
 .have e1:(A++d::B).eraseIdx j=A++B:=by rw[YG (by omega),q,Wq];rfl
  have e2:(ys++x::zs).eraseIdx j=ys++zs:=by rw[YG (by omega),Y,Wq];rfl
  rw[e1,e2];exact h1.append O
 .rw[V_]
  exact aaO I Y8
theorem uV(h:d∈ds.eraseIdx k):d∈ds:=(List.eraseIdx_sublist ds k).subset h
theorem Gs{e:D}{M0 N:List Addr}(Z:aC G H W ds ys M0)(nd:((a::M0)++N).Nodup)(O:clean (.lst .own ds)=true)(I:ds[k]? =some e)
  (q:∀x H' M' R,(∀b u,H b=some u->b∉a::M0->H' b=some u)->(∀W',Evo H H' W W'->Rep G H' W' (.lst .own (ds.eraseIdx k)) (.ref a) M'/\Rep G H' W' e x R)->(M'++R).Nodup->(∀b∈M'++R,b∈a::M0∨b∈N∨H b=none)->clean (.lst .own (ds.eraseIdx k))=true->clean e=true->Q x H'):∃y,ys[k]? =some y/\Q y (upd H a (.lst (ys.eraseIdx k))):=by
 obtain⟨k1,k2⟩:=ir O;obtain⟨x,M,L,F,rx,rl,B⟩:=Z.erase I;have Y:=Tu.mp nd;have hn:=T5.mp Y.1;refine⟨x,F,xq (M0:=M0) (N:=N) rl rx (cF λd hd=>gq k1 d (uV hd)) (cI λd hd=>gF k2 d (uV hd)) (by simp[clean,gB k1 I,gm k2 I]) (λz=>hn.1 (B.mem_iff.mp z)) (B.nodup_iff.mpr hn.2) (λb U=>.inl (B.mem_iff.mp U)) q⟩
theorem Dk:MuV G Hf jb:=λd es d' res h v xs H W M N r U nd I O c1 B Q q=>by
 unfold jb at h;split at h
 .rename_i ds i
  split at h
  .rename_i hl
   cases h1:ixN ds.length i with
   |none=>simp[h1]at h
   |some k=>
    cases h2:ds[k]? with
    |none=>simp[h1,h2]at h
    |some e=>
     obtain⟨rfl,rfl⟩:D.lst .own (ds.eraseIdx k)=d'/\e=res:=by simpa[h1,h2]using h
     rw[Rep]at r;obtain⟨a,ys,M0,rfl,Z,Y,rfl⟩:=r;obtain⟨x,rfl,F⟩:=U.inv1;obtain⟨rfl,rfl⟩:=aP F;obtain⟨g1,g2,z,g4⟩:=wQ h1;obtain⟨y,V,q'⟩:=Gs Z nd O h2 q;exact⟨a,ys,i,k,y,rfl,rfl,Y,by omega,by omega,by rw[←Z.length];exact g1,V,q'⟩
  .cases h
 .cases h
variable{X:ι->Cx}
theorem Eo:MuB X G "list" "list.pop" jb:=⟨_,λc=>Je,Dk,ww rfl λd es q e=>by
 unfold jb at e;split at e
 .exact⟨_,_,rfl⟩
 .cases e⟩
def iH:D->List D->Option (D×D)
 |.lst .own ds,[.int i,e]=>if ds.length<1000000/\-(2 ^ 63)<=i/\i<2 ^ 63 then some (.lst .own (ds.take (qm ds.length i)++e::ds.drop (qm ds.length i)),.non)else none
 |_,_=>none
theorem aC.takeDrop(h:aC G H W ds xs L)(k:Nat):∃A B,aC G H W (ds.take k) (xs.take k) A/\aC G H W (ds.drop k) (xs.drop k) B/\L=A++B:=by
 rw[←Wf k ds]at h;obtain⟨ys,zs,A,B,rfl,rfl,h1,h2⟩:=h.split;have Y:=h1.length;by_cases I:k<=ds.length
 .have hk':ys.length=k:=by rw[←Y,Vu];omega
  refine⟨A,B,?_,?_,rfl⟩
  .rw[←hk',List.take_left,hk'];exact h1
  .rw[←hk',List.drop_left,hk'];exact h2
 .have e1:ds.take k=ds:=VH (by omega)
  have e2:ds.drop k=[]:=YH (by omega);rw[e1]at h1 Y;rw[e2]at h2;obtain⟨rfl,rfl⟩:=h2.inv0;refine⟨A,[],?_,?_,by simp⟩
  .rw[e1,T3,VH (by omega)];exact h1
  .rw[e2,T3,YH (by omega)];exact .nil
theorem zz:MuV G Ba iH:=λd es d' res h v xs H W M N r re nd hM O c1 c2 Q q=>by
 unfold iH at h;split at h
 .rename_i ds i e
  split at h
  .rename_i hl
   cases h;rw[Rep]at r;obtain⟨a,ys,M0,rfl,Z,Y,rfl⟩:=r;obtain⟨x,y,N1,N2,rfl,rfl,F,V⟩:=re.inv2;obtain⟨rfl,rfl⟩:=aP F;rw[List.nil_append]at nd q;obtain⟨k1,k2⟩:=ir O;obtain⟨A,B,h1,h2,rfl⟩:=Z.takeDrop (qm ds.length i);have I:=Tu.mp nd;have hn:=T5.mp I.1;have a0:a∉N2:=λz=>I.2.2 a (by simp) a z rfl;simp only[au,az,TY]at c1 c2;have a1:=h1.append (.cons V h2);have pm:UT (A++(N2++B)) ((A++B)++N2):=by
    rw[V_];exact aaO A Y8
   refine⟨a,ys,i,y,rfl,rfl,Y,hl.2.1,hl.2.2,tX (by rw[←Z.length];exact hl.1),?_⟩;rw[←Z.length];refine xq (M0:=A++B) (N:=N2) (R:=[]) a1 jd ?_ ?_ rfl (λz=>?_) ?_ (λb U=>?_) q
   .refine cF λd hd=>?_
    rcases S9.mp hd with z|z
    .exact gq k1 d (XN z)
    .rcases Tf.mp z with z|z
     .rw[z];exact c1.2.1
     .exact gq k1 d (Ze z)
   .refine cI λd hd=>?_
    rcases S9.mp hd with z|z
    .exact gF k2 d (XN z)
    .rcases Tf.mp z with z|z
     .rw[z];exact c2.2.1
     .exact gF k2 d (Ze z)
   .rw[T3]at z
    rcases S9.mp (pm.mem_iff.mp z)with z|z
    .exact hn.1 z
    .exact a0 z
   .rw[T3]
    refine pm.nodup_iff.mpr (cA hn.2 I.2.1 λb h1 h2=>I.2.2 b (T7 _ h1) b h2 rfl)
   .rw[T3]at U
    exact S9.mp (pm.mem_iff.mp U)
  .cases h
 .cases h
theorem Ai:MuB X G "list" "list.insert" iH:=⟨_,λc=>Ds,zz,ww rfl λd es q e=>by
 unfold iH at e;split at e
 .exact⟨_,_,rfl⟩
 .cases e⟩
def b_:List Key->List D->List (Key×D)->List Key×List D
 |ks,ds,[]=>(ks,ds)
 |ks,ds,p::r=>b_ (gf ks ds p.1 p.2).1 (gf ks ds p.1 p.2).2 r
variable{k:Key}
theorem Ln{N:List Addr}(Z:aC G H W ds (List.map (·.2) kvs) M)(hn:(List.map (·.1) kvs).Nodup)(F:Rep G H W d x N)(nd:(M++N).Nodup) :
  (List.map (·.1) (putK kvs k x)=(gf (List.map (·.1) kvs) ds k d).1/\(List.map (·.1) (putK kvs k x)).Nodup)/\(putK kvs k x).length<=kvs.length+1/\∃M',aC G H W (gf (List.map (·.1) kvs) ds k d).2 (List.map (·.2) (putK kvs k x)) M'/\M'.Nodup/\∀a∈M',a∈M∨a∈N:=by
 have I:=Tu.mp nd;cases hj:cu (kvs.map (·.1)) k with
 |some j=>
  have a2:j<ds.length:=by rw[Z.length];simpa using v_ hj
  obtain⟨A,U,B,a1,q⟩:=Z.set (Td a2) F;obtain⟨p1,p2⟩:=yj (v:=x) hj hn;have O:Vs (A++B) M:=by rw[a1];exact(Ww A).append (UV U B)
  have n3:=Tu.mp (O.nodup I.1);have a0:∀z∈N,z∉A++B:=λz h1 h2=>I.2.2 z (O.subset h2) z h1 rfl;simp only[gf,hj];refine⟨⟨p1,by rw[p1];exact hn⟩,?_,A++(N++B),by rw[p2];exact q,cA n3.1 (cA I.2.1 n3.2.1 λz h1 h2=>a0 z h1 (by simp[h2])) λz h1 h2=>?_,λa Y=>?_⟩
  .have:(putK kvs k x).length=kvs.length:=by have:=congrArg V8 p1;simpa using this
   omega
  .rcases S9.mp h2 with y|y
   .exact a0 z y (by simp[h1])
   .exact n3.2.2 z h1 z y rfl
  .simp only[S9]at Y
   rcases Y with z|z|z
   .exact .inl (O.subset (by simp[z]))
   .exact .inr z
   .exact .inl (O.subset (by simp[z]))
 |none=>
  simp only[gf,hj];have e:putK kvs k x=kvs++[(k,x)]:=jy hj;rw[e];refine⟨⟨by simp,?_⟩,by simp,M++N,by rw[Uy];exact Z.append (.one F),nd,λa Y=>S9.mp Y⟩;rw[Uy];exact Tu.mpr ⟨hn,by simp,λa h1 b h2 z=>by
   obtain rfl:b=k:=by simpa using h2
   exact yq hj (z▸h1)⟩
theorem rD{H:Hp}{W:Wn}:∀{es:List (Key×D)}{prs kvs:List (Key×V)}{ds:List D}{M N:List Addr},List.map (·.1) es=List.map (·.1) prs->aC G H W (List.map (·.2) es) (List.map (·.2) prs) N->aC G H W ds (List.map (·.2) kvs) M->(List.map (·.1) kvs).Nodup->(M++N).Nodup->
  (List.map (·.1) (putAll kvs prs)=(b_ (List.map (·.1) kvs) ds es).1/\(List.map (·.1) (putAll kvs prs)).Nodup)/\∃M',aC G H W (b_ (List.map (·.1) kvs) ds es).2 (List.map (·.2) (putAll kvs prs)) M'/\M'.Nodup/\∀a∈M',a∈M∨a∈N
 |[],prs,kvs,ds,M,N,hk,h1,h2,hn,nd=>by
  have:prs=[]:=by cases prs with
   |nil=>rfl
   |cons p r=>cases hk
  subst this;exact⟨⟨rfl,hn⟩,M,h2,(Tu.mp nd).1,λa Y=>.inl Y⟩
 |e::es,prs,kvs,ds,M,N,hk,h1,h2,hn,nd=>by
  cases prs with
  |nil=>cases hk
  |cons p prs=>
   obtain⟨x,ys,N1,N2,a2,rfl,F,a3⟩:=aC.inv h1;simp only[TF,ab_]at hk a2;obtain⟨rfl,rfl⟩:=a2;have a0:=Tu.mp nd;have a1:=Tu.mp a0.2.1;have a6:(M++N1).Nodup:=cA a0.1 a1.1 λa O B=>a0.2.2 a O a (by simp[B]) rfl;obtain⟨⟨q1,q2⟩,q,U,q4,I,q6⟩:=Ln (k:=p.1) h2 hn F a6;have a4:(U++N2).Nodup:=cA I a1.2.1 λa O B=>by
    rcases q6 a O with z|z
    .exact a0.2.2 a z a (by simp[B]) rfl
    .exact a1.2.2 a z a B rfl
   rw[←hk.1]at q1 q2 q4;have Z:=rD (es:=es) (prs:=prs) (kvs:=putK kvs e.1 p.2) hk.2 a3 q4 q2 a4;rw[q1]at Z;obtain⟨⟨r1,r2⟩,M',r3,r4,r5⟩:=Z;have a5:putAll kvs (p::prs)=putAll (putK kvs e.1 p.2) prs:=by rw[hk.1];rfl
   rw[a5];refine⟨⟨r1,r2⟩,M',r3,r4,λa Y=>?_⟩;rcases r5 a Y with z|z
   .exact(q6 a z).imp id λz=>by simp[z]
   .exact .inr (by simp[z])
theorem j5(P:D->Prop):∀{es:List (Key×D)}{ks:List Key}{ds:List D},(∀d∈ds,P d)->(∀p∈es,P p.2)->∀d∈(b_ ks ds es).2,P d
 |[],ks,ds,h1,h2=>h1
 |p::r,ks,ds,h1,h2=>by
  rw[b_];refine j5 P (λd hd=>?_) λq B=>h2 q (by simp[B]);unfold gf at hd;split at hd
  .rcases List.mem_or_eq_of_mem_set hd with z|z
   .exact h1 d z
   .rw[z];exact h2 p (by simp)
  .rcases S9.mp hd with z|z
   .exact h1 d z
   .obtain rfl:d=p.2:=by simpa using z
    exact h2 p (by simp)
def vK:List D->Option (List (Key×D))
 |[]=>some []
 |.tup [k,v]::r=>(cg k).bind λk=>(vK r).map λt=>(k,v)::t
 |_::_=>none
theorem xG:∀{ds:List D}{es:List (Key×D)},vK ds=some es->∀p∈es,∃k,cg k=some p.1/\D.tup [k,p.2]∈ds
 |[],es,h,p,hp=>by cases h;cases hp
 |d::r,es,h,p,hp=>by
  unfold vK at h;split at h
  .rename_i e;cases e
  .rename_i k v t e
   cases e;cases h1:cg k with
   |none=>simp[h1]at h
   |some N=>
    cases h2:vK r with
    |none=>simp[h1,h2]at h
    |some w=>
     obtain rfl:(N,v)::w=es:=by simpa[h1,h2]using h
     rcases Tf.mp hp with z|z
     .subst z;exact⟨k,h1,by simp⟩
     .obtain⟨k2,g1,g2⟩:=xG h2 p z
      exact⟨k2,g1,by simp[g2]⟩
  .cases h
theorem Hg{k:D}{U:Key}(h:cg k=some U)(r:Rep G H W k x L):L=[]:=by
 cases k<;>simp[cg]at h<;>rw[Rep]at r<;>exact r.2
theorem yU{H:Hp}{W:Wn}:∀{ds:List D}{es:List (Key×D)}{ys:List V}{N:List Addr},vK ds=some es->aC G H W ds ys N->∃prs:List (Key×V),List.map (·.1) es=List.map (·.1) prs/\aC G H W (List.map (·.2) es) (List.map (·.2) prs) N/\prs.length=ys.length/\∀(j:Nat)(k:Key)(v:V),prs[j]? =some (k,v)->∃p:Addr,ys[j]? =some (V.ref p)/\H p=some (.tup [kV k,v])
 |[],es,ys,N,h,r=>by
  cases h;obtain⟨rfl,rfl⟩:=r.inv0;exact⟨[],rfl,.nil,rfl,λj k v e=>by simp at e⟩
 |d::r,es,ys,N,h,rr=>by
  unfold vK at h;split at h
  .rename_i e;cases e
  .rename_i k v t e
   cases e;cases h1:cg k with
   |none=>simp[h1]at h
   |some k'=>
    cases h2:vK r with
    |none=>simp[h1,h2]at h
    |some w=>
     obtain rfl:(k',v)::w=es:=by simpa[h1,h2]using h
     obtain⟨x,zs,N1,O,rfl,rfl,F,hz⟩:=rr.inv;obtain⟨prs,q,g2,z,Z⟩:=yU h2 hz;rw[Rep]at F;obtain⟨a,xs,rfl,U,a1⟩:=F;obtain⟨y1,I,A,B,rfl,rfl,Y,a0⟩:=a1.inv2;have hA:=Hg h1 Y;subst hA;have:=gH Y h1;subst this;refine⟨(k',I)::prs,by simp[q],.cons a0 g2,by simp[z],λj k v e=>?_⟩;cases j with
     |zero=>
      simp at e;obtain⟨rfl,rfl⟩:=e;exact⟨a,rfl,U⟩
     |succ j=>exact Z j k v (by simpa using e)
  .cases h
theorem b7.at2{F:Addr->HO->Prop}(h:b7 F H W a o m L M)(N:(m== .scr)=false):H a=some o:=h.at (by intro z;rw[z]at N;cases N)
def iM:D->List D->Option (D×D)
 |.dct .own ks ds,[.lst m es]=>if(m== .scr)=false/\ks.length+es.length<=50000 then(vK es).map λps=>(.dct .own (b_ ks ds ps).1 (b_ ks ds ps).2,.non)else none
 |.dct .own ks ds,[.dct m ks2 es]=>if(m== .scr)=false/\ks.length+ks2.length<=50000 then some (.dct .own (b_ ks ds (ks2.zip es)).1 (b_ ks ds (ks2.zip es)).2,.non)else none
 |_,_=>none
theorem Dv(h1:au ds=true)(h2:az ds=true):clean (.dct .own ks ds)=true:=by simp[clean,aB,aA,h1,h2]
theorem yF{prs:List (Key×V)}{es:List (Key×D)}{M0 N N0:List Addr}(I:List.map (·.1) es=List.map (·.1) prs)(h1:aC G H W (List.map (·.2) es) (List.map (·.2) prs) N)(hs:∀b∈N,b∈N0)(Z:aC G H W ds (List.map (·.2) kvs) M0)(hn:(List.map (·.1) kvs).Nodup)(a3:N.Nodup)(nd:((a::M0)++N0).Nodup)
  (O:au ds=true/\az ds=true) (ce:∀p∈es,aB p.2=true/\aA p.2=true)
  (q:∀x H' M' R,(∀b u,H b=some u->b∉a::M0->H' b=some u)->(∀W',Evo H H' W W'->Rep G H' W' (.dct .own (b_ (List.map (·.1) kvs) ds es).1 (b_ (List.map (·.1) kvs) ds es).2) (.ref a) M'/\Rep G H' W' .non x R)->(M'++R).Nodup->(∀b∈M'++R,b∈a::M0∨b∈N0∨H b=none)->clean (.dct .own (b_ (List.map (·.1) kvs) ds es).1 (b_ (List.map (·.1) kvs) ds es).2)=true->clean .non=true->Q x H'):Q .non (upd H a (.dK (putAll kvs prs))):=by
 have a0:=Tu.mp nd;have a1:=T5.mp a0.1;have Y:(M0++N).Nodup:=cA a1.2 a3 λb z1 B=>a0.2.2 b (T7 _ z1) b (hs b B) rfl;obtain⟨⟨p1,p2⟩,M',p3,p4,p5⟩:=rD I h1 Z hn Y;have a2:a∉M':=λz=>(p5 a z).elim a1.1 λz=>a0.2.2 a (by simp) a (hs a z) rfl;have k1:au (b_ (List.map (·.1) kvs) ds es).2=true:=cF (j5 (λd=>aB d=true) (gq O.1) λp hp=>(ce p hp).1);have k2:az (b_ (List.map (·.1) kvs) ds es).2=true:=cI (j5 (λd=>aA d=true) (gF O.2) λp hp=>(ce p hp).2);refine q .non _ (a::M') [] (λb u U n=>by rw[aH (show b≠a from λz=>n (by rw[z];simp))];exact U) (λW' ev=>⟨?_,jd⟩) (by rw[T3];exact T5.mpr ⟨a2,p4⟩) (λb U=>?_) (Dv k1 k2) rfl
 .rw[Rep]
  refine⟨a,putAll kvs prs,M',rfl,⟨p1,p1▸p2⟩,p3.mono ev (.inl k1) (.inl k2) λc O u F=>?_,aM,rfl⟩;rw[aH (show c≠a from λz=>a2 (z▸O))];exact F
 .rw[T3]at U
  rcases Tf.mp U with z|z
  .exact .inl (by simp[z])
  .exact(p5 b z).imp (λz=>T7 _ z) λz=>.inl (hs b z)
theorem Jp(h:ks.length=ds.length):List.map (·.1) (ks.zip ds)=ks:=ab1 (by omega)
theorem J8(h:ks.length=ds.length):List.map (·.2) (ks.zip ds)=ds:=ab2 (by omega)
theorem Aq:MuV G Bf iM:=λd es d' res h v xs H W M N r re nd hM O c1 c2 Q q=>by
 unfold iM at h;split at h
 .rename_i ks ds m es
  split at h
  .rename_i hm
   cases h1:vK es with
   |none=>simp[h1]at h
   |some ps=>
    obtain⟨rfl,rfl⟩:D.dct .own (b_ ks ds ps).1 (b_ ks ds ps).2=d'/\D.non=res:=by simpa[h1]using h
    rw[Rep]at r;obtain⟨a,kvs,M0,rfl,⟨rfl,F⟩,Z,Y,rfl⟩:=r;obtain⟨x,rfl,rx⟩:=re.inv1;rw[Rep]at rx;obtain⟨b,ys,N1,rfl,V,hs⟩:=rx;obtain⟨prs,g1,g2,g3,g4⟩:=yU h1 V;have kc:au ds=true/\az ds=true:=by simp[clean,aB,aA]at O;exact O
    have ke:au es=true/\az es=true:=by simp[au,az,aB,aA]at c1 c2;exact⟨c1.2,c2.2⟩
    have I:=Tu.mp nd;refine⟨a,kvs,rfl,Y,.inl ⟨b,ys,prs,rfl,hs.at2 hm.1,g3,by rw[g3,←V.length];simpa using hm.2,g4,yF g1 g2 (λc O=>hs.sub.subset O) Z F (hs.sub.nodup I.2.1) nd kc (λp hp=>?_) q⟩⟩;obtain⟨k,_,a0⟩:=xG h1 p hp;have z1:=gq ke.1 _ a0;have B:=gF ke.2 _ a0;simp[aB,aA,au,az]at z1 B;exact⟨z1.2,B.2⟩
  .cases h
 .rename_i ks ds m ks2 es
  split at h
  .rename_i hm
   cases h;rw[Rep]at r;obtain⟨a,kvs,M0,rfl,⟨rfl,F⟩,Z,Y,rfl⟩:=r;obtain⟨x,rfl,rx⟩:=re.inv1;rw[Rep]at rx;obtain⟨b,more,N1,rfl,⟨rfl,a3⟩,V,hs⟩:=rx;have kc:au ds=true/\az ds=true:=by simp[clean,aB,aA]at O;exact O
   have ke:au es=true/\az es=true:=by simp[au,az,aB,aA]at c1 c2;exact⟨c1.2,c2.2⟩
   have a1:(List.map (·.1) more).length=es.length:=by rw[V.length];simp
   have U:H b=some (.dK more):=hs.at2 hm.1;have I:=Tu.mp nd;have a2:b≠a:=by
    cases m with
    |own=>exact λz=>I.2.2 a (by simp) a (by rw[hs.2,z];simp) rfl
    |frz=>exact λz=>hM a (by simp) (z▸hs.2.1)
    |brw=>simp[au,aB]at c1
    |bro=>simp[az,aA]at c2
    |scr=>exact absurd hm.1 (by decide)
   refine⟨a,kvs,rfl,Y,.inr ⟨b,more,rfl,a2,U,by simpa using hm.2,yF (es:=(List.map (·.1) more).zip es) (Jp a1) (by rw[J8 a1];exact V) (λc O=>hs.sub.subset O) Z F (hs.sub.nodup I.2.1) nd kc (λp hp=>?_) q⟩⟩;have a0:=(Zb hp).2;exact⟨gq ke.1 _ a0,gF ke.2 _ a0⟩
  .cases h
 .cases h
theorem Pz{op:D->List D->Option (D×D)}(z:T="dict")(h:∀d es q,op d es=some q->∃ks ds,d= .dct .own ks ds):Ao G T op:=λd es q e v H W L r=>by
 obtain⟨ks,ds,rfl⟩:=h d es q e;rw[Rep]at r;obtain⟨a,xs,M,rfl,I,Z,hs⟩:=r;exact .inr (.inr (.inl ⟨z,.inl ⟨_,hs.1⟩⟩))
theorem A_(O:∀c,(X c).calm=true):MuB X G "dict" "dict.update" iM:=⟨_,λc=>Dg (O c),Aq,Pz rfl λd es q e=>by
 unfold iM at e;split at e
 .exact⟨_,_,rfl⟩
 .exact⟨_,_,rfl⟩
 .cases e⟩
def eMt(g:D->List D->Option D)(z:En->Option D)(f:En->Option (List D)):En->Option D:=λρ=>(z ρ).bind λx=>(f ρ).bind λds=>g x ds
theorem Gw{id:String}{V:Str}{g:D->List D->Option D}{o:Expr}{I:En->Option D}{f:En->Option (List D)}(m:MtB X G T id g)(Z:Z0 T)(slot:Slot T V id)(F:typeOf (.builtin id)=pure (.type "method_descriptor"))(B:PV X G ob o I)(Y:PVA X G ob (e::es) f)(q:∀c,Wz o V (X c).env (eval o (X c).env)=eval o (X c).env:=by intro _;rfl)(O:∀c,((Vf cpos (Tj (e::es) (X c).env)).all (λx=>!x.1)&&(Yh cpos (W8 [] (X c).env)).all (λx=>x.1.isSome)
  &&decide ((e::es).length+([]:List Wd).length+(if([]:List Wd).isEmpty then 0 else 1)<30))=true:=by intro _;rfl) (N:(apos.endLine==cpos.line)=true:=by rfl) (hs:∀c,Tj (e::es) (X c).env=(false,eval e (X c).env)::Tj es (X c).env:=by intro _;rfl) (U:∀c,(Vf cpos (Tj es (X c).env)).any (·.1)=false:=by intro _;rfl) (z:∀c,(X c).K=G.K:=by intro _;rfl) :
 PV X G ob (.Call (.Attribute o V apos) (e::es) [] cpos) (eMt g I f):=let⟨r,m1,m2,m3⟩:=m.ex;let⟨t,a1,a2⟩:=B.ex;let⟨u,b1,b2⟩:=Y.ex;⟨_,λc=>(by rw[←z c];exact uC Z slot F (m1 c) (a1 c) (b1 c) (q c) (O c) N (hs c) (U c)),RP m2 m3 a2 b2⟩
def vm(a b:Str):Option (List Str):=
 if(decide (a.length<b.length)||decide (X4 a<X4 b))=false/\(b.length==0)=false/\(Vk a b 0 a.length (a.length+1)).isEmpty=false/\a.length<=Te/\(Yj a (Vk a b 0 a.length (a.length+1)) b.length).length<=Te
 then some (Yj a (Vk a b 0 a.length (a.length+1)) b.length)else none
def q_:D->List D->Option D
 |.str a,[.str b]=>(vm a b).map λl=>.lst .own (l.map D.str)
 |_,_=>none
theorem yG:∀l:List Str,aC G H W (l.map D.str) (l.map V.str) []
 |[]=>.nil
 |x::r=>aC.cons (M:=[]) (M':=[]) (by rw[Rep];exact⟨rfl,rfl⟩) (yG r)
theorem EY:MtB X G "str" "str.split" q_:=⟨_,λc=>HJ,λdx ds d e x xs H W I O rx r nd hn w Q q=>(by
 unfold q_ at e;split at e
 .rename_i a b
  cases h1:vm a b with
  |none=>simp[h1]at e
  |some l=>
   obtain rfl:D.lst .own (l.map D.str)=d:=by simpa[h1]using e
   obtain⟨y,rfl,z⟩:=r.inv1;obtain⟨rfl,rfl⟩:=bC rx;obtain⟨rfl,rfl⟩:=bC z;unfold vm at h1;split at h1
   .rename_i hh
    cases h1;refine⟨a,b,_,rfl,rfl,hh.1,hh.2.1,hh.2.2.1,hh.2.2.2.1,rfl,hh.2.2.2.2,λp N=>?_⟩;refine q (.ref p) _ [p] (Same.new N) ?_ (λa Y=>.inr (by rw[show a=p by simpa using Y];exact N)) (by simp);rw[Rep];exact⟨p,_,[],rfl,yG _,aM,rfl⟩
   .cases h1
 .cases e),λdx ds d e x H W I rx=>by
 unfold q_ at e;split at e
 .obtain⟨rfl,rfl⟩:=bC rx
  exact rfl
 .cases e⟩
def pB:D->List D->Option D
 |.dct m ks ds,[k]=>if m= .scr then none else(cg k).bind λk=>match cu ks k with
  |some j=>ds[j]?
  |none=>some .non
 |.dct m ks ds,[k,x]=>if m= .scr then none else(cg k).bind λk=>match cu ks k with
  |some j=>ds[j]?
  |none=>some x
 |_,_=>none
def QF:V->List V->Hp->VK->Prop:=λx vs H Q=>∃a o y,x= .ref a/\ou H a y o/\(vs=[y]/\Q (o.getD .non) H∨∃z,vs=[y,z]/\Q (o.getD z) H)
theorem Ib(F:Y.A.units+1<cLine):MtR Y "dict.get" QF:=λpins s σ H x vs v us Q I rx U h=>by
 obtain⟨a,o,y,rfl,g,h⟩:=h;cases rx;rcases h with⟨rfl,q⟩|⟨z,rfl,q⟩
 .obtain⟨u,rfl,O⟩:=vals1 U
  exact O3 F I g O λZ s3 I3 B=>⟨_,H,I3,B,q⟩
 .cases U with
  |cons N U=>
   obtain⟨u,rfl,O⟩:=vals1 U;exact M9 F I g N O λZ s4 V B=>⟨_,H,V,B,q⟩
theorem B_(F:∀c,(X c).A.units+1<cLine):MtB X G "dict" "dict.get" pB:=⟨_,λc=>Ib (F c),λdx ds d e x xs H W Lx L0 rx r nd hn w Q q=>(by
 have a0:∀{m:Mk}{ks:List Key}{es:List D}{k:D}{U:Key}{y:V}{Ly:List Addr},m≠.scr->Rep G H W (.dct m ks es) x Lx->cg k=some U->Rep G H W k y Ly->∃a kvs M,x= .ref a/\H a=some (.dK kvs)/\ou H a y (gw kvs U)/\List.map (·.1) kvs=ks/\aC G H W es (List.map (·.2) kvs) M/\Vs M Lx:=λ{m ks es k U y Ly} N rx I ry=>by
  rw[Rep]at rx;obtain⟨a,kvs,M,rfl,⟨rfl,a1⟩,Z,hs⟩:=rx;have:=gH ry I;subst this;exact⟨a,kvs,M,rfl,hs.at N,.inl ⟨kvs,U,hs.rdD,rfl,rfl⟩,rfl,Z,hs.sub⟩
 unfold pB at e;split at e
 .rename_i m ks es k
  split at e
  .cases e
  .rename_i N
   cases I:cg k with
   |none=>simp[I]at e
   |some U=>
    obtain⟨y,rfl,ry⟩:=r.inv1;obtain⟨a,kvs,M,rfl,Y,g,rfl,Z,sub⟩:=a0 N rx I ry;refine⟨a,_,y,rfl,g,.inl ⟨rfl,?_⟩⟩;simp only[I,S8]at e;cases hj:cu (List.map (·.1) kvs) U with
    |none=>
     simp only[hj]at e;cases e;rw[iu hj];exact q.scal λ_=>jd
    |some j=>
     simp only[hj]at e;obtain⟨v,M',h1,h2,O⟩:=Z.get e;rw[eQ hj,h1];exact fB h2 (O.trans (sub.trans (V5 _ _))) nd hn q
 .rename_i m ks es k x0
  split at e
  .cases e
  .rename_i N
   cases I:cg k with
   |none=>simp[I]at e
   |some U=>
    obtain⟨y,z,A,B,rfl,rfl,ry,rz⟩:=r.inv2;obtain⟨a,kvs,M,rfl,Y,g,rfl,Z,sub⟩:=a0 N rx I ry;refine⟨a,_,y,rfl,g,.inr ⟨z,rfl,?_⟩⟩;simp only[I,S8]at e;cases hj:cu (List.map (·.1) kvs) U with
    |none=>
     simp only[hj]at e;cases e;rw[iu hj];exact fB rz ((UV _ _).trans (UV _ _)) nd hn q
    |some j=>
     simp only[hj]at e;obtain⟨v,M',h1,h2,O⟩:=Z.get e;rw[eQ hj,h1];exact fB h2 (O.trans (sub.trans (V5 _ _))) nd hn q
 .cases e),λdx ds d e x H W Lx rx=>by
 have a0:∀{m:Mk}{ks:List Key}{es:List D},m≠.scr->Rep G H W (.dct m ks es) x Lx->tyV G.K "dict" x H:=λ{m ks es} N rx=>by
  rw[Rep]at rx;obtain⟨a,kvs,M,rfl,I,Z,hs⟩:=rx;exact .inr (.inr (.inl ⟨rfl,.inl ⟨_,hs.at N⟩⟩))
 unfold pB at e;split at e
 .split at e
  .cases e
  .exact a0 ‹_› rx
 .split at e
  .cases e
  .exact a0 ‹_› rx
 .cases e⟩
def RfO(G:Gc)(ob:Nat->Bool)(t:TO)(f:En->Option (Option Int)):Prop:=∀(ρ:En)(o:Option Int),f ρ=some o->∀(σ:L2.St)(H:Hp)(W:Wn),Rel G H W ob ρ σ->WOk H W->∀Q:Option Int->Hp->Prop,(∀H',Same H H'->Q o H')->t σ H Q
structure PVO{ι:Type}(X:ι->Cx)(G:Gc)(ob:Nat->Bool)(e:Option Expr)(f:En->Option (Option Int)):Prop where
 mk::(ex:∃t,(∀c,PO (X c) e t)/\RfO G ob t f)
def uw:En->Option (Option Int):=λ_=>some none
def sY(f:En->Option D):En->Option (Option Int):=λρ=>(f ρ).bind λd=>match d with
 |.int i=>some (some i)
 |_=>none
theorem mW:PVO X G ob none uw:=⟨_,λc=>Ka,λρ o e σ H W F w Q q=>by cases e;exact q H (Same.refl H)⟩
theorem nH{f:En->Option D}(h:PV X G ob e f):PVO X G ob (some e) (sY f):=let⟨t,a1,a2⟩:=h.ex;⟨_,λc=>JD (a1 c),λρ o e σ H W F w Q q=>by
 unfold sY at e;cases h1:f ρ with
 |none=>simp[h1]at e
 |some d=>
  rw[h1]at e;simp only[S8]at e;split at e
  .cases e
   refine a2 ρ _ h1 σ H W F w _ λv H' L s r V nd=>?_;obtain⟨rfl,rfl⟩:=aP r;exact⟨_,rfl,q H' s⟩
  .cases e⟩
def SlV(G:Gc)(r:V->Option Int->Option Int->Hp->VK->Prop)(g:D->Option Int->Option Int->Option D):Prop:=∀(dx:D)(lo hi:Option Int)(d:D),g dx lo hi=some d->∀(x:V)(H:Hp)(W:Wn)(I:List Addr),Rep G H W dx x I->I.Nodup->(∀a∈I,W.tmp a)->WOk H W->∀Q:VK,Done G H W I d Q->r x lo hi H Q
structure SlB{ι:Type}(X:ι->Cx)(G:Gc)(g:D->Option Int->Option Int->Option D):Prop where
 ex:∃r,(∀c,SlR (X c) r)/\SlV G r g
def JH(g:D->Option Int->Option Int->Option D)(f:En->Option D)(z F:En->Option (Option Int)):En->Option D:=λρ=>(f ρ).bind λx=>(z ρ).bind λl=>(F ρ).bind λh=>g x l h
def CG(g:D->Option Int->Option Int->Option D)(f:En->Option (D×En))(z F:En->Option (Option Int)):En->Option (D×En):=λρ=>(f ρ).bind λp=>(z p.2).bind λl=>(F p.2).bind λh=>(g p.1 l h).map λd=>(d,p.2)
variable{g:D->Option Int->Option Int->Option D}
theorem QQ{r:V->Option Int->Option Int->Hp->VK->Prop}{tl th:TO}{f:En->Option D}{fl fh:En->Option (Option Int)}(B:SlV G r g)(h:RfE G ob te f)(hl:RfO G ob tl fl)(N:RfO G ob th fh):RfE G ob (tSl r te tl th) (JH g f fl fh):=λρ d e σ H W F w Q q=>by
 unfold JH at e;cases h1:f ρ with
 |none=>simp[h1]at e
 |some x=>
  cases h2:fl ρ with
  |none=>simp[h1,h2]at e
  |some l=>
   cases O:fh ρ with
   |none=>simp[h1,h2,O]at e
   |some u=>
    have e:g x l u=some d:=by simpa[h1,h2,O]using e
    refine h ρ x h1 σ H W F w _ λv H1 L Z r1 fr nd=>?_;have u1:Up H H1 W (W.add L):=.add Z fr;have w1:WOk H1 (W.add L):=w.add Z r1.dom;refine hl ρ l h2 σ H1 _ (F.up u1) w1 _ λH2 s2=>?_;have u2:Up H1 H2 (W.add L) (W.add L):=.same s2;have w2:WOk H2 (W.add L):=λa Y=>let⟨o,B,hm⟩:=w1 a Y;⟨o,s2 a o B,hm⟩;refine N ρ u O σ H2 _ ((F.up u1).up u2) w2 _ λH3 s3=>?_;have u3:Up H2 H3 (W.add L) (W.add L):=.same s3;have w3:WOk H3 (W.add L):=λa Y=>let⟨o,B,hm⟩:=w2 a Y;⟨o,s3 a o B,hm⟩;have ss:=(Z.trans s2).trans s3;refine B x l u d e v H3 _ L ((r1.up u2).up u3) nd (w.tmp fr) w3 Q λv' I L4 s4 r4 f4 n4=>?_;refine q v' I L4 (ss.trans s4) ?_ (λa Y=>(f4 a Y).elim (fr a) λz=>ss.none' z) n4;exact r4.up ⟨Same.refl _,λb u U f=>⟨λz=>z.elim (λz=>f.1 (.inl z)) λz=>f.1 (.inr ⟨.inr z,WOk.new w fr z⟩),f.2⟩,λ_ _ _ f=>f⟩
def cutD(ds:List D)(lo hi:Option Int):List D:=(ds.drop (HT.sIx ds.length 0 lo)).take (HT.sIx ds.length ds.length hi-HT.sIx ds.length 0 lo)
def gSl:D->Option Int->Option Int->Option D
 |.lst _ ds,lo,hi=>some (.lst .own (cutD ds lo hi))
 |.tup ds,lo,hi=>some (.tup (cutD ds lo hi))
 |_,_,_=>none
theorem aC.cut(h:aC G H W ds xs L)(lo hi:Option Int):∃M,aC G H W (cutD ds lo hi) (rP xs lo hi) M/\Vs M L:=by
 unfold cutD rP;rw[h.length];obtain⟨A,B,_,h2,rfl⟩:=h.takeDrop (HT.sIx xs.length 0 lo);obtain⟨q,Z,O,_,rfl⟩:=h2.takeDrop (HT.sIx xs.length xs.length hi-HT.sIx xs.length 0 lo);exact⟨q,O,(V5 q Z).trans (UV A _)⟩
theorem slb(z:∀c,(X c).K=G.K:=by intro _;rfl):SlB X G gSl:=⟨λx lo hi H Q=>R1 G.K x lo hi H Q∨Qi G.K x lo hi H Q,λc=>by rw[←z c];exact SlR.or Jz Np,λdx lo hi d e x H W I rx nd hn w Q q=>by
 unfold gSl at e;split at e
 .cases e
  rw[Rep]at rx;obtain⟨a,xs,M,rfl,Z,hs⟩:=rx;obtain⟨M',h1,h2⟩:=Z.cut lo hi;exact .inl ⟨a,xs,rfl,hs.sq,λp N=>pL h1 (h2.trans hs.sub) nd hn N q⟩
 .rename_i ds
  cases e;have F:=rx;rw[Rep]at rx;obtain⟨a,xs,rfl,U,Z⟩:=rx;obtain⟨M',h1,h2⟩:=Z.cut lo hi;refine .inr ⟨a,xs,rfl,SqT.of U,λB=>?_,λp N=>uJ h1 h2 nd hn N q⟩;rw[B]at h1;refine fB (d:=.tup (cutD ds lo hi)) (x:=.ref a) (M:=M') ?_ h2 nd hn q;rw[Rep];exact⟨a,xs,rfl,U,h1⟩
 .cases e⟩
def eSl:=JH gSl
def R4:=CG gSl
theorem nu{lo hi:Option Expr}{f:En->Option D}{z F:En->Option (Option Int)}(o:SlB X G gSl)(h:PV X G ob e f)(Y:PVO X G ob lo z)(N:PVO X G ob hi F):PV X G ob (.Subscript e (.Slice lo hi none p2) pos) (eSl f z F):=let⟨r,o1,o2⟩:=o.ex;let⟨t,a1,a2⟩:=h.ex;let⟨u,b1,b2⟩:=Y.ex;let⟨v,c1,c2⟩:=N.ex;⟨_,λc=>Jl (o1 c) (a1 c) (b1 c) (c1 c),QQ o2 a2 b2 c2⟩
def inK(S:List Key)(k:Key):Bool:=S.any λx=>decide (x=k)
def pD(S:List Key)(k:Key):List Key:=if inK S k then S else S++[k]
def wU(ks:List Key):List Key:=ks.foldl pD []
variable{S:List Key}
theorem lD:inK S k=true↔k∈S:=by
 unfold inK;rw[XM];constructor
 .rintro⟨x,h1,h2⟩
  rw[←of_decide_eq_true h2];exact h1
 .exact λh=>⟨k,h,by simp⟩
theorem K6{x:Key}:inK (pD S k) x=(inK S x||decide (x=k)):=by
 rw[Zf,X6,lD,lD,decide_eq_true_iff];unfold pD;split
 .rename_i h
  rw[lD]at h;exact⟨.inl,λz=>z.elim id λz=>by rw[z];exact h⟩
 .simp
theorem xZ:(pD S k).length=if inK S k then S.length else S.length+1:=by
 unfold pD;split<;>simp
theorem GD{P:Uj}{w:World}(r:RelV (kV k) u):u.scannable=true:=by
 cases k with
 |inl i=>obtain⟨t,rfl⟩:=r;rfl
 |inr x=>obtain⟨t,rfl⟩:=r;rfl
abbrev lN(q:Bool):Obj:={cls:=.type "set",dict:=none,data:=.set #[] 0 (.fresh 0 0 q)}
def nF:D->D->Option D
 |.lst _ ds,.int i=>if i= -1 then some (.lst .own ds.reverse)else none
 |.tup ds,.int i=>if i= -1 then some (.tup ds.reverse)else if i=1 then some (.tup ds)else none
 |_,_=>none
theorem Hl{x:Str}:Rep G H W (.str x) (.str x) []:=by rw[Rep];exact⟨rfl,rfl⟩
def R5(g:Int->Int->Int)(i:Nat)(f:En->Option D):En->Option Fl:=λρ=>match ρ[i]? with
 |some (some (.int m))=>(f ρ).bind λd=>match d with
  |.int n=>some (.nx (ρ.set i (some (.int (g m n)))))
  |_=>none
 |_=>none
def PK(G:Gc)(ob:Nat->Bool)(wi:TI)(f:En->Option (List D×En)):Prop:=∀(ρ:En)(items:List D)(I:En),f ρ=some (items,I)->∀(σ:L2.St)(H:Hp)(S:Ad)(Fr:Addr->Prop),Sta G H ob ρ σ S Fr->∀R:It->Hp->Prop,
 (∀J H' S',Sta G H' ob I σ S' Fr->Eff ob H H' S S' []->Wk G J (LtB true H' (wn ob S' Fr)) items->R J H')->wi σ H R
variable{c:Expr}
structure Rq{ι:Type}(X:ι->Cx)(G:Gc)(ob:Nat->Bool)(tg it:Expr)(f:En->Option (List D×En)):Prop where
 mk::(ex:∃t,(∀c,PI (X c) tg it t)/\PK G ob t f)
def vh(f:En->Option (List D×En)):En->Option (List D×En):=λρ=>(f ρ).bind λp=>match p.1 with
 |[.int j]=>if -(2 ^ 62)<=j/\j<2 ^ 62 then some (h_ 0 j.toNat,p.2)else none
 |_=>none
theorem Lp{t:TA}(h:ye G ob t f):PK G ob (Gh t) (vh f):=λρ items I e σ H S Fr s R q=>by
 unfold vh at e;cases h1:f ρ with
 |none=>simp[h1]at e
 |some p=>
  obtain⟨ds,ρ1⟩:=p;rw[h1]at e;simp only[S8]at e;split at e
  .rename_i j
   split at e
   .rename_i hj
    obtain⟨rfl,rfl⟩:h_ 0 j.toNat=items/\ρ1=I:=by simpa using e
    refine h ρ _ _ h1 σ H S Fr s _ λxs H' L S' s' rx nd U=>?_;obtain⟨x,rfl,F⟩:=rx.inv1;obtain⟨rfl,rfl⟩:=aP F;rw[iB]at s';exact⟨j,rfl,by omega,by omega,q _ H' S' s' U Hw⟩
   .cases e
  .cases e
def u_(it:En->Option (List D×En))(tg:D->En->Option En)(B:En->Option Fl):En->Option Fl:=λρ=>(it ρ).bind λp=>forL tg B p.1 p.2
variable{it:En->Option (List D×En)}
theorem Hn{g:TG}(hi:PK G ob wi it)(hg:RfG G ob P g tg)(U:RfS G ob P tb B):RfS G ob P (Kd wi g tb) (u_ it tg B):=λρ0 r e σ H0 S0 Fr s0 E q=>by
 unfold u_ at e;cases h1:it ρ0 with
 |none=>simp[h1]at e
 |some p=>
  obtain⟨items,ρ⟩:=p;have e:forL tg B items ρ=some r:=by simpa[h1]using e
  refine hi ρ0 items ρ h1 σ H0 S0 Fr s0 _ λJ H1 S Z ef wk=>?_;have m1:Mv P H0 H1 σ σ S0 S []:=ef.mv;have q1:=q.from m1;have a0:∀{ρ2:En}{σ2:L2.St}{H2:Hp}{S2:Ad},Mv P H1 H2 σ σ2 S S2 []->LtB true H1 (wn ob S Fr) H2 (wn ob S2 Fr):=λm=>qy (Aj Z m);refine⟨λi m σ2 H2=>i+m=items.length/\∃ρ2 S2,Sta G H2 ob ρ2 σ2 S2 Fr/\Mv P H1 H2 σ σ2 S S2 []/\forL tg B (items.drop i) ρ2=some r,⟨items.length,by omega,ρ,S,Z,.refl,e⟩,?_⟩;rintro i m σ2 H2 ⟨a6,ρ2,S2,s2,m2,e2⟩;by_cases a2:i<items.length
  .refine .inr ⟨wk.go i items[i] (by simp[a2]) H2 _ (a0 (ρ2:=ρ2) m2),λF H'=>(i+1)+(m-1)=items.length/\∃ρ2 S2,Sta G H' ob ρ2 F S2 Fr/\Mv P H1 H' σ F S S2 []/\forL tg B (items.drop (i+1)) ρ2=some r,λF H' h=>⟨m-1,by omega,h⟩,λx Y V=>?_⟩
   obtain⟨N,rx⟩:=wk.yld i items[i] (by simp[a2]) H2 _ (a0 (ρ2:=ρ2) m2) x Y V;rw[←VG a2,forL]at e2;cases O:tg items[i] ρ2 with
   |none=>simp[O]at e2
   |some a3=>
    rw[O]at e2;simp only[S8]at e2;have a5:Sta G Y ob ρ2 σ2 S2 Fr:=s2.grow N λa z=>.inl z;refine hg items[i] ρ2 a3 O x σ2 Y S2 [] Fr (by rw[iB];exact a5) (by rw[iB];exact rx) List.nodup_nil (by simp) _ λa4 H4 S4 s4 m4=>?_;have a1:Mv P H1 H4 σ a4 S S4 []:=(m2.trans (S2:=S2) ⟨λb u h _ _=>N b u h,λi a z=>.inl ⟨i,z⟩,.refl⟩).trans m4;cases h5:B a3 with
    |none=>rw[h5]at e2;cases e2
    |some fl=>
     rw[h5]at e2;refine U a3 fl h5 a4 H4 S4 Fr s4 _ ?_;cases fl with
     |nx I=>exact λF H' S' s' m'=>⟨by omega,I,S',s',a1.trans m',e2⟩
     |cnt I=>exact λF H' S' s' m'=>⟨by omega,I,S',s',a1.trans m',e2⟩
     |brk I=>cases e2;exact λF H' S' s' m'=>q1 F H' S' s' (a1.trans m')
     |ret d I=>cases e2;exact q1.from a1
  .have hl:i=items.length:=by omega
   rw[hl,Wb,forL]at e2;cases e2;subst hl;exact .inl ⟨wk.stop H2 _ (a0 (ρ2:=ρ2) m2),q1 σ2 H2 S2 s2 m2⟩
theorem xH{tg iter:Expr}{B:List Stmt}{g:D->En->Option En}{f:En->Option Fl}(N:∀c,Zw (model (X c).prog (X c).w) (X c).A (X c).env (X c).xe)(O:∀c,(X c).calm=true)(hi:Rq X G ob tg iter it)(q:PVG X G ob P tg g)(U:oE X G ob P B f)(hs:∀c,∀x,VJ iter (X c).env x=pure x:=by intro _;intro _;rfl):PVS X G ob P (.For tg iter B [] pos) (u_ it g f):=let⟨v,c1,c2⟩:=hi.ex;let⟨t,a1,a2⟩:=q.ex;let⟨u,b1,b2⟩:=U.ex;⟨_,λc=>zW (N c) (O c) (c1 c) (a1 c) (b1 c) (hs c),Hn c2 a2 b2⟩
theorem Cw{tg a:Expr}{p:Pos}(q:∀c,Gl (X c) "range")(N:∀c,(X c).mg "range"=none)(Y:rm X G ob [a] f)(hs:∀c,Tj [a] (X c).env=[(false,eval a (X c).env)]:=by intro _;rfl):Rq X G ob tg (.Call (.Name "range" p) [a] [] pos) (vh f):=let⟨t,a1,a2⟩:=Y.ex;⟨_,λc=>uF (q c) (N c) (a1 c) (hs c),Lp a2⟩
def Rt(own:Nat->Bool)(cap:List (Option Nat)):Bool:=(Ue cap.length).all λi=>!own i||(match cap[i]? with
 |some none=>true
 |_=>false)
theorem qO{own:Nat->Bool}{cap:List (Option Nat)}(h:Rt own cap=true):∀i:Nat,own i=true->cap[i]?≠none->cap[i]? =some none:=λi B hn=>by
 have hi:i<cap.length:=by
  by_cases z:i<cap.length
  .exact z
  .exact absurd (We (by omega)) hn
 have:=aaa.mp h i (VD.mpr hi);rw[B]at this;simp only[aa8,Bool.false_or]at this;split at this
 .assumption
 .cases this
def Ko(cap:List (Option Nat)):Bool:=(Ue cap.length).all λi=>(Ue cap.length).all λk=>match cap[i]?,cap[k]? with
 |some (some a),some (some b)=>!(a==b)||i==k
 |_,_=>true
theorem J4{cap:List (Option Nat)}(h:Ko cap=true):mO cap:=λi k j h1 h2=>by
 have hi:i<cap.length:=(List.getElem?_eq_some_iff.mp h1).1;have I:k<cap.length:=(List.getElem?_eq_some_iff.mp h2).1;have:=aaa.mp (aaa.mp h i (VD.mpr hi)) k (VD.mpr I);rw[h1,h2]at this;simpa using this
def KpS(i:Nat)(f:En->Option (α×En)):Prop:=∀ρ q,f ρ=some q->q.2[i]? =ρ[i]?
variable{i:Nat}
theorem PJ{f:En->Option D}:KpS i (eUp f):=λρ q h=>by
 unfold eUp at h;cases e:f ρ with
 |none=>simp[e]at h
 |some d=>
  obtain rfl:(d,ρ)=q:=by simpa[e]using h
  rfl
theorem JB{f:En->Option (List D)}:KpS i (cU f):=λρ q h=>by
 unfold cU at h;cases e:f ρ with
 |none=>simp[e]at h
 |some d=>
  obtain rfl:(d,ρ)=q:=by simpa[e]using h
  rfl
theorem Io{f:En->Option (D×En)}{g:En->Option (List D×En)}(h1:KpS i f)(h2:KpS i g):KpS i (bT f g):=λρ q h=>by
 unfold bT at h;cases e1:f ρ with
 |none=>simp[e1]at h
 |some p=>
  cases e2:g p.2 with
  |none=>simp[e1,e2]at h
  |some r=>
   rw[e1]at h;simp only[S8,e2]at h;split at h
   .cases h
    exact(h2 _ _ e2).trans (h1 _ _ e1)
   .cases h
theorem Px{g:List D->Option D}(h1:KpS i f):KpS i (oM g f):=λρ q h=>by
 unfold oM at h;cases e1:f ρ with
 |none=>simp[e1]at h
 |some p=>
  cases e2:g p.1 with
  |none=>simp[e1,e2]at h
  |some r=>
   obtain rfl:(r,p.2)=q:=by simpa[e1,e2]using h
   exact h1 ρ p e1
theorem Ry{g:D->D->Option D}{f z:En->Option (D×En)}(h1:KpS i f)(h2:KpS i z):KpS i (ee2 g f z):=λρ q h=>by
 unfold ee2 at h;cases e1:f ρ with
 |none=>simp[e1]at h
 |some p=>
  cases e2:z p.2 with
  |none=>simp[e1,e2]at h
  |some r=>
   rw[e1]at h;simp only[S8,e2]at h;split at h
   .cases e3:g p.1 r.1 with
    |none=>simp[e3]at h
    |some d=>
     obtain rfl:(d,r.2)=q:=by simpa[e3]using h
     exact(h2 _ _ e2).trans (h1 _ _ e1)
   .cases h
theorem Qj{g:D->Option D}{f:En->Option (D×En)}(h1:KpS i f):KpS i (ee1 g f):=λρ q h=>by
 unfold ee1 at h;cases e1:f ρ with
 |none=>simp[e1]at h
 |some p=>
  cases e2:g p.1 with
  |none=>simp[e1,e2]at h
  |some r=>
   obtain rfl:(r,p.2)=q:=by simpa[e1,e2]using h
   exact h1 ρ p e1
theorem NT{F:List D->Option (D×List D)}(V:js.contains i=false)(h1:KpS i f):KpS i (eIo F js f):=λρ q h=>by
 unfold eIo at h;split at h
 .cases e1:f ρ with
  |none=>simp[e1]at h
  |some p=>
   cases e2:objs js p.2 with
   |none=>simp[e1,e2]at h
   |some os=>
    rw[e1]at h;simp only[S8,e2]at h;split at h
    .cases e3:F (os++fzL p.1)with
     |none=>simp[e3]at h
     |some r=>
      rw[e3]at h;simp only[S8]at h;split at h
      .cases h
       exact(j9 λz=>by simp[z]at V).trans (h1 _ _ e1)
      .cases h
    .cases h
 .cases h
theorem PB{f:En->Option (D×En)}{z F:En->Option (Option Int)}(h1:KpS i f):KpS i (CG g f z F):=λρ q h=>by
 unfold CG at h;cases e1:f ρ with
 |none=>simp[e1]at h
 |some p=>
  cases e2:z p.2 with
  |none=>simp[e1,e2]at h
  |some a=>
   cases B:F p.2 with
   |none=>simp[e1,e2,B]at h
   |some b=>
    cases N:g p.1 a b with
    |none=>simp[e1,e2,B,N]at h
    |some d=>
     obtain rfl:(d,p.2)=q:=by simpa[e1,e2,B,N]using h
     exact h1 ρ p e1
def Wp(o:Option α)(Q:α->Prop):Prop:=∃a,o=some a/\Q a
variable{Q:α->Prop}
theorem aG{a:α}:Wp (some a) Q↔Q a:=⟨λ⟨b,e,q⟩=>by cases e;exact q,λq=>⟨a,rfl,q⟩⟩
theorem xg:Wp (none:Option α) Q↔False:=⟨λ⟨b,e,q⟩=>(by cases e),λz=>z.elim⟩
variable{o:Option α}{R:β->Prop}
theorem aO{f:α->Option β}:Wp (o.bind f) R↔Wp o λa=>Wp (f a) R:=by
 cases o with
 |none=>simp[xg]
 |some a=>simp[aG]
variable{f:α->β}
theorem cW:Wp (o.map f) R↔Wp o λa=>R (f a):=by
 cases o with
 |none=>simp[xg]
 |some a=>simp[aG]
theorem w_ite{c:Prop}[Decidable c]{a b:Option α}:Wp (if c then a else b) Q↔(if c then Wp a Q else Wp b Q):=by
 split<;>exact Iff.rfl
theorem Wp.mono{z:α->Prop}(h:Wp o Q)(k:∀a,Q a->z a):Wp o z:=let⟨a,e,q⟩:=h;⟨a,e,k a q⟩
theorem Wp.eq{a:α}(h:Wp o λx=>x=a):o=some a:=let⟨b,e,q⟩:=h;by rw[e,q]
theorem Mh{a:α}(h:o=some a)(q:Q a):Wp o Q:=⟨a,h,q⟩
variable{Q:Fl->Prop}
theorem Hm{f g:En->Option Fl}:Wp (a_ f g ρ) Q↔Wp (f ρ) λr=>match r with
 |.nx I=>Wp (g I) Q
 |.ret d I=>Q (.ret d I)
 |.brk I=>Q (.brk I)
 |.cnt I=>Q (.cnt I):=by
 unfold a_;cases f ρ with
 |none=>simp[xg]
 |some r=>cases r<;>simp[aG]
theorem Ma(I:Nat->En->Prop):∀{items:List D}{ρ:En}{k:Nat},I k ρ->
  (∀(i:Nat)(d:D)(ρ:En),items[i]? =some d->I (k+i) ρ->Wp (tg d ρ) λρ1=>Wp (B ρ1) λr=>match r with
   |.nx ρ2=>I (k+i+1) ρ2
   |.cnt ρ2=>I (k+i+1) ρ2
   |.brk ρ2=>Q (.nx ρ2)
   |.ret d ρ2=>Q (.ret d ρ2))->
  (∀ρ,I (k+items.length) ρ->Q (.nx ρ))->Wp (forL tg B items ρ) Q
 |[],ρ,k,h0,_,h=>by rw[forL];exact aG.mpr (h ρ h0)
 |d::r,ρ,k,h0,hs,h=>by
  rw[forL];obtain⟨ρ1,e1,w⟩:=hs 0 d ρ rfl h0;obtain⟨z,e2,w⟩:=w;rw[e1,S8,e2];have Z:∀{ρ2:En},I (k+1) ρ2->Wp (forL tg B r ρ2) Q:=λN=>Ma I N (λi d ρ hi N=>by
   have:=hs (i+1) d ρ (by simpa using hi) (by rw[show k+(i+1)=k+1+i by omega];exact N);rw[show k+(i+1)+1=k+1+i+1 by omega]at this;exact this) λρ N=>h ρ (by rw[T_,show k+(r.length+1)=k+1+r.length by omega];exact N)
  cases z with
  |nx ρ2=>exact Z w
  |cnt ρ2=>exact Z w
  |brk ρ2=>exact aG.mpr w
  |ret d ρ2=>exact aG.mpr w
variable{c:En->Option Bool}
theorem sH{tg:D->En->Option En}{c:En->Option Bool}{e:En->Option D}{ρ0:En}{p:D->Bool}{f:D->D}:∀{items:List D},(∀d∈items,Wp (tg d ρ0) λρ1=>c ρ1=some (p d)/\(p d=true->e ρ1=some (f d)))->lg tg c e ρ0 items=some ((items.filter p).map f)
 |[],_=>rfl
 |d::r,h=>by
  obtain⟨ρ1,e1,h1,h2⟩:=h d (by simp);have Z:=sH (tg:=tg) (c:=c) (e:=e) (ρ0:=ρ0) (p:=p) (f:=f) (items:=r) λx F=>h x (by simp[F]);rw[lg];cases N:p d with
  |false=>simp[e1,h1,N,Z]
  |true=>simp[e1,h1,N,h2 N,Z]
variable{e:En->Option (D×En)}{Q:List D×En->Prop}
theorem Bl{cap:List (Option Nat)}(I:Nat->List D->En->Prop):∀{items:List D}{ρ:En}{k:Nat}{acc:List D},I k acc ρ->
  (∀(i:Nat)(d:D)(acc:List D)(ρ:En),items[i]? =some d->I (k+i) acc ρ->Wp (tg d (gU cap ρ)) λρ1=>Wp (c ρ1) λb=>if b=true then Wp (e ρ1) λp=>clean p.1=true/\I (k+i+1) (acc++[p.1]) (gh cap p.2 ρ)else I (k+i+1) acc ρ)->
  (∀ys ρ,I (k+items.length) ys ρ->Q (ys,ρ))->Wp (je cap tg c e items ρ) λt=>Q (acc++t.1,t.2)
 |[],ρ,k,acc,h0,_,h=>by rw[je];exact aG.mpr (by rw[T3];exact h acc ρ h0)
 |d::r,ρ,k,acc,h0,hs,h=>by
  rw[je];obtain⟨ρ1,e1,b,e2,w⟩:=hs 0 d acc ρ rfl h0;rw[e1,S8,e2,S8];have Z:∀{ρ2:En}{acc:List D},I (k+1) acc ρ2->Wp (je cap tg c e r ρ2) λt=>Q (acc++t.1,t.2):=λN=>Bl I N (λi d acc ρ hi N=>by
   have:=hs (i+1) d acc ρ (by simpa using hi) (by rw[show k+(i+1)=k+1+i by omega];exact N);rw[show k+(i+1)+1=k+1+i+1 by omega]at this;exact this) λys ρ N=>h ys ρ (by rw[T_,show k+(r.length+1)=k+1+r.length by omega];exact N)
  cases b with
  |false=>
   simp only[Uo,VM]at w⊢;exact Z w
  |true=>
   simp only[Ud]at w⊢;obtain⟨p,B,O,N⟩:=w;rw[B,S8,Tz O];rw[cW];refine(Z N).mono λt U=>?_;simpa using U
theorem dI(l:List Str):au (l.map D.str)=true:=cF λd hd=>by obtain⟨x,_,rfl⟩:=Tp.mp hd;rfl
theorem cX(l:List Str):az (l.map D.str)=true:=cI λd hd=>by obtain⟨x,_,rfl⟩:=Tp.mp hd;rfl
theorem cT(b:Bool)(l:List Str):dw b (l.map D.str)=l.map D.str:=by rw[eE,TX];rfl
theorem oH(l:List Str):fzL (l.map D.str)=l.map D.str:=by rw[gG,TX];rfl
theorem CN(l:List Str):gZ (l.map D.str)=l.map D.str:=by rw[jt,TX];rfl
variable{l:List α}
theorem lG{α β:Type}{f:α->β}{l:List α}{i:Int}(Z:0<=i)(h1:i<l.length):∃x,x∈l/\l[i.toNat]? =some x/\atI (l.map f) i=some (f x):=by
 have:i.toNat<l.length:=by omega
 refine⟨l[i.toNat],Vw _,by simp[this],?_⟩;unfold atI ixN;rw[Tz Z,Tz (by simpa using h1)];simp[this]
theorem Le{f:D->D}:(h_ 0 n).map f=(Ue n).map λ(k:Nat)=>f (.int (k:Int)):=by
 unfold h_;rw[TX];apply UW;intro k _;simp
theorem Jm(h:d∈h_ 0 n):∃k:Nat,k<n/\d= .int (k:Int):=by
 unfold h_ at h;obtain⟨k,I,rfl⟩:=Tp.mp h;exact⟨k,VD.mp I,by simp⟩
theorem qG{lo:Int}:(h_ lo n).length=n:=by simp[h_]
theorem filter_tt(l:List α):l.filter (λ_=>true)=l:=by simp
theorem qI(h:(h_ 0 n)[i]? =some d):i<n/\d= .int (i:Int):=by
 have hi:i<n:=by have:=(List.getElem?_eq_some_iff.mp h).1;simpa[h_]using this
 refine⟨hi,?_⟩;unfold h_ at h;rw[List.getElem?_map,abg hi]at h;simpa using h.symm
abbrev Jt:=Str×Str×Int
def jD(j:Jt):D:=.tup [.str j.1,.str j.2.1,.int j.2.2]
theorem nG(l:List Jt):au (l.map jD)=true:=cF λd hd=>by obtain⟨x,_,rfl⟩:=Tp.mp hd;rfl
theorem j8(l:List Jt):az (l.map jD)=true:=cI λd hd=>by obtain⟨x,_,rfl⟩:=Tp.mp hd;rfl
theorem nW(b:Bool)(l:List Jt):dw b (l.map jD)=l.map jD:=by rw[eE,TX];rfl
theorem uA(l:List Jt):fzL (l.map jD)=l.map jD:=by rw[gG,TX];rfl
theorem xW(l:List Jt):gZ (l.map jD)=l.map jD:=by rw[jt,TX];rfl
theorem eq_int{i j:Int}:gEq (.int i) (.int j)=some (.bl (decide (i=j))):=by
 unfold gEq;rw[Tz ⟨rfl,rfl,.sc (.int i j)⟩];simp[dt,eqD];exact Zf.mpr (by simp)
variable{items:List D}
theorem Gd{cap:List (Option Nat)}(I:Nat->List D->En->Prop)(Z:I 0 [] ρ)
  (hs:∀(i:Nat)(d:D)(acc:List D)(ρ:En),items[i]? =some d->I i acc ρ->Wp (tg d (gU cap ρ)) λρ1=>Wp (c ρ1) λb=>if b=true then Wp (e ρ1) λp=>clean p.1=true/\I (i+1) (acc++[p.1]) (gh cap p.2 ρ)else I (i+1) acc ρ)
  (h:∀ys ρ,I items.length ys ρ->Q (ys,ρ)):Wp (je cap tg c e items ρ) Q:=by
 have:=Bl (cap:=cap) (tg:=tg) (c:=c) (e:=e) (Q:=Q) I (items:=items) (ρ:=ρ) (k:=0) (acc:=[]) Z (λi d acc ρ hi N=>by
  rw[Xz]at N⊢;exact hs i d acc ρ hi N) λys ρ N=>h ys ρ (by rw[Xz]at N;exact N)
 simpa using this
variable{Q:Fl->Prop}
theorem iT(I:Nat->En->Prop)(Z:I 0 ρ)
  (hs:∀(i:Nat)(d:D)(ρ:En),items[i]? =some d->I i ρ->Wp (tg d ρ) λρ1=>Wp (B ρ1) λr=>match r with
   |.nx ρ2=>I (i+1) ρ2
   |.cnt ρ2=>I (i+1) ρ2
   |.brk ρ2=>Q (.nx ρ2)
   |.ret d ρ2=>Q (.ret d ρ2))
  (h:∀ρ,I items.length ρ->Q (.nx ρ)):Wp (forL tg B items ρ) Q:=
 Ma (k:=0) I Z (λi d ρ hi N=>by
  rw[Xz]at N⊢;exact hs i d ρ hi N) λρ N=>h ρ (by rw[Xz]at N;exact N)
theorem bf{f g:En->Option Fl}(P:En->Prop)(h1:∀z:Fl->Prop,(∀I,P I->z (.nx I))->Wp (f ρ) z)(h2:∀I,P I->Wp (g I) Q):Wp (a_ f g ρ) Q:=by
 rw[Hm];exact h1 _ λI h=>h2 I h
theorem N6(j:Jt):aB (jD j)=true:=rfl
theorem PL(j:Jt):aA (jD j)=true:=rfl
theorem RX(b:Bool)(j:Jt):view b (jD j)=jD j:=rfl
open PySem PySem.W PyProof.Rows
def Tr(b:Nat->Nat->Bool)(n:Nat):KasT α->(α->Prop)->Prop
 |.ret a,Q=>Q a
 |.ask i j k,Q=>i<n/\j<n/\Tr b n (k (b i j)) Q
variable{b:Nat->Nat->Bool}
theorem Tr.bind{f:α->KasT β}{Q:β->Prop}:∀{t:KasT α},Tr b n t (λa=>Tr b n (f a) Q)->Tr b n (t.bind f) Q
 |.ret _,h=>h
 |.ask _ _ _,⟨h1,h2,h3⟩=>⟨h1,h2,Tr.bind h3⟩
theorem Tr.mono{Q z:α->Prop}(B:∀a,Q a->z a):∀{t:KasT α},Tr b n t Q->Tr b n t z
 |.ret _,h=>B _ h
 |.ask _ _ _,⟨h1,h2,h3⟩=>⟨h1,h2,Tr.mono B h3⟩
theorem Tr.wp{q:Nat->Nat->(Bool->S6->Prop)->S6->Prop}{s:S6}{Q:α->Prop}(O:∀i j C,i<n->j<n->C (b i j) s->q i j C s):∀{t:KasT α},Tr b n t Q->t.kasWp q (λa s'=>s'=s/\Q a) s
 |.ret _,h=>⟨rfl,h⟩
 |.ask _ _ _,⟨h1,h2,h3⟩=>O _ _ _ h1 h2 (Tr.wp O h3)
def gV(n:Nat)(p:Array Nat):Prop:=UT p.toList (Ue n)
variable{p:Array Nat}
theorem gV.size(h:gV n p):p.size=n:=by
 have:=List.Perm.length_eq h;simpa using this
theorem gV.lt(h:gV n p)(hn:0<n)(i:Nat):p.getD i 0<n:=by
 by_cases hi:i<p.size
 .have hm:p[i]∈p.toList:=by simp
  have:=VD.mp (abL h |>.mp hm);simpa[Array.getD,hi]using this
 .simpa[Array.getD,hi]using hn
theorem gV.of{q:Array Nat}(h:gV n p)(N:Array.Perm q p):gV n q:=(Array.perm_iff_toList_perm.mp N).trans h
section
variable(ρ:Nat->Int)
def rk(p:Array Nat)(i:Nat):Int:=ρ (p.getD i 0)
def Up1(p:Array Nat)(k:Nat):Prop:=∀i j,i<=j->j<k->rk ρ p i<=rk ρ p j
def Dn1(p:Array Nat)(k:Nat):Prop:=∀i j,i<=j->j<k->rk ρ p j<=rk ρ p i
abbrev bk:Nat->Nat->Bool:=λi j=>decide (ρ i<ρ j)
end
section
variable{ρ:Nat->Int}{n:Nat}(hn:0<n)
theorem yf{p q:Array Nat}{i j:Nat}(h:p[i]? =q[j]?):rk ρ p i=rk ρ q j:=by
 unfold rk;rw[Ua,Ua,h]
theorem zT{p:Array Nat}{i j:Nat}(V:j<=p.size)(k:Nat):rk ρ (kas_rev p i j) k=if i<=k/\k<j then rk ρ p (i+j-1-k)else rk ρ p k:=by
 have e:=getElem?_mirror_all (xs:=p) (i:=i) V k;unfold kas_rev;split
 .rename_i h;rw[Tz h]at e;exact yf e
 .rename_i h;rw[TQ h]at e;exact yf e
theorem gJ{p:Array Nat}{i j:Nat}(V:j<=p.size)(h:∀k,i<=k->k<j->rk ρ p k=rk ρ p (j-1))(k:Nat):rk ρ (kas_rev p i j) k=rk ρ p k:=by
 rw[zT V];split
 .rw[h _ (by omega) (by omega),h k (by omega) (by omega)]
 .rfl
include hn
theorem Il{p:Array Nat}(N:gV n p):∀(f a:Nat),1<=a->Up1 ρ p a->Tr (bk ρ) n (kas_asc p f a) λm=>a<=m/\m<=a+f/\Up1 ρ p m
 |0,a,_,h=>⟨Tg _,Tg _,h⟩
 |f+1,a,ha,h=>by
  refine⟨N.lt hn _,N.lt hn _,?_⟩;by_cases c:rk ρ p a<rk ρ p (a-1)
  .have e:bk ρ (p.getD a 0) (p.getD (a-1) 0)=true:=Vm c
   rw[e];exact⟨Tg _,by omega,h⟩
  .have e:bk ρ (p.getD a 0) (p.getD (a-1) 0)=false:=T8 c
   rw[e];refine Tr.mono (λm q=>⟨by omega,by omega,q.2.2⟩) (Il N f (a+1) (by omega) λi j B V=>?_);by_cases z:j<a
   .exact h i j B z
   .obtain rfl:j=a:=by omega
    by_cases hi:i=j
    .subst hi;exact WR _
    .exact Zg (h i (j-1) (by omega) (by omega)) (by omega)
def DsQ(ρ:Nat->Int)(n a f:Nat)(t:Array Nat×Nat×Nat):Prop:=gV n t.1/\a<=t.2.1/\t.2.1<=a+f/\Dn1 ρ t.1 t.2.1/\t.2.2+1<=t.2.1/\∀i,t.2.1-(t.2.2+1)<=i->i<t.2.1->rk ρ t.1 i=rk ρ t.1 (t.2.1-1)
theorem vN:∀(f:Nat)(p:Array Nat)(a q:Nat),gV n p->1<=a->a+f<=n->Dn1 ρ p a->q+1<=a->(∀i,a-(q+1)<=i->i<a->rk ρ p i=rk ρ p (a-1))->Tr (bk ρ) n (kas_desc f p a q) (DsQ ρ n a f)
 |0,p,a,q,hp,ha,_,h,hq,he=>⟨hp,Tg _,Tg _,h,hq,he⟩
 |f+1,p,a,q,hp,ha,hf,h,hq,he=>by
  have hz:=hp.size;refine⟨hp.lt hn _,hp.lt hn _,?_⟩;by_cases c:rk ρ p a<rk ρ p (a-1)
  .have e:bk ρ (p.getD a 0) (p.getD (a-1) 0)=true:=Vm c
   have Z:∀N:Array Nat,gV n N->(∀k,rk ρ N k=rk ρ p k)->Tr (bk ρ) n (kas_desc f N (a+1) 0) (DsQ ρ n a (f+1)):=λN a0 I=>by
    refine Tr.mono (λt U=>⟨U.1,by have:=U.2.1;omega,by have:=U.2.2.1;omega,U.2.2.2⟩) (vN f N (a+1) 0 a0 (by omega) (by omega) (λi j Y V=>?_) (by omega) λi h1 h2=>by rw[show i=a+1-1 by omega]);rw[I,I];by_cases z:j<a
    .exact h i j Y z
    .obtain rfl:j=a:=by omega
     by_cases hi:i=j
     .subst hi;exact WR _
     .exact Zg (by omega) (h i (j-1) (by omega) (by omega))
   rw[e];simp only[Ud];by_cases O:q>0
   .rw[Tz O]
    exact Z _ (hp.of (aav _ _ _ _)) (gJ (by omega) he)
   .rw[TQ O]
    exact Z _ hp λ_=>rfl
  .have e:bk ρ (p.getD a 0) (p.getD (a-1) 0)=false:=T8 c
   rw[e];simp only[Uo,VM];refine⟨hp.lt hn _,hp.lt hn _,?_⟩;by_cases B:rk ρ p (a-1)<rk ρ p a
   .have e:bk ρ (p.getD (a-1) 0) (p.getD a 0)=true:=Vm B
    rw[e];exact⟨hp,Tg _,by show a<=a+(f+1);omega,h,hq,he⟩
   .have e:bk ρ (p.getD (a-1) 0) (p.getD a 0)=false:=T8 B
    have F:rk ρ p a=rk ρ p (a-1):=by omega
    rw[e];simp only[Uo,VM];refine Tr.mono (λt U=>⟨U.1,by have:=U.2.1;omega,by have:=U.2.2.1;omega,U.2.2.2⟩) (vN f p (a+1) (q+1) hp (by omega) (by omega) (λi j Y V=>?_) (by omega) λi h1 h2=>?_)
    .by_cases z:j<a
     .exact h i j Y z
     .obtain rfl:j=a:=by omega
      by_cases hi:i=j
      .subst hi;exact WR _
      .rw[F];exact h i (j-1) (by omega) (by omega)
    .rw[show a+1-1=a by omega]
     by_cases hi:i=a
     .rw[hi]
     .rw[F];exact he i (by omega) (by omega)
def CtQ(ρ:Nat->Int)(n q:Nat)(t:Nat×Array Nat):Prop:=gV n t.2/\1<=t.1/\t.1<=q/\Up1 ρ t.2 t.1
theorem BP{p:Array Nat}{a q:Nat}(N:gV n p)(Y:1<=a)(z:a<=q)(I:q<=n)(h:Dn1 ρ p a):Tr (bk ρ) n (kas_tail3 a q p) (CtQ ρ n q):=by
 have hz:=N.size;have U:gV n (kas_rev p 0 a):=N.of (aav _ _ _ _);refine Tr.bind (Tr.mono (λm F=>?_) (Il hn U (q-a) a Y λi j B V=>?_))
 .exact⟨U,by show 1<=m;omega,by show m<=q;omega,F.2.2⟩
 .rw[zT (by omega),zT (by omega),Tz (by omega),Tz (by omega)]
  exact h _ _ (by omega) (by omega)
theorem Br{p:Array Nat}{a q:Nat}(N:gV n p)(a0:a+1<=q)(I:q<=n)(h:Dn1 ρ p (a+1)):Tr (bk ρ) n (kas_descPart a q p) (CtQ ρ n q):=by
 refine Tr.bind (Tr.mono (λt U=>?_) (vN hn (q-(a+1)) p (a+1) 0 N (by omega) (by omega) h (by omega) λi h1 h2=>by rw[show i=a+1-1 by omega]));obtain⟨t1,z,Y⟩:=t;obtain⟨h1,h2,O,F,h5,Z⟩:=U;have hz:=h1.size;simp only at h1 h2 O F h5 Z hz⊢;split
 .refine BP hn (h1.of (aav _ _ _ _)) (by omega) (by omega) I λi j B V=>?_
  rw[gJ (by omega) Z,gJ (by omega) Z];exact F i j B V
 .exact BP hn h1 (by omega) (by omega) I F
theorem Ff{p:Array Nat}{q:Nat}(N:gV n p)(h1:1<=q)(a4:q<=n):Tr (bk ρ) n (kas_count q p) (CtQ ρ n q):=by
 have hz:=N.size;have h0:Up1 ρ p 1:=λi j B V=>by rw[show i=j by omega];exact WR _
 have go:Tr (bk ρ) n (kas_asc p (q-1) 1) λm=>1<=m/\m<=q/\Up1 ρ p m/\(m=q∨rk ρ p m<rk ρ p (m-1)):=by
  have:∀(f a:Nat),1<=a->a+f=q->Up1 ρ p a->Tr (bk ρ) n (kas_asc p f a) λm=>1<=m/\m<=q/\Up1 ρ p m/\(m=q∨rk ρ p m<rk ρ p (m-1)):=by
   intro f
   induction f with
   |zero=>intro a Y Z h;exact⟨Y,by omega,h,.inl (by omega)⟩
   |succ f ih=>
    intro a Y Z h;refine⟨N.lt hn _,N.lt hn _,?_⟩;by_cases c:rk ρ p a<rk ρ p (a-1)
    .have e:bk ρ (p.getD a 0) (p.getD (a-1) 0)=true:=Vm c
     rw[e];exact⟨Y,by omega,h,.inr c⟩
    .have e:bk ρ (p.getD a 0) (p.getD (a-1) 0)=false:=T8 c
     rw[e];refine ih (a+1) (by omega) (by omega) λi j B V=>?_;by_cases a5:j<a
     .exact h i j B a5
     .obtain rfl:j=a:=by omega
      by_cases hi:i=j
      .subst hi;exact WR _
      .exact Zg (h i (j-1) (by omega) (by omega)) (by omega)
  exact this (q-1) 1 (Tg _) (by omega) h0
 refine Tr.bind (Tr.mono (λm hm=>?_) go);obtain⟨U,m2,m3,m4⟩:=hm;by_cases a0:m=q
 .rw[Tz (by simpa using a0)]
  exact⟨N,U,m2,m3⟩
 .rw[TQ (by simpa using a0)]
  have O:=m4.resolve_left a0;by_cases a3:m>1
  .rw[Tz a3]
   refine⟨N.lt hn _,N.lt hn _,?_⟩;by_cases c:rk ρ p 0<rk ρ p (m-1)
   .have e:bk ρ (p.getD 0 0) (p.getD (m-1) 0)=true:=Vm c
    rw[e];exact⟨N,U,m2,m3⟩
   .have e:bk ρ (p.getD 0 0) (p.getD (m-1) 0)=false:=T8 c
    rw[e];simp only[Uo,VM];have z:∀k,0<=k->k<m->rk ρ p k=rk ρ p (m-1):=λk _ I=>by
     have F:=m3 0 k (by omega) I;have a2:=m3 k (m-1) (by omega) (by omega);omega
    refine Br hn (N.of (aav _ _ _ _)) (by omega) a4 λi j B V=>?_;rw[gJ (by omega) z,gJ (by omega) z];by_cases a6:j<m
    .rw[z i (by omega) (by omega),z j (by omega) a6];exact WR _
    .obtain rfl:j=m:=by omega
     by_cases hi:i=j
     .subst hi;exact WR _
     .rw[z i (by omega) (by omega)];omega
  .rw[TQ a3]
   obtain rfl:m=1:=by omega
   refine Br hn N (by omega) a4 λi j B V=>?_;by_cases hi:i=j
   .subst hi;exact WR _
   .obtain rfl:i=0:=by omega
    obtain rfl:j=1:=by omega
    exact Int.le_of_lt O
theorem qY{p:Array Nat}{k:Nat}(N:gV n p)(h:Up1 ρ p k):∀(f l r:Nat),l<=r->r<=k->r-l<=f->(∀i,i<l->rk ρ p i<=rk ρ p k)->(∀i,r<=i->i<k->rk ρ p k<rk ρ p i)->
  Tr (bk ρ) n (kas_place p k f l r) λm=>m<=k/\(∀i,i<m->rk ρ p i<=rk ρ p k)/\∀i,m<=i->i<k->rk ρ p k<rk ρ p i
 |0,l,r,hlr,hrk,hf,h1,h2=>⟨by omega,h1,λi hi I=>h2 i (by omega) I⟩
 |f+1,l,r,hlr,hrk,hf,h1,h2=>by
  unfold kas_place;by_cases q:l>=r
  .rw[Tz q]
   exact⟨by omega,h1,λi hi I=>h2 i (by omega) I⟩
  .rw[TQ q]
   refine⟨N.lt hn _,N.lt hn _,?_⟩;by_cases c:rk ρ p k<rk ρ p ((l+r) / 2)
   .have e:bk ρ (p.getD k 0) (p.getD ((l+r) / 2) 0)=true:=Vm c
    rw[e];exact qY N h f l _ (by omega) (by omega) (by omega) h1 λi hi I=>Int.lt_of_lt_of_le c (h _ i hi I)
   .have e:bk ρ (p.getD k 0) (p.getD ((l+r) / 2) 0)=false:=T8 c
    rw[e];exact qY N h f _ r (by omega) hrk (by omega) (λi hi=>Zg (h i ((l+r) / 2) (by omega) (by omega)) (by omega)) h2
theorem Gf:∀(f:Nat)(p:Array Nat)(k:Nat),gV n p->k+f<=n->Up1 ρ p k->Tr (bk ρ) n (kas_bin f p k) λq=>gV n q/\Up1 ρ q (k+f)
 |0,p,k,hp,_,h=>⟨hp,h⟩
 |f+1,p,k,hp,hf,h=>by
  have hz:=hp.size;refine Tr.bind (Tr.mono (λl Y=>?_) (qY hn hp h k 0 k (by omega) (by omega) (by omega) (λi hi=>by omega) λi h1 h2=>by omega));obtain⟨z,N,F⟩:=Y;have U:∀i,rk ρ (bubble p k (k-l)) i=if i=l then rk ρ p k else if l<i/\i<=k then rk ρ p (i-1)else rk ρ p i:=λi=>by
   have e:=getElem?_bubble (xs:=p) (src:=k) (by omega) (k-l) (by omega) i;rw[show k-(k-l)=l by omega]at e;split
   .rename_i hi;rw[Tz hi]at e;exact yf e
   .rename_i hi
    rw[TQ hi]at e;split
    .rename_i hi2;rw[Tz hi2]at e;exact yf e
    .rename_i hi2;rw[TQ hi2]at e;exact yf e
  refine Tr.mono (λq B=>⟨B.1,by rw[show k+(f+1)=k+1+f by omega];exact B.2⟩) (Gf f (bubble p k (k-l)) (k+1) (hp.of (bubble_perm _ _ _)) (by omega) λi j I V=>?_);rw[U,U]
  repeat' split
  all_goals first
   |exact WR _
   |(exfalso;omega)
   |exact Int.le_of_lt (F _ (by omega) (by omega))
   |exact N _ (by omega)
   |exact h _ _ (by omega) (by omega)
theorem JV:Tr (bk ρ) n (kas_sort n) λp=>gV n p/\Up1 ρ p n:=by
 have N:gV n (abv (Ue n)):=by unfold gV;exact Yn _
 refine Tr.bind (Tr.mono (λt U=>?_) (Ff hn N (by omega) (Tg n)));obtain⟨h1,h2,O,F⟩:=U;split
 .refine Tr.mono (λq B=>⟨B.1,?_⟩) (Gf hn (n-max t.1 1) t.2 (max t.1 1) h1 (by omega) (by rw[show max t.1 1=t.1 by omega];exact F))
  have:=B.2;rwa[show max t.1 1+(n-max t.1 1)=n by omega]at this
 .rename_i hlt
  exact⟨h1,by rw[show t.1=n by omega]at F;exact F⟩
end
open PySem PySem.W PyProof.Rows PySem.SeqAt
theorem ji:plainId "list.__eq__.loop"=true:=by decide +kernel
theorem pZ:aaZ table "list.__eq__.loop"=some Builtin.«list.__eq__.loop»:=entryFor_of_fast (by kernel_rfl)
def ltS:List Str->List Str->Bool
 |[],[]=>false
 |[],_::_=>true
 |_::_,[]=>false
 |a::r,b::q=>if a=b then ltS r q else decide (a.cps.toList<b.cps.toList)
def StA(its:Array Value)(xs:List Str):Prop:=∀i:Nat,its[i]? =none/\xs[i]? =none∨∃x t,its[i]? =some (.str x t)/\xs[i]? =some x
theorem Jc{xs ys:List Str}:ltS (xs.drop i) (ys.drop i)=match xs[i]?,ys[i]? with
  |none,none=>false
  |none,some _=>true
  |some _,none=>false
  |some a,some b=>if a=b then ltS (xs.drop (i+1)) (ys.drop (i+1))else decide (a.cps.toList<b.cps.toList):=by
 have d:∀zs:List Str,zs.drop i=match zs[i]? with|none=>[]|some a=>a::zs.drop (i+1):=λzs=>by
  by_cases h:i<zs.length
  .rw[V1 h,Td h]
  .rw[YH (by omega),We (by omega)]
 rw[d xs,d ys];cases xs[i]?<;>cases ys[i]?<;>rfl
theorem HR(l b:Addr)(its q:Array Value)(n n2:Nat)(dd a2:Option Addr)(sl a1:Array (Option Value))(xs ys:List Str)(h1:StA its xs)(h2:StA q ys)(F:its.size=xs.length)(V:q.size=ys.length)(k:Nat) :
  ∀i:Nat,xs.length-i=k->Meets (Builtin.«list.__eq__.loop» ⟨[.ref l,.ref b,Vh i,Vh 0],[]⟩)
   (λA R s=>s.heap.get? l=some {cls:=.type "list",dict:=dd,data:=.seq its n,slots:=sl}/\s.heap.get? b=some {cls:=.type "list",dict:=a2,data:=.seq q n2,slots:=a1}/\(i<=xs.length/\i<=ys.length)/\
    R (.ok (.ret (.bool (ltS (xs.drop i) (ys.drop i))))) s):=by
 induction k with
 |zero=>
  intro i I prog w A R s h;obtain⟨N,g,d,tk,os⟩:=s;obtain⟨Y,U,hi,h⟩:=h
  wp_walk using wpAny_loadPart' Y,wpAny_loadPart' U
  have e1:xs[i]? =none:=by simp;omega
  have e2:its[((i:Nat):Int).toNat]? =none:=by simp;omega
  rw[Jc,e1]at h;rw[e2]
  wp_walk using wpAny_loadPart' Y,wpAny_loadPart' U
  show R (.ok (.ret (.bool (decide (its.size<q.size))))) _;rw[F,V];cases B:ys[i]? with
  |none=>
   rw[B]at h;have:ys.length<=i:=by simpa using B
   rw[show decide (xs.length<ys.length)=false by simp;omega];exact h
  |some y=>
   rw[B]at h;have:=(List.getElem?_eq_some_iff.mp B).1;rw[show decide (xs.length<ys.length)=true by simp;omega];exact h
 |succ k Z=>
  intro i I prog w A R s h;obtain⟨N,g,d,tk,os⟩:=s;obtain⟨Y,U,hi,h⟩:=h
  wp_walk using wpAny_loadPart' Y,wpAny_loadPart' U
  have a3:i<xs.length:=by omega
  obtain⟨z,_⟩|⟨x,t,e1,e2⟩:=h1 i
  .simp at z;omega
  rw[Jc,e2]at h;have f1:its[((i:Nat):Int).toNat]? =some (.str x t):=by simpa using e1
  obtain⟨B,e4⟩|⟨y,u,B,e4⟩:=h2 i
  .have f2:q[((i:Nat):Int).toNat]? =none:=by simpa using B
   rw[e4]at h;rw[f1,f2]
   wp_walk using wpAny_loadPart' Y,wpAny_loadPart' U
   show R (.ok (.ret (.bool (decide (its.size<q.size))))) _;have:ys.length<=i:=by simpa using e4
   rw[show decide (its.size<q.size)=false by simp;omega];exact h
  .have f2:q[((i:Nat):Int).toNat]? =some (.str y u):=by simpa using B
   have O:((i:Int)+1)=((i+1:Nat):Int):=by push_cast;rfl
   have a4:=(List.getElem?_eq_some_iff.mp e4).1;rw[e4]at h;rw[f1,f2];refine gD (wpAny_eqBool_str ?_);by_cases a0:x=y
   .simp only[a0,Ud]at h
    rw[show decide (x=y)=true from Vm a0]
    wp_walk
    rw[O];exact⟨WD ji _,V0 pZ (by
     rw[Vo ji _];exact Z (i+1) (by omega) prog w A R _ ⟨Y,U,⟨by omega,by omega⟩,h⟩)⟩
   .simp only[TQ a0]at h
    rw[show decide (x=y)=false from T8 a0]
    wp_walk using wpAny_loadPart' Y,wpAny_loadPart' U
    rw[f1,f2];refine gD (lt_str ?_);exact S7 h
theorem FJ(l b:Addr)(its q:Array Value)(n I:Nat)(Z z:Option Addr)(sl B:Array (Option Value))(xs ys:List Str)(h1:StA its xs)(h2:StA q ys)(F:its.size=xs.length)(V:q.size=ys.length) :
  Meets (Builtin.«list.__lt__» ⟨[.ref l,.ref b],[]⟩)
   (λA R s=>s.heap.get? l=some {cls:=.type "list",dict:=Z,data:=.seq its n,slots:=sl}/\s.heap.get? b=some {cls:=.type "list",dict:=z,data:=.seq q I,slots:=B}/\R (.ok (.ret (.bool (ltS xs ys)))) s):=by
 intro prog w A R s h;obtain⟨N,g,d,tk,os⟩:=s;obtain⟨Y,U,h⟩:=h;have O:=aaw
 wp_walk using wpAny_loadPart' Y,wpAny_loadPart' U
 exact⟨WD ji _,V0 pZ (by
  rw[Vo ji _];exact HR l b its q n I Z z sl B xs ys h1 h2 F V _ 0 rfl prog w A R _ ⟨Y,U,⟨WQ _,WQ _⟩,by simpa using h⟩)⟩
theorem Ah{l b:Addr}{its q:Array Value}{xs ys:List Str}{Q:Bool->S6->Prop}(Y:s.heap.IsList l its)(U:s.heap.IsList b q)(h1:StA its xs)(h2:StA q ys)(hx:its.size=xs.length)(V:q.size=ys.length)(hu:A.units<cLine)
  (h:Q (ltS xs ys) s):wpAny (model prog w) A (oneLt' true (.ref l) (.ref b)) Q E s:=by
 obtain⟨⟨cls,Z,data,sl⟩,B,O,n,hd⟩:=id Y;obtain⟨⟨a4,z,a2,a1⟩,a3,N,I,a0⟩:=id U;simp only at O hd N a0;subst O hd N a0;rw[oneLt'_eq];simp only[Ud];refine gD (wpAny_cRoomFor hu ?_);refine gD (wpAny_callSpecialIfBound?_slot (T:="list") ⟨_,B,rfl⟩ F.slot_list_lt (Ym F.slot_list_lt ⟨_,B,rfl⟩ F.entry_list_lt (F.args_list_lt_2 _ _) (FJ l b its q n I Z z sl a1 xs ys h1 h2 hx V) ⟨B,a3,?_⟩));exact ZS h
variable{Q:Value->S6->Prop}{κ:SortKind}
theorem Dh{ρ:Nat->Int}(b6:vs.length<64)
  (I:2<=vs.length->∀h':Heap,(∀b o,s.heap.get? b=some o->h'.get? b=some o)->∀(E':Value->S6->Prop)(z:SortKind->S6->Prop),z κ {s with heap:=h'}->wpAny (model prog w) A.in1.in1 (keyKind' vs.toArray) z E' {s with heap:=h'})
  (O:∀h':Heap,(∀b o,s.heap.get? b=some o->h'.get? b=some o)->∀i j,i<vs.length->j<vs.length->∀z:Bool->S6->Prop,z (decide (ρ i<ρ j)) {s with heap:=h'}->wpAny (model prog w) A.in1.in1 (keyLt' κ (vs.getD i Uv) (vs.getD j Uv)) z (λ_ _=>False) {s with heap:=h'})
  (h:∀p:Array Nat,gV vs.length p->Up1 ρ p vs.length->∀(h':Heap)(c:Nat),(∀b o,s.heap.get? b=some o->h'.get? b=some o)->h'.get? s.heap.objs.size=some (aaP "list" (abv (p.toList.map λi=>vs.getD i Uv)) c)->Q (.ref s.heap.objs.size) {s with heap:=h'}) :
  wpAny (model prog w) A.in1 (Zm vs >>=λl=>Xh [l] (call (.builtin "list.sort") [l] []) >>=λ_=>ret l) (λfin s'=>∃v,fin= .done (.ret v)/\Q v s') E s:=by
 have b3:vs.length<=Te:=by rw[XS];omega
 refine gD (wpAny_newList ?_ (by rw[XS];omega))
 let a:=s.heap.objs.size
 let G2:Heap:=s.heap.push (aaP "list" vs.toArray 0)
 have B:G2.objs.size=s.heap.objs.size+1:=size_push' _ _;have a8:G2.get? a=some (aaP "list" vs.toArray 0):=TV _ rfl;show wpAny _ _ (Xh _ _ >>=_) _ _ {s with heap:=G2};refine gD (Va (XJ slot_list_sort ⟨_,a8,rfl⟩ entry_list_sort ?_ (args_list_sort _)));have b2:∀b o,s.heap.get? b=some o->G2.get? b=some o:=λb o q=>S_ _ q
 let G3:Heap:=G2.update a (Wm λ_=>#[])
 obtain⟨e1,b5⟩:∃e1,G3.get? a=some (aaP "list" #[] e1):=⟨_,get?_update_seq a8 λ_=>#[]⟩;have z3:G3.objs.size=s.heap.objs.size+1:=by show(G2.update _ _).objs.size=_;rw[abZ,B]
 let G5:Heap:=(G3.push (aaP "tuple" vs.toArray 0)).push (aaP "list" #[] 0)
 have b4:∀b o,G3.get? b=some o->G5.get? b=some o:=λb o q=>S_ _ (S_ _ q);have a0:∀b o,s.heap.get? b=some o->G5.get? b=some o:=λb o q=>by
  have U:b<s.heap.objs.size:=TJ q;refine b4 b o ?_;show(G2.update _ _).get? b=_;rw[abh _ _ _ _ (T4 U)];exact b2 b o q
 have b1:G5.get? a=some (aaP "list" #[] e1):=b4 a _ b5;rw[list_sort_plain];refine gD (listItems_at a8 rfl ?_);refine gD (listUpdate_at a8 rfl ?_ (by rw[List.size_toArray];exact b3) (WQ _));refine gD (seqEpoch_at b5 rfl ?_);refine gD (wpAny_newTuple ?_ (by show vs.length<=_;exact b3));refine gD (wpAny_newList ?_ (WQ _));refine Va ?_;show wpAny (model prog w) A.in1.in1 _ _ _ {s with heap:=G5};dsimp only;have fin:∀(Y:SortSt)(p:Array Nat),arrOf Y=p.map (kas_item (vs.toArray.zip vs.toArray))->failedOf Y=none->gV vs.length p->Up1 ρ p vs.length->
   wpAny (model prog w) A.in1.in1 (do
    let a7:=(arrOf Y).map (·.2)
    let a6:=(←seqEpoch a)!=e1
    Builtin.List.listUpdate (.ref a) λ_=>a7
    if let some e:=failedOf Y then rule "list.sort.comparison-raised";throw e
    if a6 then rule "list.sort.modified";raiseError "ValueError" "list modified during sort"
    ret .none) (λfin s'=>∃v,fin= .done (.ret v)/\wpAny (model prog w) A.in1 (ret (.ref a)) (λfin s'=>∃v,fin= .done (.ret v)/\Q v s') E s') E {s with heap:=G5}:=λY p b0 Z N F=>by
  have a9:=kat_snds (vs:=vs) (ks:=vs) rfl b0;dsimp only;refine gD (seqEpoch_at b1 rfl ?_);have b9:p.size=vs.length:=N.size;refine gD (listUpdate_at b1 rfl ?_ (WQ _) (by rw[a9];simp only[List.size_toArray,Tv,U6];omega));rw[Z];simp only[bne_self_eq_false,Uo,VM];refine S7 ⟨_,rfl,S7 ⟨_,rfl,?_⟩⟩;rw[a9];refine h p N F _ _ (λb o q=>?_) (get?_update_seq b1 _);rw[abh _ _ _ _ (T4 (TJ q))];exact a0 b o q
 by_cases a5:vs.toArray.size<2
 .rw[Tz a5,Tz a5]
  rw[List.size_toArray]at a5;refine gD (S7 ?_);rw[StateT.run_pure];refine gD (S7 ?_);refine fin _ (abv (Ue vs.length)) ?_ rfl (Yn _) (λi j b8 V=>by rw[show i=j by omega];exact WR _);have e:=kas_range (vs.toArray.zip vs.toArray);rw[show(vs.toArray.zip vs.toArray).size=vs.length by simp]at e;exact e.symm
 .rw[TQ a5,TQ a5]
  rw[List.size_toArray]at a5;refine gD (I (by omega) G5 a0 _ _ ?_);have b7:(kas_sort vs.length).kasWp (kas_ask prog w A.in1.in1 κ vs) (λp s'=>s'={s with heap:=G5}/\gV vs.length p/\Up1 ρ p vs.length) {s with heap:=G5}:=
   Tr.wp (λi j C hi V hC=>O G5 a0 i j hi V C hC) (JV (ρ:=ρ) (by omega))
  refine gD (Vn (kat_run (Q:=λY s'=>∃p:Array Nat,arrOf Y=p.map (kas_item (vs.toArray.zip vs.toArray))/\failedOf Y=none/\s'={s with heap:=G5}/\gV vs.length p/\Up1 ρ p vs.length) (E:=E)
   rfl (by omega) b6 (λp' Y s' a1 a2 a3 a4=>⟨p',a2,a3,a4⟩) b7) ?_ λ_ _ e=>e)
  rintro⟨⟨⟩,Y⟩ s' ⟨p,b0,Z,rfl,N,F⟩;exact fin Y p b0 Z N F
variable{x:Value}
theorem Er(O:∀q (z:List Value->S6->Prop),(∀vs Z,wpAny (model prog w) A.in1 (Zm vs >>=λl=>Xh [l] (call (.builtin "list.sort") [l] []) >>=λ_=>ret l) (λfin s'=>∃v,fin= .done (.ret v)/\Q v s') q Z->z vs Z)->wpAny (model prog w) A.in1 (collect x) z q s) :
  wpAny (model prog w) A (call (.builtin "sorted") [x]) Q E s:=by
 refine Calls.call_function_entry kind_sorted plain_sorted entry_sorted (args_sorted1 _) ?_;unfold Builtin.«sorted»;refine gD (m:=checkCount "sorted" 1 1 _) (S7 ?_);exact gD (O _ _ λvs Z h=>h)
theorem JP{a b:Str}(h1:¬a.cps.toList<b.cps.toList)(h2:¬b.cps.toList<a.cps.toList):a=b:=by
 have:=strKind.total a.cps.toList b.cps.toList (by simpa using h1) (by simpa using h2);cases a;cases b;congr;exact Array.toList_inj.mp this
theorem Cy(a:Str):¬a.cps.toList<a.cps.toList:=List.lt_irrefl _
theorem mQ:∀a:List Str,ltS a a=false
 |[]=>rfl
 |x::r=>by simp[ltS,mQ r]
theorem pI:∀a b:List Str,ltS a b=false->ltS b a=false->a=b
 |[],[],_,_=>rfl
 |[],_::_,h,_=>by simp[ltS]at h
 |_::_,[],_,h=>by simp[ltS]at h
 |x::r,y::q,h1,h2=>by
  by_cases e:x=y
  .subst e
   simp only[ltS,Ud]at h1 h2;rw[pI r q h1 h2]
  .simp only[ltS,TQ e,TQ (U0 e),decide_eq_false_iff_not]at h1 h2
   exact absurd (JP h1 h2) e
theorem lF:∀a b c:List Str,ltS a b=true->ltS b c=true->ltS a c=true
 |[],[],_,h,_=>by simp[ltS]at h
 |_::_,[],_,h,_=>by simp[ltS]at h
 |[],_::_,[],_,h=>by simp[ltS]at h
 |[],_::_,_::_,_,_=>rfl
 |_::_,_::_,[],_,h=>by simp[ltS]at h
 |x::r,y::q,z::p,h1,h2=>by
  by_cases e:x=y
  .subst e
   simp only[ltS,Ud]at h1;by_cases e2:x=z
   .subst e2
    simp only[ltS,Ud]at h2⊢;exact lF r q p h1 h2
   .simp only[ltS,TQ e2]at h2⊢
    exact h2
  .simp only[ltS,TQ e,Wx]at h1
   by_cases e2:y=z
   .subst e2
    simp only[ltS,TQ e,Wx];exact h1
   .simp only[ltS,TQ e2,Wx]at h2
    have O:=List.lt_trans h1 h2;have B:x≠z:=λF=>by subst F;exact Cy _ O
    simp only[ltS,TQ B,Wx];exact O
theorem Cg{a b c:List Str}(h:ltS a c=true)(h2:ltS b c=false):ltS a b=true:=by
 cases e:ltS a b with
 |true=>rfl
 |false=>
  cases e2:ltS b a with
  |true=>rw[lF b a c e2 h]at h2;cases h2
  |false=>rw[pI a b e e2,h2]at h;cases h
def below(ks:List (List Str))(a:List Str):Nat:=ks.countP λy=>ltS y a
theorem pM{p q:α->Bool}:∀{l:List α},(∀x∈l,p x=true->q x=true)->l.countP p<=l.countP q
 |[],_=>by simp
 |x::r,h=>by
  have Z:=pM (l:=r) λy V=>h y (by simp[V]);rw[YW,YW];cases e:p x with
  |false=>simp;omega
  |true=>simp[h x (by simp) e,Z]
variable{z:α}
theorem uU{p q:α->Bool}:∀{l:List α},(∀x∈l,p x=true->q x=true)->z∈l->q z=true->p z=false->l.countP p<l.countP q
 |[],_,h,_,_=>by cases h
 |x::r,h,hz,hq,hp=>by
  rw[YW,YW];have B:=pM (l:=r) λy V=>h y (by simp[V]);rcases Tf.mp hz with rfl|hz
  .simp[hq,hp];omega
  .have ih:=uU (l:=r) (λy V=>h y (by simp[V])) hz hq hp
   cases e:p x with
   |false=>simp;omega
   |true=>simp[h x (by simp) e];omega
variable{ks:List (List Str)}
theorem xm{a b:List Str}(Y:a∈ks):ltS a b=decide ((below ks a:Int)<below ks b):=by
 cases e:ltS a b with
 |true=>
  have:=uU (l:=ks) (p:=λy=>ltS y a) (q:=λy=>ltS y b) (λy _ V=>lF y a b V e) Y e (mQ a);exact(Vm (by unfold below;omega)).symm
 |false=>
  have:=pM (l:=ks) (p:=λy=>ltS y b) (q:=λy=>ltS y a) λy _ V=>Cg V e;exact(T8 (by unfold below;omega)).symm
def Ss(K:Tn)(H:Hp)(ys:List V)(ks:List (List Str)):Prop:=ks.length=ys.length/\((∀(i:Nat)(k:List Str),ks[i]? =some k->∃x,k=[x]/\ys[i]? =some (.str x))∨∀(i:Nat)(k:List Str),ks[i]? =some k->∃b,ys[i]? =some (.ref b)/\SqL K H b (k.map V.str))
theorem yV(r:Vals ys us)(i:Nat):(ys[i]? =none/\us[i]? =none)∨∃y u,ys[i]? =some y/\us[i]? =some u/\RelV y u:=by
 cases e:ys[i]? with
 |none=>
  have:=r.length;exact .inl ⟨rfl,by rw[Wg]at e⊢;omega⟩
 |some y=>
  obtain⟨u,h1,h2⟩:=r.get e;exact .inr ⟨y,u,rfl,h1,h2⟩
theorem F_{xs:List Str}(r:Vals (xs.map V.str) us):StA us.toArray xs:=λi=>by
 rcases yV r i with⟨h1,h2⟩|⟨y,u,h1,h2,O⟩
 .exact .inl ⟨by simpa using h2,by simpa using h1⟩
 .rw[List.getElem?_map]at h1
  cases e:xs[i]? with
  |none=>rw[e]at h1;cases h1
  |some x=>
   rw[e]at h1;cases h1;obtain⟨t,rfl⟩:=O;exact .inr ⟨x,t,by simpa using h2,rfl⟩
theorem tV(r:Vals ys us):∀p:List Nat,(∀i∈p,i<ys.length)->Vals (p.map λi=>ys.getD i .non) (p.map λi=>us.getD i Uv)
 |[],_=>.nil
 |i::p,h=>by
  refine .cons ?_ (tV r p λj q=>h j (by simp[q]));rcases yV r i with⟨h1,h2⟩|⟨y,u,h1,h2,O⟩
  .have:=h i (by simp)
   rw[Wg]at h1;omega
  .show RelV (ys.getD i .non) (us.getD i Uv)
   rw[Vz,Vz,h1,h2];exact O
theorem Lq(x y:Str):ltS [x] [y]=decide (x.cps.toList<y.cps.toList):=by
 by_cases z:x=y
 .subst z;simp[ltS,Cy]
 .simp[ltS,z]
variable{X:Cx}{s:S6}
theorem sort_keys{E:Value->S6->Prop}{Q:VK}(I:Inv X pins σ H s)(U:Vals xs its)(Y:xs.length<64)(a6:ks.length=xs.length)
  (hk:2<=its.length->∀h':Heap,(∀b o,s.heap.get? b=some o->h'.get? b=some o)->∀(E':Value->S6->Prop)(Q':SortKind->S6->Prop),Q' κ {s with heap:=h'}->wpAny (model X.prog X.w) X.A.in1.in1 (keyKind' its.toArray) Q' E' {s with heap:=h'})
  (O:∀h':Heap,(∀b o,s.heap.get? b=some o->h'.get? b=some o)->∀i j,i<its.length->j<its.length->∀Q':Bool->S6->Prop,Q' (ltS (ks.getD i []) (ks.getD j [])) {s with heap:=h'}->wpAny (model X.prog X.w) X.A.in1.in1 (keyLt' κ (its.getD i Uv) (its.getD j Uv)) Q' (λ_ _=>False) {s with heap:=h'})
  (q:∀p:List Nat,UT p (Ue xs.length)->aa_ (λi j=>ltS (ks.getD j []) (ks.getD i [])=false) p->∀l,H l=none->Q (.ref l) (upd H l (.lst (p.map λi=>xs.getD i .non)))) :
  wpAny (model X.prog X.w) X.A.in1 (Zm its >>=λl=>ZQ [l] (call (.builtin "list.sort") [l] []) >>=λ_=>ret l) (λfin s'=>∃v,fin= .done (.ret v)/\EP X pins σ Q v s') E s:=by
 have Z:=U.length;have a7:64<=Te:=by decide
 have a0:∀i,i<its.length->ks.getD i []∈ks:=λi hi=>by
  have:i<ks.length:=by omega
  rw[show ks.getD i []=ks[i]by simp[this]];exact Vw _
 refine Dh (κ:=κ) (ρ:=λi=>(below ks (ks.getD i []):Int)) (by omega) hk (λh' ext i j hi hj Q' F=>O h' ext i j hi hj Q' (by rw[xm (a0 i hi)];exact F)) λp N a1 h' c a4 B=>?_;have z:∀i∈p.toList,i<its.length:=λi hi=>VD.mp (abL N |>.mp hi);have a8:=N.size;refine⟨.ref s.heap.objs.size,upd H s.heap.objs.size (.lst (p.toList.map λi=>xs.getD i V.non)),I.laid (t':=s.toks) a4 (Tg _) ?_,rfl,q p.toList (by rw[Z];exact N) ?_ _ (I.hok.fresh (Tg _))⟩
 .exact⟨by rw[Tv];simp only[U6];omega,p.toList.map λi=>its.getD i Uv,c,tV U p.toList λi hi=>by have:=z i hi;omega,B⟩
 .rw[X7]
  intro i j hi hj a5;have a3:j<p.size:=by simpa using hj
  have a2:i<p.size:=by simpa using hi
  have:=a1 i j (by omega) (by omega);unfold rk at this;rw[Ua,Ua,V6 p i a2,V6 p j a3,XQ,XQ]at this;rw[Wr,Wr,xm (a0 p[j] (z _ (by simp)))];exact T8 (by simp only at this;omega)
theorem Ho{E:Value->S6->Prop}{Q:VK}(I:Inv X pins σ H s)(rv:Vals ys its)(Y:ys.length<64)(F:X.A.units+2<cLine)(hK:Ss X.K H ys ks)
  (q:∀p:List Nat,UT p (Ue ys.length)->aa_ (λi j=>ltS (ks.getD j []) (ks.getD i [])=false) p->∀l,H l=none->Q (.ref l) (upd H l (.lst (p.map λi=>ys.getD i .non)))) :
  wpAny (model X.prog X.w) X.A.in1 (Zm its >>=λl=>ZQ [l] (call (.builtin "list.sort") [l] []) >>=λ_=>ret l) (λfin s'=>∃v,fin= .done (.ret v)/\EP X pins σ Q v s') E s:=by
 obtain⟨a5,a0⟩:=hK;have Z:=rv.length;have a4:∀i,i<its.length->∃k,ks[i]? =some k/\ks.getD i []=k:=λi hi=>by
  have:i<ks.length:=by omega
  exact⟨ks[i],by simp[this],by simp[this]⟩
 rcases a0 with a0|a0
 .refine sort_keys (κ:=oneType') I rv Y a5 (λh2 h' ext E' Q' a3=>ab3 (T:=.type "str") (by omega) (λv hv=>?_) rfl rfl a3) (λh' ext i j hi hj Q' a3=>?_) q
  .obtain⟨i,hi,rfl⟩:=VN hv
   obtain⟨k,e1,_⟩:=a4 i hi;obtain⟨x,_,e3⟩:=a0 i k e1;obtain⟨u,h1,t,h2⟩:=rv.get e3;rw[Td hi]at h1;rw[UG h1,h2];exact PySem.W.Looks.of_pure rfl
  .obtain⟨k1,e1,g1⟩:=a4 i hi
   obtain⟨k2,e2,g2⟩:=a4 j hj;obtain⟨x,rfl,x3⟩:=a0 i k1 e1;obtain⟨y,rfl,y3⟩:=a0 j k2 e2;obtain⟨u1,a1,t1,rfl⟩:=rv.get x3;obtain⟨u2,a2,t2,rfl⟩:=rv.get y3;rw[Vz,Vz,a1,a2];refine oneLt_str ?_;rwa[g1,g2,Lq]at a3
 .refine sort_keys (κ:=oneType') I rv Y a5 (λh2 h' ext E' Q' a3=>ab3 (T:=.type "list") (by omega) (λv hv=>?_) rfl rfl a3) (λh' ext i j hi hj Q' a3=>?_) q
  .obtain⟨i,hi,rfl⟩:=VN hv
   obtain⟨k,e1,_⟩:=a4 i hi;obtain⟨b,e3,U⟩:=a0 i k e1;obtain⟨u,h1,h2⟩:=rv.get e3;rw[Td hi]at h1;cases h1;obtain⟨a8,_,pb,_⟩:=I.list U;obtain⟨o,B,O,_⟩:=pb.isList;rw[show its[i]=Um b from h2,←O];exact(PySem.W.Looks.ld (ext _ _ B)).andThen .now
  .obtain⟨k1,e1,g1⟩:=a4 i hi
   obtain⟨k2,e2,g2⟩:=a4 j hj;obtain⟨b1,x3,x4⟩:=a0 i k1 e1;obtain⟨b2,y3,y4⟩:=a0 j k2 e2;obtain⟨u1,a1,t1⟩:=rv.get x3;obtain⟨u2,a2,t2⟩:=rv.get y3;obtain⟨a7,r1,p1,_⟩:=I.list x4;obtain⟨a6,N,p2,_⟩:=I.list y4;rw[Vz,Vz,a1,a2];rw[show u1=Um b1 from t1,show u2=Um b2 from t2];have x1:Heap.IsList h' b1 a7.toArray:=by obtain⟨o,B,z⟩:=p1.isList;exact⟨o,ext _ _ B,z⟩
   have x2:Heap.IsList h' b2 a6.toArray:=by obtain⟨o,B,z⟩:=p2.isList;exact⟨o,ext _ _ B,z⟩
   have l1:=r1.length;have l2:=N.length;rw[Tv]at l1 l2;refine Ah (xs:=k1) (ys:=k2) x1 x2 (F_ r1) (F_ N) (by rw[List.size_toArray];omega) (by rw[List.size_toArray];omega) (by show X.A.units+1+1<cLine;omega) ?_;rwa[g1,g2]at a3
def inL(k:List Str):List (List Str)->List (List Str)
 |[]=>[k]
 |a::r=>if ltS a k=true then a::inL k r else k::a::r
def Hx(l:List (List Str)):List (List Str):=l.foldr inL []
abbrev RiL(l:List (List Str)):Prop:=aa_ (λa b=>ltS b a=false) l
theorem rZ(k:List Str):∀l,UT (inL k l) (k::l)
 |[]=>.refl _
 |a::r=>by
  unfold inL;split
  .exact((rZ k r).cons a).trans (.swap k a r)
  .exact .refl _
theorem o_:∀l,UT (Hx l) l
 |[]=>.refl _
 |a::r=>(rZ a _).trans ((o_ r).cons a)
theorem Ha{k:List Str}:∀{l},RiL l->RiL (inL k l)
 |[],_=>by simp[inL]
 |a::r,h=>by
  obtain⟨h1,h2⟩:=V7.mp h;unfold inL;split
  .rename_i c
   refine V7.mpr ⟨λb U=>?_,Ha h2⟩;rcases Tf.mp ((rZ k r).mem_iff.mp U)with rfl|U
   .cases e:ltS b a with
    |false=>rfl
    |true=>have:=lF _ _ _ c e;rw[mQ]at this;cases this
   .exact h1 b U
  .rename_i c
   have c:ltS a k=false:=by simpa using c
   refine V7.mpr ⟨λb U=>?_,h⟩;rcases Tf.mp U with rfl|U
   .exact c
   .cases e:ltS b k with
    |false=>rfl
    |true=>
     have:=Cg e c;rw[h1 b U]at this;cases this
theorem Cm:∀l,RiL (Hx l)
 |[]=>.nil
 |a::r=>Ha (Cm r)
theorem BJ:∀{l m:List (List Str)},UT l m->RiL l->RiL m->l=m
 |[],m,h,_,_=>h.nil_eq
 |a::r,[],h,_,_=>by have:=h.length_eq;simp at this
 |a::r,b::q,h,h1,h2=>by
  obtain⟨x1,N⟩:=V7.mp h1;obtain⟨B,I⟩:=V7.mp h2;have e:a=b:=by
   rcases Tf.mp (h.mem_iff.mp (Ur (a:=a) (l:=r)))with z|z
   .exact z
   .rcases Tf.mp (h.mem_iff.mpr (Ur (a:=b) (l:=q)))with w|w
    .exact w.symm
    .exact pI a b (B a z) (x1 b w)
  subst e;rw[BJ (List.Perm.cons_inv h) N I]
def strsOf:List D->Option (List Str)
 |[]=>some []
 |.str x::r=>(strsOf r).map λt=>x::t
 |_=>none
theorem oZ:∀{ds:List D}{k:List Str},strsOf ds=some k->ds=k.map D.str
 |[],k,h=>by cases h;rfl
 |d::r,k,h=>by
  cases d<;>simp only[strsOf]at h<;>try cases h
  cases e:strsOf r with
  |none=>rw[e]at h;cases h
  |some t=>rw[e]at h;cases h;rw[oZ e];rfl
theorem Ar(l:List α)(z:α):(Ue l.length).map (λi=>l.getD i z)=l:=by
 apply ab4
 .simp
 .intro i h1 h2
  simp[h2]
theorem y_{α:Type}{f:α->β}{l:List α}{z:α}{y:β}{p:List Nat}(h:∀i∈p,i<l.length):p.map (λi=>(l.map f).getD i y)=(p.map λi=>l.getD i z).map f:=by
 rw[TX];refine UW λi hi=>?_;have:=h i hi;simp[this]
theorem zr{Q:VK}{p:Addr}(Z:aC G H W ds xs M)(s:∀a∈M,a∈O)(nd:M.Nodup)(hn:∀a∈O,W.tmp a)(N:H p=none)(q:Done G H W O (.lst .own ds) Q):Q (.ref p) (upd H p (.lst xs)):=by
 have I:Same H (upd H p (.lst xs)):=Same.new N;have F:p∉M:=λz=>by obtain⟨o,B,_⟩:=Z.dom p z;rw[N]at B;cases B
 refine q (.ref p) _ (p::M) I ?_ (λa Y=>(Tf.mp Y).elim (λz=>.inr (by rw[z];exact N)) λz=>.inl (s a z)) (T5.mpr ⟨F,nd⟩);rw[Rep];exact⟨p,xs,M,rfl,Z.up ⟨I,λb u U f=>⟨λz=>z.elim (λz=>(Tf.mp z).elim (λz=>by rw[z,N]at U;cases U) λz=>f.1 (hn b (s b z)).1) λz=>f.1 z.1,f.2⟩,λ_ _ _ f=>f⟩,aM,rfl⟩
theorem su:∀{k:List Str}{xs:List V}{M:List Addr},aC G H W (k.map D.str) xs M->xs=k.map V.str
 |[],xs,M,r=>r.inv0.1
 |x::k,xs,M,r=>by
  obtain⟨y,ys,A,B,rfl,_,z,N⟩:=r.inv;rw[(bC z).1,su N];rfl
def tZ:List D->Option D
 |[]=>some (.dct .own [] [])
 |_=>none
theorem Jq:CaV G (λxs H Q=>∀p,H p=none->Q (.ref p) (upd H p (.dK []))) tZ:=λds d e xs H W O r nd hn w Q q=>by
 unfold tZ at e;split at e
 .cases e
  intro p N;have I:Same H (upd H p (.dK [])):=Same.new N;refine q (.ref p) _ [p] I ?_ (λa Y=>.inr (by rw[Ti.mp Y];exact N)) (T5.mpr ⟨by simp,List.nodup_nil⟩);rw[Rep];exact⟨p,[],[],rfl,⟨rfl,List.nodup_nil⟩,.nil,aM,rfl⟩
 .cases e
variable{X:ι->Cx}
theorem wD:PV X G ob (.Dict [] [] pos) (eAp tZ aJ):=⟨_,λc=>Gv,tE Jq Ji⟩
def GR(ys:List Str):List Str:=(Hx (ys.map λy=>[y])).map λk=>k.headD ""
theorem tU:∀ys:List Str,aC G H W (ys.map D.str) (ys.map V.str) []
 |[]=>.nil
 |x::r=>aC.cons (M:=[]) (M':=[]) vV (tU r)
def iJ(tg:D->En->Option En)(c:En->Option Bool)(fk q:En->Option D)(ρ0:En):List D->Option (List (Key×D))
 |[]=>some []
 |d::r=>(tg d ρ0).bind λρ1=>(c ρ1).bind λb=>if b=true then((fk ρ1).bind cg).bind λk=>(q ρ1).bind λx=>(iJ tg c fk q ρ0 r).map λt=>(k,x)::t else iJ tg c fk q ρ0 r
def nR(es:List (Key×D)):Option D:=if(es.map (·.1)).Nodup then some (.dct .own (es.map (·.1)) (es.map (·.2)))else none
def sX(cap:List (Option Nat))(it:En->Option (Bool×List D))(tg:D->En->Option En)(c:En->Option Bool)(fk q:En->Option D):En->Option D:=λρ=>(it ρ).bind λp=>if p.2.length<=1000000 then(iJ tg c fk q (gU cap ρ) p.2).bind nR else none
variable{ks:List Key}
theorem Cj(h:k∉ks):cu ks k=none:=Ut.mpr λx F=>by
 have:x≠k:=λz=>h (z▸F);simpa using this
theorem CW{x:V}(e:cg d=some k)(r:Rep G H W d x L):x=kV k/\L=[]:=by
 cases d with
 |int i=>cases e;rw[Rep]at r;exact r
 |str i=>cases e;rw[Rep]at r;exact r
 |_=>cases e
section
variable{G:Gc}{ob own:Nat->Bool}
theorem Fi{cap:List (Option Nat)}{wi:TI}{g:TG}{tt:TT}{tk te:TE}{it:En->Option (Bool×List D)}{tg:D->En->Option En}{c:En->Option Bool}{fk e:En->Option D}(b2:∀i:Nat,own i=true->cap[i]?≠none->cap[i]? =some none)(hi:RfI G ob wi it)(hg:JR G (obC cap ob) own g tg)(ht:RfT G (obC cap ob) tt c)(I:RfE G (obC cap ob) tk fk)(V:RfE G (obC cap ob) te e):RfE G ob (Fo cap wi g tt tk te) (sX cap it tg c fk e):=λρ d ee σ H W rl w Q q=>by
 unfold sX at ee;cases h1:it ρ with
 |none=>simp[h1]at ee
 |some p=>
  obtain⟨b,items⟩:=p;rw[h1]at ee;simp only[S8]at ee;split at ee
  .rename_i hlen
   cases h2:iJ tg c fk e (gU cap ρ) items with
   |none=>simp[h2]at ee
   |some tot=>
    rw[h2]at ee;simp only[S8,nR]at ee;split at ee
    .rename_i hnd
     cases ee;refine hi ρ b items h1 σ H W rl w _ λJ H1 Z wk=>?_;refine⟨λi m ys H2=>i+m=items.length/\ys.length<=i/\∃acc L rest,Same H1 H2/\List.map (·.1) ys=List.map (·.1) acc/\aC G H2 (W.add L) (List.map (·.2) acc) (List.map (·.2) ys) L/\(∀a∈L,H1 a=none)/\L.Nodup/\WOk H2 (W.add L)/\iJ tg c fk e (gU cap ρ) (items.drop i)=some rest/\acc++rest=tot,⟨items.length,by omega,by simp,[],[],tot,Same.refl _,rfl,.nil,by simp,List.nodup_nil,?_,h2,rfl⟩,?_⟩
     .rw[pU];exact w.up Z
     rintro i m ys H2 ⟨c4,c5,acc,L,rest,s2,a3,ra,fa,na,wa,F,a0⟩;have a2:Up H1 H2 W (W.add L):=Up.add s2 fa
     .by_cases hil:i<items.length
      .have hdr:=(VG hil).symm
       rw[hdr,iJ]at F;refine .inr ⟨wk.go i items[i] (by simp[hil]) H2 _ (LtB.up a2),by have:=six hlen;omega,λa4 H'=>(i+1)+(m-1)=items.length/\a4.length<=i+1/\∃acc L rest,Same H1 H'/\List.map (·.1) a4=List.map (·.1) acc/\aC G H' (W.add L) (List.map (·.2) acc) (List.map (·.2) a4) L/\(∀a∈L,H1 a=none)/\L.Nodup/\WOk H' (W.add L)/\iJ tg c fk e (gU cap ρ) (items.drop (i+1))=some rest/\acc++rest=tot,λa4 H' h=>⟨m-1,by omega,h⟩,λx H3 hy=>?_⟩;obtain⟨s3,rx⟩:=wk.yld i items[i] (by simp[hil]) H2 _ (LtB.up a2) x H3 hy;cases O:tg items[i] (gU cap ρ)with
       |none=>simp[O]at F
       |some ρ1=>
        rw[O]at F;simp only[S8]at F;have b7:Rel G H3 (W.add L) (obC cap ob) (gU cap ρ) (dM cap σ):=(rl.cap).up ((Up.same Z).trans (a2.trans (Up.same s3)));have b5:=ra.up (Up.same s3 (W:=W.add L));have b3:WOk H3 (W.add L):=wa.up s3;refine hg items[i] _ ρ1 O x _ H3 (W.add L) rx b7 (by simp[gU,dM]) _ λσ2 b0 c1 k4=>⟨zK b2 k4,?_⟩;cases h4:c ρ1 with
        |none=>simp[h4]at F
        |some bb=>
         rw[h4]at F;simp only[S8]at F;refine ht ρ1 bb h4 σ2 H3 (W.add L) b0 b3 _ λH4 s4=>?_;have b1:=b0.up (Up.same s4);have a6:=b3.up s4;cases bb with
         |false=>
          simp only[Uo,VM]at F;exact vR ⟨by omega,by omega,acc,L,rest,((s2.trans s3).trans s4),a3,b5.up (Up.same s4),fa,na,a6,F,a0⟩
         |true=>
          simp only[Ud]at F;cases h7:fk ρ1 with
          |none=>simp[h7]at F
          |some dk=>
          cases h8:cg dk with
          |none=>simp[h7,h8]at F
          |some k=>
          cases h5:e ρ1 with
          |none=>simp[h5,h7,h8]at F
          |some y=>
           cases h6:iJ tg c fk e (gU cap ρ) (items.drop (i+1))with
           |none=>simp[h5,h6,h7,h8]at F
           |some a1=>
            obtain rfl:(k,y)::a1=rest:=by simpa[h5,h6,h7,h8]using F
            refine qy (I ρ1 dk h7 σ2 H4 (W.add L) b1 a6 _ λxk a8 c6 a5 c0 c3 c2=>?_);obtain⟨rfl,rfl⟩:=CW h8 c0;refine⟨k,rfl,?_⟩;have b8:=b1.up (Up.same a5);have b6:=a6.up a5;have a9:Same H1 a8:=((s2.trans s3).trans s4).trans a5;have a7:=(b5.up (Up.same s4 (W:=W.add L))).up (Up.same a5 (W:=W.add L));refine V ρ1 y h5 σ2 a8 (W.add L) b8 b6 _ λv H5 M s5 ry fy ny=>?_;have fM:∀a∈M,H1 a=none:=λa Y=>a9.none' (fy a Y);have b9:∀a∈L,a∉M:=λa h1 h2=>by
             obtain⟨o,B,_⟩:=a7.dom a h1;rw[fy a h2]at B;cases B
            have u5:Up a8 H5 (W.add L) (W.add (L++M)):=⟨s5,λb u U f=>⟨λz=>z.elim (λz=>(S9.mp z).elim (λz=>f.1 (.inl z)) λz=>by rw[fy b z]at U;cases U) λz=>f.1 (.inr z),f.2⟩,λ_ _ _ f=>f⟩;have u6:Up H5 H5 ((W.add L).add M) (W.add (L++M)):=⟨Same.refl _,λb u U f=>⟨λz=>by
             rcases z with z|z
             .exact(S9.mp z).elim (λz=>f.1 (.inr (.inl z))) λz=>f.1 (.inl z)
             .exact f.1 (.inr (.inr z)),f.2⟩,λ_ _ _ f=>f⟩
            have b4:cu (ys.map (·.1)) k=none:=Cj λz=>by
             rw[a3]at z;rw[←a0,Uy]at hnd;exact(Tu.mp hnd).2.2 k z k (by simp) rfl
            rw[jy b4];refine⟨by omega,by simp;omega,acc++[(k,y)],L++M,a1,a9.trans s5,by simp[a3],?_,λa Y=>(S9.mp Y).elim (fa a) (fM a),cA na ny b9,?_,rfl,by rw[←a0];simp⟩
            .rw[Uy,Uy];exact(a7.up u5).append (.one (ry.up u6))
            exact w.add (Z.trans (a9.trans s5)) λa Y=>(S9.mp Y).elim (λz=>let⟨o,h,m⟩:=a7.dom a z;⟨o,s5 a o h,m⟩) (ry.dom a)
      .have hl:i=items.length:=by omega
       subst hl;rw[Wb,iJ]at F;cases F;refine .inl ⟨wk.stop H2 _ (LtB.up a2),Wh (six (by omega)),λp N=>?_⟩;have sm:Same H2 (upd H2 p (.dK ys)):=Same.new N;rw[T3]at a0;subst a0;refine q (.ref p) _ (p::L) ((Z.trans s2).trans sm) ?_ (λa Y=>(Tf.mp Y).elim (λz=>by rw[z];exact(Z.trans s2).none' N) λz=>Z.none' (fa a z)) (T5.mpr ⟨λz=>?_,na⟩)
       .rw[Rep]
        exact⟨p,ys,L,rfl,⟨a3,hnd⟩,ra.up ⟨sm,λb u U f=>⟨λz=>z.elim (λz=>(Tf.mp z).elim (λz=>by rw[z,N]at U;cases U) λz=>f.1 (.inl z)) λz=>f.1 (.inr z),f.2⟩,λ_ _ _ f=>f⟩,aM,rfl⟩
       .obtain⟨o,B,_⟩:=ra.dom p z
        rw[N]at B;cases B
    .cases ee
  .cases ee
end
section
variable{ι:Type}{X:ι->Cx}{G:Gc}{ob:Nat->Bool}{kx vx target iter:Expr}{ifs:List Expr}{scope:Scope}{pos pos' pos2:Pos}{N':List Str}{it:En->Option (Bool×List D)}{tg:D->En->Option En}{fc:En->Option Bool}{fk fe:En->Option D}
variable{P:Nat->Bool}{x:Str}
theorem Hd(i:Nat)(cap:List (Option Nat))(own:Nat->Bool)(z:∀c,(X c).N.Nodup)(F:∀c,(X c).xe=NoX)(hc:∀c,(X c).calm=true)(O:∀c,fU (X c).env.scope (X c).N N' scope cap)(B:∀i:Nat,own i=true->cap[i]?≠none->cap[i]? =some none)(hi:PVI X G ob target iter it)(q:O_ (InX X N' scope) G (obC cap ob) own target tg)(U:Lz (InX X N' scope) G (obC cap ob) ifs fc)(I:PV (InX X N' scope) G (obC cap ob) kx fk)(V:PV (InX X N' scope) G (obC cap ob) vx fe)
  (hP:P i=false:=by rfl) (a0:∀c,(X c).N[i]? =some x:=by intro _;rfl) (Y:∀c,Loc (X c).env.scope x:=by intro _;first|exact Vr rfl|exact U8 rfl) (hw:∀c,WT (.DictComp kx vx [⟨target,iter,ifs,0⟩] scope pos) (some (.Name x pos')) pos2.line (X c).env=pure true:=by intro _;rfl) (hs:∀c,∀x,VJ iter (X c).env x=pure x:=by intro _ _;rfl)
  (Z:∀c,(X c).fn x=true∨(X c).env.scope.names.lookup x=some .local:=by intro _;first|exact .inl rfl|exact .inr rfl):PVS X G ob P (.Assign [.Name x pos'] (.DictComp kx vx [⟨target,iter,ifs,0⟩] scope pos) pos2) (bI (sX cap it tg fc fk fe) (tgN i)):=
 let⟨_,i1,i2⟩:=hi.ex;let⟨_,g1,g2⟩:=q.ex;let⟨_,t1,t2⟩:=U.ex;let⟨_,k1,k2⟩:=I.ex;let⟨_,e1,e2⟩:=V.ex
 ⟨_,λc=>J2 (F c) (hc c) (z c) (a0 c) (Y c) (O c) (i1 c) (λC s H fp=>g1 (c,C,s,H,fp)) (λC s H fp=>t1 (c,C,s,H,fp)) (λC s H fp=>k1 (c,C,s,H,fp)) (λC s H fp=>e1 (c,C,s,H,fp)) (hw c) (hs c) (Z c),by rw[←vU];exact iR (ux (Fi B i2 g2 t2 k2 e2)) (gP hP)⟩
end
def qi:En->Option (List (Key×D)):=λ_=>some []
def jK(fk q:En->Option D)(V:En->Option (List (Key×D))):En->Option (List (Key×D)):=λρ=>((fk ρ).bind cg).bind λk=>(q ρ).bind λx=>(V ρ).map λr=>(k,x)::r
def nq(f:En->Option (List (Key×D))):En->Option D:=λρ=>(f ρ).bind λes=>if es.length<=15/\au (es.map (·.2))=true/\az (es.map (·.2))=true then nR es else none
def Ga(G:Gc)(ob:Nat->Bool)(t:List (TE×TE))(f:En->Option (List (Key×D))):Prop:=∀(ρ:En)(es:List (Key×D)),f ρ=some es->∀(σ:L2.St)(H:Hp)(W:Wn),Rel G H W ob ρ σ->WOk H W->∀Q:List (V×V)->Hp->Prop,
 (∀(vs:List V) H' L,vs.length=es.length->Same H H'->aC G H' (W.add L) (es.map (·.2)) vs L->(∀a∈L,H a=none)->L.Nodup->Q ((aab (es.map (·.1)) vs).map λkv=>(kV kv.1,kv.2)) H')->wZ t σ H Q
structure Js{ι:Type}(X:ι->Cx)(G:Gc)(ob:Nat->Bool)(pos:Pos)(ks:List (Option Expr))(vs:List Expr)(f:En->Option (List (Key×D))):Prop where
 mk::(ex:∃t,(∀c,PPs (X c) pos ks vs t)/\Ga G ob t f)
theorem Jy:Ga G ob [] qi:=λρ es e σ H W F w Q q=>by
 cases e;exact q [] H [] rfl (Same.refl H) .nil (by simp) List.nodup_nil
variable{t:List (TE×TE)}
theorem Jg{tk tv:TE}{fv:En->Option D}{V:En->Option (List (Key×D))}(I:RfE G ob tk fk)(hv:RfE G ob tv fv)(Z:Ga G ob t V):Ga G ob ((tk,tv)::t) (jK fk fv V):=λρ es e σ H W rl w Q q=>by
 unfold jK at e;cases h1:fk ρ with
 |none=>simp[h1]at e
 |some dk=>
 cases h2:cg dk with
 |none=>simp[h1,h2]at e
 |some k=>
 cases O:fv ρ with
 |none=>simp[h1,h2,O]at e
 |some dv=>
 cases F:V ρ with
 |none=>simp[h1,h2,O,F]at e
 |some rs=>
  obtain rfl:(k,dv)::rs=es:=by simpa[h1,h2,O,F]using e
  refine I ρ dk h1 σ H W rl w _ λxk H0 L0 s0 rk a1 nk=>?_;obtain⟨rfl,rfl⟩:=CW h2 rk;refine hv ρ dv O σ H0 W (rl.up (Up.same s0)) (w.up s0) _ λx H1 L s1 rx fx nx=>?_;have u1:Up H0 H1 W (W.add L):=.add s1 fx;have w1:WOk H1 (W.add L):=(w.up s0).add s1 rx.dom;refine Z ρ rs F σ H1 (W.add L) ((rl.up (Up.same s0)).up u1) w1 _ λys H2 M hl s2 N fy ny=>?_;have a0:∀a∈L,a∉M:=λa h1 h2=>by
   obtain⟨o,B,_⟩:=rx.dom a h1;rw[fy a h2]at B;cases B
  have u2:Up H1 H2 (W.add L) (W.add (L++M)):=⟨s2,λb u U f=>⟨λz=>z.elim (λz=>(S9.mp z).elim (λz=>f.1 (.inl z)) λz=>by rw[fy b z]at U;cases U) λz=>f.1 (.inr z),f.2⟩,λ_ _ _ f=>f⟩;refine q (x::ys) H2 (L++M) (by simp[hl]) ((s0.trans s1).trans s2) (.cons (rx.up u2) (N.up ⟨Same.refl _,λb u U f=>⟨λz=>?_,f.2⟩,λ_ _ _ f=>f⟩)) (λa Y=>?_) (cA nx ny a0)
  .rcases z with z|z
   .exact(S9.mp z).elim (λz=>f.1 (.inr (.inl z))) λz=>f.1 (.inl z)
   .exact f.1 (.inr (.inr z))
  .rcases S9.mp Y with z|z
   .exact s0.none' (fx a z)
   .exact(s0.trans s1).none' (fy a z)
theorem mq:∀{more kvs:List (Key×V)},(List.map (·.1) (kvs++more)).Nodup->kZ kvs more=kvs++more
 |[],kvs,h=>by simp[kZ]
 |p::r,kvs,h=>by
  have h1:putK kvs p.1 p.2=kvs++[p]:=jy (Cj λz=>by
   rw[Uy]at h;exact(Tu.mp h).2.2 p.1 z p.1 (by simp) rfl)
  have:=mq (more:=r) (kvs:=kvs++[p]) (by simpa using h);show kZ (putK kvs p.1 p.2) r=_;rw[h1,this];simp
variable{f:En->Option (List (Key×D))}
theorem KZ(h:Ga G ob t f):RfE G ob (Hy t) (nq f):=λρ d e σ H W rl w Q q=>by
 unfold nq at e;cases h1:f ρ with
 |none=>simp[h1]at e
 |some es=>
  rw[h1]at e;simp only[S8]at e;split at e
  .rename_i hc
   unfold nR at e;split at e
   .rename_i hnd
    cases e;intro p N;have I:Same H (upd H p (.dK [])):=Same.new N;have u0:Up H (upd H p (.dK [])) W (W.add [p]):=.add I (by simpa using N);have w0:WOk (upd H p (.dK [])) (W.add [p]):=w.add I λa Y=>by
     obtain rfl:a=p:=by simpa using Y
     exact⟨_,aM,rfl⟩
    refine h ρ es h1 σ _ _ (rl.up u0) w0 _ λvs H2 L hl O r2 B n2=>?_;have a0:H2 p=some (.dK []):=O p _ aM;have a2:List.map (·.1) (aab (es.map (·.1)) vs)=es.map (·.1):=ab1 (by simp[hl]);have a6:List.map (·.2) (aab (es.map (·.1)) vs)=vs:=ab2 (by simp[hl]);refine⟨a0,aab (es.map (·.1)) vs,rfl,by simp[hl];exact hc.1,?_⟩;rw[mq (by simpa[a2]using hnd),List.nil_append];have a3:p∉L:=λz=>by have:=B p z;rw[aM]at this;cases this
    have a4:Same H (upd H2 p (.dK (aab (es.map (·.1)) vs))):=λb u U=>by
     have a1:b≠p:=λz=>by rw[z,N]at U;cases U
     rw[aH a1];exact O b u (by rw[aH a1];exact U)
    refine q (.ref p) _ (p::L) a4 ?_ (λa Y=>?_) (T5.mpr ⟨a3,n2⟩)
    .rw[Rep]
     refine⟨p,_,L,rfl,⟨a2,hnd⟩,?_,aM,rfl⟩;rw[a6];have ev:Evo H2 (upd H2 p (.dK (aab (es.map (·.1)) vs))) ((W.add [p]).add L) (W.add (p::L)):=⟨λb u U V=>⟨by rw[aH λz=>V.1 (.inr (.inl (by simp[z])))];exact U,λz=>by
      rcases z with z|z
      .rcases Tf.mp z with z|z
       .exact V.1 (.inr (.inl (by simp[z])))
       .exact V.1 (.inl z)
      .exact V.1 (.inr (.inr z)),V.2⟩,λb xs U=>by rw[aH λz=>by rw[z,a0]at U;cases U];exact U⟩
     exact r2.mono ev (.inl hc.2.1) (.inl hc.2.2) λc a5 u F=>by
      have Z:c≠p:=λz=>a3 (by rw[←z];exact a5);rw[aH Z];exact F
    .rcases Tf.mp Y with z|z
     .rw[z];exact N
     .have:=B a z
      by_cases U:a=p
      .rw[U];exact N
      .rwa[aH U]at this
   .cases e
  .cases e
theorem rT:Js X G ob pos [] [] qi:=⟨_,λc=>Cr,Jy⟩
theorem pH{k v:Expr}{ks:List (Option Expr)}{vs:List Expr}{q:En->Option D}{V:En->Option (List (Key×D))}(I:PV X G ob k fk)(B:PV X G ob v q)(Z:Js X G ob pos ks vs V):Js X G ob pos (some k::ks) (v::vs) (jK fk q V):=
 let⟨_,a1,a2⟩:=I.ex;let⟨_,b1,b2⟩:=B.ex;let⟨_,c1,c2⟩:=Z.ex;⟨_,λc=>rB (a1 c) (b1 c) (c1 c),Jg a2 b2 c2⟩
theorem wF{N:List (Option Expr)}{B:List Expr}(h:Js X G ob pos N B f)(z:N.all (·.isSome)=true:=by rfl)(Y:N.length=B.length:=by rfl)(Z:N≠[]:=by simp)(q:N.length<=15:=by decide):PV X G ob (.Dict N B pos) (nq f):=
 let⟨_,a1,a2⟩:=h.ex;⟨_,λc=>Cd (a1 c) z Y Z q,KZ a2⟩
def sW(i j:Nat):En->Option Fl:=λρ=>match ρ[i]? with
 |some (some d)=>(match(ρ.set i none)[j]? with
  |some (some d')=>some (.ret (.tup [d,d']) ((ρ.set i none).set j none))
  |_=>none)
 |_=>none
theorem DG:RfS G ob P (G4 (Q8 (xx (xj i) (xx (xj j) Ob)))) (sW i j):=λρ r e σ H S Fr s E q=>by
 unfold sW at e;split at e
 .rename_i d h1
  split at e
  .rename_i d' h2
   cases e;obtain⟨v,F,a2,a3,a4⟩:=s.move h1;obtain⟨v',b1,b2,b3,b4⟩:=a3.move h2;have V:∀k a,a∈bO S i [] k->a∈S k:=λk a z=>(bJ z).elim (λz=>by cases z.2) λz=>z.2;have B:∀k a,a∈bO (bO S i []) j [] k->a∈bO S i [] k:=λk a z=>(bJ z).elim (λz=>by cases z.2) λz=>z.2;have Z:=(by simpa[clean]using a2:aB d=true/\aA d=true);have O:=(by simpa[clean]using b2:aB d'=true/\aA d'=true);refine⟨v,F,v',b1,(by show 2<=Te;decide),λp N=>?_⟩;have I:Same H (upd H p (.tup [v,v'])):=Same.new N;have a0:∀a,plus (S i++bO S i [] j) Fr a↔plus (bO S i [] j) (plus (S i) Fr) a:=λa=>by
    unfold plus;rw[S9];constructor
    .rintro((z|z)|z)
     .exact .inr (.inl z)
     .exact .inl z
     .exact .inr (.inr z)
    .rintro(z|z|z)
     .exact .inl (.inr z)
     .exact .inl (.inl z)
     .exact .inr z
   refine q (.ref p) σ (upd H p (.tup [v,v'])) (S i++bO S i [] j) (bO (bO S i []) j []) (b3.grow I λa Y=>.inl ((a0 a).mp Y)) ?_ ?_ ?_ ?_ ?_
   .rw[Rep]
    refine⟨p,[v,v'],rfl,aM,?_⟩;have w1:∀{M:List Addr}{b:Addr},(wn ob (bO S i []) (plus (S i) Fr)).free b->(wn ob (bO (bO S i []) j []) (plus (S i++bO S i [] j) Fr)).free b:=λ{M b} f=>by
     refine⟨λz=>?_,λ⟨k,q1,q2⟩=>f.2.1 ⟨k,q1,B k b q2⟩,λ⟨k,q1,q2⟩=>f.2.2 ⟨k,q1,B k b q2⟩⟩;rcases(a0 b).mp z with z|z
     .cases ho:ob j with
      |false=>exact f.2.1 ⟨j,ho,z⟩
      |true=>exact f.2.2 ⟨j,ho,z⟩
     .exact f.1 z
    have a6:Evo H (upd H p (.tup [v,v'])) (wn ob (bO S i []) (plus (S i) Fr)) (wn ob (bO (bO S i []) j []) (plus (S i++bO S i [] j) Fr)):=⟨λb u h f=>⟨I b u h,w1 (M:=[]) f⟩,λb xs h=>I b _ h⟩;have a5:Evo H (upd H p (.tup [v,v'])) (wn ob (bO (bO S i []) j []) (plus (bO S i [] j) (plus (S i) Fr))) (wn ob (bO (bO S i []) j []) (plus (S i++bO S i [] j) Fr)):=⟨λb u h f=>⟨I b u h,⟨λz=>f.1 ((a0 b).mp z),f.2⟩⟩,λb xs h=>I b _ h⟩;exact aC.cons (a4.mono a6 (.inl Z.1) (.inl Z.2) λc _ u e=>I c u e) (aC.one (b4.mono a5 (.inl O.1) (.inl O.2) λc _ u e=>I c u e))
   .simp[clean,aB,aA,au,az,Z.1,Z.2,O.1,O.2]
   .refine Tu.mpr ⟨s.nd i,a3.nd j,λa Y b U e=>?_⟩
    subst e;rcases bJ U with⟨_,z⟩|⟨n,z⟩
    .cases z
    .exact n (s.dj i j a Y z).symm
   .intro a Y
    rcases S9.mp Y with z|z
    .exact .inl ⟨i,z⟩
    .exact .inl ⟨j,V j a z⟩
   .exact⟨λb u h _ _=>I b u h,λk a z=>.inl ⟨k,V k a (B k a z)⟩,.refl⟩
  .cases e
 .cases e
theorem Eb(i j:Nat){x:Str}{U:Pos}{x1}(z:∀c,(X c).N[i]? =some x:=by intro _;rfl)(B:∀c,Vis (X c).env.scope x:=by intro _;first|exact Vr rfl|exact U8 (Vr rfl)|exact U8 (U8 rfl))(hd:(x==("__debug__":Str))=false:=by decide)(V:(x==("__classdict__":Str))=false:=by decide)
  (O:∀c,(X c).N[j]? =some y:=by intro _;rfl) (F:∀c,Vis (X c).env.scope y:=by intro _;first|exact Vr rfl|exact U8 (Vr rfl)|exact U8 (U8 rfl)) (Y:(y==("__debug__":Str))=false:=by decide) (I:(y==("__classdict__":Str))=false:=by decide)
  (hs:∀c,Tj [.Name x p1,.Name y p2] (X c).env=(false,eval (.Name x p1) (X c).env)::Tj [.Name y p2] (X c).env:=by intro _;rfl) (q:∀c,Tj [.Name y p2] (X c).env=(false,eval (.Name y p2) (X c).env)::Tj [] (X c).env:=by intro _;rfl):PVS X G ob P (.Return (some (.Tuple [.Name x p1,.Name y p2] x1 U)) pos) (sW i j):=
 ⟨_,λc=>qX (Af (nT (pv i (z c) (B c) hd V) (nT (pv j (O c) (F c) Y I) FP (q c)) (hs c))),DG⟩
variable{X:Cx}{ob:Obj}
theorem Em(I:Inv X pins σ H s)(e:H a=some (.frz ob (.dK kvs)))(Z:∀o u,X.H₀ a≠some (.frz o u)):Inv X pins σ (upd H a (.dK kvs)) s where
 ok:=I.ok
 os:=I.os
 bare:=I.bare
 base:=⟨I.base.keep,I.base.slot,λb o g n F=>by rw[aH (λz=>by have:=I.base.free b o g n F;rw[z,e]at this;cases this)];exact I.base.free b o g n F,I.base.there,
  λb xs g=>by rw[aH (iG (I.base.tups b xs g) e (by intro z;cases z))];exact I.base.tups b xs g,λb o u g=>by rw[aH (λz=>by subst z;exact Z o u g)];exact I.base.frzs b o u g,
  λb ps g=>let⟨more,z⟩:=I.base.tbls b ps g;⟨more,by rw[aH (iG z e (by intro z;cases z))];exact z⟩⟩
 loc:=I.loc
 cell:=I.cell
 free:=by rw[aH (λz=>by have:=I.free;rw[z,e]at this;cases this)];exact I.free
 freeC:=λx c g=>by rw[aH (λz=>by have:=I.freeC x c g;rw[z,e]at this;cases this)];exact I.freeC x c g
 pin:=λp N=>let⟨h1,h2,h3⟩:=I.pin p N;⟨h1,by rw[aH (λz=>by rw[z,e]at h2;cases h2)];exact h2,h3⟩
 hok:=λb u g=>by
  by_cases U:b=a
  .subst U
   rw[aM]at g;cases g;obtain⟨_,q⟩:=(show bB X.prog X.w H s.heap b (.frz ob (.dK kvs))from I.hok b _ e);exact q
  .rw[aH U]at g
   exact(I.hok b u g).stay (λc v _ q=>q) (λc q=>by rw[aH (iG q e (by intro z;cases z))];exact q) λc xs q=>by rw[aH (iG q e (by intro z;cases z))];exact q
 len:=I.len
theorem Ed(I:Inv X pins σ H s)(Y:H a=some (.dK kvs)):∃ob,Inv X pins σ (upd H a (.frz ob (.dK kvs))) s/\∀o u,X.H₀ a≠some (.frz o u):=by
 obtain⟨z,hd,vs,rel,Z⟩:=sU I.hok Y;obtain⟨ep,ob,es,g,x,d,q,N,O⟩:=Z.dictAt;refine⟨ob,jC (t':=s.toks) I (by rw[Y];exact Vc) ⟨rfl,λ_ _=>rfl⟩ ⟨ob,g⟩ ⟨g,z,hd,vs,rel,Z⟩,λo u g=>?_⟩;have:=I.base.frzs a o u g;rw[Y]at this;cases this
def Gj(tl:TE):TI:=λσ H R=>tl σ H λx H1=>∃a ob kvs,x= .ref a/\H1 a=some (.frz ob (.dK kvs))/\R (Itd a ob kvs) H1
variable{tg e:Expr}
theorem FQ(hl:PE X e te):PI X tg e (Gj te):=by
 intro pins s σ H R I h;refine thn (hl pins s σ H _ I h) λv Z ⟨x,H1,F,r1,q1⟩=>?_;obtain⟨a,ob,kvs,ex,Y,q⟩:=q1;subst ex;cases r1;obtain⟨h1,z,hd,vs,rel,dd⟩:=(show bB X.prog X.w H1 Z.heap a (.frz ob (.dK kvs))from F.hok a _ Y);obtain⟨ep,V,es,g,x,d,r1,N,O⟩:=dd.dictAt;have B:V=ob:=by rw[h1]at g;exact(UG g).symm
 subst B;have a0:Z.heap.DictAt (aY X.prog X.w) a vs ep:=⟨V,es,g,x,d,r1,N,O⟩;refine wpAny_pyIter_dict hd a0 ?_;refine⟨Z.heap.objs.size,[Z.heap.objs.size],_,_,_,rfl,F.kept (t':=Z.toks) λb o e=>S_ _ e,Dm a _ V kvs,⟨es,ep,d,_,TV _ rfl,rfl,by rw[show kvs.length=vs.length from rel.length];rfl⟩,λb U=>?_,q⟩;have e:b=Z.heap.objs.size:=by simpa using U
 subst e;exact F.fpOk (Tg _) (F.hok.fresh (Tg _))
mutual
noncomputable def yg:D->Bool
 |.tup ds=>pX ds
 |.lst _ ds=>pX ds
 |.dct m _ ds=>(m== .scr)&&pX ds
 |.ins _ _ _ ds=>pX ds
 |_=>true
noncomputable def pX:List D->Bool
 |[]=>true
 |d::r=>yg d&&pX r
end
def Sx(o:HO):Prop:=∀ob u,o≠.frz ob u
structure Chg(fd:Bool)(H H':Hp):Prop where
 l:∀b xs,H b=some (.lst xs)->H' b=some (.lst xs)
 t:∀b xs,H b=some (.tup xs)->H' b=some (.tup xs)
 i:∀b C dx kv,H b=some (.ins C dx kv)->H' b=some (.ins C dx kv)
 d:fd=false->∀b kvs,H b=some (.dK kvs)->H' b=some (.dK kvs)
 r:∀b o,Sx o->Rd H b o->Rd H' b o
theorem b7.chg{F:Addr->HO->Prop}{o:HO}(Z:Rd H a o->Rd H' a o)(h:b7 F H W a o m L M)(B:m≠.scr->H a=some o->H' a=some o):b7 F H' W a o m L M:=by
 cases m with
 |own=>exact⟨B (by intro z;cases z) h.1,h.2⟩
 |frz=>exact⟨B (by intro z;cases z) h.1,h.2⟩
 |brw=>exact⟨B (by intro z;cases z) h.1,h.2⟩
 |bro=>exact⟨B (by intro z;cases z) h.1,h.2⟩
 |scr=>exact⟨h.1.imp (λz=>⟨Z z.1,z.2⟩) id,h.2⟩
variable{fd:Bool}
mutual
theorem Rep.chg(c:Chg fd H H'):∀{d:D}{v:V}{L:List Addr},Rep G H W d v L->(fd=true->yg d=true)->Rep G H' W d v L
 |.non,v,L,h,_=>by rw[Rep]at h⊢;exact h
 |.bl _,v,L,h,_=>by rw[Rep]at h⊢;exact h
 |.int _,v,L,h,_=>by rw[Rep]at h⊢;exact h
 |.str _,v,L,h,_=>by rw[Rep]at h⊢;exact h
 |.ty _,v,L,h,_=>by rw[Rep]at h⊢;exact h
 |.tup ds,v,L,h,n=>by
  rw[Rep]at h⊢;obtain⟨a,xs,rfl,U,Z⟩:=h;exact⟨a,xs,rfl,c.t a xs U,aC.chg c Z λz=>by simpa[yg]using n z⟩
 |.lst m ds,v,L,h,n=>by
  rw[Rep]at h⊢;obtain⟨a,xs,M,rfl,Z,hs⟩:=h;exact⟨a,xs,M,rfl,aC.chg c Z λz=>by simpa[yg]using n z,hs.chg (c.r a _ (λ_ _ z=>by cases z)) λ_=>c.l a xs⟩
 |.dct m ks ds,v,L,h,n=>by
  rw[Rep]at h⊢;obtain⟨a,xs,M,rfl,I,Z,hs⟩:=h;refine⟨a,xs,M,rfl,I,aC.chg c Z λz=>?_,hs.chg (c.r a _ (λ_ _ z=>by cases z)) λN=>?_⟩
  .have:=n z
   rw[yg,TY]at this;exact this.2
  .cases fd with
   |false=>exact c.d rfl a xs
   |true=>
    have:=n rfl;rw[yg,TY]at this;cases m<;>first|exact absurd rfl N|(have q:=this.1;cases q)
 |.ins m cc fs ds,v,L,h,n=>by
  rw[Rep]at h⊢;obtain⟨a,C,dx,xs,M,rfl,B,I,Z,hs⟩:=h;exact⟨a,C,dx,xs,M,rfl,B,I,aC.chg c Z λz=>by simpa[yg]using n z,hs.chg (c.r a _ (λ_ _ z=>by cases z)) λ_=>c.i a C dx xs⟩
theorem aC.chg(c:Chg fd H H'):∀{ds:List D}{vs:List V}{L:List Addr},aC G H W ds vs L->(fd=true->pX ds=true)->aC G H' W ds vs L
 |[],vs,L,h,_=>by rw[aC]at h⊢;exact h
 |d::r,vs,L,h,n=>by
  obtain⟨x,ys,M,M',rfl,rfl,h1,h2⟩:=h.inv;have F:fd=true->yg d=true/\pX r=true:=λz=>by have:=n z;rwa[pX,TY]at this
  exact .cons (Rep.chg c h1 λz=>(F z).1) (aC.chg c h2 λz=>(F z).2)
end
theorem ik(Y:H a=some (.dK kvs)):Chg true H (upd H a (.frz ob (.dK kvs)))where
 l:=λb xs e=>by rw[aH (iG e Y (by intro z;cases z))];exact e
 t:=λb xs e=>by rw[aH (iG e Y (by intro z;cases z))];exact e
 i:=λb C dx kv e=>by rw[aH (iG e Y (by intro z;cases z))];exact e
 d:=λz=>by cases z
 r:=λb o n h=>by
  by_cases U:b=a
  .subst U
   rcases h with h|⟨u,h⟩
   .rw[Y]at h;cases h;exact .inr ⟨ob,aM⟩
   .rw[Y]at h;cases h
  .rcases h with h|⟨u,h⟩
   .exact .inl (by rw[aH U];exact h)
   .exact .inr ⟨u,by rw[aH U];exact h⟩
theorem Hi(Y:H a=some (.frz ob (.dK kvs))):Chg false H (upd H a (.dK kvs))where
 l:=λb xs e=>by rw[aH (iG e Y (by intro z;cases z))];exact e
 t:=λb xs e=>by rw[aH (iG e Y (by intro z;cases z))];exact e
 i:=λb C dx kv e=>by rw[aH (iG e Y (by intro z;cases z))];exact e
 d:=λ_ b kv e=>by rw[aH (iG e Y (by intro z;cases z))];exact e
 r:=λb o n h=>by
  by_cases U:b=a
  .subst U
   rcases h with h|⟨u,h⟩
   .rw[Y]at h;cases h;exact absurd rfl (n _ _)
   .rw[Y]at h;cases h;exact .inl aM
  .rcases h with h|⟨u,h⟩
   .exact .inl (by rw[aH U];exact h)
   .exact .inr ⟨u,by rw[aH U];exact h⟩
def kD:Key->D
 |.inl i=>.int i
 |.inr x=>.str x
def wiF(a:Addr)(ob:Obj)(kvs:List (Key×V)):TI:=λ_ H R=>H a=some (.frz ob (.dK kvs))->R (Itd a ob kvs) H
open PySem
def Ris(xs:Array Nat):Prop:=xs.toList.Pairwise (· < ·)
variable{xs:Array Nat}
theorem Ris.lt(h:Ris xs)(B:i<j)(V:j<xs.size):xs.getD i 0<xs.getD j 0:=by
 have:=X7.mp h i j (by simpa using Nat.lt_trans B V) (by simpa using V) B;rw[Wr,Wr]at this;rw[Ua,Ua,V6 xs i (Nat.lt_trans B V),V6 xs j V];exact this
theorem getD_in{a b:Nat}(h:i<xs.size):xs.getD i a=xs.getD i b:=by
 rw[Ua,Ua,V6 xs i h];rfl
theorem tO{xs:Array Nat}(Z:Ris xs)(j:Nat):∀(f lo hi:Nat),hi-lo<=f->lo<=hi->hi<=xs.size->(∀i,i<lo->xs.getD i 0<j)->(∀i,hi<=i->i<xs.size->j<=xs.getD i 0)->
  Yv xs j f lo hi<=xs.size/\(∀i,i<Yv xs j f lo hi->xs.getD i 0<j)/\∀i,Yv xs j f lo hi<=i->i<xs.size->j<=xs.getD i 0
 |0,lo,hi,hf,h1,h2,ha,hb=>by
  have e:lo=hi:=by omega
  subst e;exact⟨h2,ha,hb⟩
 |f+1,lo,hi,hf,h1,h2,ha,hb=>by
  rw[Yv];split
  .rename_i hlt
   dsimp only;have N:(lo+hi) / 2<hi:=by omega
   have V:lo<=(lo+hi) / 2:=by omega
   split
   .rename_i hc
    rw[getD_in (b:=0) (by omega)]at hc;refine tO Z j f _ hi (by omega) (by omega) h2 (λi q=>?_) hb;by_cases e:i=(lo+hi) / 2
    .subst e;exact hc
    .exact Nat.lt_trans (Z.lt (by omega) (by omega)) hc
   .rename_i hc
    rw[getD_in (b:=0) (by omega)]at hc;refine tO Z j f lo _ (by omega) (by omega) (by omega) ha λi q hs=>?_;by_cases e:i=(lo+hi) / 2
    .subst e;omega
    .have:=Z.lt (i:=(lo+hi) / 2) (j:=i) (by omega) hs
     omega
  .have e:lo=hi:=by omega
   subst e;exact⟨h2,ha,hb⟩
theorem rN(Z:Ris xs)(j:Nat):SetTable.below xs j<=xs.size/\(∀i,i<SetTable.below xs j->xs.getD i 0<j)/\∀i,SetTable.below xs j<=i->i<xs.size->j<=xs.getD i 0:=
 tO Z j xs.size 0 xs.size (by omega) (by omega) (Tg _) (λi h=>absurd h (aap i)) λi h1 h2=>by omega
theorem below_zero(Z:Ris xs):SetTable.below xs 0=0:=by
 obtain⟨h1,h2,_⟩:=rN Z 0;rcases abw (SetTable.below xs 0)with e|e
 .exact e
 .exact absurd (h2 0 e) (aap _)
theorem below_next(Z:Ris xs)(hi:i<xs.size):SetTable.below xs (xs.getD i 0+1)=i+1:=by
 obtain⟨h1,h2,O⟩:=rN Z (xs.getD i 0+1);rcases Nat.lt_trichotomy (SetTable.below xs (xs.getD i 0+1)) (i+1)with e|e|e
 .have:=O i (by omega) hi;omega
 .exact e
 .have:=h2 (i+1) e
  have:=Z.lt (i:=i) (j:=i+1) (by omega) (by omega);omega
theorem zU(Z:Ris xs)(V:xs[SetTable.below xs j]?≠some j):Ris (abM xs (SetTable.below xs j) j):=by
 obtain⟨h1,h2,O⟩:=rN Z j;generalize SetTable.below xs j=p at h1 h2 O V;unfold Ris abM;have e1:(xs.extract 0 p).toList=xs.toList.take p:=by simp
 have e2:(xs.extract p xs.size).toList=xs.toList.drop p:=by simp;exact VH (by simp)
 rw[Array.toList_append,ZX,e1,e2];have hs:=Wf p xs.toList;have N:(xs.toList.take p++xs.toList.drop p).Pairwise (· < ·):=by rw[hs];exact Z
 obtain⟨p1,p2,q⟩:=Vx.mp N;have lo:∀a∈xs.toList.take p,a<j:=λa Y=>by
  obtain⟨i,hi,rfl⟩:=VN Y;rw[Vu]at hi;have:=h2 i (by omega);rw[List.getElem_take,Wr];rwa[Ua,V6 xs i (by omega),XQ]at this
 have hi:∀a∈xs.toList.drop p,j<a:=λa Y=>by
  obtain⟨i,hi,rfl⟩:=VN Y;rw[WN,U6]at hi;have F:=O (p+i) (by omega) (by omega);rw[List.getElem_drop,Wr];rw[Ua,V6 xs (p+i) (by omega),XQ]at F;rcases Nat.lt_or_eq_of_le F with z|z
  .exact z
  .exfalso
   rcases abw i with e|e
   .subst e;apply V;rw[V6 xs p (by omega)];simp only[Nat.add_zero]at z;rw[z]
   .have:=Z.lt (i:=p) (j:=p+i) (by omega) (by omega)
    have B:=O p (Tg _) (by omega);rw[Ua,Ua,V6 xs (p+i) (by omega),XQ]at this;rw[Ua]at B;omega
 refine Vx.mpr ⟨Vx.mpr ⟨p1,by simp,λa Y b U=>?_⟩,p2,λa Y b U=>?_⟩
 .rw[Ti.mp U];exact lo a Y
 .rcases S9.mp Y with z|z
  .exact q a z b U
  .rw[Ti.mp z];exact hi b U
theorem Dz(n:Nat):Ris (Array.range n):=by
 unfold Ris;rw[Array.toList_range];exact aax
def RisT(t:Xe)(b:Bool):Prop:=Ris t.place/\t.led=b
variable{t:Xe}
theorem sS{t:Xe}{f:Nat->Int}{h:Int}{j:Nat}{d:Option Nat}:∀{k:Nat}{p:ach},(∀x,p.dummy=some x->t.slot x= .dummy)->ZZ t f h k p=some (.empty j d)->t.slot j= .empty/\∀x,d=some x->t.slot x= .dummy
 |0,p,_,e=>by simp[ZZ]at e
 |k+1,p,hd,e=>by
  rw[ZZ]at e;have z:∀q:ach,(t.advance q).dummy=q.dummy:=λq=>by
   unfold SetTable.advance;split<;>rfl
  split at e
  .rename_i hs
   injection e with e;injection e with e1 e2;subst e1 e2;exact⟨hs,hd⟩
  .rename_i hs
   refine sS (λx F=>?_) e;rw[z]at F;injection F with F;subst F;exact hs
  .split at e
   .cases e
   .refine sS (λx F=>?_) e
    rw[z]at F;exact hd x F
theorem uT(h:t.slot j= .empty∨t.slot j= .dummy):t.place[SetTable.below t.place j]?≠some j:=λe=>by
 unfold SetTable.slot at h;dsimp only at h;rw[e]at h;simp at h
variable{b:Bool}
theorem jj(h:t.led=b):RisT (t.standIn n) b:=⟨Dz n,h⟩
variable{es:Array (Int×Value)}
theorem An{h:Int}(U:RisT t b):RisT (layNew t es h x).2.1 b:=by
 unfold layNew;cases Z:t.freeSlot h with
 |none=>exact jj U.2
 |some z=>
  obtain⟨slot,F⟩:=z;dsimp only;have I:t.place[SetTable.below t.place slot]?≠some slot:=by
   unfold SetTable.freeSlot at Z;split at Z
   .rename_i j d hp
    have B:=sS (t:=t) (by simp[SetTable.probeStart]) hp;injection Z with Z;injection Z with h1 h2;subst h1;cases d with
    |none=>exact uT (.inl B.1)
    |some y=>exact uT (.inr (B.2 y rfl))
   .cases Z
  have q:RisT (t.put slot).1 b:=⟨zU U.1 I,U.2⟩;unfold SetTable.orStandIn;split
  .exact q
  .exact jj q.2
theorem wO(U:t.led=b):RisT (aac t es n).2.1 b:=by
 unfold aac;cases Z:t.relaid (es.map (·.1)) n with
 |none=>exact jj U
 |some sw=>
  obtain⟨t',a0⟩:=sw;dsimp only;split
  .unfold SetTable.relaid SetTable.laid at Z
   cases B:SetTable.layClean (SetTable.sizeAbove n-1) (es.map (·.1))with
   |none=>simp[B]at Z
   |some owner=>
    simp only[B,Option.bind_eq_bind,S8,Option.pure_def,Xr,aa9]at Z;obtain⟨rfl,_⟩:=Z;refine⟨?_,U⟩;unfold Ris;dsimp only;have V:∀l:List Nat,l.Pairwise (· < ·)->((l.filterMap λj=>(owner.getD j none).map (j,·)).map (·.1)).Pairwise (· < ·)/\∀x∈(l.filterMap λj=>(owner.getD j none).map (j,·)).map (·.1),x∈l:=by
     intro l
     induction l with
     |nil=>intro _;simp
     |cons a r ih=>
      intro hl;obtain⟨q,N⟩:=V7.mp hl;obtain⟨O,I⟩:=ih N;rw[X3];cases Y:owner.getD a none with
      |none=>simp only[Option.map_none];exact⟨O,λx F=>T7 _ (I x F)⟩
      |some y=>
       simp only[Ux,TF];refine⟨V7.mpr ⟨λx F=>q x (I x F),O⟩,λx F=>?_⟩;rcases Tf.mp F with z|z
       .rw[z];exact Ur ..
       .exact T7 _ (I x z)
    exact(V _ aax).1
  .exact jj U
abbrev ledW(w:World):Bool:=!w.params.followText "set-order"
def uq(knd:KeyKind prog w Key)(h:Heap)(a:Addr)(S:Key->Bool)(n:Nat):Prop:=∃o es ep t,h.get? a=some o/\o.ExactSet/\o.data= .set es ep t/\ElemsOf knd es.toList/\(∀k,S k=true↔∃e∈es.toList,knd.is k e.2=true)/\es.size<XD/\t.fits es.size=true/\es.size=n/\RisT t (ledW w)
variable{o:Obj}{S':Key->Bool}{knd:KeyKind prog w Key}
theorem rK(B:h.get? a=some o)(Y:o.ExactSet)(hd:o.data= .set es ep t)
  {F:Array (Int×Value)} {t':Xe}  (z:ElemsOf knd F.toList) (I:∀k,S' k=true↔∃e∈F.toList,knd.is k e.2=true) (U:F.size<XD) (N:t'.fits F.size=true) (Z:RisT t' (ledW w)) :
  (h.update a (aca F t')).get? a=some {o with data:=.set F (ep+1) t'}/\uq knd (h.update a (aca F t')) a S' F.size:=by
 obtain⟨q,_⟩:=SetOf_store (knd:=knd) B Y hd z I U N;exact⟨q,_,F,ep+1,t',q,Y,rfl,z,I,U,N,rfl,Z⟩
variable{s:Shared}
theorem xN{g:Bool->Sem Unit}(hg:∀(b:Bool)(O:S6)(Q':Unit->S6->Prop),Q' () O->wpAny (model prog w) A (g b) Q' E O)
       (B:s.heap.get? a=some o) (Y:o.ExactSet) (hd:o.data= .set es ep t)
  {F:Array (Int×Value)} {t2:Xe}  (a1:ElemsOf knd F.toList) (a0:∀N,S' N=true↔∃e∈F.toList,knd.is N e.2=true)
  (U:F.size<XD) (a8:t2.fits F.size=true) (a5:RisT t2 (ledW w)) {wd:Bool} {R:Option Bool->S6->Prop}
  (h:∀h',Wi a s.heap h'->uq knd h' a S' F.size->R (some true) {s with heap:=h'}) :
  wpAny (model prog w) A (do
   storeSet a F t2
   if(!wd&&t2.tooFull)=true then do
     g (aac t2 F (W9 F.size)).2.2
     storeSet a (aac t2 F (W9 F.size)).1 (aac t2 F (W9 F.size)).2.1
     pure (some true)
    else pure (some true)) R E s:=by
 refine gD (wpAny_storeSet_of B hd ?_ (fits_of_scanBound U));obtain⟨a6,a7⟩:=rK (knd:=knd) B Y hd a1 a0 U a8 a5;have I:=Zh s.heap a (aca F t2);split
 .have p:=relayAll_perm t2 F (W9 F.size)
  have f:=relayAll_fits t2 F (W9 F.size);have r:=wO (t:=t2) (es:=F) (n:=W9 F.size) a5.2;generalize aac t2 F (W9 F.size)=Z at p f r⊢;obtain⟨a4,t3,g2⟩:=Z;dsimp only at p f r⊢;have z:a4.size=F.size:=by rw[←U6,p.length_eq,U6]
  have a2:a4.size<XD:=by rw[z];exact U
  refine gD (hg _ _ _ ?_);refine gD (wpAny_storeSet_of a6 rfl ?_ (fits_of_scanBound a2));obtain⟨_,a3⟩:=rK (knd:=knd) a6 Y rfl (a1.perm p) (S':=S') (λN=>(a0 N).trans ⟨λ⟨e,V,q⟩=>⟨e,p.mem_iff.mpr V,q⟩,λ⟨e,V,q⟩=>⟨e,p.mem_iff.mp V,q⟩⟩) a2 f r;rw[z]at a3;exact S7 (h _ (I.trans (Zh _ a _)) a3)
 .exact S7 (h _ I a7)
theorem JL{S:Key->Bool}{Q:Bool->S6->Prop}(a0:knd.is k x=true)(a4:x.scannable=true)(hS:uq knd s.heap a S n)(a6:n+1<XD)
  (h:∀h',Wi a s.heap h'->uq knd h' a (λk'=>S k'||decide (k'=k)) (if S k then n else n+1)->Q (!S k) {s with heap:=h'}) :
  wpAny (model prog w) A (setAddHashed a x (knd.hash k)) Q E s:=by
 obtain⟨o,es,ep,t,B,Y,hd,a3,q,U,hf,hn,hr⟩:=hS;unfold setAddHashed setAddHashedIn;refine Va (gD (Wy B hd hf ?_));dsimp only;rw[byScan_of a4 U a3];simp only[↓reduceIte];unfold setAddByScan;refine gD (gD (Wj (gD (wpAny_setScan_of a0 B hd hf a3 ?_))));cases a7:List.findIdx? (λe=>knd.is k e.2) es.toList with
 |some j=>
  dsimp only;obtain⟨V,b0,_⟩:=Uz.mp a7;have a2:S k=true:=(q k).mpr ⟨es.toList[j],Vw V,b0⟩;refine S7 (S7 ?_);have:=h s.heap (Heap.SameBut.refl a s.heap) ⟨o,es,ep,t,B,Y,hd,a3,λk'=>by
   rw[X6,Wx,←q k'];exact⟨λz=>z.elim id (λe=>e▸a2),.inl⟩,U,hf,by rw[a2];exact hn,hr⟩
  rw[a2]at this;obtain⟨N,g,d,tk,os⟩:=s;exact this
 |none=>
  dsimp only;have a2:S k=false:=by
   cases I:S k with
   |false=>rfl
   |true=>obtain⟨e,he,N⟩:=(q k).mp I;have:=Ut.mp a7 e he;rw[N]at this;exact Bool.noConfusion this
  have a9:∀(b:Bool){O:S6}{Q':Unit->S6->Prop},Q' () O->wpAny (model prog w) A (match b with|true=>rule "set.scan.the-table-gave-way"|false=>pure ()) Q' E O:=λb O Q' hq=>by
   cases b<;>first|exact S7 hq|exact Wj hq
  have p:=layNew_perm t es (knd.hash k) x;have f:=layNew_fits t es (knd.hash k) x;have r:=An (es:=es) (h:=knd.hash k) (x:=x) hr;generalize layNew t es (knd.hash k) x=Z at p f r⊢;obtain⟨F,t1,wd,gv⟩:=Z;dsimp only at p f r⊢;rw[ZX]at p;have z:F.size=n+1:=by rw[←U6,p.length_eq,Ui,U6,hn];rfl
  have a8:F.size<XD:=by rw[z];exact a6
  refine gD (a9 _ ?_);have a5:∀h',Wi a s.heap h'->uq knd h' a (λk'=>S k'||decide (k'=k)) F.size->Q true {s with heap:=h'}:=λh' sb a1=>by
   have:=h h' sb;rw[a2]at this;rw[z]at a1;exact this a1
  split
  .refine gD ?_
   rw[hashByValue_scannable 8 a4];refine S7 ?_;refine xN ?_ B Y hd ((a3.push a0 a4).perm p) (mem_push_iff a0 q p) a8 ?_ ?_ ?_
   .intro b O Q' hq;cases b<;>first|exact S7 hq|exact Wj hq
   .split
    .exact f
    .exact SetTable.fits_plain_off f
   .split
    .exact r
    .exact r
   .intro h' sb a1;dsimp only;exact S7 (a5 h' sb a1)
  .refine gD (S7 ?_)
   simp only[↓reduceIte];refine xN ?_ B Y hd ((a3.push a0 a4).perm p) (mem_push_iff a0 q p) a8 f r ?_
   .intro b O Q' hq;cases b<;>first|exact S7 hq|exact Wj hq
   .intro h' sb a1;dsimp only;exact S7 (a5 h' sb a1)
theorem Ld(a:Value){Q₁:Value->S6->Prop}(h:Q₁ (.ref s.heap.objs.size) {s with heap:=s.heap.push (lN (ledW w))}) :
  Wu (model prog w) A (.call (.builtin "set.__new__") ⟨[.type "set",a],[]⟩) (wants Q₁ E) s:=by
 refine codeAny_of_tree ?_;show wpAny _ A.in1 (do checkBuiltinCall "set.__new__" ⟨[.type "set",a],[]⟩;again (.builtin "set.__new__" ⟨[.type "set",a],[]⟩)) _ _ s;refine gD (Xo (F.newCall_set_1 a) (S7 ⟨WD F.plain_set_new _,V0 F.entry_set_new ?_⟩));rw[Vo F.plain_set_new _];unfold Builtin.«set.__new__» aco;have O:=sub_set_self;obtain⟨N,g,d,tk,os⟩:=s;dsimp only
 wp_walk
 refine Xf (S7 ?_);dsimp only;simp only[newObj];refine gD (wpAny_alloc (S7 ?_));exact S7 h
variable{l:Addr}{A:U4}
theorem E_{S it:Addr}{R:aaE->S6->Prop}(hh:A.handled=none)(hl:ks.length=its.length)(I:∀(j:Nat)(k:Key)(v:Value),ks[j]? =some k->its[j]? =some v->RelV (kV k) v)(U:its.length+1<XD)(nS:S≠it)(nl:l≠it)(a5:l≠S):∀(m i:Nat)(acc:List Key)(s:S6),its.length-i=m->i<=its.length->s.heap.IsList l its.toArray->s.heap.IsListIter it l i->uq (aY prog w) s.heap S (inK acc) acc.length->acc.length<=i->
  (∀h' tk,(∀b o,b≠S->b≠it->s.heap.get? b=some o->h'.get? b=some o)->uq (aY prog w) h' S (inK ((ks.drop i).foldl pD acc)) ((ks.drop i).foldl pD acc).length->R (.ok (.ret .none)) {s with heap:=h',toks:=tk})->
  Wu (model prog w) A (.builtin "set.update.loop" ⟨[.ref S,.ref it],[]⟩) R s:=by
 intro m
 induction m with
 |zero=>
  intro i acc s N hi pl z hS Y k;have e:i=its.length:=by omega
  subst e;refine V0 aak ?_;rw[Vo Yp _];unfold Builtin.«set.update.loop»;dsimp only;refine gD (Y6 (show A.in1.handled=none from hh) z pl (by simp) λh' q=>?_);dsimp only;refine S7 (k h' _ (λb o _ b2 e=>q b o b2 e) ?_);rw[←hl,Wb];obtain⟨o,es,ep,t,B,rest⟩:=hS;exact⟨o,es,ep,t,q S _ nS B,rest⟩
 |succ m Z=>
  intro i acc s N hi pl z hS Y k;have O:i<its.length:=by omega
  have a2:i<ks.length:=by omega
  refine V0 aak ?_;rw[Vo Yp _];unfold Builtin.«set.update.loop»;dsimp only;refine gD (Yy z pl (x:=its[i]) (by simp[O]) λh1 a1 a0=>?_);dsimp only;have a3:uq (aY prog w) h1 S (inK acc) acc.length:=by
   obtain⟨o,es,ep,t,B,rest⟩:=hS;exact⟨o,es,ep,t,(a0.2 S nS).trans B,rest⟩
  have rk:=I i ks[i] its[i] (Td a2) (Td O);refine gD (Va ?_);unfold setAdd;refine Va ?_;refine gD ((aY prog w).pyHash (k:=ks[i]) (jT rk) ?_);refine JL (knd:=aY prog w) (jT rk) (GD (P:=prog) (w:=w) rk) a3 (by omega) λh2 V a6=>?_;refine S7 ⟨WD Yp _,?_⟩;have a4:uq (aY prog w) h2 S (inK (pD acc ks[i])) (pD acc ks[i]).length:=by
   have e1:(λk'=>inK acc k'||decide (k'=ks[i]))=inK (pD acc ks[i]):=funext λk'=>K6.symm;rw[←e1,xZ];exact a6
  refine Z (i+1) (pD acc ks[i]) _ (by omega) O ?_ ?_ a4 ?_ λh' tk kp a7=>k h' tk (λb o b1 b2 e=>kp b o b1 b2 ((V.2 b b1).trans ((a0.2 b b2).trans e))) ?_
  .obtain⟨o,h1',h2'⟩:=pl
   exact⟨o,(V.2 l a5).trans ((a0.2 l nl).trans h1'),h2'⟩
  .exact a1.extBut V.extBut (U0 nS)
  .rw[xZ]
   split<;>omega
  .rw[V1 a2]
   exact a7
def vX(prog:Uj)(w:World)(s:S6)(ks:List Key)(O:S6):Prop:=∃h' tk,O={s with heap:=h',toks:=tk}/\uq (aY prog w) h' s.heap.objs.size (inK (wU ks)) (wU ks).length/\∀b o,s.heap.get? b=some o->h'.get? b=some o
variable{E:Value->S6->Prop}{s:S6}
theorem Ef(N:A.handled=none)(Y:ks.length=its.length)(I:∀(j:Nat)(k:Key)(v:Value),ks[j]? =some k->its[j]? =some v->RelV (kV k) v)(U:its.length+1<XD)(B:s.heap.IsList l its.toArray){R:acj->S6->Prop}
  (hR:∀O,vX prog w s ks O->R (.done (.ret .none)) O):wpAny (model prog w) A (Builtin.«set.__init__» ⟨[.ref s.heap.objs.size,.ref l],[]⟩) R E {s with heap:=s.heap.push (lN (ledW w))}:=by
 obtain⟨ol,a7,a6,nl,q⟩:=B;obtain⟨b1,a1,b0,a0⟩:=ol;simp only at a6 q;subst a6 q;have hS:(s.heap.push (lN (ledW w))).get? s.heap.objs.size=some (lN (ledW w)):=TV _ rfl;have z:acp {s with heap:=s.heap.push (lN (ledW w))} (.ref s.heap.objs.size) "set":=⟨_,hS,rfl⟩;have a3:(s.heap.push (lN (ledW w))).get? l=some {cls:=.type "list",dict:=a1,data:=.seq its.toArray nl,slots:=a0}:=S_ _ a7;have b3:=F.sub_list_set;have b2:=F.sub_list_frozenset;have Z:(V9 "list"==V9 "dict")=false:=by decide
 have a4:(s.heap.push (lN (ledW w))).IsList l its.toArray:=⟨_,a3,rfl,nl,rfl⟩;unfold Builtin.«set.__init__» noKeywords aci;generalize a9:aaC=PI
 wp_walk
 subst a9;refine ZV a4 ?_;refine gD (wpAny_runValue ?_);have a5:l<s.heap.objs.size:=TJ a7;refine E_ (prog:=prog) (w:=w) (its:=its) (ks:=ks) (A:=A) (S:=s.heap.objs.size) (l:=l) N Y I U ?_ ?_ (T4 a5) (its.length-0) 0 [] _ rfl (WQ _) ?_ ?_ ?_ (Tg _) λh' tk kp a8=>?_
 .show s.heap.objs.size≠(s.heap.push (lN (ledW w))).objs.size
  rw[VF];exact T4 (Xb _)
 .show l≠(s.heap.push (lN (ledW w))).objs.size
  rw[VF];exact T4 (Wv a5)
 .exact a4.push _
 .exact⟨_,TV _ rfl,rfl,rfl⟩
 .have hget:((s.heap.push (lN (ledW w))).push {cls:=.type "list_iterator",data:=.fields #[.ref l,.int 0 0]}).get? s.heap.objs.size=some (lN (ledW w)):=S_ _ hS
  letI:BEq Key:=instBEqOfDecidableEq
  haveI:LawfulBEq Key:=inferInstance
  have e0:(λ_:Key=>false)=inK []:=funext λ_=>rfl;rw[←e0];exact⟨_,#[],0,_,hget,⟨rfl,rfl,rfl⟩,rfl,λe V=>by simp at V,λk=>by simp,by decide,by rfl,rfl,by simp[RisT,Ris,SetTable.fresh]⟩
 .refine S7 ?_
  show wpAny _ _ (ret Uv) _ _ _;refine S7 (hR _ ⟨h',tk,rfl,by rw[aaM]at a8;exact a8,λb o e=>?_⟩);have a2:b<s.heap.objs.size:=TJ e;refine kp b o (T4 a2) ?_ (S_ _ (S_ _ e));show b≠(s.heap.push (lN (ledW w))).objs.size;rw[VF];exact T4 (Wv a2)
theorem DX(N:A.handled=none)(V:ks.length=its.length)(I:∀(j:Nat)(k:Key)(v:Value),ks[j]? =some k->its[j]? =some v->RelV (kV k) v)(U:its.length+1<XD)(pl:s.heap.IsList l its.toArray)
  (h:∀O,vX prog w s ks O->Q (.ref s.heap.objs.size) O):wpAny (model prog w) A (call (.type "set") [.ref l]) Q E s:=by
 obtain⟨c,tl,a3⟩:=Xg.mro;have a2:=Xg.made;have a4:=Xg.sub;refine wpAny_call (codeAny_of_tree ?_);show wpAny _ _ (callAny (.type "set") _) _ _ _;refine S7 ⟨Code.quiet_builtin _ (by decide +kernel),V0 F.entry_type_call ?_⟩;rw[Around.under_plain (weight_type_call_type "set" [.ref l] []) rfl];have h1:=Xg.notType;have h2:=Xg.canCreate;have a7:=F.typeCall_set_1 (.ref l)
 repeat(any_goals(first|assumption|wp_step))
 refine Yc (Ld (.ref l) (E:=E) (Q₁:=λobj a0=>obj= .ref s.heap.objs.size/\a0={s with heap:=s.heap.push (lN (ledW w))}) ⟨rfl,rfl⟩) λr a0 Z=>?_;cases r with
 |error e=>exact Z
 |ok z=>
  cases z with
  |ret obj=>
   obtain⟨rfl,rfl⟩:=Z;have hS:(s.heap.push (lN (ledW w))).get? s.heap.objs.size=some (lN (ledW w)):=TV _ rfl;have hT:acp {s with heap:=s.heap.push (lN (ledW w))} (.ref s.heap.objs.size) "set":=⟨_,hS,rfl⟩;have a6:=Xg.init.lookup;have a5:=Xg.init.bind (.ref s.heap.objs.size)
   repeat(any_goals(first|assumption|wp_step))
   refine Yc (Vv (R:=wants (λr B=>r= .none/\vX prog w s ks B) E) Xg.init.plain F.entry_set_init (check_set_init_1 hT ?_)) λa1 B q=>?_
   .exact Ef (by simp[N]) V I U pl λO hs=>⟨rfl,hs⟩
   .cases a1 with
    |error e=>exact q
    |ok Y=>
     cases Y with
     |ret r=>
      obtain⟨rfl,hs⟩:=q
      repeat(any_goals(first|assumption|wp_step))
      exact h _ hs
     |_=>exact q.elim
  |_=>exact Z.elim
end Jb
namespace PySem
theorem F.jb_owner_seti:Manifest.owners.lookup (String.ofList ['r','o','t','a','r','e','t','i','_','t','e','s'].reverse)=some Manifest.sig_set_iterator:=by kernel_rfl
theorem F.jb_slot_seti:Slot "set_iterator" "__next__" "set_iterator.__next__" :=
 .of (owner:="set_iterator") (n:="__next__") (by rw[Zd,Xy];kernel_rfl) (by decide +kernel) (by decide +kernel) (by decide +kernel)
  (by first|exact .inl (by decide +kernel)|exact .inr (by decide +kernel)) (by rw[Zo];kernel_rfl)
theorem F.jb_entry_seti:aaZ table "set_iterator.__next__"=some Builtin.«set_iterator.__next__»:=entryFor_of_tree (by kernel_rfl)
theorem F.jb_args_seti(a:Value):argsOk "set_iterator.__next__" ⟨[a],[]⟩:=by
 unfold argsOk;rw[signature?_of (id:="set_iterator.__next__") (n:=['_','_','t','x','e','n','_','_']) (o:=['r','o','t','a','r','e','t','i','_','t','e','s']) (by kernel_rfl) F.jb_owner_seti];kernel_rfl
theorem F.jb_entry_set_iter:aaZ table "set.__iter__"=some Builtin.«frozenset.__iter__»:=entryFor_alias (id':="frozenset.__iter__") (by kernel_rfl) rfl (by decide +kernel) (by kernel_rfl)
theorem ud{src:Source}{Q:Nat->S6->Prop}(hn:n≠0)(h:∀i,i<n->Q i {s with drawn:=s.drawn.bump src}):wpAny (model prog w) A (choose src n) Q E s:=λ_ _ _=>⟨hn,h _ (Nat.mod_lt _ (Nat.pos_of_ne_zero hn))⟩
theorem mR:∀{l:List α}{i:Nat}(h:i<l.length),UT (l[i]::l.eraseIdx i) l
 |x::r,0,_=>Yn _
 |x::r,i+1,h=>by
  have:=mR (l:=r) (i:=i) (by simpa using h);exact(List.Perm.swap ..).trans (this.cons x)
theorem jQ{α:Type}:∀(n:Nat){xs:List α}{s:S6}{Q:List α->S6->Prop},xs.length=n->(∀ys d,UT ys xs->Q ys {s with drawn:=d})->wpAny (model prog w) A (drawOrder n xs) Q E s
 |0,xs,s,Q,hl,h=>by
  have e:xs=[]:=Xq hl;subst e;unfold drawOrder;exact S7 (h [] s.drawn (Yn _))
 |n+1,[],s,Q,hl,h=>by simp at hl
 |n+1,x::r,s,Q,hl,h=>by
  unfold drawOrder;refine gD (ud (by simp) λi hi=>?_);have q:(x::r)[i]? =some (x::r)[i]:=Td hi;rw[q];dsimp only;refine gD (jQ n (by rw[aa2,Tz hi];omega) λys d N=>S7 (h _ d ?_));exact(List.Perm.cons _ N).trans (mR hi)
def jZ(first:Value)(i:Nat)(S:Addr)(n ep:Nat):Obj:={cls:=.type "set_iterator",data:=.fields #[first,Vh i,.ref S,Vh n,Vh ep]}
def cB(ps:List Nat):Obj:={cls:=.type "tuple",data:=.seq (ps.map λ(i:Nat)=>Vh i).toArray}
variable{es:Array (Int×Value)}
theorem o7{t:Xe}(B:s.heap.get? S=some o)(Y:o.ExactSet)(hd:o.data= .set es ep t)(U:t.fits es.size=true)(hz:es.size<=Te)
  (h1:w.params.followText "set-order"=true∨(!t.plain&&decide (es.size>1))=false->Q (.ref s.heap.objs.size) {s with heap:=s.heap.push (jZ (Vh 0) 0 S es.size ep)})
  (h2:w.params.followText "set-order"=false->∀ps d,UT ps (Ue es.size)->Q (.ref (s.heap.push (cB ps)).objs.size) {s with heap:=(s.heap.push (cB ps)).push (jZ (.ref s.heap.objs.size) 0 S es.size ep),drawn:=d}) :
  wpAny (model prog w) A (aaC (.ref S)) Q E s:=by
 have z:s.TypeIs (.ref S) "set":=⟨o,B,Y.1⟩;refine wpAny_pyIter_slot z F.slot_set_iter (XJ F.slot_set_iter z F.jb_entry_set_iter ?_ (F.args_set_iter_1 _));unfold Builtin.«frozenset.__iter__» acu slotArgs;simp only[List.isEmpty_nil,aa8,Uo,↓reduceIte,bind_assoc,UJ,bne_self_eq_false];unfold acr acs setDrawn setsByText;refine gD (S7 ?_)
 try dsimp only
 refine gD (S7 ?_);refine gD (gD (wpAny_setEntries_of B hd U (S7 ?_)));refine gD (gD (Wy B hd U ?_));refine gD (gD (Xf (S7 ?_)));refine S7 ?_;have fin:∀{first:Value}{Z:S6},Z.heap.get? S=some o->Q (.ref Z.heap.objs.size) {Z with heap:=Z.heap.push (jZ first 0 S es.size ep)}->wpAny (model prog w) A.in1 (do
   let e ←setEpoch S
   let v ←newFields "set_iterator" [first,Vh 0,Um S,Vh (es.size:Int),Vh (e:Int)]
   ret v) (λfin s'=>∃v,fin=Fin.done (Flow.ret v)/\∃I r,s'.TypeIs v I/\aaU (V9 I) (Yg "__next__")=pure (some r)/\Q v s') E Z:=λ{first Z} q V=>by
  unfold setEpoch newFields;refine gD (gD (Wy q hd U (S7 ?_)));exact gD (Uu (S7 ⟨_,rfl,"set_iterator",_,⟨_,TV _ rfl,rfl⟩,F.jb_slot_seti.lookup,V⟩))
 split
 .rename_i hc0
  have O:(!w.params.followText "set-order"&&(!t.plain&&decide (es.size>1)))=true:=hc0;rw[TY]at O;refine gD (jQ es.size (by simp) λps d N=>?_);refine gD (wpAny_newTuple ?_ (by rw[Tv,N.length_eq,Ys];exact hz));exact fin (S_ _ B) (h2 (by simpa using O.1) ps d N)
 .rename_i hc0
  have O:¬(!w.params.followText "set-order"&&(!t.plain&&decide (es.size>1)))=true:=hc0;refine gD (S7 ?_);refine fin B (h1 ?_);cases e:w.params.followText "set-order" with
  |true=>exact .inl rfl
  |false=>
   rw[e]at O;exact .inr (by simpa using O)
open PySem.Builtin
section
variable{prog:Program}{w:World}{A:Around}{E:Value->Shared->Prop}{it S:Addr}{o:Obj}{es:Array (Int×Value)}{ep i slot:Nat}{t:SetTable}{h:Heap}{g:Array GenState}{d:Drawn}{tk:Nat}{os:OsState}
theorem m8(Z:t.fits es.size=true):¬(t.place.size !=es.size||decide (t.fill>t.mask))=true:=by
 unfold acq at Z;simp only[TY,beq_iff_eq,Wx]at Z;simp only[X6,bne_iff_ne,ne_eq,Wx,not_or,Decidable.not_not];exact⟨Z.1,Nat.not_lt.mpr Z.2⟩
theorem uy{Q:Option Value->S6->Prop}{x:Value}{next:Nat}(hz:h.get? it=some (jZ (Vh slot) i S es.size ep))(B:h.get? S=some o)(Y:o.ExactSet)(hd:o.data= .set es ep t)(Z:t.fits es.size=true)
  (hs:∀(V:U4)(E':Value->S6->Prop)(z:Option (Value×Nat)->S6->Prop),z (some (x,next)) ⟨h,g,d,tk,os⟩->wpAny (model prog w) V (aaQ S slot i ep) z E' ⟨h,g,d,tk,os⟩)
  (hq:∀h' I,h'.get? it=some (jZ (Vh next) (i+1) S es.size ep)->(∀c o,c≠it->h.get? c=some o->h'.get? c=some o)->Q (some x) ⟨h',g,d,I,os⟩) :
  wpAny (model prog w) A (Yb (.ref it)) Q E ⟨h,g,d,tk,os⟩:=by
 have O:(⟨h,g,d,tk,os⟩:S6).TypeIs (.ref it) "set_iterator":=⟨_,hz,rfl⟩;unfold Yb;refine gD (YM ?_);refine Vj O F.jb_slot_seti ?_
 repeat(any_goals(first|assumption|wp_step))
 refine Vv F.jb_slot_seti.plain F.jb_entry_seti (F.jb_slot_seti.check _ _ _ _ _ _ _ _ O (F.jb_args_seti _) ?_);unfold Builtin.«set_iterator.__next__» jZ at *
 repeat(any_goals(first|assumption|wp_step))
 rw[hd];dsimp only;rw[TQ (m8 Z)];refine S7 (S7 ?_);dsimp only;rw[TQ (by simp)];simp only[Vh,VL]at *
 refine gD (hs _ _ _ ?_);dsimp only;refine gD (WX hz (by simp) λh1 U a0=>?_);refine gD (WX U (by simp) λh2 N q=>?_);refine S7 ?_;refine S7 ?_;exact hq h2 tk (by rw[N];simp) λc o n e=>q.extBut c o n (a0.extBut c o n e)
theorem yJ{Q:Option Value->S6->Prop}(N:A.handled=none)(hz:h.get? it=some (jZ (Vh slot) i S es.size ep))(B:h.get? S=some o)(Y:o.ExactSet)(hd:o.data= .set es ep t)(Z:t.fits es.size=true)
  (hs:∀(V:U4)(q:Value->S6->Prop)(z:Option (Value×Nat)->S6->Prop),z none ⟨h,g,d,tk,os⟩->wpAny (model prog w) V (aaQ S slot i ep) z q ⟨h,g,d,tk,os⟩)
  (hq:∀h',(∀c o,c≠it->h.get? c=some o->h'.get? c=some o)->Q none ⟨h',g,d,tk,os⟩) :
  wpAny (model prog w) A (Yb (.ref it)) Q E ⟨h,g,d,tk,os⟩:=by
 have O:(⟨h,g,d,tk,os⟩:S6).TypeIs (.ref it) "set_iterator":=⟨_,hz,rfl⟩;unfold Yb;refine gD (YM ?_);refine Vj O F.jb_slot_seti ?_
 repeat(any_goals(first|assumption|wp_step))
 refine Vv F.jb_slot_seti.plain F.jb_entry_seti (F.jb_slot_seti.check _ _ _ _ _ _ _ _ O (F.jb_args_seti _) ?_);unfold Builtin.«set_iterator.__next__» jZ at *
 repeat(any_goals(first|assumption|wp_step))
 rw[hd];dsimp only;rw[TQ (m8 Z)];refine S7 (S7 ?_);dsimp only;rw[TQ (by simp)];simp only[Vh,VL]at *
 refine gD (hs _ _ _ ?_);dsimp only;refine gD (WX hz (by simp) λh1 U I=>?_);refine gD ?_;simp only[newExc,newTuple];refine gD (Uu ?_ (by size_fits));refine gD (m:=Xx _ _) (Xo (a:=Uv) (by first|rfl|(simp only[Xx];rfl)) ?_);refine Uu ?_ (by size_fits);simp only[raiseNew];refine gD (ZM ?_);rw[show A.in1.handled=none from N];refine gD (S7 (YF ?_));refine gD (Xc (T:="StopIteration") (b:=true) ⟨_,TV _ rfl,rfl⟩ isSubtype_stop ?_);exact S7 (hq _ λc o n e=>S_ _ (S_ _ (I.extBut c o n e)))
theorem Dd{Q:Option Value->S6->Prop}{x:Value}{p:Addr}{ps:List Nat}{j:Nat}{c:Int}(hz:h.get? it=some (jZ (.ref p) i S es.size ep))(N:h.get? p=some (cB ps))(B:h.get? S=some o)(Y:o.ExactSet)(hd:o.data= .set es ep t)(Z:t.fits es.size=true)(V:ps[i]? =some j)(hx:es[j]? =some (c,x))
  (hq:∀h' I,h'.get? it=some (jZ (.ref p) (i+1) S es.size ep)->(∀c o,c≠it->h.get? c=some o->h'.get? c=some o)->Q (some x) ⟨h',g,d,I,os⟩) :
  wpAny (model prog w) A (Yb (.ref it)) Q E ⟨h,g,d,tk,os⟩:=by
 have O:(⟨h,g,d,tk,os⟩:S6).TypeIs (.ref it) "set_iterator":=⟨_,hz,rfl⟩;unfold Yb;refine gD (YM ?_);refine Vj O F.jb_slot_seti ?_
 repeat(any_goals(first|assumption|wp_step))
 refine Vv F.jb_slot_seti.plain F.jb_entry_seti (F.jb_slot_seti.check _ _ _ _ _ _ _ _ O (F.jb_args_seti _) ?_);unfold Builtin.«set_iterator.__next__» jZ at *
 repeat(any_goals(first|assumption|wp_step))
 rw[hd];dsimp only;rw[TQ (m8 Z)];refine S7 (S7 ?_);dsimp only;rw[TQ (by simp)];have q:(ps.map λ(i:Nat)=>Vh i).toArray[((i:Nat):Int).toNat]? =some (Vh j):=by
  rw[VL,aaR,List.getElem?_map,V];rfl
 refine gD ?_;unfold aao;refine gD (Za N ?_);refine S7 ?_;dsimp only;rw[q];dsimp only[Vh];refine gD ?_;unfold setNextDrawn;refine gD (Wy B hd Z ?_);simp only[VL,bne_self_eq_false,Uo,VM,hx];refine S7 ?_;refine gD (WX hz (by simp) λh1 U z=>?_);refine S7 ?_;refine S7 ?_;exact hq h1 tk (by rw[U];simp[Vh]) λc o n e=>z.extBut c o n e
theorem Hr{Q:Option Value->S6->Prop}{p:Addr}{ps:List Nat}(hh:A.handled=none)(hz:h.get? it=some (jZ (.ref p) i S es.size ep))(N:h.get? p=some (cB ps))(B:h.get? S=some o)(Y:o.ExactSet)(hd:o.data= .set es ep t)(Z:t.fits es.size=true)(V:ps[i]? =none)
  (hq:∀h',(∀c o,c≠it->h.get? c=some o->h'.get? c=some o)->Q none ⟨h',g,d,tk,os⟩) :
  wpAny (model prog w) A (Yb (.ref it)) Q E ⟨h,g,d,tk,os⟩:=by
 have O:(⟨h,g,d,tk,os⟩:S6).TypeIs (.ref it) "set_iterator":=⟨_,hz,rfl⟩;unfold Yb;refine gD (YM ?_);refine Vj O F.jb_slot_seti ?_
 repeat(any_goals(first|assumption|wp_step))
 refine Vv F.jb_slot_seti.plain F.jb_entry_seti (F.jb_slot_seti.check _ _ _ _ _ _ _ _ O (F.jb_args_seti _) ?_);unfold Builtin.«set_iterator.__next__» jZ at *
 repeat(any_goals(first|assumption|wp_step))
 rw[hd];dsimp only;rw[TQ (m8 Z)];refine S7 (S7 ?_);dsimp only;rw[TQ (by simp)];have q:(ps.map λ(i:Nat)=>Vh i).toArray[((i:Nat):Int).toNat]? =none:=by
  rw[VL,aaR,List.getElem?_map,V];rfl
 refine gD ?_;unfold aao;refine gD (Za N ?_);refine S7 ?_;dsimp only;rw[q];refine gD (WX hz (by simp) λh1 U z=>?_);refine gD (WX U (by simp) λh2 I a0=>?_);refine gD ?_;simp only[newExc,newTuple];refine gD (Uu ?_ (by size_fits));refine gD (m:=Xx _ _) (Xo (a:=Uv) (by first|rfl|(simp only[Xx];rfl)) ?_);refine Uu ?_ (by size_fits);simp only[raiseNew];refine gD (ZM ?_);rw[show A.in1.handled=none from hh];refine gD (S7 (YF ?_));refine gD (Xc (T:="StopIteration") (b:=true) ⟨_,TV _ rfl,rfl⟩ isSubtype_stop ?_);exact S7 (hq _ λc o n e=>S_ _ (S_ _ (a0.extBut c o n (z.extBut c o n e))))
theorem lU{s:S6}{Q:Option (Value×Nat)->S6->Prop}(B:s.heap.get? S=some o)(hd:o.data= .set es ep t)(Z:t.fits es.size=true)(U:w.params.followText "set-order"=false)(z:(!t.plain&&decide (es.size>1))=false)(Y:t.led=true)
  (F:Q (match es[SetTable.below t.place slot]?,t.place[SetTable.below t.place slot]? with|some (_,x),some j=>some (x,j+1)|_,_=>none) s):wpAny (model prog w) A (aaQ S slot i ep) Q E s:=by
 unfold aaQ setsByText;refine gD (Wy B hd Z ?_);refine gD (gD (Xf (S7 ?_)));dsimp only;rw[TQ (by rw[show(model prog w).w.params.followText "set-order"=false from U];simp)];split
 .rename_i hc
  have q:(!t.plain&&decide (es.size>1))=true:=hc;rw[z]at q;cases q
 .refine gD ?_
  show wpAny _ _ (if(!t.led&& !es.isEmpty)=true then Zt "set:maker-not-led" else pure PUnit.unit) _ _ _;rw[TQ (by simp[Y])];exact S7 (S7 F)
theorem nQ{s:S6}{Q:Option (Value×Nat)->S6->Prop}(B:s.heap.get? S=some o)(hd:o.data= .set es ep t)(Z:t.fits es.size=true)(U:w.params.followText "set-order"=true)
  (q:Q (((Xm (w.params.setOrder S ep) es)[i]?).map λe=>(e.2,slot)) s):wpAny (model prog w) A (aaQ S slot i ep) Q E s:=by
 unfold aaQ setWalk setsByText;refine gD (Wy B hd Z ?_);refine gD (gD (Xf (S7 ?_)));dsimp only;rw[Tz (show(model prog w).w.params.followText "set-order"=true from U)];rw[TQ (by simp)];refine gD (gD (Wy B hd Z ?_));refine gD (gD (Xf (S7 ?_)));dsimp only;rw[Tz (show(model prog w).w.params.followText "set-order"=true from U)];refine gD (Xf (S7 ?_));exact S7 q
end
theorem F.jb_slot_seti_iter:Slot "set_iterator" "__iter__" "set_iterator.__iter__" :=
 .of (owner:="set_iterator") (n:="__iter__") (by rw[Zd,Xy];kernel_rfl) (by decide +kernel) (by decide +kernel) (by decide +kernel)
  (by first|exact .inl (by decide +kernel)|exact .inr (by decide +kernel)) (by rw[Zo];kernel_rfl)
theorem F.jb_entry_seti_iter:aaZ table "set_iterator.__iter__"=some Builtin.«dict_keyiterator.__iter__»:=entryFor_alias (id':="dict_keyiterator.__iter__") (by kernel_rfl) rfl (by decide +kernel) (by kernel_rfl)
theorem F.jb_args_seti_iter(a:Value):argsOk "set_iterator.__iter__" ⟨[a],[]⟩:=by
 unfold argsOk;rw[signature?_of (id:="set_iterator.__iter__") (n:=['_','_','r','e','t','i','_','_']) (o:=['r','o','t','a','r','e','t','i','_','t','e','s']) (by kernel_rfl) F.jb_owner_seti];kernel_rfl
theorem pA{s:S6}{f:Value}(hz:s.heap.get? it=some (jZ f i S n ep))(h:Q (.ref it) s):wpAny (model prog w) A (aaC (.ref it)) Q E s:=by
 have z:s.TypeIs (.ref it) "set_iterator":=⟨_,hz,rfl⟩;refine wpAny_pyIter_slot z F.jb_slot_seti_iter (XJ F.jb_slot_seti_iter z F.jb_entry_seti_iter ?_ (F.jb_args_seti_iter _));show wpAny _ _ (ret (.ref it)) _ _ s;exact S7 ⟨_,rfl,"set_iterator",_,z,F.jb_slot_seti.lookup,h⟩
def atL(L:List (Int×Value))(i:Nat)(v:Value):Prop:=∃c,L[i]? =some (c,v)
def zy(t:Xe):Nat->Nat
 |0=>0
 |i+1=>t.place.getD i 0+1
variable{t:SetTable}
theorem yS(N:A.handled=none)(hn:S≠it)(a3:o.ExactSet)(hd:o.data= .set es ep t)(hf:t.fits es.size=true)(U:w.params.followText "set-order"=false)(a2:(!t.plain&&decide (es.size>1))=false)(Y:t.led=true)(Z:Jb.Ris t.place) :
  Walks prog w A it [it,S] [it] es.size (atL es.toList) (λi h=>h.get? it=some (jZ (Vh (zy t i)) i S es.size ep)/\h.get? S=some o):=by
 have F:t.place.size=es.size:=by
  unfold acq at hf;simp only[TY,beq_iff_eq]at hf;exact hf.1
 have a0:∀i,i<=es.size->SetTable.below t.place (zy t i)=i:=λi hi=>by
  cases i with
  |zero=>exact Jb.below_zero Z
  |succ i=>exact Jb.below_next Z (by omega)
 refine⟨λb U=>by simp at U;simp[U],λi h h' st I=>⟨I it (by simp) _ st.1,I S (by simp) _ st.2⟩,λi s Q E hi st q=>?_,λs Q E st q=>?_,λi s Q E st q=>pA st.1 q⟩
 .obtain⟨hp,g,d,tk,os⟩:=s
  obtain⟨e1,e2⟩:∃c v,es[i]? =some (c,v):=⟨es[i].1,es[i].2,by simp[hi]⟩;obtain⟨v,e2⟩:=e2;have a4:t.place[i]? =some (t.place.getD i 0):=by
   rw[Ua,V6 t.place i (by omega)];rfl
  refine uy (next:=zy t (i+1)) (x:=v) st.1 st.2 a3 hd hf (λV E' Q' a1=>lU st.2 hd hf U a2 Y ?_) λh' a5 O B=>?_
  .rw[a0 i (by omega),e2,a4];exact a1
  .exact q v h' a5 ⟨e1,by simpa using e2⟩ ⟨O,B S _ hn st.2⟩ λb o U e=>B b o (λz=>U (by simp[z])) e
 .obtain⟨hp,g,d,tk,os⟩:=s
  refine yJ N st.1 st.2 a3 hd hf (λV E' Q' a1=>lU st.2 hd hf U a2 Y ?_) λh' B=>q h' tk λb o U e=>B b o (λz=>U (by simp[z])) e;rw[a0 _ (Tg _),aay (Tg _)];exact a1
theorem oU{α:Type}(next:Nat->Nat):∀(f k:Nat)(left:List α)(out:Array α),left.length=f->UT (abx next f k left out).toList (out.toList++left)
 |0,k,left,out,h=>by
  have e:left=[]:=Xq h;subst e;simp[abx]
 |f+1,k,left,out,h=>by
  have hi:next k % left.length<left.length:=Nat.mod_lt _ (by omega)
  rw[abx,Td hi];dsimp only;refine(oU next f (k+1) _ _ (by rw[aa2,Tz hi];omega)).trans ?_;rw[ZX,V_];exact(mR hi).append_left _
theorem j7(next:Nat->Nat)(xs:Array α):UT (Xm next xs).toList xs.toList:=by
 have:=oU next xs.size 0 xs.toList #[] (by simp)
 simpa[Xm]using this
theorem zu(N:A.handled=none)(hn:S≠it)(Y:o.ExactSet)(hd:o.data= .set es ep t)(Z:t.fits es.size=true)(U:w.params.followText "set-order"=true) :
  Walks prog w A it [it,S] [it] es.size (atL (Xm (w.params.setOrder S ep) es).toList) (λi h=>h.get? it=some (jZ (Vh 0) i S es.size ep)/\h.get? S=some o):=by
 have hsz:(Xm (w.params.setOrder S ep) es).size=es.size:=by
  have:=(j7 (w.params.setOrder S ep) es).length_eq;simpa using this
 refine⟨λb U=>by simp at U;simp[U],λi h h' st I=>⟨I it (by simp) _ st.1,I S (by simp) _ st.2⟩,λi s Q E hi st q=>?_,λs Q E st q=>?_,λi s Q E st q=>pA st.1 q⟩
 .obtain⟨hp,g,d,tk,os⟩:=s
  have F:i<(Xm (w.params.setOrder S ep) es).size:=by omega
  obtain⟨c,v,e1⟩:∃(c:Int)(v:Value),(Xm (w.params.setOrder S ep) es)[i]? =some (c,v):=⟨((Xm (w.params.setOrder S ep) es)[i]'F).1,((Xm (w.params.setOrder S ep) es)[i]'F).2,V6 (Xm (w.params.setOrder S ep) es) i F⟩;refine uy (slot:=0) (next:=0) (x:=v) st.1 st.2 Y hd Z (λV E' Q' a0=>nQ st.2 hd Z U ?_) λh' a1 O B=>?_
  .rw[e1];exact a0
  .exact q _ h' a1 ⟨c,by rw[Xv,e1]⟩ ⟨O,B S _ hn st.2⟩ λb o U e=>B b o (λz=>U (by simp[z])) e
 .obtain⟨hp,g,d,tk,os⟩:=s
  refine yJ (slot:=0) N st.1 st.2 Y hd Z (λV E' Q' a0=>nQ st.2 hd Z U ?_) λh' B=>q h' tk λb o U e=>B b o (λz=>U (by simp[z])) e;rw[aay (by omega)];exact a0
variable{p:Addr}{ps:List Nat}
theorem zc(hh:A.handled=none)(hn:S≠it)(N:p≠it)(a0:o.ExactSet)(hd:o.data= .set es ep t)(hf:t.fits es.size=true)(Z:UT ps (Ue es.size)) :
  Walks prog w A it [it,S,p] [it] es.size (atL (ps.map λj=>es.getD j (0,.none))) (λi h=>h.get? it=some (jZ (.ref p) i S es.size ep)/\h.get? S=some o/\h.get? p=some (cB ps)):=by
 have Y:ps.length=es.size:=by rw[Z.length_eq,Ys]
 refine⟨λb U=>by simp at U;simp[U],λi h h' st I=>⟨I it (by simp) _ st.1,I S (by simp) _ st.2.1,I p (by simp) _ st.2.2⟩,λi s Q E hi st q=>?_,λs Q E st q=>?_,λi s Q E st q=>pA st.1 q⟩
 .obtain⟨h0,g,d,tk,os⟩:=s
  have F:i<ps.length:=by omega
  have V:ps[i]<es.size:=VD.mp (Z.mem_iff.mp (Vw F));refine Dd (j:=ps[i]) (c:=es[ps[i]].1) (x:=es[ps[i]].2) st.1 st.2.2 st.2.1 a0 hd hf (Td F) (V6 es _ V) λh' a1 O B=>?_;refine q _ h' a1 ⟨es[ps[i]].1,?_⟩ ⟨O,B S _ hn st.2.1,B p _ N st.2.2⟩ λb o U e=>B b o (λz=>U (by simp[z])) e;rw[List.getElem?_map,Td F];simp[Ua,V]
 .obtain⟨h0,g,d,tk,os⟩:=s
  exact Hr hh st.1 st.2.2 st.2.1 a0 hd hf (We (by omega)) λh' B=>q h' tk λb o U e=>B b o (λz=>U (by simp[z])) e
theorem Ax(Z:UT ps (Ue es.size)):UT (ps.map λj=>es.getD j (0,.none)) es.toList:=by
 refine(Z.map _).trans ?_;have e:(Ue es.size).map (λj=>es.getD j (0,Uv))=es.toList:=by
  refine ab4 (by simp) λi h1 h2=>?_;simp at h1;simp[Ua,h1]
 rw[e]
section
variable{prog:Program}{w:World}{A:Around}{E:Value->Shared->Prop}{S D:Addr}{o:Obj}{es:Array (Int×Value)}{ep:Nat}{t:SetTable}{s:Shared}
theorem Gg{Q:Bool->S6->Prop}(z:s.TypeIs (.ref S) "set")(h:Q false s):wpAny (model prog w) A (XF (.ref S)) Q E s:=by
 unfold XF;refine gD (wpAny_specialOf z PySem.F.slot_set_len.lookup ?_);generalize B:("set.__len__":String)=id0
 wp_delta
 rw[show splitId id0=some ("set","__len__")from by subst B;decide +kernel];subst B;refine gD (Xc (T:="set") (b:=true) z (by rw[Zo];kernel_rfl) ?_);refine aaq (λq=>absurd q (by decide)) (λ_=>?_);refine aaq (λ_=>?_) (λq=>absurd (by decide +kernel) q);refine gD (Xa z ?_);exact S7 h
theorem Ku{R:aaE->S6->Prop}(hh:A.handled=none)(B:s.heap.get? S=some o)(Y:o.ExactSet)(hd:o.data= .set es ep t)(hf:t.fits es.size=true)(Z:Jb.RisT t (Jb.ledW w))(hz:es.size<=Te)(a4:D≠S)(res:Value)(a2:Nat)(hD:s.heap.get? D=some {cls:=.type "list",data:=.seq #[] a2})
  (hR:∀h' tk d' L acc c,(∀b o,b≠D->s.heap.get? b=some o->h'.get? b=some o)->h'.get? D=some {cls:=.type "list",dict:=none,data:=.seq acc c,slots:=#[]}->UT L es.toList->ItemsOf (atL L) acc es.size->R (.ok (.ret res)) {s with heap:=h',drawn:=d',toks:=tk}) :
  wpAny (model prog w) A.in1 (XH (.ref D) (.ref S) res)
   (λfin s'=>match fin with|.done f=>R (.ok f) s'|.again c'=>c'.quiet=true/\Wu (model prog w) A c' R s') (λe s'=>R (.error e) s') s:=by
 have hT:s.TypeIs (.ref S) "set":=⟨o,B,Y.1⟩;have a5:D<s.heap.objs.size:=TJ hD;have a7:S<s.heap.objs.size:=TJ B;unfold XH;refine gD (Xa (T:="set") hT ?_);have h1:aad (.ref D) (.ref S)=false:=by simp[aad,a4]
 simp only[h1,show(V9 "set"==V9 "list")=false by decide,show(V9 "set"==V9 "tuple")=false by decide,Bool.or_false,Uo,VM];have after:∀{it:Addr}{fp:List Addr}{L:List (Int×Value)}{St:Nat->Heap->Prop}{h1:Heap}{d1:Drawn}{b0:Bool},Walks prog w A.in1 it fp [it] es.size (atL L) St->D∉fp->UT L es.toList->St 0 h1->h1.get? D=some {cls:=.type "list",data:=.seq #[] a2}->h1.get? S=some o->s.heap.objs.size<=it->(∀b o,s.heap.get? b=some o->h1.get? b=some o)->
   wpAny (model prog w) A.in1 (do
    let room ←Xh [.ref it] (XF (.ref S))
    if(room||b0)=true then do
     rule "list.extend.makes-room"
     Builtin.List.listTouch (.ref D)
     again (.builtin "list.extend.loop" ⟨[.ref D,.ref it,res],[]⟩)
    else again (.builtin "list.extend.loop" ⟨[.ref D,.ref it,res],[]⟩))
   (λfin s'=>match fin with|.done f=>R (.ok f) s'|.again c'=>c'.quiet=true/\Wu (model prog w) A c' R s') (λe s'=>R (.error e) s') {s with heap:=h1,drawn:=d1}:=λ{it fp L St h1 d1 b0} W b3 hL st a6 b4 b5 kp=>by
  have V:∀(h:Heap)(a0 tk:Nat),St 0 h->(∀b o,b≠D->h1.get? b=some o->h.get? b=some o)->
    h.get? D=some {cls:=.type "list",data:=.seq #[] a0}->Wu (model prog w) A (.builtin "list.extend.loop" ⟨[.ref D,.ref it,res],[]⟩) R {s with heap:=h,drawn:=d1,toks:=tk}:=by
   intro h a0 tk b9 I b8;refine codeAny_extend_loopS W.toS hz D b3 res es.size 0 _ #[] a0 rfl (WQ _) b9 b8 (ItemsOf.nil _) λs' b2 c' hm b6 a9=>?_;rw[Moved.eq_with hm];refine hR s'.heap s'.toks d1 L b2 c' (λb o U e=>hm.heap b o (λq=>?_) (I b o U (kp b o e))) b6 hL a9;rcases Tf.mp q with e'|q
   .exact U e'
   .have:=TJ e
    rw[Ti.mp q]at this;exact absurd this (Nat.not_lt.mpr b5)
  refine gD (Va (Gg ⟨o,b4,Y.1⟩ ?_));refine aaq (λ_=>?_) (λ_=>S7 ⟨WD Z1 _,V _ a2 _ st (λb o _ e=>e) a6⟩);refine gD (Wj ?_);refine gD ?_;show wpAny _ _ (updateSeq D (·.push .none) >>=λ_=>updateSeq D (·.pop)) _ _ _;refine gD (wpAny_updateSeq a6 rfl ?_);have a1:=Wc (Wm (·.push Uv)) a6 rfl;refine wpAny_updateSeq (hz:=by seq_fits) a1 rfl ?_;have a8:=Wc (Wm (·.pop)) a1 rfl;refine S7 ⟨WD Z1 _,V _ _ _ ?_ (λb o U e=>?_) a8⟩
  .refine W.frame 0 _ _ st λb U o e=>?_
   have b1:b≠D:=λz=>b3 (z▸U);exact(U9 _ _ (U0 b1)).trans ((U9 _ _ (U0 b1)).trans e)
  .exact(U9 _ _ (U0 U)).trans ((U9 _ _ (U0 U)).trans e)
 have a3:∀(x:Obj),(s.heap.push x).objs.size=s.heap.objs.size+1:=λx=>VF ..;refine gD (o7 B Y hd hf hz (λO=>?_) λU ps d N=>?_)
 .cases U:w.params.followText "set-order" with
  |true=>
   refine after (d1:=s.drawn) (zu (it:=s.heap.objs.size) hh (T4 a7) Y hd hf U) ?_ (j7 _ _) ⟨TV _ rfl,S_ _ B⟩ (S_ _ hD) (S_ _ B) (Tg _) λb o e=>S_ _ e;simp only[Tf,YX,or_false,not_or];exact⟨T4 a5,a4⟩
  |false=>
   have b7:(!t.plain&&decide (es.size>1))=false:=O.resolve_left (by rw[U];simp);refine after (d1:=s.drawn) (yS (it:=s.heap.objs.size) hh (T4 a7) Y hd hf U b7 (by rw[Z.2];simp[Jb.ledW,U]) Z.1) ?_ (Yn _) ⟨TV _ rfl,S_ _ B⟩ (S_ _ hD) (S_ _ B) (Tg _) λb o e=>S_ _ e;simp only[Tf,YX,or_false,not_or];exact⟨T4 a5,a4⟩
 .have e2:∀b o,s.heap.get? b=some o->((s.heap.push (cB ps)).push (jZ (.ref s.heap.objs.size) 0 S es.size ep)).get? b=some o:=λb o e=>S_ _ (S_ _ e)
  refine after (zc (it:=(s.heap.push (cB ps)).objs.size) (p:=s.heap.objs.size) hh (by rw[a3];exact T4 (Wv a7)) (by rw[a3];exact T4 (Xb _)) Y hd hf N) ?_ (Ax N) ⟨TV _ rfl,e2 _ _ B,S_ _ (TV _ rfl)⟩ (e2 _ _ hD) (e2 _ _ B) (by rw[a3];exact Zr _) e2;simp only[Tf,YX,or_false,not_or,a3];exact⟨T4 (Wv a5),a4,T4 a5⟩
end
open PySem.W
theorem collect_set{Q:List Value->S6->Prop}(N:A.handled=none)(B:s.heap.get? S=some o)(a1:o.ExactSet)(hd:o.data= .set es ep t)(hf:t.fits es.size=true)(hr:Jb.RisT t (Jb.ledW w))(hz:es.size<=Te)
  (q:∀h' tk d' L acc,(∀b o,s.heap.get? b=some o->h'.get? b=some o)->UT L es.toList->ItemsOf (atL L) acc es.size->Q acc.toList {s with heap:=h',drawn:=d',toks:=tk}):wpAny (model prog w) A (collect (.ref S)) Q E s:=by
 unfold collect;refine gD (wpAny_runValue (V0 F.entry_proto_collect ?_));rw[Vo F.plain_proto_collect _];show wpAny _ A.in1 (Zm [] >>=λl=>again (.builtin "list.__iadd__" ⟨[l,.ref S],[]⟩)) _ _ s;refine gD (Uu ?_);refine S7 ⟨WD abN _,V0 F.entry_list_iadd ?_⟩;rw[Vo abN _];show wpAny _ A.in1 (XH (.ref s.heap.objs.size) (.ref S) (.ref s.heap.objs.size)) _ _ _;have z:(s.heap.push {cls:=.type "list",data:=.seq ([]:List Value).toArray}).get? s.heap.objs.size=some {cls:=.type "list",data:=.seq #[] 0}:=TV _ rfl
 let Z (s':S6):Prop:=∃h' tk d' L acc c,s'={s with heap:=h',drawn:=d',toks:=tk}/\(∀b o,s.heap.get? b=some o->h'.get? b=some o)/\h'.get? s.heap.objs.size=some {cls:=.type "list",dict:=none,data:=.seq acc c,slots:=#[]}/\UT L es.toList/\ItemsOf (atL L) acc es.size
 have a0:∀s',Z s'->wpAny (model prog w) A (match Um s.heap.objs.size with
   |Um a=>do
    match(←load a).data with
     |Data.seq xs _=>pure xs.toList
     |_=>Zt "internal:collect"
   |_=>Zt "internal:collect") Q E s':=by
  rintro s' ⟨h',tk,d',L,acc,c,rfl,I,O,V,Y⟩;show wpAny _ A (load s.heap.objs.size >>=_) _ _ _;refine gD (Za O ?_);exact S7 (q h' tk d' L acc I V Y)
 refine Vn (Ku (A:=A) (R:=λr s'=>r= .ok (.ret (.ref s.heap.objs.size))/\Z s')
  (s:={s with heap:=s.heap.push {cls:=.type "list",data:=.seq ([]:List Value).toArray}}) N (S_ _ B) a1 hd hf hr hz (W_ (TJ B)) _ 0 z (λh' tk d' L acc c I O V Y=>⟨rfl,h',tk,d',L,acc,c,rfl,λb o e=>I b o (T4 (TJ e)) (S_ _ e),O,V,Y⟩)) (λfin s' h=>?_) (λe s' h=>?_)
 .cases fin with
  |done f=>
   obtain⟨e,h⟩:=h;cases e;exact a0 _ h
  |again U=>exact⟨h.1,Yc h.2 λr a2 hr=>by obtain⟨rfl,h⟩:=hr;exact a0 _ h⟩
 .exact absurd h.1 (by simp)
end PySem
namespace Jb
open PySem PySem.Spec PyProof.Rows L2
def jP[DecidableEq α](ns:List α):List α:=ns.foldl (λacc n=>if n∈acc then acc else acc++[n]) []
section
variable{α:Type}[DecidableEq α]
theorem qP:∀(ns acc:List α),acc.Nodup->(ns.foldl (λacc n=>if n∈acc then acc else acc++[n]) acc).Nodup/\∀x,x∈ns.foldl (λacc n=>if n∈acc then acc else acc++[n]) acc↔x∈acc∨x∈ns
 |[],acc,h=>⟨h,λx=>by simp⟩
 |n::r,acc,h=>by
  rw[X8];by_cases e:n∈acc
  .rw[Tz e]
   obtain⟨h1,h2⟩:=qP r acc h;refine⟨h1,λx=>(h2 x).trans ⟨λz=>z.imp id (T7 _),λz=>z.elim .inl λz=>(Tf.mp z).elim (λz=>.inl (z▸e)) .inr⟩⟩
  .rw[TQ e]
   obtain⟨h1,h2⟩:=qP r (acc++[n]) (by rw[Tu];exact⟨h,by simp,λa Y b U z=>e (by rw[Ti.mp U]at z;exact z▸Y)⟩);refine⟨h1,λx=>(h2 x).trans ?_⟩;simp only[S9,Tf,YX,or_false,or_assoc]
theorem wz(ns:List α):(jP ns).Nodup:=(qP ns [] List.nodup_nil).1
theorem ym{ns:List α}{x:α}:x∈jP ns↔x∈ns:=by
 have:=(qP ns [] List.nodup_nil).2 x;simpa[jP]using this
theorem xr(ns:List α):(jP ns).length<=ns.length:=by
 have:∀(ns acc:List α),(ns.foldl (λacc n=>if n∈acc then acc else acc++[n]) acc).length<=acc.length+ns.length:=by
  intro ns
  induction ns with
  |nil=>intro acc;simp
  |cons n r Z=>
   intro acc;rw[X8];refine V4 (Z _) ?_;split<;>simp<;>omega
 have:=this ns [];simpa[jP]using this
theorem rE{f:α->Key}(Z:∀a b,f a=f b->a=b)(ns:List α):wU (ns.map f)=(jP ns).map f:=by
 have:∀(ns acc:List α),(ns.map f).foldl pD (acc.map f)=(ns.foldl (λacc n=>if n∈acc then acc else acc++[n]) acc).map f:=by
  intro ns
  induction ns with
  |nil=>intro acc;rfl
  |cons n r q=>
   intro acc;rw[TF,X8,X8,←q];congr 1;unfold pD;by_cases e:n∈acc
   .rw[Tz e,Tz (lD.mpr (Tp.mpr ⟨n,e,rfl⟩))]
   .rw[TQ e,TQ (λz=>e (by obtain⟨m,h1,h2⟩:=Tp.mp (lD.mp z);cases Z _ _ h2;exact h1))]
    simp
 exact this ns []
end
theorem qj:∀{a b:List α},a.Nodup->(∀x∈a,x∈b)->b.length<=a.length->UT a b
 |[],b,_,_,h=>by
  have e:b=[]:=Xq (Nat.le_zero.mp h);rw[e]
 |x::r,b,hn,hs,hl=>by
  obtain⟨h1,h2⟩:=T5.mp hn;obtain⟨p,q,rfl⟩:=List.append_of_mem (hs x (by simp));have Z:UT r (p++q):=qj h2 (λy V=>by
   have:=hs y (by simp[V]);simp only[S9,Tf]at this⊢;rcases this with z|z|z
   .exact .inl z
   .exact absurd (z▸V) h1
   .exact .inr z) (by simp at hl⊢;omega)
  exact(Z.cons x).trans List.perm_middle.symm
open PySem PyProof.Rows
def vl(x:Keyed):Int:=numOf x.1
variable{l:List Keyed}
theorem rd(h:n<=l.length):l.reverse.drop (l.length-n)=(l.take n).reverse:=by
 rw[List.drop_reverse,show l.length-(l.length-n)=n by omega]
variable{k:Nat}
theorem rt(h:n<=l.length)(I:k<=n):(l.reverse.drop (l.length-n)).take (n-k)=((l.take n).drop k).reverse:=by
 rw[rd h,List.take_reverse,Vu,show min n l.length-(n-k)=k by omega]
def keyOf:Value->Key
 |.int n _=>.inl n
 |.str x _=>.inr x
 |_=>.inl 0
theorem sr:∀{us:List Value},(∀u∈us,∃k,oW k u=true)->Vals ((us.map keyOf).map kV) us
 |[],_=>.nil
 |u::r,h=>by
  obtain⟨k,I⟩:=h u (by simp);refine .cons ?_ (sr λv B=>h v (by simp[B]));rcases bN I with⟨i,t,rfl,rfl⟩|⟨x,t,rfl,rfl⟩<;>exact⟨t,rfl⟩
theorem Ij{k:Key}(h:oW k v=true):keyOf v=k:=by
 rcases bN h with⟨i,t,rfl,rfl⟩|⟨x,t,rfl,rfl⟩<;>rfl
theorem KR(ks:List Key):(wU ks).Nodup:=by
 have:=rE (f:=id) (λ_ _ h=>h) ks;rw[Xp,Xp]at this;rw[this];exact wz ks
theorem JG(ks:List Key):(wU ks).length<=ks.length:=by
 have:=rE (f:=id) (λ_ _ h=>h) ks;rw[Xp,Xp]at this;rw[this];exact xr ks
def Jh(K:Tn)(R:List Key->Hp->VK->Prop)(t:TA):TE:=λσ H Q=>t σ H λvs H1=>∃a ks,vs=[.ref a]/\SqL K H1 a (List.map kV ks)/\V8 ks<4000/\R ks H1 Q
variable{X:Cx}{σ:L2.St}{H:Hp}
theorem Inv.drw{s:S6}(I:Inv X pins σ H s):Inv X pins σ H {s with drawn:=d}:=⟨I.ok,I.os,I.bare,I.base,I.loc,I.cell,I.free,I.freeC,I.pin,I.hok,I.len⟩
variable{t:TA}{q1 q2:Pos}
theorem zM{R:List Key->Hp->VK->Prop}(hR:∀{pins:List (Addr×Obj)}{σ:L2.St}{H:Hp}{s:S6}{ks zs:List Key}{its:List Value}{E:Value->S6->Prop}{Q:VK},R ks H Q->Inv X pins σ H s->UT zs (wU ks)->zs.length<4000->Vals (zs.map kV) its->wpAny (model X.prog X.w) X.A.in1 (Zm its >>=λl=>ZQ [l] (call (.builtin "list.sort") [l] []) >>=λ_=>ret l) (λfin s'=>∃v,fin= .done (.ret v)/\EP X pins σ Q v s') E s)
  (hg:Gl X "sorted") (N:X.mg "sorted"=none) (a5:X.mg "set"=none) (Y:PA X [e] t) (a8:Gl X "set":=by rfl) (hs:Tj [e] X.env=[(false,eval e X.env)]:=by rfl) (O:X.calm=true:=by rfl) :
  PE X (.Call (.Name "sorted" p1) [.Call (.Name "set" p2) [e] [] q2] [] q1) (Jh X.K R t):=by
 intro pins s σ H Q I h;refine Xk (mj I hg N boot_sorted ?_);refine YD rfl (Zc ?_);show wpAny _ _ (spliced ((false,eval (.Call (.Name "set" p2) [e] [] q2) X.env)::Vf q1 (Tj [] X.env))) _ _ s;refine abo ?_;refine Xk (mj I a8 a5 boot_set ?_);refine WW (thn (Y q2 pins s σ H _ I h) λus s1 ⟨vs,H1,I1,z,b1⟩=>?_) hs rfl;obtain⟨a,ks,ev,hq,hz,q⟩:=b1;subst ev;obtain⟨u,rfl,ru⟩:=vals1 z;cases ru;have hh:X.A.handled=none:=I1.ok.hd O;obtain⟨its,rv,pl,b9⟩:=I1.list hq;have a0:=rv.length;rw[Tv]at a0;refine DX (its:=its) (ks:=ks) hh a0 (λj k v e1 e2=>?_) (by show its.length+1<4096;omega) pl.isList λs2 a7=>?_
 .obtain⟨w',h1,h2⟩:=rv.get (i:=j) (x:=kV k) (by rw[List.getElem?_map,e1];rfl)
  rw[e2]at h1;cases h1;exact h2
 refine abF ?_;obtain⟨h',tk,rfl,hS,old⟩:=a7;have V:Inv X pins σ H1 {s1 with heap:=h',toks:=tk}:=I1.kept (t':=tk) old;obtain⟨o,es,ep,tb,B,b4,hd,b5,a3,U,hf,hn,Z⟩:=hS;have c0:=JG ks;have b8:4000<=Te:=by decide
 refine Er λE' Q' b0=>PySem.collect_set (A:=X.A.in1) hh B b4 hd hf Z (by omega) λh2 a2 d2 L acc kp hL Y=>?_;have I3:Inv X pins σ H1 {s1 with heap:=h2,drawn:=d2,toks:=a2}:=Inv.drw (d:=d2) (V.kept (t':=a2) kp);have a1:acc.toList.length=(wU ks).length:=by rw[U6,Y.1,hn]
 have hv:Vals ((acc.toList.map keyOf).map kV) acc.toList:=sr λu hu=>by
  obtain⟨i,hi,rfl⟩:=VN hu;obtain⟨c,b6⟩:=Y.2 i _ (by rw[←Xv];exact Td hi);obtain⟨⟨k,b2,_⟩,_⟩:=b5 _ (hL.mem_iff.mp (T9 b6));exact⟨k,b2⟩
 have b3:UT (wU ks) (acc.toList.map keyOf):=by
  refine qj (KR ks) (λx F=>?_) (by rw[Tv,a1];exact Tg _);obtain⟨⟨c,v⟩,h1,h2⟩:=(a3 x).mp (lD.mpr F);obtain⟨i,hi,a9⟩:=VN (hL.mem_iff.mpr h1);have a6:i<acc.toList.length:=by
   rw[a1,←hn,←U6,←hL.length_eq];exact hi
  obtain⟨c2,a4⟩:=Y.2 i acc.toList[i] (by rw[←Xv];exact Td a6);rw[Td hi,a9]at a4;have b7:v=acc.toList[i]:=congrArg Prod.snd (UG a4);exact Tp.mpr ⟨acc.toList[i],Vw _,by rw[←b7];exact Ij h2⟩
 exact b0 _ _ (hR q I3 b3.symm (by rw[Tv,a1];omega) hv)
variable{l:List α}
theorem perm_back{f:α->β}{g:β->α}(q:∀a,g (f a)=a){zs:List β}(h:UT zs (l.map f)):zs=(zs.map g).map f/\UT (zs.map g) l:=by
 refine⟨?_,?_⟩
 .rw[TX]
  conv=>lhs;rw[←Xp zs]
  refine UW λz hz=>?_;obtain⟨a,_,rfl⟩:=Tp.mp (h.mem_iff.mp hz);simp[q]
 .have:=h.map g
  rw[TX]at this;rwa[show g∘f=id from funext q,Xp]at this
theorem Li(l b:Addr)(xs ys:Array Value)(n m:Nat)(Z:Option Addr)(sl:Array (Option Value))(I:¬(!xs.isEmpty&&Yi (xs.size+ys.size))=true)(z:xs.size+ys.size<=Te) :
  Meets (Builtin.«list.extend» ⟨[.ref l,.ref b],[]⟩) (λ_ R s=>s.heap.get? l=some {cls:=.type "list",data:=.seq xs n}/\s.heap.get? b=some {cls:=.type "tuple",dict:=Z,data:=.seq ys m,slots:=sl}/\R (.ok (.ret Uv)) {s with heap:=s.heap.update l (Wm λx=>x++ys),toks:=s.toks}):=by
 intro prog w A R s h;obtain⟨N,g,d,tk,os⟩:=s;obtain⟨Y,U,h⟩:=h;have B:=aae;have O:=aaw;have V:=AutoSeq1.sub_tuple_list;have q:=AutoSeq1.sub_list_tuple;have hz:xs.size<=Te:=by omega
 have F:(xs++ys).size<=Te+1:=by rw[abO];omega
 wp_walk using(wpAny_updateSeq Y rfl (hz:=hz) (_hz':=F)),wpAny_loadPart' Y,wpAny_loadPart' U
 exact h
def Mw:V->List V->Hp->VK->Prop:=λx vs H Q=>∃l b xs zs,x= .ref l/\vs=[.ref b]/\H l=some (.lst xs)/\H b=some (.tup zs)/\xs.length+zs.length<=Te/\Q .non (upd H l (.lst (xs++zs)))
theorem Kz:MtM X "list.extend" Mw:=by
 intro pins s σ H x vs v us Q I rx U h;obtain⟨l,b,xs,zs,rfl,rfl,V,hB,hz,q⟩:=h;cases rx;obtain⟨u,rfl,ru⟩:=U.one;cases ru;obtain⟨z,its,n,r,Y,e⟩:=I.lstM V;obtain⟨B,Z,N,⟨oc,od,oa,os⟩,e2,O,m,hd,_⟩:=(show bB X.prog X.w H s.heap b (.tup zs)from I.hok b _ hB);simp only at O hd;subst O hd;have l2:=N.length;have hsz:its.toArray.size+Z.toArray.size<=Te:=by rw[List.size_toArray,List.size_toArray];omega
 refine Ym F.slot_list_extend ⟨_,e,rfl⟩ F.entry_list_extend (F.args_list_extend_2 _ _) (Li l b its.toArray Z.toArray n m od os (by rw[Ig hsz,acg];exact Uk) hsz) ⟨e,e2,?_⟩;refine⟨.non,_,I.lset (its':=its++Z) V e (by simp) (r.append N) ?_,rfl,q⟩;rw[Ui];omega
def iC:D->List D->Option (D×D)
 |.lst .own ds,[.tup es]=>(strsOf es).bind λ_=>if ds.length+es.length<1000000 then some (.lst .own (ds++es),.non)else none
 |_,_=>none
variable{G:Gc}
theorem zJ:MuV G Mw iC:=λd es d' res h v xs H W M N r re nd hM O c1 c2 Q q=>by
 unfold iC at h;split at h
 .rename_i ds es
  cases hs:strsOf es with
  |none=>rw[hs]at h;cases h
  |some ss=>
   rw[hs,S8]at h;split at h
   .rename_i hl
    cases h;rw[Rep]at r;obtain⟨a,ys,M0,rfl,Z,Y,rfl⟩:=r;obtain⟨x,rfl,F⟩:=re.inv1;rw[Rep]at F;obtain⟨b,zs,rfl,U,hz⟩:=F;have hd:=oZ hs;subst hd;have B:=su hz;subst B;obtain⟨k1,k2⟩:=ir O;have I:=Tu.mp nd;have hn:=T5.mp I.1;simp only[au,az,aB,aA,TY]at c1 c2;refine⟨a,b,ys,ss.map V.str,rfl,rfl,Y,U,Wh (tX (by rw[←Z.length,Tv];simpa using hl)),q .non _ (a::M0) [] (λb u U n=>by rw[aH (show b≠a from λz=>n (by rw[z];simp))];exact U) (λW' ev=>⟨?_,jd⟩) ?_ (λb U=>?_) (lw (by rw[gA];simp[k1,c1]) (by rw[gn];simp[k2,c2])) rfl⟩
    .rw[Rep]
     refine⟨a,ys++ss.map V.str,M0,rfl,?_,aM,rfl⟩;have:=(v5 Z k1 k2 hn.1 ev).append (tU ss);rwa[T3]at this
    .rw[T3]
     exact I.1
    .rw[T3]at U
     exact .inl U
   .cases h
 .cases h
variable{X:ι->Cx}
theorem Ag:MuB X G "list" "list.extend" iC:=⟨_,λc=>Kz,zJ,ww rfl λd es q e=>by
 unfold iC at e;split at e
 .exact⟨_,_,rfl⟩
 .cases e⟩
def mkS:Mk->Mk
 |.frz=>.scr
 |m=>m
mutual
noncomputable def toS:D->D
 |.tup ds=>.tup (mV ds)
 |.lst m ds=>.lst m (mV ds)
 |.dct m ks ds=>.dct (mkS m) ks (mV ds)
 |.ins m c fs ds=>.ins m c fs (mV ds)
 |d=>d
noncomputable def mV:List D->List D
 |[]=>[]
 |d::r=>toS d::mV r
end
mutual
theorem uH:∀{d:D},aB d=true->aB (toS d)=true
 |.non,_=>rfl|.bl _,_=>rfl|.int _,_=>rfl|.str _,_=>rfl|.ty _,_=>rfl
 |.tup ds,h=>by simp[aB]at h;simp[toS,aB,iI h]
 |.lst m ds,h=>by simp[aB]at h;simp[toS,aB,iI h.2,h.1]
 |.dct m _ ds,h=>by simp[aB]at h;cases m<;>simp[toS,aB,iI h.2,mkS]<;>simp at h
 |.ins m _ _ ds,h=>by simp[aB]at h;simp[toS,aB,iI h.2,h.1]
theorem iI:∀{ds:List D},au ds=true->au (mV ds)=true
 |[],_=>rfl
 |d::r,h=>by simp[au]at h;simp[mV,au,uH h.1,iI h.2]
end
mutual
theorem uX:∀{d:D},aA d=true->aA (toS d)=true
 |.non,_=>rfl|.bl _,_=>rfl|.int _,_=>rfl|.str _,_=>rfl|.ty _,_=>rfl
 |.tup ds,h=>by simp[aA]at h;simp[toS,aA,iQ h]
 |.lst m ds,h=>by simp[aA]at h;simp[toS,aA,iQ h.2,h.1]
 |.dct m _ ds,h=>by simp[aA]at h;cases m<;>simp[toS,aA,iQ h.2,mkS]<;>simp at h
 |.ins m _ _ ds,h=>by simp[aA]at h;simp[toS,aA,iQ h.2,h.1]
theorem iQ:∀{ds:List D},az ds=true->az (mV ds)=true
 |[],_=>rfl
 |d::r,h=>by simp[az]at h;simp[mV,az,uX h.1,iQ h.2]
end
variable{d:D}
theorem Di(h:clean d=true):clean (toS d)=true:=by
 rw[clean,TY]at h⊢;exact⟨uH h.1,uX h.2⟩
variable{W:Wn}{kv:List (Key×V)}
mutual
theorem Rep.toS(Y:H a=some (.dK kv)):∀{d:D}{v:V}{L:List Addr},Rep G H W d v L->aB d=true->aA d=true->a∉L->Rep G (upd H a (.frz o (.dK kv))) W (toS d) v L
 |.non,v,L,h,_,_,_=>by rw[Rep]at h;simp[Jb.toS,Rep,h]
 |.bl _,v,L,h,_,_,_=>by rw[Rep]at h;simp[Jb.toS,Rep,h]
 |.int _,v,L,h,_,_,_=>by rw[Rep]at h;simp[Jb.toS,Rep,h]
 |.str _,v,L,h,_,_,_=>by rw[Rep]at h;simp[Jb.toS,Rep,h]
 |.ty _,v,L,h,_,_,_=>by rw[Rep]at h;simp[Jb.toS,Rep,h]
 |.tup ds,v,L,h,n,m,q=>by
  rw[Rep]at h;rw[Jb.toS,Rep];obtain⟨b,xs,rfl,U,Z⟩:=h;exact⟨b,xs,rfl,(ik Y).t b xs U,aC.toS Y Z (by simpa[aB]using n) (by simpa[aA]using m) q⟩
 |.lst k ds,v,L,h,n,m,q=>by
  rw[Rep]at h;rw[Jb.toS,Rep];obtain⟨b,xs,M,rfl,Z,hs⟩:=h;simp[aB]at n;simp[aA]at m;exact⟨b,xs,M,rfl,aC.toS Y Z n.2 m.2 λz=>q (hs.sub.subset z),hs.chg ((ik Y).r b _ (λ_ _ z=>by cases z)) λ_=>(ik Y).l b xs⟩
 |.dct k ks ds,v,L,h,n,m,q=>by
  rw[Rep]at h;rw[Jb.toS,Rep];obtain⟨b,xs,M,rfl,I,Z,hs⟩:=h;simp[aB]at n;simp[aA]at m;refine⟨b,xs,M,rfl,I,aC.toS Y Z n.2 m.2 λz=>q (hs.sub.subset z),?_⟩;have Z:=(ik (ob:=o) Y).r b (.dK xs) (λ_ _ z=>by cases z);cases k with
  |own=>exact⟨by rw[aH (λz=>q (by rw[hs.2,z];simp))];exact hs.1,hs.2⟩
  |frz=>exact⟨.inl ⟨Z (.inl hs.1),hs.2.1⟩,hs.2.2⟩
  |brw=>exact absurd rfl n.1
  |bro=>exact absurd rfl m.1
  |scr=>exact⟨hs.1.imp (λz=>⟨Z z.1,z.2⟩) id,hs.2⟩
 |.ins k c fs ds,v,L,h,n,m,q=>by
  rw[Rep]at h;rw[Jb.toS,Rep];obtain⟨b,C,dx,xs,M,rfl,B,I,Z,hs⟩:=h;simp[aB]at n;simp[aA]at m;exact⟨b,C,dx,xs,M,rfl,B,I,aC.toS Y Z n.2 m.2 λz=>q (hs.sub.subset z),hs.chg ((ik Y).r b _ (λ_ _ z=>by cases z)) λ_=>(ik Y).i b C dx xs⟩
theorem aC.toS(Y:H a=some (.dK kv)):∀{ds:List D}{vs:List V}{L:List Addr},aC G H W ds vs L->au ds=true->az ds=true->a∉L->aC G (upd H a (.frz o (.dK kv))) W (mV ds) vs L
 |[],vs,L,h,_,_,_=>by rw[mV];rw[aC]at h⊢;exact h
 |d::r,vs,L,h,n,m,q=>by
  obtain⟨x,ys,M,M',rfl,rfl,h1,h2⟩:=h.inv;simp[au]at n;simp[az]at m;rw[mV];exact .cons (Rep.toS Y h1 n.1 m.1 λz=>q (Th _ z)) (aC.toS Y h2 n.2 m.2 λz=>q (Tc _ z))
end
def uD(j:Nat)(tg:D->En->Option En)(B:En->Option Fl):En->Option Fl:=λρ=>match ρ[j]? with
 |some (some (.dct .frz ks _))=>match forL tg B (ks.map kD) (ρ.map (aa3 toS))with
  |some (.nx ρ')=>some (.nx ρ')
  |_=>none
 |_=>none
def Qw(j:Nat)(z:TS):TS:=λE σ H=>∃a kvs,σ[j]? =some (some (.ref a))/\H a=some (.dK kvs)/\∀ob,z {nx:=λF H'=>H' a=some (.frz ob (.dK kvs))/\E.nx F (upd H' a (.dK kvs)),bk:=λ_ _=>False,ct:=λ_ _=>False,rt:=λ_ _=>False} σ (upd H a (.frz ob (.dK kvs)))
theorem Nu{X:Cx}{st:Stmt}{z:TS}(h:PS X st z):PS X st (Qw j z):=by
 intro pins s σ H D I N;obtain⟨a,kvs,hs,Y,k⟩:=N;obtain⟨ob,V,B⟩:=Ed I Y;refine thn (h pins s σ _ _ V (k ob)) λf Z q=>?_;cases f with
 |next=>obtain⟨F,H',O,e,q⟩:=q;exact⟨F,_,Em O e B,q⟩
 |brk=>obtain⟨_,_,_,q⟩:=q;exact q.elim
 |cont=>obtain⟨_,_,_,q⟩:=q;exact q.elim
 |ret u=>obtain⟨_,_,_,_,_,q⟩:=q;exact q.elim
theorem zL{kvs:List (Key×V)}:RfI G ob (wiF a o kvs) (λ_=>some (true,(kvs.map (·.1)).map kD)):=λρ b items e σ H W F w R q N=>by
 cases e;have Z:W.free a:=by
  have I:¬(W.n a∨W.s a∨W.o a):=λz=>by
   obtain⟨u,h1,h2⟩:=w a z;rw[N]at h1;cases h1;cases h2
  exact⟨λz=>I (.inl z),λz=>I (.inr (.inl z)),λz=>I (.inr (.inr z))⟩
 refine q _ H (Same.refl _) ⟨λi d e H2 B l=>?_,λi d e H2 B l x Y y=>?_,λH2 B l=>?_⟩
 .have u:Evo H H2 W B:=by simpa[LtB]using l
  exact⟨(u.k a _ N Z).1,by have:=(List.getElem?_eq_some_iff.mp e).1;simpa using this⟩
 .obtain⟨rfl,p,hp,rfl⟩:=y
  have:kD p.1=d:=by simpa[hp]using e
  subst this;refine⟨Same.refl _,?_⟩;obtain⟨k,_⟩:=p;cases k<;>· show Rep _ _ _ (kD _) (kV _) _;simp only[kD,kV];rw[Rep];exact⟨rfl,rfl⟩
 .have u:Evo H H2 W B:=by simpa[LtB]using l
  exact⟨(u.k a _ N Z).1,by simp⟩
variable{P:Nat->Bool}
theorem FN{g:TG}{tb:TS}{tg:D->En->Option En}{a1:En->Option Fl}(hg:RfG G ob P g tg)(U:RfS G ob P tb a1):RfS G ob P (Qw j (Kd (Gj (xj j)) g tb)) (uD j tg a1):=λρ r e σ H S Fr s E q=>by
 unfold uD at e;split at e
 .rename_i ks ds hj
  split at e
  .rename_i ρ' he
   cases e;obtain⟨v,hv,a2,N⟩:=s.sl j _ hj;rw[Rep]at a2;obtain⟨a,kvs,M,rfl,⟨rfl,a4⟩,Z,Y,I,rfl,a5⟩:=a2;refine⟨a,kvs,hv,Y,λo=>?_⟩;have nS:∀i,a∉S i:=λi z=>by
    cases B:ob i with
    |false=>exact I.2.1 ⟨i,B,z⟩
    |true=>exact I.2.2 ⟨i,B,z⟩
   have s':Sta G (upd H a (.frz o (.dK kvs))) ob (ρ.map (aa3 toS)) σ S Fr:={
    len:=by rw[Tv];exact s.len
    sl:=λi d e=>by
     rw[List.getElem?_map]at e;cases h5:ρ[i]? with
     |none=>rw[h5]at e;cases e
     |some x=>
      rw[h5]at e;cases x with
      |none=>cases e
      |some d1=>
       cases e;obtain⟨w,h6,h7,h8⟩:=s.sl i d1 h5;have a3:=h8;rw[clean,TY]at a3;exact⟨w,h6,h7.toS Y a3.1 a3.2 (nS i),Di h8⟩
    em:=λi h=>s.em i λd z=>h (toS d) (by rw[List.getElem?_map,z];rfl)
    nd:=s.nd
    dj:=s.dj
    fdj:=s.fdj
    fdm:=λb U=>by
     obtain⟨u,h1,h2⟩:=s.fdm b U;exact⟨u,by rw[aH (λz:b=a=>I.1 (by subst z;exact U))];exact h1,h2⟩}
   have V:=Bb (P:=P) (zL (G:=G) (ob:=ob) (a:=a) (o:=o) (kvs:=kvs)) hg U (ρ.map (aa3 toS)) (.nx ρ') (by unfold iD;simpa using he) σ (upd H a (.frz o (.dK kvs))) S Fr s' {nx:=λF H'=>H' a=some (.frz o (.dK kvs))/\E.nx F (upd H' a (.dK kvs)),bk:=λ_ _=>False,ct:=λ_ _=>False,rt:=λ_ _=>False} (λσ2 H2 S2 s2 m2=>by
    have h9:H2 a=some (.frz o (.dK kvs)):=m2.kp a _ aM (λ⟨i,z⟩=>nS i z) (by simp);refine⟨h9,q σ2 _ S2 ?_ ?_⟩
    .exact{
      len:=s2.len
      sl:=λi d e=>let⟨w,h6,h7,h8⟩:=s2.sl i d e;⟨w,h6,h7.chg (Hi h9) (λz=>by cases z),h8⟩
      em:=s2.em
      nd:=s2.nd
      dj:=s2.dj
      fdj:=s2.fdj
      fdm:=λb U=>by
       obtain⟨u,h1,h2⟩:=s2.fdm b U;exact⟨u,by rw[aH (λz:b=a=>I.1 (by subst z;exact U))];exact h1,h2⟩}
    .exact{
      kp:=λb u h1 h2 O=>by
       by_cases a0:b=a
       .subst a0;rw[Y]at h1;cases h1;exact aM
       .rw[aH a0];exact m2.kp b u (by rw[aH a0];exact h1) h2 O
      gr:=λi b z=>(m2.gr i b z).imp id (Or.imp id λz=>by
       by_cases a0:b=a
       .subst a0;rw[aM]at z;cases z
       .rwa[aH a0]at z)
      pr:=m2.pr})
   exact⟨.ref a,hv,a,o,kvs,rfl,aM,V aM⟩
  .cases e
 .cases e
theorem GK(j:Nat){I:Pos}{g:D->En->Option En}{f:En->Option Fl}(Y:∀c,Zw (model (X c).prog (X c).w) (X c).A (X c).env (X c).xe)(O:∀c,(X c).calm=true)(q:PVG X G ob P tg g)(U:oE X G ob P B f)
  (z:∀c,(X c).N[j]? =some y:=by intro _;rfl) (F:∀c,Vis (X c).env.scope y:=by intro _;first|exact Vr rfl|exact U8 (Vr rfl)|exact U8 (U8 rfl)) (hd:(y==("__debug__":Str))=false:=by decide) (V:(y==("__classdict__":Str))=false:=by decide)
  (hs:∀c,∀x,VJ (.Name y I) (X c).env x=pure x:=by intro _;intro _;rfl):PVS X G ob P (.For tg (.Name y I) B [] pos) (uD j g f):=
 let⟨_,a1,a2⟩:=q.ex;let⟨_,b1,b2⟩:=U.ex
 ⟨_,λc=>Nu (zW (Y c) (O c) (FQ (wg (z c) (F c) hd V)) (a1 c) (b1 c) (hs c)),FN a2 b2⟩
section
variable{prog:Program}{w:World}{K:Type}[DecidableEq K]{knd:KeyKind prog w K}{A:Around}{E:Value->Shared->Prop}{s:Shared}
theorem DP{d:Addr}{kvs:List (K×Value)}{k:K}{a1 v:Value}{Q:Value->S6->Prop}(F:knd.is k a1=true)(hm:s.heap.DictOf knd d kvs)
  (h1:∀x,W0 kvs k=some x->Q x {s with toks:=s.toks+1})
  (h2:W0 kvs k=none->∀h',h'.DictOf knd d (aaI kvs k v)->Wi d s.heap h'->Q v {s with heap:=h',toks:=s.toks+1})
  (hsz:kvs.length<=Te) :
  wpAny (model prog w) A (aaS d a1 v) Q E s:=by
 have a6:=hm.mapOf;obtain⟨o,es,ep,B,O,hd,I,N,hn⟩:=hm;have e1:=N.length;have e2:es.toList.length=es.size:=by simp
 have a4:es.size<=Te:=by omega
 have Z:∀x,findBy knd.is es x=W0 kvs x:=λx=>by
  rw[←N.find x];obtain⟨l⟩:=es;simp[findBy]
 unfold aaS
 try with_reducible refine Va ?_
 refine gD (knd.pyHash F ?_);refine gD (wpAny_dictFind_of (s:={s with toks:=s.toks+1}) F B hd I ?_);have a2:(es.findIdx? λe=>knd.is k e.key)=kvs.findIdx? λkv=>decide (kv.1=k):=by
  rw[←N.findIdx k];obtain⟨l⟩:=es;simp
 cases hi:es.findIdx? λe=>knd.is k e.key with
 |some i=>
  have z:W0 kvs k=(es[i]?).map (·.val):=by rw[←Z k,findBy_of_findIdx?,hi]
  refine gD (wpAny_dictEntries (s:={s with toks:=s.toks+1}) B hd ?_);cases V:es[i]? with
  |none=>
   exfalso;have:=Array.findIdx?_eq_some_iff_findIdx_eq.mp hi;have a3:i<es.size:=this.1;rw[Array.getElem?_eq_getElem a3]at V;exact nomatch V
  |some e=>
   rw[V]at z;exact gD (Wj (S7 (h1 e.val z)))
 |none=>
  have z:W0 kvs k=none:=by rw[←Z k,findBy_of_findIdx?,hi]
  have a0:k∉kvs.map (·.1):=not_mem_of_findIdx_none (a2▸hi);have q:¬(kvs.any λkv=>decide (kv.1=k))=true:=by
   rw[XM];rintro⟨kv,a5,V⟩;exact a0 (Tp.mpr ⟨kv,a5,of_decide_eq_true V⟩)
  refine gD (Wj (gD (wpAny_updateDictKeys (hz:=a4) (s:={s with toks:=s.toks+1}) B hd (S7 (h2 z _ ⟨_,_,ep+1,Wc _ B (Obj.isFreed_of_dict (aa4 hd _)),
   O.mapDictKeys _,aa4 hd _,I.push F _,?_,?_⟩ (Zh ..))))))
  .rw[aaI,TQ q]
   have:=N.append F (knd.hash k) v;obtain⟨l⟩:=es;simpa using this
  .rw[aaI,TQ q,Uy,Tu]
   refine⟨hn,by simp,?_⟩;intro a Y b U;simp only[TF,U7,Ti]at U;subst U;exact λe=>a0 (e▸Y)
end
def QH:V->List V->Hp->VK->Prop:=λx vs H Q=>∃a kvs k y,x= .ref a/\vs=[kV k,y]/\H a=some (.dK kvs)/\kvs.length<Te/\(∀v,gw kvs k=some v->Q v H)/\(gw kvs k=none->Q y (upd H a (.dK (putK kvs k y))))
theorem Qc{X:Cx}:MtM X "dict.setdefault" QH:=by
 intro pins s σ H x vs v us Q I rx U h;obtain⟨a,kvs,k,y,rfl,rfl,hH,Y,q1,q2⟩:=h;cases rx;obtain⟨u,r,rfl,ru,rr⟩:=U.two;obtain⟨z,hd,ps,rel,Z⟩:=sU I.hok hH;refine Xw F.slot_dict_setdefault Z.typeIs F.entry_dict_setdefault (F.args_dict_setdefault_3 _ _ _) (S:=λA R s'=>A=X.A/\s'=s/\∀v O,EP X pins σ Q v O->R (.ok (.ret v)) O) ?_ ⟨rfl,rfl,λv O q=>q⟩;rintro A R s' ⟨rfl,rfl,kk⟩;unfold Builtin.«dict.setdefault»;refine gD ?_;unfold Builtin.Dict.keyAndDefault;refine gD (aaL Z.typeIs ?_);show wpAny _ _ (pure (a,u,some r)) _ _ s';refine S7 ?_;show wpAny _ _ (if(a==VP)=true then _ else(aaS a u r >>=_)) _ _ s';rw[TQ (by rw[hd];exact Uk)];have hz:ps.length<=Te:=by rw[←rel.length];exact z
 refine gD (DP (hsz:=hz) (jT ru) Z (λx hx=>S7 ?_) λhn h' a0 hs=>S7 ?_)
 .refine kk _ _ ?_
  cases B:gw kvs k with
  |none=>
   have:=jY.none_of (o:=W0 ps k) (by rw[←B];exact rel.val k);rw[hx]at this;cases this
  |some v0=>
   obtain⟨w',N,a1⟩:=jY.some_of (v:=v0) (o:=W0 ps k) (by rw[←B];exact rel.val k);rw[hx]at N;cases N;exact⟨v0,H,I.tok _,a1,q1 v0 B⟩
 .refine kk _ _ ?_
  have B:gw kvs k=none:=by
   cases B:gw kvs k with
   |none=>rfl
   |some v0=>
    obtain⟨w',N,a1⟩:=jY.some_of (v:=v0) (o:=W0 ps k) (by rw[←B];exact rel.val k);rw[hn]at N;cases N
  have V:∃q,h'.get? a=some q:=let⟨q,_,_,hq,_⟩:=a0;⟨q,hq⟩;have a2:(putK kvs k y).length<=Te:=by have:=dO kvs k y;omega
  exact⟨y,_,jC I (by rw[hH];exact Vc) hs V (tu a2 hd (rel.put k rr) a0),rr,q2 B⟩
def Ae(i:Nat)(fa:En->Option (List D))(ρ:En):Option (Nat×En):=match ρ[i]? with
 |some (some (.dct .own ks ds))=>match fa ρ with
  |some [kd,.lst .own []]=>match cg kd with
   |some k=>if ks.length<1000000 then(match cu ks k with
    |some j=>some (j,ρ)
    |none=>some (ks.length,ρ.set i (some (.dct .own (ks++[k]) (ds++[.lst .own []])))))else none
   |none=>none
  |_=>none
 |_=>none
def yH(i:Nat)(fa fx:En->Option (List D)):En->Option Fl:=λρ=>(Ae i fa ρ).bind λp=>(fx p.2).bind λes=>(upS aW i [p.1] es p.2).map λq=>.nx q.2
theorem xQ{ks:List Key}{k:Key}(h:cu ks k=none):cu (ks++[k]) k=some ks.length:=by
 unfold cu at *
 rw[List.findIdx?_append,h];simp
variable{fa:En->Option (List D)}
theorem J_{t1 t2:TA}{fx:En->Option (List D)}(h1:RfA G ob t1 fa)(h2:RfA G ob t2 fx):RfS G ob P (Bx (tBM G.K "list" nO (tBM G.K "dict" QH (xj i) t1) t2)) (yH i fa fx):=λρ r e σ H S Fr s E q=>by
 unfold yH at e;cases e1:Ae i fa ρ with
 |none=>simp[e1]at e
 |some p=>
  obtain⟨j,ρ1⟩:=p;cases e2:fx ρ1 with
  |none=>simp[e1,e2]at e
  |some es=>
   cases e3:upS aW i [j] es ρ1 with
   |none=>simp[e1,e2,e3]at e
   |some p=>
    obtain⟨res,d8⟩:=p;have:Fl.nx d8=r:=by simpa[e1,e2,e3]using e
    subst this;obtain⟨d0,d,d',g1,g2,c1,c2,g3,rfl⟩:=v6 e3;have fin:∀(v:V)(v0:V)(H1:Hp)(S1:Ad)(M:List Addr),Sta G H1 ob ρ1 σ S1 Fr->Mv P H H1 σ σ S S1 []->σ[i]? =some (some v0)->Foc G H1 (wn ob S1 Fr) d0 v0 (S1 i) [j] d v M->
      tyV G.K "list" v H1/\t2 σ H1 (λxs H2=>nO v xs H2 λx H'=>E.nx σ H'):=λv v0 H1 S1 M a4 m1 a1 a8=>by
     refine⟨?_,?_⟩
     .unfold aW at g3
      split at g3
      .have:=a8.r
       rw[Rep]at this;obtain⟨a,xs,M2,rfl,_,hs⟩:=this;exact .inl ⟨rfl,_,SqL.of hs.1⟩
      .cases g3
     .refine h2 ρ1 es e2 σ H1 _ a4.rel a4.wok _ λxs H2 N O re fr nd=>?_
      have d7:Sta G H2 ob ρ1 σ S1 (plus N Fr):=a4.grow O λa z=>z.elim (λz=>.inr ⟨fr a z,re.dom a z⟩) .inl;have up:Up H1 H2 (wn ob S1 Fr) (wn ob S1 (plus N Fr)):=Up.add O fr;have d1:=a8.mono (.inr up) up.evo λc _ u F=>O c u F;have hF:∀a∈N,¬Fr a:=λa Y z=>by
       obtain⟨o,B,_⟩:=a4.fdm a z;rw[fr a Y]at B;cases B
      refine j_ sE d7 g1 a1 g2 d1 re nd hF c1 c2 g3 λx H' R S' q1 q2 q3 q4 q5 q6 q7 q8=>q σ H' S' (q1.lessF λa z=>.inr z) (m1.trans ⟨λb u U n _=>q8 b u (O b u U) λz=>n ⟨i,z⟩,λk a z=>?_,.refl⟩);by_cases I:k=i
      .subst I
       rcases q6 a z with y|y|y
       .exact .inl ⟨k,y⟩
       .exact .inr (.inr (fr a y))
       .exact .inr (.inr (O.none' y))
      .rw[q5 k I]at z;exact .inl ⟨k,z⟩
    unfold Ae at e1;split at e1
    .rename_i ks ds hi
     split at e1
     .rename_i kd hfa
      split at e1
      .rename_i k I
       split at e1
       .rename_i hl
        obtain⟨v0,a1,c8,e0⟩:=s.sl i _ hi;refine⟨v0,a1,?_,?_⟩
        .have:=c8
         rw[Rep]at this;obtain⟨a,kvs,M0,rfl,_,Z,Y,_⟩:=this;exact .inr (.inr (.inl ⟨rfl,.inl ⟨_,Y⟩⟩))
        .refine h1 ρ _ hfa σ H _ s.rel s.wok _ λxs H1 N s1 re fr nd=>?_
         have a4:Sta G H1 ob ρ σ S (plus N Fr):=s.grow s1 λa z=>z.elim (λz=>.inr ⟨fr a z,re.dom a z⟩) .inl;have a0:=a4.sl i _ hi;obtain⟨v1,c3,a0,_⟩:=a0;rw[a1]at c3;cases c3;have a7:=a0;rw[Rep]at a7;obtain⟨a,kvs,M0,rfl,⟨a6,e4⟩,Z,Y,e6⟩:=a7;obtain⟨x1,zs,N1,N2,rfl,rfl,d5,hz⟩:=re.inv;obtain⟨x2,zs,N3,N4,rfl,rfl,d9,hz⟩:=hz.inv;obtain⟨rfl,rfl⟩:=hz.inv0;have c0:=gH d5 I;subst c0;have c9:kvs.length<Te:=tX (by rw[←a6]at hl;simpa using hl);have hF:∀a∈N1++(N3++[]),¬Fr a:=λa Y z=>by
          obtain⟨o,B,_⟩:=s.fdm a z;rw[fr a Y]at B;cases B
         split at e1
         .rename_i j' hj
          cases e1;rw[hi]at g1;cases g1;have c4:Sta G H1 ob ρ σ S Fr:=a4.lessF λa z=>.inr z;obtain⟨v3,b1,b2,b6⟩:=c4.sl i _ hi;rw[a1]at b1;cases b1;have b4:ds[j]? =some d:=by simpa[dg,kids]using g2
          obtain⟨a2,c5,x,M,b7,a9,b9,b3,a8⟩:=Foc.dct b2 b6 b4;cases b7;rw[Y]at a9;cases a9;have a3:=eQ (kvs:=kvs) (k:=k) (j:=j) (by rw[a6];exact hj);rw[b3]at a3;refine⟨a,kvs,k,x2,rfl,rfl,Y,c9,λv hv=>?_,λhv=>by rw[a3]at hv;cases hv⟩;rw[a3]at hv;cases hv;exact fin x _ H1 S M c4 ⟨λb u U _ _=>s1 b u U,λk a z=>.inl ⟨k,z⟩,.refl⟩ a1 a8
         .rename_i hj
          cases e1;have a3:gw kvs k=none:=iu (by rw[a6];exact hj);refine⟨a,kvs,k,x2,rfl,rfl,Y,c9,(λv hv=>by rw[a3]at hv;cases hv),λ_=>?_⟩;have d2:cC (.dct .own ks ds) [kd,.lst .own []]=some (.dct .own (ks++[k]) (ds++[.lst .own []]),.non):=by
           simp only[cC,I,S8,hl,Ud,gf,hj]
          have d6:=j_ (ob:=ob) (p:=[]) (d0:=.dct .own ks ds) (Q:=λ_ H'=>∀x,(∃kv,H' a=some (.dK kv)/\gw kv k=some x)->tyV G.K "list" x H'/\t2 σ H' (λxs H2=>nO x xs H2 λx H'=>E.nx σ H')) Cz a4 hi a1 rfl (Foc.nil a0) re nd hF (by cases kd<;>simp[cg]at I<;>rfl) (by cases kd<;>simp[cg]at I<;>rfl) d2 (λx H' R S' q1 q2 q3 q4 q5 q6 q7 q8=>?_)
          .obtain⟨i1,v1,he,h5⟩:=d6
           cases he;have c7:gw (putK kvs k x2) k=some x2:=by
            rw[jy (by rw[a6];exact hj)];have hn:cu ((kvs++[(k,x2)]).map (·.1)) k=some ks.length:=by
             rw[Uy,a6];exact xQ hj
            rw[eQ hn,Uy,Vb (by rw[←a6];simp)];rw[←a6];simp
           rcases h5 with⟨b5,ys,n5,y5,d4,e7,b8,_⟩|⟨a5,H5,e5,g5,h5⟩
           .cases d4
            rw[Y]at b8;cases b8
           .cases e5
            rcases g5 with⟨d3,k5,f1,f2,f3,f4⟩|⟨d3,k5,b5,f1,_⟩
            .rw[Y]at f1
             cases f1;have:k5=k:=by cases k5<;>cases k<;>cases f2<;>rfl
             subst this;subst f4;exact h5 x2 ⟨_,aM,c7⟩
            .rw[Y]at f1;cases f1
          .rintro y ⟨kv,hkv,hy⟩
           rw[Wa (List.getElem?_eq_some_iff.mp hi).1]at g1;cases g1;have c6:Sta G H' ob (ρ.set i (some (.dct .own (ks++[k]) (ds++[.lst .own []])))) σ S' Fr:=q1.lessF λa z=>.inr z;obtain⟨v3,b1,b2,b6⟩:=c6.sl i _ (Wa (List.getElem?_eq_some_iff.mp hi).1);rw[a1]at b1;cases b1;have b4:(ds++[.lst .own []])[ks.length]? =some d:=by simpa[dg,kids]using g2
           obtain⟨a2,c5,x',M,b7,a9,b9,b3,a8⟩:=Foc.dct b2 b6 b4;cases b7;rw[hkv]at a9;cases a9;have b0:=eQ (kvs:=kv) (k:=k) (j:=ks.length) (by rw[b9.1];exact xQ hj);rw[b3,hy]at b0;cases b0;refine fin y _ H' S' M c6 ⟨λb u U n _=>q8 b u (s1 b u U) λz=>n ⟨i,z⟩,λk a z=>?_,.refl⟩ a1 a8;by_cases I:k=i
           .subst I
            rcases q6 a z with y|y|y
            .exact .inl ⟨k,y⟩
            .exact .inr (.inr (fr a y))
            .exact .inr (.inr (s1.none' y))
           .rw[q5 k I]at z;exact .inl ⟨k,z⟩
       .cases e1
      .cases e1
     .cases e1
    .cases e1
theorem Ca(i:Nat){I Z q a3 a0:Pos}{k l x:Expr}{fx:En->Option (List D)}(Y:PVA X G ob [k,l] fa)(hx:PVA X G ob [x] fx)
  (b4:∀c,(X c).N[i]? =some y:=by intro _;rfl) (B:∀c,Vis (X c).env.scope y:=by intro _;first|exact Vr rfl|exact U8 (Vr rfl)|exact U8 (U8 rfl)) (hd:(y==("__debug__":Str))=false:=by decide) (V:(y==("__classdict__":Str))=false:=by decide)
  (b0:∀c,WT (.Call (.Attribute (.Call (.Attribute (.Name y I) "setdefault" Z) [k,l] [] q) "append" a3) [x] [] a0) none pos.line (X c).env=pure false:=by intro _;rfl)
  (U:∀c,Wz (.Name y I) "setdefault" (X c).env (eval (.Name y I) (X c).env)=eval (.Name y I) (X c).env:=by intro _;rfl)
  (O:∀c,Wz (.Call (.Attribute (.Name y I) "setdefault" Z) [k,l] [] q) "append" (X c).env (eval (.Call (.Attribute (.Name y I) "setdefault" Z) [k,l] [] q) (X c).env)=eval (.Call (.Attribute (.Name y I) "setdefault" Z) [k,l] [] q) (X c).env:=by intro _;rfl)
  (b3:∀c,((Vf q (Tj [k,l] (X c).env)).all (λx=>!x.1)&&(Yh q (W8 [] (X c).env)).all (λx=>x.1.isSome)&&decide ([k,l].length+([]:List Wd).length+(if([]:List Wd).isEmpty then 0 else 1)<30))=true:=by intro _;rfl)
  (b5:∀c,((Vf a0 (Tj [x] (X c).env)).all (λx=>!x.1)&&(Yh a0 (W8 [] (X c).env)).all (λx=>x.1.isSome)&&decide ([x].length+([]:List Wd).length+(if([]:List Wd).isEmpty then 0 else 1)<30))=true:=by intro _;rfl)
  (a8:(Z.endLine==q.line)=true:=by rfl) (a9:(a3.endLine==a0.line)=true:=by rfl)
  (a5:∀c,Tj [k,l] (X c).env=(false,eval k (X c).env)::Tj [l] (X c).env:=by intro _;rfl) (a7:∀c,Tj [x] (X c).env=(false,eval x (X c).env)::Tj [] (X c).env:=by intro _;rfl)
  (a6:∀c,(Vf q (Tj [l] (X c).env)).any (·.1)=false:=by intro _;rfl) (a4:∀c,(Vf a0 (Tj [] (X c).env)).any (·.1)=false:=by intro _;rfl) (z:∀c,(X c).K=G.K:=by intro _;rfl) :
  PVS X G ob P (.Expr (.Call (.Attribute (.Call (.Attribute (.Name y I) "setdefault" Z) [k,l] [] q) "append" a3) [x] [] a0) pos) (yH i fa fx):=
 let⟨_,a1,a2⟩:=Y.ex;let⟨_,b1,b2⟩:=hx.ex
 ⟨_,λc=>(by rw[←z c];exact vY (uC Vl Ws Wt uv (uC WK PySem.F.slot_dict_setdefault PySem.F.type_dict_setdefault Qc (wg (b4 c) (B c) hd V) (a1 c) (U c) (b3 c) a8 (a5 c) (a6 c)) (b1 c) (O c) (b5 c) a9 (a7 c) (a4 c)) (b0 c)),J_ a2 b2⟩
theorem GJ(l b:Addr)(es O:Array DictEntry)(ep a2:Nat)(Z z:Option Addr)(sl q:Array (Option Value))(a3:(l==VP)=false)(a1:(b==VP)=false)(h0:O.size=0) :
  Meets (Builtin.«dict.__ne__» ⟨[.ref l,.ref b],[]⟩) (λ_ R s=>s.heap.get? l=some {cls:=.type "dict",dict:=Z,data:=.dict es ep,slots:=sl}/\s.heap.get? b=some {cls:=.type "dict",dict:=z,data:=.dict O a2,slots:=q}/\R (.ok (.ret (.bool (es.size !=0)))) s):=by
 intro prog w A R s h;obtain⟨N,g,d,tk,os⟩:=s;obtain⟨Y,U,h⟩:=h;have I:¬(l==VP)=true:=by rw[a3];exact Uk
 have B:¬(b==VP)=true:=by rw[a1];exact Uk
 have f3:isSubtype (.type "dict") (.type "dict")=pure true:=PySem.F.sub_dict_dict
 wp_walk using PySem.AutoSeq1.wpAny_loadPart' Y,PySem.AutoSeq1.wpAny_loadPart' U
 by_cases V:es.size=0
 .rw[V]at h⊢
  rw[h0];simp only[abi,acw,Wq,Xz,Nat.add_sub_cancel,Nat.div_one,List.range'_zero,List.forIn_nil]
  wp_walk using PySem.AutoSeq1.wpAny_loadPart' Y,PySem.AutoSeq1.wpAny_loadPart' U
  exact h
 .have hne:(es.size !=O.size)=true:=by rw[h0];simpa using V
  have a0:(es.size !=0)=true:=by simpa using V
  rw[a0]at h;rw[Tz hne]
  wp_walk using PySem.AutoSeq1.wpAny_loadPart' Y,PySem.AutoSeq1.wpAny_loadPart' U
  exact h
def SM(A:U4):R2:=λx y H Q=>∃a b kvs,x= .ref a/\y= .ref b/\Rd H a (.dK kvs)/\Rd H b (.dK [])/\A.units<cLine/\Q (.bl (kvs.length !=0)) H
theorem P0{X:Cx}:OpR X (UL .NotEq) (SM X.A):=by
 intro pins s σ H x y v u Q I rx ry ⟨a,b,kvs,ex,ey,h1,h2,hu,q⟩;subst ex ey;cases rx;cases ry;obtain⟨z,hd,vs,rel,o,es,ep,B,O,a2,hk,N,hn⟩:=lO I.hok h1;obtain⟨z2,Y,b5,a4,o2,a1,a9,a5,b1,a0,U,a7,b4⟩:=lO I.hok h2;obtain⟨cls,Z,data,sl⟩:=o;obtain⟨b3,b0,a8,a6⟩:=o2;have b2:es.size=kvs.length:=by
  have e1:=N.length;have e2:es.toList.length=es.size:=by simp
  have e3:=rel.length;omega
 have a3:a1.size=0:=by
  have e1:=a7.length;have e2:a1.toList.length=a1.size:=by simp
  have e3:=a4.length;simp at e3;omega
 obtain⟨V,c2,c3⟩:=O;obtain⟨k1,k2,k3⟩:=b1;simp only at V c2 c3 k1 k2 k3 a2 a0;subst V k1 a2 a0;refine aaz (op:=.NotEq) ⟨_,B,rfl⟩ ⟨_,a5,rfl⟩ F.slot_dict_ne F.entry_dict_ne (F.args_dict_ne_2 _ _) (GJ a b es a1 ep a9 Z b0 sl a6 hd Y a3) ⟨B,a5,?_⟩ hu;rw[b2];exact⟨(λx=>nomatch x),.bl (kvs.length !=0),H,I,rfl,q⟩
def zg(A:U4)(s:S6)(y x:Value)(b:Bool):Prop:=
 ∀(prog:Uj)(w:World)(E:Value->S6->Prop)(Q:Value->S6->Prop),Q (.bool b) s->wpAny (model prog w) A (richCompare .Lt y x) Q E s
def lM(e l:Nat->Bool)(z:Bool):List Nat->Bool
 |[]=>z
 |j::r=>if e j then lM e l z r else l j
theorem zx(l b:Addr)(items q:Array Value)(n I:Nat)(Z z:Option Addr)(sl a1:Array (Option Value))(e f:Nat->Bool) :
  Meets (Builtin.«tuple.__lt__» ⟨[.ref l,.ref b],[]⟩)
   (λA R s=>s.heap.get? l=some {cls:=.type "tuple",dict:=Z,data:=.seq items n,slots:=sl}/\s.heap.get? b=some {cls:=.type "tuple",dict:=z,data:=.seq q I,slots:=a1}/\
    (∀j (h1:j<items.size)(h2:j<q.size),ab5 A.in1 s items[j] q[j] (e j)/\(e j=false->zg A.in1 s items[j] q[j] (f j)))/\
    R (.ok (.ret (.bool (lM e f (decide (items.size<q.size)) (Ue (min items.size q.size)))))) s):=
 .of_wp λprog w A R s h=>by
  obtain⟨N,g,d,tk,os⟩:=s;obtain⟨Y,U,V,h⟩:=h;have f2:=aae;have hZ:(items.toList.zip q.toList).length=min items.size q.size:=by simp
  wp_walk using PySem.AutoSeq1.wpAny_loadPart' Y,PySem.AutoSeq1.wpAny_loadPart' U,wpAny_forIn_list _ (λrest b s'=>b.1=none/\s'=⟨N,g,d,tk,os⟩/\∃i,rest=(items.toList.zip q.toList).drop i/\
   R (.ok (.ret (.bool (lM e f (decide (items.size<q.size)) ((Ue (min items.size q.size)).drop i))))) ⟨N,g,d,tk,os⟩) _
  case turn=>
   rintro⟨y,x⟩ rest b s' ⟨a0,rfl,i,hz,hR⟩;have O:i<(items.toList.zip q.toList).length:=by
    rcases aby i (items.toList.zip q.toList).length with h'|h'
    .exact h'
    .rw[YJ h']at hz;cases hz
   have hm:i<min items.size q.size:=hZ▸O;have h1:i<items.size:=T6 hm (Nat.min_le_left _ _);have h2:i<q.size:=T6 hm (abW _ _);rw[V1 O]at hz;injection hz with hyx hrest;have hy:y=items[i]:=by have:=congrArg Prod.fst hyx;simpa using this
   have F:x=q[i]:=by have:=congrArg Prod.snd hyx;simpa using this
   subst hy F;have hd:(Ue (min items.size q.size)).drop i=i::(Ue (min items.size q.size)).drop (i+1):=by simp[V1,hm]
   rw[hd,lM]at hR;refine gD ((V i h1 h2).1 prog w _ _ ?_);cases hy:e i with
   |true=>
    rw[hy]at hR
    wp_walk
    exact⟨rfl,rfl,i+1,hrest,by simpa using hR⟩
   |false=>
    rw[hy]at hR;have B:∀{E:Value->S6->Prop}{Q:Value->S6->Prop},Q (.bool (f i)) ⟨N,g,d,tk,os⟩->wpAny (model prog w) A.in1 (richCompare .Lt items[i] q[i]) Q E ⟨N,g,d,tk,os⟩:=λ{E Q} h=>(V i h1 h2).2 hy prog w E Q h
    wp_walk using B
    exact⟨_,rfl,by simpa using hR⟩
  case fin=>
   rintro⟨b1,b2⟩ s' ⟨a0,rfl,i,hz,hR⟩;simp only at a0;subst a0;have a2:min items.size q.size<=i:=by
    rcases aby i (items.toList.zip q.toList).length with h'|h'
    .rw[V1 h']at hz;cases hz
    .exact hZ▸h'
   rw[YJ (by simpa using a2),lM]at hR
   wp_walk
   exact⟨_,rfl,by simpa[Builtin.Tuple.tupleCompareSizes]using hR⟩
  case h=>
   exact⟨rfl,rfl,0,rfl,by simpa using h⟩
theorem zg.tuples{A:U4}{s:S6}{l b:Addr}{q:Array Value}{e f:Nat->Bool}(Y:s.heap.IsTuple l items)(U:s.heap.IsTuple b q)(hu:A.units<cLine)
  (V:∀j (h1:j<items.size)(h2:j<q.size),ab5 A.in1 s items[j] q[j] (e j)/\(e j=false->zg A.in1 s items[j] q[j] (f j))):zg A s (.ref l) (.ref b) (lM e f (decide (items.size<q.size)) (Ue (min items.size q.size))):=λprog w E Q h=>by
 obtain⟨⟨cls,Z,data,sl⟩,B,O,n,hd⟩:=id Y;obtain⟨⟨a4,z,a3,a2⟩,a0,N,I,a1⟩:=id U;simp only at O hd N a1;subst O hd N a1;exact aaz (op:=.Lt) ⟨_,B,rfl⟩ ⟨_,a0,rfl⟩ F.slot_tuple_lt F.entry_tuple_lt (F.args_tuple_lt_2 _ _) (zx l b items q n I Z z sl a2 e f) ⟨B,a0,V,(λx=>nomatch x),h⟩ hu
def k_(p q:Int×Int):Bool:=decide (p.1<q.1)||(decide (p.1=q.1)&&decide (p.2<q.2))
def ltP:List (Int×Int)->List (Int×Int)->Bool
 |[],[]=>false
 |[],_::_=>true
 |_::_,[]=>false
 |p::r,q::t=>if p=q then ltP r t else k_ p q
def TP(H:Hp)(a:Addr)(ps:List (Int×Int)):Prop:=∃xs,H a=some (.tup xs)/\xs.length=ps.length/\∀(j:Nat)(p:Int×Int),ps[j]? =some p->∃c,xs[j]? =some (.ref c)/\H c=some (.tup [.int p.1,.int p.2])
def eqX(ps B:List (Int×Int))(j:Nat):Bool:=match ps[j]?,B[j]? with
 |some p,some q=>decide (p=q)
 |_,_=>false
def ltX(ps B:List (Int×Int))(j:Nat):Bool:=match ps[j]?,B[j]? with
 |some p,some q=>k_ p q
 |_,_=>false
theorem xP{e l e' l':Nat->Bool}{z:Bool}(g:Nat->Nat)(h1:∀j,e (g j)=e' j)(h2:∀j,l (g j)=l' j):∀r:List Nat,lM e l z (r.map g)=lM e' l' z r
 |[]=>rfl
 |j::r=>by simp only[TF,lM,h1,h2,xP g h1 h2 r]
theorem zj:∀ps B:List (Int×Int),lM (eqX ps B) (ltX ps B) (decide (ps.length<B.length)) (Ue (min ps.length B.length))=ltP ps B
 |[],[]=>rfl
 |[],q::t=>by simp[lM,ltP]
 |p::r,[]=>by simp[lM,ltP]
 |p::r,q::t=>by
  have Z:=zj r t;rw[T_,T_,Nat.succ_min_succ,aau,lM,xP (e':=eqX r t) (l':=ltX r t) Nat.succ (λj=>rfl) (λj=>rfl),ltP];rw[show decide (r.length+1<t.length+1)=decide (r.length<t.length)by simp,Z];by_cases h:p=q
  .simp[eqX,h]
  .simp[eqX,ltX,h]
variable{X:Cx}
theorem J9(I:Inv X pins σ H s){c U:Addr}{p q:Int×Int}(h1:H c=some (.tup [.int p.1,.int p.2]))(h2:H U=some (.tup [.int q.1,.int q.2]))(hz:A.units<cLine):zg A s (.ref c) (.ref U) (k_ p q):=by
 obtain⟨a0,B,p1,_⟩:=I.tuple (SqT.of h1);obtain⟨Z,z,p2,_⟩:=I.tuple (SqT.of h2);obtain⟨F,N,rfl,⟨O,rfl⟩,⟨t2,rfl⟩⟩:=B.two;obtain⟨v1,v2,rfl,⟨w1,rfl⟩,⟨w2,rfl⟩⟩:=z.two;have:=zg.tuples (A:=A) (e:=λj=>if j=0 then p.1==q.1 else p.2==q.2) (f:=λj=>if j=0 then decide (p.1<q.1)else decide (p.2<q.2)) p1 p2 hz (λj h1 h2=>by
  have V:j=0∨j=1:=by
   have:j<2:=h1;omega
  rcases V with rfl|rfl
  .exact⟨aaf _ _ _ _,λ_ prog w E Q h=>lt_int h⟩
  .exact⟨aaf _ _ _ _,λ_ prog w E Q h=>lt_int h⟩)
 have e:lM (λj=>if j=0 then p.1==q.1 else p.2==q.2) (λj=>if j=0 then decide (p.1<q.1)else decide (p.2<q.2)) (decide (2<2)) (Ue (min 2 2))=k_ p q:=by
  show lM _ _ _ [0,1]=_;simp only[lM,k_];by_cases Y:p.1=q.1
  .by_cases hb:p.2=q.2
   .simp[Y,hb]
   .simp[Y,hb]
  .simp[Y]
 rw[←e];exact this
theorem Q7(I:Inv X pins σ H s){b:Addr}{ps B:List (Int×Int)}(h1:TP H a ps)(h2:TP H b B)(hz:A.units+1<cLine):zg A s (.ref a) (.ref b) (ltP ps B):=by
 obtain⟨xs,Y,hl,F⟩:=h1;obtain⟨ys,U,a7,V⟩:=h2;obtain⟨q,a2,p1,_⟩:=I.tuple (SqT.of Y);obtain⟨a1,z,p2,_⟩:=I.tuple (SqT.of U);have l1:=a2.length;have l2:=z.length;rw[←zj];have:=zg.tuples (A:=A) (e:=eqX ps B) (f:=ltX ps B) p1 p2 (by omega) (λj h1 h2=>by
  rw[List.size_toArray]at h1 h2;obtain⟨c,O,Z⟩:=F j ps[j] (by rw[Td]);obtain⟨c',a8,a0⟩:=V j B[j] (by rw[Td]);obtain⟨u,hu,ru⟩:=a2.get O;obtain⟨u',a6,a4⟩:=z.get a8;cases ru;cases a4;have e1:q.toArray[j]'(by simpa using h1)= .ref c:=by simpa using(List.getElem?_eq_some_iff.mp hu).2
  have e2:a1.toArray[j]'(by simpa using h2)= .ref c':=by simpa using(List.getElem?_eq_some_iff.mp a6).2
  have a3:ps[j]? =some ps[j]:=Td _;have a5:B[j]? =some B[j]:=Td _;rw[e1,e2];simp only[eqX,ltX,a3,a5];refine⟨?_,λ_=>J9 I Z a0 (show A.units+1<cLine from hz)⟩;have hB:∀{c:Addr}{p:Int×Int},H c=some (.tup [.int p.1,.int p.2])->Brs X.K H (.tup [.int p.1,.int p.2]) (.ref c):=λ{c p} h=>by
   simp only[Brs,g_];exact⟨c,_,rfl,SqT.of h,_,_,rfl,rfl,_,_,rfl,rfl,rfl⟩
  have k:=zE (A:=A.in1) I (show A.units+1<cLine from hz) (d:=.tup [.int ps[j].1,.int ps[j].2]) (e:=.tup [.int B[j].1,.int B[j].2]) ⟨_,_,rfl,rfl,λp N=>by
   simp at N;rcases N with rfl|rfl
   .exact Sc.int _ _
   .exact Sc.int _ _⟩ (hB Z) (hB a0) (v':=.ref c) (u':=.ref c') rfl rfl
  have e3:eqD (.tup [.int ps[j].1,.int ps[j].2]) (.tup [.int B[j].1,.int B[j].2])=decide (ps[j]=B[j]):=by
   simp only[eqD,eqL,YQ];rw[Zf];simp[Prod.ext_iff]
  rw[←e3];exact k)
 rw[List.size_toArray,List.size_toArray,←l1,←l2,hl,a7]at this;exact this
def SJ(A:U4):R2:=λx y H Q=>∃a b ps B,x= .ref a/\y= .ref b/\TP H a ps/\TP H b B/\A.units+1<cLine/\Q (.bl (ltP ps B)) H
theorem Oh:OpR X (UL .Lt) (SJ X.A):=by
 intro pins s σ H x y v u Q I rx N ⟨a,b,ps,B,ex,V,h1,h2,F,q⟩;subst ex V;cases rx;cases N;exact Q7 I h1 h2 F _ _ _ _ ⟨.bl (ltP ps B),H,I,rfl,q⟩
def sO(F O:Str)(i:Nat)(n:Int):En->Option Fl:=λρ=>match ρ[i]? with
 |some (some d)=>some (.ret (.dct .own [.inr F,.inr O] [d,.int n]) (ρ.set i none))
 |_=>none
variable{n:Int}
theorem Ez{F O:Str}(I:F≠O):RfS G ob P (G4 (Hy [(tC (.str F),xj i),(tC (.str O),tC (.int n))])) (sO F O i n):=λρ r e σ H S Fr s E q=>by
 unfold sO at e;split at e
 .rename_i d h1
  cases e;obtain⟨v,a1,a2,a3,a4⟩:=s.move h1;have V:∀k a,a∈bO S i [] k->a∈S k:=λk a z=>(bJ z).elim (λz=>by cases z.2) λz=>z.2;have Z:=(by simpa[clean]using a2:aB d=true/\aA d=true);intro p N;have a5:([Ub F,Ub O]:List Key).Nodup:=by simp[I]
  refine⟨v,a1,aM,[(.inr F,v),(.inr O,.int n)],rfl,(show 2<=15 by decide),?_⟩;rw[mq (by simpa using a5),List.nil_append];have a6:p∉S i:=λz=>by obtain⟨o,B,_⟩:=s.mu z;rw[N]at B;cases B
  have sm:Same H (upd (upd H p (.dK [])) p (.dK [(.inr F,v),(.inr O,.int n)])):=λb u U=>by
   have a0:b≠p:=λz=>by rw[z,N]at U;cases U
   rw[aH a0,aH a0];exact U
  refine q (.ref p) σ _ (p::S i) (bO S i []) (a3.grow sm λa Y=>?_) ?_ ?_ (T5.mpr ⟨a6,s.nd i⟩) (λa Y=>?_) ⟨λb u h _ _=>sm b u h,λk a z=>.inl ⟨k,V k a z⟩,.refl⟩
  .rcases Y with z|z
   .rcases Tf.mp z with z|z
    .exact .inr ⟨by rw[z];exact N,⟨_,by rw[z];exact aM,rfl⟩⟩
    .exact .inl (.inl z)
   .exact .inl (.inr z)
  .rw[Rep]
   refine⟨p,_,S i,rfl,⟨rfl,a5⟩,?_,aM,rfl⟩;have ev:Evo H (upd (upd H p (.dK [])) p (.dK [(.inr F,v),(.inr O,.int n)])) (wn ob (bO S i []) (plus (S i) Fr)) (wn ob (bO S i []) (plus (p::S i) Fr)):=⟨λb u h f=>⟨sm b u h,⟨λz=>by
    rcases z with z|z
    .rcases Tf.mp z with z|z
     .rw[z,N]at h;cases h
     .exact f.1 (.inl z)
    .exact f.1 (.inr z),f.2⟩⟩,λb xs h=>sm b _ h⟩
   have:=aC.cons (a4.mono ev (.inl Z.1) (.inl Z.2) λc _ u e=>sm c u e) (aC.one (show Rep G _ _ (.int n) (.int n) []by rw[Rep];exact⟨rfl,rfl⟩));rw[T3]at this;exact this
  .simp[clean,aB,aA,au,az,Z.1,Z.2]
  .rcases Tf.mp Y with z|z
   .rw[z];exact .inr N
   .exact .inl ⟨i,z⟩
 .cases e
variable{X:ι->Cx}
theorem Dy(i:Nat){F O:Str}{q Y U:Pos}{j1 j2 j3}(I:F≠O:=by decide)(z:∀c,(X c).N[i]? =some x:=by intro _;rfl)(B:∀c,Vis (X c).env.scope x:=by intro _;first|exact Vr rfl|exact U8 (Vr rfl)|exact U8 (U8 rfl))(hd:(x==("__debug__":Str))=false:=by decide)(V:(x==("__classdict__":Str))=false:=by decide) :
  PVS X G ob P (.Return (some (.Dict [some (.Constant (.str F) j1 p1),some (.Constant (.str O) j2 p2)] [.Name x q,.Constant (.int n) j3 Y] U)) pos) (sO F O i n):=
 ⟨_,λc=>qX (Cd (rB zB (wg (z c) (B c) hd V) (rB zB Hh Cr)) rfl rfl (by simp) (show 2<=15 by decide)),Ez I⟩
def Hv(x y:D):Option D:=match x,y with
 |.dct _ ks _,.dct _ [] _=>some (.bl (ks.length !=0))
 |x,y=>gNe x y
def prD:D->Option (Int×Int)
 |.tup [.int i,.int j]=>some (i,j)
 |_=>none
def t7(x y:D):Option D:=match x,y with
 |.tup a,.tup b=>(match a.mapM prD,b.mapM prD with
  |some ps,some qs=>some (.bl (ltP ps qs))
  |_,_=>none)
 |x,y=>gLt x y
def rJ(x:Str)(n:Nat):Str:=⟨(U3 n x.cps).foldl (·++·) #[]⟩
def mX(x y:D):Option D:=match x,y with
 |.str x,.int n=>if 0<=n/\n<1000/\0<x.length/\x.length<1000 then some (.str (rJ x n.toNat))else none
 |x,y=>gM x y
theorem wN:∀{ds:List D}{xs:List V}{L:List Addr}{ps:List (Int×Int)},aC G H W ds xs L->ds.mapM prD=some ps->xs.length=ps.length/\∀(j:Nat)(p:Int×Int),ps[j]? =some p->∃c,xs[j]? =some (.ref c)/\H c=some (.tup [.int p.1,.int p.2])
 |[],xs,L,ps,h,e=>by
  obtain⟨rfl,rfl⟩:=h.inv0;simp at e;subst e;exact⟨rfl,λj p z=>by simp at z⟩
 |d::r,xs,L,ps,h,e=>by
  obtain⟨x,ys,M,M',rfl,rfl,h1,h2⟩:=h.inv;rw[aaN]at e;cases N:prD d with
  |none=>rw[N]at e;cases e
  |some p0=>
   cases Z:r.mapM prD with
   |none=>rw[N,Z]at e;cases e
   |some a0=>
    rw[N,Z]at e;cases e;obtain⟨l,q⟩:=wN h2 Z;refine⟨by simp[l],λj p z=>?_⟩;cases j with
    |zero=>
     cases z;unfold prD at N;split at N
     .cases N
      rw[Rep]at h1;obtain⟨a,zs,rfl,Y,hz⟩:=h1;obtain⟨O,zs,F,N2,rfl,_,U,hz⟩:=hz.inv;obtain⟨B,zs,N3,N4,rfl,_,I,hz⟩:=hz.inv;obtain⟨rfl,_⟩:=hz.inv0;rw[Rep]at U I;obtain⟨rfl,_⟩:=U;obtain⟨rfl,_⟩:=I;exact⟨a,rfl,Y⟩
     .cases N
    |succ j=>exact q j p (by simpa using z)
theorem MK(A:U4)(V:∀c,(X c).A=A)(F:A.units+64<cLine)(z:∀c,(X c).K=G.K:=by intro _;rfl):OpB X G (UL .NotEq) Hv:=by
 obtain⟨r,h1,h2⟩:=(Jk (X:=X) (G:=G) A V F z).ex;refine⟨_,λc=>OpR.or (h1 c) (by have:=@P0 (X c);rw[V c]at this;exact this),λdx Y d e x y H W Lx O rx N nd hn w Q q=>?_⟩;unfold Hv at e;split at e
 .cases e
  rw[Rep]at rx N;obtain⟨a,kvs,M,rfl,I,Z,hs⟩:=rx;obtain⟨b,a1,M2,rfl,U,a3,a2⟩:=N;have B:a1=[]:=by simpa using U.1
  subst B;refine .inr ⟨a,b,kvs,rfl,rfl,hs.rdD,a2.rdD,by omega,?_⟩;have a0:=congrArg V8 I.1;rw[Tv]at a0;rw[a0];exact q.scal λ_=>eU
 .exact .inl (h2 dx Y d e x y H W Lx O rx N nd hn w Q q)
theorem Ol(A:U4)(hA:∀c,(X c).A=A)(F:A.units+64<cLine):OpB X G (UL .Lt) t7:=by
 obtain⟨r,h1,h2⟩:=(Rm (X:=X) (G:=G)).ex;refine⟨_,λc=>OpR.or (h1 c) (by have:=@Oh (X c);rw[hA c]at this;exact this),λdx dy d e x y H W I O rx N nd hn w Q q=>?_⟩;unfold t7 at e;split at e
 .split at e
  .rename_i ps qs h5 h6
   cases e;rw[Rep]at rx N;obtain⟨a,xs,rfl,Y,Z⟩:=rx;obtain⟨b,ys,rfl,U,B⟩:=N;obtain⟨z,l2⟩:=wN Z h5;obtain⟨m1,V⟩:=wN B h6;exact .inr ⟨a,b,ps,qs,rfl,rfl,⟨xs,Y,z,l2⟩,⟨ys,U,m1,V⟩,by omega,q.scal λ_=>eU⟩
  .cases e
 .exact .inl (h2 dx dy d e x y H W I O rx N nd hn w Q q)
def Rv:R2:=λx y H Q=>∃s n,x= .str s/\y= .int n/\(0<=n/\n<1000/\0<s.length/\s.length<1000)/\Q (.str (rJ s n.toNat)) H
theorem uE(a:Array α):∀(n:Nat)(b:Array α),((U3 n a).foldl (·++·) b).size=b.size+n*a.size
 |0,b=>by simp
 |n+1,b=>by
  rw[List.replicate_succ,X8,uE a n,abO,Nat.add_mul];omega
theorem K8{X:Cx}:OpR X (Vp .Mult) Rv:=by
 intro pins s σ H x y v u Q I rx F ⟨B,n,ex,V,⟨Z,h1,h2,O⟩,q⟩;subst ex V;obtain⟨t,rfl⟩:=rx;obtain⟨t',rfl⟩:=F;refine PySem.P.mul_str (by simp;omega) (λ_ _=>by
  intro z;have:(B.length:Int)*n<=2 ^ 63-1:=by
   have:(B.length:Int)*n<=1000*1000:=Int.mul_le_mul (by omega) (by omega) (by omega) (by omega);omega
  have:=(Int.le_ediv_iff_mul_le (a:=(B.length:Int)) (b:=2 ^ 63-1) (c:=n) (by omega)).mpr this;omega) (λ_ _=>?_) ?_
 .have N:B.length*n.toNat<=1000000:=by
   have:B.length*n.toNat<=1000*1000:=Nat.mul_le_mul (by omega) (by omega);omega
  have:¬B.length*n.toNat>Te:=by
   have:1000000<Te:=by decide
   omega
  exact T8 this
 .by_cases hn:n<1
  .have:n=0:=by omega
   subst this;rw[Tz (by decide)];exact⟨by decide,.str (rJ B 0),H,I.tok _,⟨_,rfl⟩,q⟩
  .rw[TQ hn]
   by_cases U:(n==1||B.length==0)=true
   .rw[Tz U]
    have:n=1:=by
     rw[X6]at U;rcases U with z|z
     .simpa using z
     .have:B.length=0:=by simpa using z
      omega
    subst this;refine⟨.str B,H,I,⟨_,rfl⟩,?_⟩;have:rJ B 1=B:=by
     unfold rJ;simp
    rw[show(1:Int).toNat=1 from rfl,this]at q;exact q
   .rw[TQ U]
    refine⟨?_,.str (rJ B n.toNat),H,I.tok _,⟨_,rfl⟩,q⟩;show((U3 n.toNat B.cps).foldl (·++·) #[]).size<=Te;rw[uE];have N:n.toNat*B.cps.size<=1000*1000:=Nat.mul_le_mul (by omega) (Wh O);have:1000*1000<=Te:=by decide
    have Z:(#[]:Array Nat).size=0:=rfl;simp;omega
theorem wJ:OpB X G (Vp .Mult) mX:=by
 obtain⟨r,h1,h2⟩:=(jB (X:=X) (G:=G)).ex;refine⟨_,λc=>OpR.or (h1 c) K8,λdx Y d e x y H W I O rx N nd hn w Q q=>?_⟩;unfold mX at e;split at e
 .split at e
  .rename_i hc
   cases e;exact .inr ⟨_,_,(bC rx).1,(aP N).1,hc,q.scal λ_=>Hl⟩
  .cases e
 .exact .inl (h2 dx Y d e x y H W I O rx N nd hn w Q q)
def tyF(x:V)(H:Hp):Prop:=∃p kvs,x= .ref p/\Rd H p (.dK kvs)
def Qp(r:V->List V->Hp->VK->Prop)(to:TE)(t:TA):TE:=λσ H Q=>to σ H λx H1=>tyF x H1/\t σ H1 λxs H2=>r x xs H2 Q
variable{to:TE}{r:V->List V->Hp->VK->Prop}
theorem PX{X:Cx}{o:Expr}{id:String}(slot:Slot "dict" name id)(a2:typeOf (.builtin id)=pure (.type "method_descriptor"))(N:MtR X id r)(B:PE X o to)(Y:PA X (e::es) t)
  (q:Wz o name X.env (eval o X.env)=eval o X.env)
  (a1:((Vf cpos (Tj (e::es) X.env)).all (λx=>!x.1)&&(Yh cpos (W8 [] X.env)).all (λx=>x.1.isSome)
   &&decide ((e::es).length+([]:List Wd).length+(if([]:List Wd).isEmpty then 0 else 1)<30))=true)
  (a0:(apos.endLine==cpos.line)=true) (hs:Tj (e::es) X.env=(false,eval e X.env)::Tj es X.env) (U:(Vf cpos (Tj es X.env)).any (·.1)=false) :
  PE X (.Call (.Attribute o name apos) (e::es) [] cpos) (Qp r to t):=by
 intro pins s σ H Q I h;refine aat q a1 a0 rfl (thn (B pins s σ H _ I h) λv s1 ⟨x,H1,I1,r1,ty,q1⟩=>?_);obtain⟨p,kvs,rfl,Z⟩:=ty;cases r1;obtain⟨z,hd,vs,rel,dd⟩:=lO I1.hok Z;have a3:=dd;obtain⟨ob,_,_,e1,ex,_⟩:=a3;refine⟨"dict",id,WK,slot,a2,dd.typeIs,λa e2=>?_,?_⟩
 .cases e2
  exact⟨ob,e1,ex.2.1⟩
 have hA:=Y cpos pins s1 σ H1 _ I1 q1;rw[hs]at hA⊢;refine YD (by show(false||(Vf cpos (Tj es X.env)).any (·.1))=false;rw[U]<;>rfl) (Zc ?_);exact thn hA λus O ⟨ws,H2,I2,r2,q2⟩=>N pins O σ H2 (.ref p) ws (.ref p) us Q I2 rfl r2 q2
def lr:D->List D->Option D
 |.dct _ ks ds,[k,x]=>(cg k).bind λk=>match cu ks k with
  |some j=>ds[j]?
  |none=>some x
 |_,_=>none
theorem G8:MtV G QF lr:=λdx ds d e x xs H W Lx L0 rx r nd hn w Q q=>by
 unfold lr at e;split at e
 .rename_i m ks es k x0
  cases I:cg k with
  |none=>simp[I]at e
  |some U=>
   obtain⟨y,z,A,B,rfl,rfl,N,F⟩:=r.inv2;rw[Rep]at rx;obtain⟨a,kvs,M,rfl,⟨rfl,Y⟩,Z,hs⟩:=rx;have:=gH N I;subst this;refine⟨a,_,_,rfl,.inl ⟨kvs,U,hs.rdD,rfl,rfl⟩,.inr ⟨z,rfl,?_⟩⟩;simp only[I,S8]at e;cases V:cu (List.map (·.1) kvs) U with
   |none=>
    simp only[V]at e;cases e;rw[iu V];exact fB F ((UV _ _).trans (UV _ _)) nd hn q
   |some j=>
    simp only[V]at e;obtain⟨v,M',h1,h2,O⟩:=Z.get e;rw[eQ V,h1];exact fB h2 (O.trans (hs.sub.trans (V5 _ _))) nd hn q
 .cases e
variable{f:En->Option (List D)}
theorem Ph{g:D->List D->Option D}{fo:En->Option D}(B:MtV G r g)(a0:∀dx ds d,g dx ds=some d->∀(x:V)(H:Hp)(W:Wn)(I:List Addr),Rep G H W dx x I->tyF x H)
  (h0:RfE G ob to fo) (h:RfA G ob t f):RfE G ob (Qp r to t) (λρ=>(fo ρ).bind λx=>(f ρ).bind λds=>g x ds):=λρ d e σ H W F w Q q=>by
 cases h1:fo ρ with
 |none=>simp[h1]at e
 |some dx=>
  cases h2:f ρ with
  |none=>simp[h1,h2]at e
  |some ds=>
   have e:g dx ds=some d:=by simpa[h1,h2]using e
   refine h0 ρ dx h1 σ H W F w _ λx H1 L Z rx fx nx=>⟨a0 dx ds d e x H1 _ L rx,?_⟩;have u1:Up H H1 W (W.add L):=.add Z fx;have w1:WOk H1 (W.add L):=w.add Z rx.dom;refine h ρ ds h2 σ H1 (W.add L) (F.up u1) w1 _ λys H2 M O N fy ny=>?_;have a1:∀a∈L,a∉M:=λa h1 h2=>by
    obtain⟨o,B,_⟩:=rx.dom a h1;rw[fy a h2]at B;cases B
   have u2:Up H1 H2 (W.add L) (W.add (L++M)):=⟨O,λb u U f=>⟨λz=>z.elim (λz=>(S9.mp z).elim (λz=>f.1 (.inl z)) λz=>by rw[fy b z]at U;cases U) λz=>f.1 (.inr z),f.2⟩,λ_ _ _ f=>f⟩;have u3:Up H2 H2 ((W.add L).add M) (W.add (L++M)):=⟨Same.refl _,λb u U f=>⟨λz=>by
    rcases z with z|z
    .exact(S9.mp z).elim (λz=>f.1 (.inr (.inl z))) λz=>f.1 (.inl z)
    .exact f.1 (.inr (.inr z)),f.2⟩,λ_ _ _ f=>f⟩
   have w2:WOk H2 (W.add (L++M)):=w.add (Z.trans O) λa Y=>(S9.mp Y).elim (λz=>let⟨o,h,m⟩:=rx.dom a z;⟨o,O a o h,m⟩) (N.dom a);refine B dx ds d e x ys H2 (W.add (L++M)) L M (rx.up u2) (N.up u3) (cA nx ny a1) (w.tmp λa Y=>(S9.mp Y).elim (fx a) λz=>Z.none' (fy a z)) w2 Q λv H3 L3 s3 r3 f3 n3=>?_;refine q v H3 L3 ((Z.trans O).trans s3) ?_ (λa Y=>(f3 a Y).elim (λz=>?_) λz=>(Z.trans O).none' z) n3
   .exact r3.up ⟨Same.refl _,λb u U f=>⟨λz=>z.elim (λz=>f.1 (.inl z)) λz=>f.1 (.inr ⟨.inr z,WOk.new w (λa Y=>(S9.mp Y).elim (fx a) λz=>Z.none' (fy a z)) z⟩),f.2⟩,λ_ _ _ f=>f⟩
   .rcases S9.mp z with z|z
    .exact fx a z
    .exact Z.none' (fy a z)
theorem JM{o:Expr}{z:En->Option D}(V:∀c,(X c).A.units+1<cLine)(B:PV X G ob o z)(Y:PVA X G ob (e::es) f)(q:∀c,Wz o "get" (X c).env (eval o (X c).env)=eval o (X c).env:=by intro _;rfl)(O:∀c,((Vf cpos (Tj (e::es) (X c).env)).all (λx=>!x.1)&&(Yh cpos (W8 [] (X c).env)).all (λx=>x.1.isSome)
  &&decide ((e::es).length+([]:List Wd).length+(if([]:List Wd).isEmpty then 0 else 1)<30))=true:=by intro _;rfl) (N:(apos.endLine==cpos.line)=true:=by rfl) (hs:∀c,Tj (e::es) (X c).env=(false,eval e (X c).env)::Tj es (X c).env:=by intro _;rfl) (U:∀c,(Vf cpos (Tj es (X c).env)).any (·.1)=false:=by intro _;rfl) :
 PV X G ob (.Call (.Attribute o "get" apos) (e::es) [] cpos) (eMt lr z f):=let⟨t,a1,a2⟩:=B.ex;let⟨u,b1,b2⟩:=Y.ex;⟨_,λc=>PX V2 Y9 (Ib (V c)) (a1 c) (b1 c) (q c) (O c) N (hs c) (U c),Ph G8 (λdx ds d e x H W Lx rx=>by
  unfold lr at e;split at e
  .rw[Rep]at rx
   obtain⟨a,kvs,M,rfl,I,Z,hs⟩:=rx;exact⟨a,kvs,rfl,hs.rdD⟩
  .cases e) a2 b2⟩
def RW(A:U4)(ks:List Key)(H:Hp)(Q:VK):Prop:=∃xs:List Str,ks=xs.map Ub/\(jP xs).length<64/\A.units+2<cLine/\∀l,H l=none->Q (.ref l) (upd H l (.lst ((GR (jP xs)).map V.str)))
theorem Py{X:Cx}{s:S6}{ks zs:List Key}{E:Value->S6->Prop}{Q:VK}(h:RW X.A ks H Q)(I:Inv X pins σ H s)(N:UT zs (wU ks))(Y:zs.length<4000)(B:Vals (zs.map kV) its):wpAny (model X.prog X.w) X.A.in1 (Zm its >>=λl=>ZQ [l] (call (.builtin "list.sort") [l] []) >>=λ_=>ret l) (λfin s'=>∃v,fin= .done (.ret v)/\EP X pins σ Q v s') E s:=by
 obtain⟨xs,rfl,Z,F,q⟩:=h;rw[rE λa b h=>acv h]at N;obtain⟨e1,hw⟩:=perm_back (g:=λk:Key=>(Sum.elim (λ_=>("":Str)) id k:Str)) (λa=>rfl) N;rw[e1]at B Y;generalize zs.map (λk:Key=>(Sum.elim (λ_=>("":Str)) id k:Str))=ws at B Y hw;have U:ws.length<64:=by rw[hw.length_eq];exact Z
 refine Ho I (ys:=ws.map V.str) (ks:=ws.map λy=>[y]) (by rw[TX]at B;exact B) (by simpa using U) F ⟨by simp,.inl λi k e=>?_⟩ λp O hs l Y=>?_
 .rw[List.getElem?_map]at e⊢
  cases hi:ws[i]? with
  |none=>rw[hi]at e;cases e
  |some x=>rw[hi]at e;cases e;exact⟨x,rfl,rfl⟩
 .have hin:∀i∈p,i<ws.length:=λi hi=>by have:=VD.mp (O.mem_iff.mp hi);simpa using this
  have e2:(p.map λi=>(ws.map λy=>[y]).getD i [])=Hx ((jP xs).map λy=>[y]):=by
   refine BJ ?_ (abP.mpr hs) (Cm _);have:=O.map λi=>(ws.map λy=>[y]).getD i ([]:List Str);rw[Tv,←Tv (f:=λy:Str=>[y]),Ar]at this;exact this.trans ((hw.map _).trans (o_ _).symm)
  have e3:(p.map λi=>(ws.map V.str).getD i V.non)=(GR (jP xs)).map V.str:=by
   rw[y_ (z:=("":Str)) hin,GR,←e2,y_ (z:=("":Str)) hin];simp only[TX];rfl
  rw[e3];exact q l Y
def iy:List D->Option D
 |[.lst _ ds]=>if ds.length<4000 then(strsOf ds).bind λxs=>if(jP xs).length<64 then some (.lst .own ((GR (jP xs)).map D.str))else none else none
 |_=>none
variable{A:U4}
theorem vz(F:A.units+2<cLine):CaV G (λvs H Q=>∃a ks,vs=[.ref a]/\SqL G.K H a (List.map kV ks)/\V8 ks<4000/\RW A ks H Q) iy:=λds d e xs H W O r nd hn w Q q=>by
 unfold iy at e;split at e
 .split at e
  .rename_i m ds hl
   obtain⟨x,rfl,rx⟩:=r.inv1;rw[Rep]at rx;obtain⟨a,ys,M,rfl,Z,hs⟩:=rx;cases h2:strsOf ds with
   |none=>simp[h2]at e
   |some zs=>
    simp only[h2,S8]at e;by_cases z:(jP zs).length<64
    case neg=>rw[TQ z]at e;cases e
    rw[Tz z]at e;obtain rfl:D.lst .own ((GR (jP zs)).map D.str)=d:=UG e;have hd:=oZ h2;subst hd;have B:=su Z;subst B;exact⟨a,zs.map Ub,rfl,by rw[TX];exact hs.sq,by simpa using hl,⟨zs,rfl,z,F,λl U=>zr (tU _) (λa Y=>by cases Y) List.nodup_nil hn U q⟩⟩
  .cases e
 .cases e
theorem xT(A:U4)(V:∀c,(X c).A=A)(F:A.units+2<cLine)(q:∀c,Gl (X c) "sorted")(N:∀c,(X c).mg "sorted"=none)(B:∀c,(X c).mg "set"=none)(Y:PVA X G ob [e] f)(I:∀c,Gl (X c) "set":=by intro _;rfl)(hs:∀c,Tj [e] (X c).env=[(false,eval e (X c).env)]:=by intro _;rfl)(O:∀c,(X c).calm=true:=by intro _;rfl)(z:∀c,(X c).K=G.K:=by intro _;rfl) :
 PV X G ob (.Call (.Name "sorted" p1) [.Call (.Name "set" p2) [e] [] q2] [] q1) (eAp iy f):=let⟨t,a1,a2⟩:=Y.ex;⟨_,λc=>(by rw[←z c,←V c];exact zM Py (q c) (N c) (B c) (a1 c) (I c) (hs c) (O c)),tE (vz F) a2⟩
def cG:List D->Option D:=fnP 1 2 ((a_ (bI (eAp kW (ak (eSl (aq false 0) uw (sY (eC (.int 63)))) aJ)) (tgN 1))
 (a_ (sIf (eB (e2 gEq (aq false 1) (eAp bK aJ))) (bI (eAp bK (ak (eC (.int 7)) aJ)) (tgN 1)) fY)
 (sO "cells" "turn" 1 0))))
def aF:List D->Option (D×List D):=fnI (λi=>i==0) 2 7 ((a_ (bI (e2 cO (e2 gIx (aq true 0) (eC (.str "turn"))) (eC (.int 1))) (tgN 2))
 (a_ (bI (aq false 2) (gY cC 0 (fj 0) (eC (.str "turn"))))
 (a_ (bI (e2 gQ (aq false 2) (eAp dZ (ak (e2 gIx (aq true 0) (eC (.str "cells"))) aJ))) (tgN 3))
 (a_ (bI (e2 gIx (e2 gIx (aq true 0) (eC (.str "cells"))) (aq false 3)) (tgN 4))
 (a_ (sIf (eB (e2 gGe (aq false 4) (e2 qu (eC (.int 10)) (eC (.int 18))))) (a_ (bI (eAp qK (ak (aq false 4) (ak (aq false 1) aJ))) (tgT 2 (aQ (gY cC 0 (ue 0 (fj 0) (eC (.str "cells"))) (aq false 3)) (aQ (tgN 5) dh))))
 (jf 5)) fY)
 (a_ (bI (e2 gQ (e2 gM (e2 cO (e2 cO (e2 gQ (aq false 4) (eC (.int 2147483629))) (e2 gM (e2 gM (aq false 2) (aq false 2)) (eC (.int 7919)))) (eC (.int 11))) (eC (.int 48271))) (eC (.int 2147483647))) (tgN 6))
 (a_ (bI (e2 gQ (e2 gM (aq false 6) (aq false 6)) (eC (.int 2147483587))) (tgN 6))
 (iW (e2 gQ (e2 iz (e2 gQ (e2 gM (e2 cO (aq false 6) (e2 gM (aq false 2) (eC (.int 104729)))) (eC (.int 39373))) (eC (.int 2147483629))) (eC (.int 64))) (aq false 1)))))))))))
def cY:List D->Option (D×List D):=fnI (λi=>i==0) 1 4 ((a_ (di (ee2 gIx (oM bK (bT (eUp (eC (.int 4))) (bT (eUp (eC (.int 5))) (bT (eUp (eC (.int 6))) (bT (eUp (eC (.int 7))) (bT (eUp (eC (.int 8))) (bT (eUp (eC (.int 6))) (bT (ee2 cO (eUp (eC (.int 10))) (eIo aF [0] (cU (ak (eC (.int 5)) aJ)))) (bT (eIo aF [0] (cU (ak (eC (.int 3)) aJ))) (cU aJ)))))))))) (eIo aF [0] (cU (ak (eC (.int 8)) aJ)))) (tgN 1))
 (a_ (bI (eMt q_ (eC (.str "b aa zebra c quartzes ab m knows d mm likes z a ba abcdefgh y")) (ak (eC (.str " ")) aJ)) (tgN 2))
 (a_ (di (eIo aF [0] (cU (ak (eAp dZ (ak (aq false 2) aJ)) aJ))) (tgN 3))
 (iW (eSl (e2 cO (eSl (aq false 2) (sY (aq false 3)) uw) (eSl (aq false 2) uw (sY (aq false 3)))) uw (sY (aq false 1))))))))
def cz:List D->Option (D×List D):=fnI (λi=>i==0) 2 11 ((a_ (di (tM [none,some 0] (itS (aq false 1)) (tgN 0) eTT (ee2 iV (eIo aF [1] (cU (ak (eC (.int 19)) aJ))) (eUp (eC (.int 9))))) (tgN 2))
 (a_ (ur (eeB (ee2 gEq (eIo aF [0] (cU (ak (eC (.int 6)) aJ))) (eUp (eC (.int 0))))) (bI (rF [none] (itS (aq false 2)) (tpN 0) eTT (e2 gM (aq false 0) (eC (.int 50000000021)))) (tgN 2)) fY)
 (a_ (bI (eAp bK aJ) (tgN 3))
 (a_ (u_ (vh (bT (eIo aF [0] (cU (ak (e2 cO (e2 gM (eC (.int 2)) (eAp dZ (ak (aq false 1) aJ))) (eC (.int 1))) aJ))) (cU aJ))) (tgN 4) (a_ (tK (bT (eIo aF [0] (cU (ak (eAp dZ (ak (aq false 1) aJ)) aJ))) (bT (eIo aF [0] (cU (ak (eAp dZ (ak (aq false 1) aJ)) aJ))) (cU aJ))) (aQ (tgN 5) (aQ (tgN 6) dh)))
 (a_ (bI (e2 iV (e2 gIx (aq false 2) (aq false 6)) (e2 gIx (aq false 2) (aq false 5))) (tgN 7))
 (a_ (ur (eeB (ee2 gEq (eIo aF [0] (cU (ak (eC (.int 3)) aJ))) (eUp (eC (.int 0))))) (di (ee2 iV (eIo aF [0] (cU (ak (eC (.int 9)) aJ))) (eUp (eC (.int 4)))) (tgN 7)) fY)
 (a_ (mL aW 3 (fj 3) (ak (eAp aZ (ak (e2 gIx (aq false 1) (aq false 5)) (ak (e2 gIx (aq false 1) (aq false 6)) (ak (aq false 7) aJ)))) aJ))
 (a_ (di (eIo aF [0] (cU (ak (eC (.int 12)) aJ))) (tgN 8))
 (a_ (sIf (eB (e2 gEq (aq false 8) (eC (.int 0)))) (di (ee2 gIx (eUp (aq false 3)) (eIo aF [0] (cU (ak (eAp dZ (ak (aq false 3) aJ)) aJ)))) (gY cC 3 (fj 3) (e1 iU (eC (.int 1))))) fY)
 (sIf (eB (e2 gEq (aq false 8) (eC (.int 1)))) (a_ (di (ee2 gIx (eUp (aq false 3)) (eIo aF [0] (cU (ak (eAp dZ (ak (aq false 3) aJ)) aJ)))) (tgT 3 (aQ (tgN 9) (aQ (tgN 10) (aQ (tgN 7) dh)))))
 (bI (eAp aZ (ak (aq false 10) (ak (aq false 9) (ak (e1 iU (aq false 7)) aJ)))) (gY cC 3 (fj 3) (e1 iU (eC (.int 1)))))) fY))))))))
 (jf 3))))))
def du:List D->Option (D×List D):=fnI (λi=>i==0) 2 8 ((a_ (bI (eC (.str "abcdefghijklmnopqrstuvwxyz")) (tgN 2))
 (a_ (bI (rF [none,some 2] (o8 (ak (eC (.int 40)) aJ)) (tpN 0) eTT (e2 cO (e2 gIx (aq false 1) (e2 gQ (e2 mX (eC (.int 7)) (aq false 0)) (eC (.int 26)))) (e2 mX (eC (.str "q")) (e2 iz (aq false 0) (eC (.int 26)))))) (tgN 3))
 (a_ (bI (eAp bK aJ) (tgN 4))
 (a_ (iD (o8 (ak (aq false 1) aJ)) (tgN 5) (a_ (di (oM jh (bT (eUp (eC (.int 39))) (bT (ee2 cO (eUp (e2 cO (e2 gQ (aq false 5) (eC (.int 39))) (eC (.int 1)))) (ee2 mX (eUp (eAp mF (ak (e2 gGt (aq false 5) (eC (.int 38))) aJ))) (eIo aF [0] (cU (ak (eC (.int 2)) aJ))))) (cU aJ)))) (tgN 6))
 (a_ (di (oM aZ (bT (eUp (e2 gIx (aq false 3) (e2 gQ (aq false 5) (eC (.int 39))))) (bT (eUp (e2 gIx (aq false 3) (aq false 6))) (bT (ee2 iV (eIo aF [0] (cU (ak (eC (.int 9)) aJ))) (eUp (eC (.int 4)))) (cU aJ))))) (tgN 7))
 (a_ (ur (eeB (ee2 gEq (eIo aF [0] (cU (ak (eC (.int 2)) aJ))) (eUp (eC (.int 0))))) (bI (eAp aZ (ak (e2 gIx (aq false 7) (eC (.int 1))) (ak (e2 gIx (aq false 7) (eC (.int 0))) (ak (e1 iU (e2 gIx (aq false 7) (eC (.int 2)))) aJ)))) (tgN 7)) fY)
 (yo iH 4 (fj 4) (bT (eIo aF [0] (cU (ak (e2 cO (aq false 5) (eC (.int 1))) aJ))) (cU (ak (aq false 7) aJ))))))))
 (sW 3 4))))))
def cZ:List D->Option (D×List D):=fnI (λi=>i==0) 2 5 ((a_ (bI (e2 cO (aq false 1) (eAp bK (ak (eC (.str "lone")) aJ))) (tgN 2))
 (a_ (di (ee2 gIx (eUp (aq false 2)) (eIo aF [0] (cU (ak (eAp dZ (ak (aq false 2) aJ)) aJ)))) (tgN 3))
 (a_ (di (ee2 gIx (eUp (aq false 2)) (eIo aF [0] (cU (ak (eAp dZ (ak (aq false 2) aJ)) aJ)))) (tgN 4))
 (rH (oM aZ (bT (eUp (aq false 3)) (bT (ee2 gIx (eUp (eAp bK (ak (aq false 4) (ak (aq false 3) aJ)))) (oM mF (bT (ee2 gEq (eIo aF [0] (cU (ak (eC (.int 8)) aJ))) (eUp (eC (.int 0)))) (cU aJ)))) (cU aJ)))))))))
def cD:List D->Option D:=fnP 2 8 ((a_ (bI (nq (jK (aq false 1) (eAp aZ aJ) qi)) (tgN 2))
 (a_ (bI (eAp bK (ak (aq false 1) aJ)) (tgN 3))
 (a_ (iK (pR (qz (aq true 3))) (a_ (di (pF jb 3 (fj 3) (ak (eC (.int 0)) aJ)) (tgN 4))
 (iD (itS (e2 gIx (aq false 0) (aq false 4))) (tgT 3 (aQ (tgN 5) (aQ (tgN 6) (aQ (tgN 7) dh)))) (sIf (eB (e2 dD (aq false 7) (aq false 2))) (a_ (bI (e2 cO (e2 gIx (aq false 2) (aq false 4)) (eAp aZ (ak (eAp aZ (ak (aq false 5) (ak (aq false 6) aJ))) aJ))) (gY cC 2 (fj 2) (aq false 7)))
 (mL aW 3 (fj 3) (ak (aq false 7) aJ))) fY))) 1000000)
 (jf 2)))))
def bM:List D->Option D:=fnP 2 7 ((a_ (bI (sX [none] (itS (aq false 0)) (tpN 0) eTT (aq false 0) (eAp bK aJ)) (tgN 2))
 (a_ (iD (itE (ak (aq false 1) aJ)) (tgT 2 (aQ (tgN 3) (aQ (tgT 3 (aQ (tgN 4) (aQ (tgN 5) (aQ (tgN 6) dh)))) dh))) (a_ (mL aW 2 (ue 2 (fj 2) (aq false 4)) (ak (eAp aZ (ak (aq false 3) (ak (eC (.int 1)) (ak (aq false 5) aJ)))) aJ))
 (mL aW 2 (ue 2 (fj 2) (aq false 5)) (ak (eAp aZ (ak (aq false 3) (ak (e1 iU (eC (.int 1))) (ak (aq false 4) aJ)))) aJ))))
 (jf 2))))
def gR:List D->Option D:=fnP 2 5 ((a_ (bI (aq false 0) (tgT 3 (aQ (tgN 2) (aQ (tgN 3) (aQ (tgN 4) dh)))))
 (a_ (sIf (eB (e2 gEq (aq false 1) (eC (.int 1)))) (iW (eAp aZ (ak (aq false 2) (ak (aq false 3) aJ)))) fY)
 (iW (eAp aZ (ak (aq false 3) (ak (aq false 2) aJ)))))))
def b8:List D->Option D:=fnP 3 5 ((a_ (bI (eAp bK (ak (aq false 1) (ak (aq false 2) aJ))) (tgN 3))
 (a_ (iD (itS (aq false 0)) (tgN 4) (mL iC 3 (fj 3) (ak (eAp (cV gR) (ak (aq false 4) (ak (eC (.int 1)) aJ))) aJ)))
 (iW (eAp iy (ak (aq false 3) aJ))))))
def bU:List D->Option D:=fnP 3 3 ((iW (eAp (cV cD) (ak (eAp (cV bM) (ak (eAp (cV b8) (ak (aq false 0) (ak (aq false 1) (ak (aq false 2) aJ)))) (ak (aq false 0) aJ))) (ak (aq false 1) aJ)))))
def bz:List D->Option D:=fnP 3 3 ((iW (eMt pB (eAp (cV bU) (ak (aq false 0) (ak (aq false 1) (ak (aq false 2) aJ)))) (ak (aq false 2) aJ))))
def bL:List D->Option D:=fnP 1 6 ((a_ (bI (eAp tZ aJ) (tgN 1))
 (a_ (iD (itE (ak (aq false 0) aJ)) (tgT 2 (aQ (tgN 2) (aQ (tgT 3 (aQ (tgN 3) (aQ (tgN 4) (aQ (tgN 5) dh)))) dh))) (a_ (yH 1 (ak (aq false 3) (ak (eAp bK aJ) aJ)) (ak (eAp aZ (ak (eAp aZ (ak (aq false 2) (ak (eC (.int 1)) aJ))) (ak (aq false 4) aJ))) aJ))
 (yH 1 (ak (aq false 4) (ak (eAp bK aJ) aJ)) (ak (eAp aZ (ak (eAp aZ (ak (aq false 2) (ak (e1 iU (eC (.int 1))) aJ))) (ak (aq false 3) aJ))) aJ))))
 (jf 1))))
def bA:List D->Option D:=fnP 2 10 ((a_ (bI (eAp (cV bL) (ak (aq false 0) aJ)) (tgN 2))
 (a_ (bI (nq (jK (aq false 1) (eAp aZ aJ) qi)) (tgN 3))
 (a_ (bI (nq (jK (aq false 1) (eAp aZ aJ) qi)) (tgN 4))
 (a_ (iK (pR (eB (e2 Hv (aq false 4) (eAp tZ aJ)))) (a_ (bI (eAp tZ aJ) (tgN 5))
 (a_ (sFz 2 (sFz 4 (uD 4 (tgN 6) (iD (itS (eMt lr (aq false 2) (ak (aq false 6) (ak (eAp bK aJ) aJ)))) (tgT 2 (aQ (tgN 7) (aQ (tgN 8) dh))) (a_ (bI (e2 cO (e2 gIx (aq false 4) (aq false 6)) (eAp aZ (ak (aq false 7) aJ))) (tgN 9))
 (sIf (mU (eB (e2 dD (aq false 8) (aq false 3))) (eOr (eB (e2 dD (aq false 8) (aq false 5))) (eB (e2 t7 (aq false 9) (e2 gIx (aq false 5) (aq false 8)))))) (bI (aq false 9) (gY cC 5 (fj 5) (aq false 8))) fY))))))
 (a_ (sFz 5 (mL iM 3 (fj 3) (ak (aq false 5) aJ)))
 (bI (aq false 5) (tgN 4))))) 1000000)
 (jf 3))))))
def cH:List D->Option D:=fnP 3 6 ((a_ (bI (eMt pB (eAp (cV bA) (ak (aq false 0) (ak (aq false 1) aJ))) (ak (aq false 2) aJ)) (tgN 3))
 (a_ (iD (itS (eAp aZ (ak (eAp kW (ak (aq false 0) aJ)) (ak (eAp fW (ak (aq false 0) aJ)) (ak (eAp kW (ak (aq false 0) aJ)) aJ))))) (tgN 4) (a_ (bI (eAp (cV bz) (ak (aq false 4) (ak (aq false 1) (ak (aq false 2) aJ)))) (tgN 5))
 (a_ (sIf (eOr (eB (e2 gNe (aq false 5) (aq false 3))) (eB (e2 gNe (eAp kW (ak (aq false 4) aJ)) (aq false 0)))) (iW (eC (.bl false))) fY)
 (sIf (mU (eB (e2 rA (aq false 5) (eC .non))) (vB (qz (eAp qQ (ak (aq false 5) (ak (eC (.ty "tuple")) aJ)))))) (iW (eC (.bl false))) fY))))
 (iW (eC (.bl true))))))
def jL:List D->Option D:=fnP 1 8 ((a_ (bI (eAp (cV cG) (ak (aq false 0) aJ)) (tgN 1))
 (a_ (u_ (vh (bT (ee2 cO (eUp (eC (.int 1))) (eIo aF [1] (cU (ak (eC (.int 2)) aJ)))) (cU aJ))) (tgN 2) (a_ (di (eIo cY [1] (cU aJ)) (tgN 3))
 (a_ (sFz 3 (di (eIo cz [1] (cU (ak (aq false 3) aJ))) (tgN 4)))
 (a_ (ur (yQ (pR (eB (e2 gEq (aq false 2) (eC (.int 0))))) (eeB (ee2 gEq (eIo aF [1] (cU (ak (eC (.int 16)) aJ))) (eUp (eC (.int 0)))))) (di (eIo du [1] (cU (ak (eC (.int 120)) aJ))) (tgT 2 (aQ (tgN 3) (aQ (tgN 4) dh)))) fY)
 (iD (o8 (ak (eC (.int 6)) aJ)) (tgN 5) (a_ (di (eIo cZ [1] (cU (ak (aq false 3) aJ))) (tgT 2 (aQ (tgN 6) (aQ (tgN 7) dh))))
 (sIf (vB (qz (eAp (cV cH) (ak (aq false 4) (ak (aq false 6) (ak (aq false 7) aJ)))))) (iW (eC (.bl false))) fY)))))))
 (iW (eC (.bl true))))))
abbrev Pq:=Int×Int
theorem yt(p:Pq):k_ p p=false:=by simp[k_]
theorem Jv{p q r:Pq}(h:k_ p q=true)(h':k_ q r=true):k_ p r=true:=by
 simp[k_]at *
 omega
theorem HY(p q:Pq):p=q∨k_ p q=true∨k_ q p=true:=by
 simp[k_,Prod.ext_iff];omega
theorem Ce:∀a:List Pq,ltP a a=false
 |[]=>rfl
 |p::r=>by rw[ltP,Tz rfl];exact Ce r
theorem GX:∀{a b c:List Pq},ltP a b=true->ltP b c=true->ltP a c=true
 |[],[],_,h,_=>by cases h
 |[],_::_,[],_,h=>by cases h
 |[],_::_,_::_,_,_=>rfl
 |_::_,[],_,h,_=>by cases h
 |_::_,_::_,[],_,h=>by cases h
 |p::r,q::t,u::v,h,h'=>by
  rw[ltP]at *
  by_cases e:p=q
  .subst e
   rw[Tz rfl]at h;by_cases e2:p=u
   .subst e2
    rw[Tz rfl]at h'⊢;exact GX h h'
   .rw[TQ e2]at h'⊢
    exact h'
  .rw[TQ e]at h
   by_cases e2:q=u
   .subst e2
    rw[TQ e];exact h
   .rw[TQ e2]at h'
    have O:=Jv h h';rw[TQ (λz=>by rw[z,yt]at O;cases O)];exact O
theorem Bs:∀{a b:List Pq},a.length=b.length->a=b∨ltP a b=true∨ltP b a=true
 |[],[],_=>.inl rfl
 |[],_::_,h=>by simp at h
 |_::_,[],h=>by simp at h
 |p::r,q::t,h=>by
  rw[ltP,ltP];by_cases e:p=q
  .subst e
   simp only[Ud];rcases Bs (a:=r) (b:=t) (by simpa using h)with z|z
   .exact .inl (by rw[z])
   .exact .inr z
  .rw[TQ e,TQ λz=>e z.symm]
   exact .inr ((HY p q).resolve_left e)
theorem yw:∀{a b:List Pq}{x y:Pq},a.length=b.length->ltP a b=true->ltP (a++[x]) (b++[y])=true
 |[],[],_,_,_,h=>by cases h
 |[],_::_,_,_,h,_=>by simp at h
 |_::_,[],_,_,h,_=>by simp at h
 |p::r,q::t,x,y,h,h'=>by
  rw[Ug,Ug,ltP];rw[ltP]at h';by_cases e:p=q
  .rw[Tz e]at h'⊢
   exact yw (by simpa using h) h'
  .rw[TQ e]at h'⊢
   exact h'
theorem yI:∀{a:List Pq}{x y:Pq},k_ x y=true->ltP (a++[x]) (a++[y])=true
 |[],x,y,h=>by
  rw[List.nil_append,List.nil_append,ltP,TQ (λz=>by rw[z,yt]at h;cases h)];exact h
 |p::r,x,y,h=>by
  rw[Ug,Ug,ltP,Tz rfl];exact yI h
def sl(a b:List Pq):Prop:=a.length<b.length∨(a.length=b.length/\ltP a b=true)
def sle(a b:List Pq):Prop:=a=b∨sl a b
variable{a:List Pq}
theorem sl.irr(h:sl a a):False:=by
 rcases h with h|⟨_,h⟩
 .omega
 .rw[Ce]at h;cases h
theorem sl.tr{b c:List Pq}(h:sl a b)(h':sl b c):sl a c:=by
 rcases h with h|⟨e,h⟩<;>rcases h' with h'|⟨e',h'⟩
 .exact .inl (by omega)
 .exact .inl (by omega)
 .exact .inl (by omega)
 .exact .inr ⟨by omega,GX h h'⟩
theorem sle.tr{b c:List Pq}(h:sle a b)(h':sle b c):sle a c:=by
 rcases h with rfl|h
 .exact h'
 .rcases h' with rfl|h'
  .exact .inr h
  .exact .inr (h.tr h')
theorem sle.an{b:List Pq}(h:sle a b)(h':sle b a):a=b:=by
 rcases h with h|h
 .exact h
 .rcases h' with h'|h'
  .exact h'.symm
  .exact(h.tr h').irr.elim
theorem sl.snoc{b:List Pq}{x y:Pq}(h:sl a b):sl (a++[x]) (b++[y]):=by
 rcases h with h|⟨e,h⟩
 .exact .inl (by simp;omega)
 .exact .inr ⟨by simp[e],yw e h⟩
theorem sle.snoc{b:List Pq}{x:Pq}(h:sle a b):sle (a++[x]) (b++[x]):=by
 rcases h with rfl|h
 .exact .inl rfl
 .exact .inr h.snoc
theorem sl.last{x y:Pq}(h:k_ x y=true):sl (a++[x]) (a++[y]):=.inr ⟨by simp,yI h⟩
theorem sl.one{x:Pq}:sl a (a++[x]):=.inl (by simp)
theorem sle.tot{b:List Pq}(h:a.length=b.length):sle a b∨ltP b a=true:=by
 rcases Bs h with z|z|z
 .exact .inl (.inl z)
 .exact .inl (.inr (.inr ⟨h,z⟩))
 .exact .inr z
abbrev Tq:=Int×Int×Str
inductive Wk2(ad:Str->List Tq)(h:Str):List Pq->Str->Prop
 |nil:Wk2 ad h [] h
 |snoc {ps:List Pq} {x:Str} {t:Tq}:Wk2 ad h ps x->t∈ad x->Wk2 ad h (ps++[(t.1,t.2.1)]) t.2.2
def Lst(ad:Str->List Tq)(h:Str)(us:List (Str×List Pq)):Prop:=(∀u∈us,Wk2 ad h u.2 u.1)/\∀B y,Wk2 ad h B y->∃u∈us,u.1=y/\sle u.2 B
variable{h:Str}
theorem Lst.eq{ad:Str->List Tq}{us vs:List (Str×List Pq)}(a:Lst ad h us)(b:Lst ad h vs)(hn:(vs.map (·.1)).Nodup){ps:List Pq}(F:(y,ps)∈us)(N:(us.map (·.1)).Nodup):(y,ps)∈vs:=by
 obtain⟨⟨_,Y⟩,B,rfl,h1⟩:=b.2 ps y (a.1 _ F);obtain⟨⟨z,O⟩,U,e,h2⟩:=a.2 Y _ (b.1 _ B);simp only at e h1 h2;subst e;have V:∀{l:List (Str×List Pq)},(l.map (·.1)).Nodup->∀{y:Str}{p q:List Pq},(y,p)∈l->(y,q)∈l->p=q:=by
  intro l
  induction l with
  |nil=>intro _ y p q h;cases h
  |cons c r Z=>
   intro I y p q h1 h2;rw[TF,T5]at I;rcases Tf.mp h1 with e1|e1<;>rcases Tf.mp h2 with e2|e2
   .have:=e1.trans e2.symm;cases this;rfl
   .exact absurd (Tp.mpr ⟨_,e2,by rw[←e1]⟩) I.1
   .exact absurd (Tp.mpr ⟨_,e1,by rw[←e2]⟩) I.1
   .exact Z I.2 e1 e2
 have:=V N U F;subst this;rw[←h1.an h2];exact B
abbrev Pt:=Int×Int
def ptD(p:Pt):D:=.tup [.int p.1,.int p.2]
theorem Rc(l:List Pt):au (l.map ptD)=true:=cF λd hd=>by obtain⟨x,_,rfl⟩:=Tp.mp hd;rfl
theorem Ra(l:List Pt):az (l.map ptD)=true:=cI λd hd=>by obtain⟨x,_,rfl⟩:=Tp.mp hd;rfl
theorem Rj(b:Bool)(l:List Pt):dw b (l.map ptD)=l.map ptD:=by rw[eE,TX];rfl
theorem QG(l:List Pt):fzL (l.map ptD)=l.map ptD:=by rw[gG,TX];rfl
theorem RJ(l:List Pt):gZ (l.map ptD)=l.map ptD:=by rw[jt,TX];rfl
structure JJ(J:D)(js:List Jt):Prop where
 f:fz J=J
 v:∀b,view b J=J
 b:aB J=true
 o:aA J=true
 l:dZ [J]=some (.int js.length)
 x:∀i,gIx J (.int i)=atI (js.map jD) i
 s:eF J=some (true,js.map jD)
 e:itE (λ_=>some [J]) []=some (true,jR 0 (js.map jD))
theorem JJ.lst(js:List Jt):JJ (.lst .frz (js.map jD)) js:=⟨by simp[fz,uA,mkF],λb=>by cases b<;>simp[view,nW,mkV],by simp[aB,nG],by simp[aA,j8],by simp[dZ],λ_=>rfl,by simp[eF,clean,aB,aA,nG,j8,xW],by simp[itE,eF,clean,aB,aA,nG,j8,xW]⟩
theorem JJ.tup(js:List Jt):JJ (.tup (js.map jD)) js:=⟨by simp[fz,uA],λb=>by simp[view,nW],by simp[aB,nG],by simp[aA,j8],by simp[dZ],λ_=>rfl,by simp[eF,clean,aB,aA,nG,j8,xW],by simp[itE,eF,clean,aB,aA,nG,j8,xW]⟩
abbrev Tt:=Int×Int×Str
def tD(t:Tt):D:=.tup [.int t.1,.int t.2.1,.str t.2.2]
theorem Qz(l:List Tt):au (l.map tD)=true:=cF λd hd=>by obtain⟨x,_,rfl⟩:=Tp.mp hd;rfl
theorem Q6(l:List Tt):az (l.map tD)=true:=cI λd hd=>by obtain⟨x,_,rfl⟩:=Tp.mp hd;rfl
theorem QL(b:Bool)(l:List Tt):dw b (l.map tD)=l.map tD:=by rw[eE,TX];rfl
theorem pJ:∀ns:List Str,uh (ns.map D.str)=some (ns.map V.str)
 |[]=>rfl
 |x::r=>by simp[uh,scV,pJ r]
theorem yW:inV (.str x) (ns.map V.str)=decide (x∈ns):=by
 unfold inV;rw[List.any_map,Zf,XM,decide_eq_true_iff];simp only[W4,eqV,beq_iff_eq];exact⟨λ⟨y,h1,h2⟩=>h2▸h1,λh=>⟨x,h,rfl⟩⟩
structure NK(N:D)(ns:List Str):Prop where
 f:fz N=N
 v:∀b,view b N=N
 b:aB N=true
 o:aA N=true
 l:dZ [N]=some (.int ns.length)
 x:∀i,gIx N (.int i)=atI (ns.map D.str) i
 i:∀y,gIn (.str y) N=some (.bl (decide (y∈ns)))
 ni:∀y,dD (.str y) N=some (.bl (!decide (y∈ns)))
 s:eF N=some (true,ns.map D.str)
theorem NK.lst(ns:List Str):NK (.lst .frz (ns.map D.str)) ns:=⟨by simp[fz,oH,mkF],λb=>by cases b<;>simp[view,cT,mkV],by simp[aB,dI],by simp[aA,cX],by simp[dZ],λ_=>rfl,λy=>by simp[gIn,yM,scV,pJ,yW],λy=>by simp[dD,yM,scV,pJ,yW],by simp[eF,clean,aB,aA,dI,cX,CN]⟩
theorem BL:∀g:List Str,strsOf (g.map D.str)=some g
 |[]=>rfl
 |y::r=>by simp[strsOf,BL r]
def L_(g:List Str):List Str:=(Hx (g.map λx=>[x])).map λk=>k.headD ""
theorem mJ(g:List Str):UT (L_ g) g:=by
 have:=(o_ (g.map λx=>[x])).map λk=>k.headD ("":Str);rw[TX]at this;refine this.trans ?_;rw[show((λk:List Str=>k.headD "")∘λx=>[x])=id from rfl,Xp]
theorem mG[DecidableEq α]:∀{ks ns:List α},ks.Nodup->(∀k∈ks,k∈ns)->ks.length<=ns.length
 |[],_,_,_=>WQ _
 |k::r,ns,h,hs=>by
  have Z:=hs k (.head _);have h1:=mG (ks:=r) (ns:=ns.erase k) (T5.mp h).2 λx F=>(List.mem_erase_of_ne (show x≠k from λe=>(T5.mp h).1 (by rw[←e];exact F))).mpr (hs x (.tail _ F));rw[List.length_erase_of_mem Z]at h1;have:=List.length_pos_of_mem Z;simp only[T_];omega
theorem kI:(cu (ys.map Ub) (Ub x)).isSome=decide (x∈ys):=by
 cases e:cu (ys.map Ub) (Ub x)with
 |none=>
  unfold cu at e;rw[Ut]at e;refine(T8 λh=>?_).symm;have:=e (Ub x) (Tp.mpr ⟨x,h,rfl⟩);simp at this
 |some j=>
  obtain⟨Y,I,_⟩:=Uz.mp e;have h2:(ys.map (Ub:Str->Key))[j]=Ub x:=by simpa using I
  have O:Ub x∈ys.map (Ub:Str->Key):=h2▸Vw Y;obtain⟨y,V,F⟩:=Tp.mp O;cases F;exact(Vm V).symm
def lT(l:List Tt):D:=.lst .own (l.map tD)
def lead(ns:List Str)(f:Str->List Tt):D:=.dct .own (ns.map Ub) (ns.map λy=>lT (f y))
def upF(f:Str->List Tt)(x:Str)(t:Tt):Str->List Tt:=λy=>if y=x then f y++[t]else f y
def adj(js:List Jt):Nat->Str->List Tt
 |0=>λ_=>[]
 |k+1=>match js[k]? with
  |some j=>upF (upF (adj js k) j.1 (k,1,j.2.1)) j.2.1 (k,-1,j.1)
  |none=>adj js k
theorem jg(F:x∈ns):∃i,cu (ns.map Ub) (Ub x)=some i/\ns[i]? =some x/\i<ns.length:=by
 have h:=kI (ys:=ns) (x:=x);rw[Vm F]at h;obtain⟨i,hi⟩:=Z6.mp h;obtain⟨Y,I,_⟩:=Uz.mp hi;have U:i<ns.length:=by simpa using Y
 refine⟨i,hi,?_,U⟩;rw[Td U];simpa using I
theorem zH{g g':Str->α}{a:α}(hn:ns.Nodup)(hi:ns[i]? =some x)(Y:g' x=a)(q:∀y,y≠x->g' y=g y):(ns.map g).set i a=ns.map g':=by
 apply Yu;intro k;rw[W5];have N:i<ns.length:=(List.getElem?_eq_some_iff.mp hi).1;by_cases e:i=k
 .subst e
  rw[Tz rfl,Tz (by simpa using N),List.getElem?_map,hi,←Y];rfl
 .rw[TQ e,List.getElem?_map,List.getElem?_map]
  cases I:ns[k]? with
  |none=>rfl
  |some y=>
   have Z:y≠x:=λz=>by
    rw[z]at I;obtain⟨h1,h2⟩:=List.getElem?_eq_some_iff.mp hi;obtain⟨O,F⟩:=List.getElem?_eq_some_iff.mp I;exact e ((Z5 hn).mp (h2.trans F.symm))
   simp[q y Z]
variable{t:Tt}{f:Str->List Tt}{ρ:En}
theorem yE(hn:ns.Nodup)(h2:ρ[2]? =some (some (lead ns f)))(h4:aq false i ρ=some (.str x))(F:x∈ns)(hl:(f x).length<1000000)(Y:fa ρ=some [tD t]) :
  mL aW 2 (ue 2 (fj 2) (aq false i)) fa ρ=some (.nx (ρ.set 2 (some (lead ns (upF f x t))))):=by
 obtain⟨k,I,z,Z⟩:=jg F;have a0:(ns.map λy=>lT (f y))[k]? =some (lT (f x)):=by rw[List.getElem?_map,z];rfl
 have e1:ixP (lead ns f) (.str x)=some k:=by simp[ixP,lead,cg,I,Z]
 have e2:kids (lead ns f)=ns.map λy=>lT (f y):=rfl;have B:cB [k] (lT (f x++[t])) (lead ns f)=lead ns (upF f x t):=by
  have hs:=zH (g:=λy=>lT (f y)) (g':=λy=>lT (upF f x t y)) (a:=lT (f x++[t])) hn z (by simp[upF]) (λy V=>by simp[upF,V]);rw[cB,e2,a0];simp only[cB];rw[hs];rfl
 have N:dg [k] (lead ns f)=some (lT (f x)):=by simp[dg,e2,a0]
 have q:aW (lT (f x)) [tD t]=some (lT (f x++[t]),.non):=by simp[lT,aW,hl]
 have e0:dg [] (lead ns f)=some (lead ns f):=rfl;have O:ue 2 (fj 2) (aq false i) ρ=some [k]:=by
  unfold ue fj;rw[h2,h4];simp only[S8,e0,e1,e2,Tv,Z,Ud,List.nil_append]
 have U:au [tD t]=true/\az [tD t]=true:=⟨rfl,rfl⟩;unfold mL pF;rw[O,Y];simp only[S8];unfold upS;rw[h2];simp only[N,S8,U.1,U.2,and_self,Ud,q,Ux,B]
theorem qH:(upF f x t y).length<=(f y).length+1:=by unfold upF;split<;>simp
theorem oR(js:List Jt)(y:Str):∀k,(adj js k y).length<=2*k
 |0=>by simp[adj]
 |k+1=>by
  have Z:=oR js y k;rw[adj];cases V:js[k]? with
  |some j=>
   simp only;have h1:=qH (f:=upF (adj js k) j.1 (k,1,j.2.1)) (x:=j.2.1) (y:=y) (t:=((k:Int),-1,j.1));have h2:=qH (f:=adj js k) (x:=j.1) (y:=y) (t:=((k:Int),1,j.2.1));omega
  |none=>simp only;omega
theorem qM(js:List Jt)(y:Str){t:Tt}:∀k,t∈adj js k y↔∃(n:Nat)(j:Jt),n<k/\js[n]? =some j/\((j.1=y/\t=((n:Int),1,j.2.1))∨(j.2.1=y/\t=((n:Int),-1,j.1)))
 |0=>by simp[adj]
 |k+1=>by
  have Z:=qM js y (t:=t) k;have up:∀(f:Str->List Tt)(x:Str)(u:Tt),t∈upF f x u y↔t∈f y∨(x=y/\t=u):=λf x u=>by
   unfold upF;by_cases e:y=x
   .simp[e]
   .have e':¬x=y:=λz=>e z.symm
    simp[e,e']
  rw[adj];cases V:js[k]? with
  |none=>
   simp only;rw[Z];constructor
   .rintro⟨n,j,h1,h2⟩;exact⟨n,j,by omega,h2⟩
   .rintro⟨n,j,h1,h2,h3⟩
    refine⟨n,j,?_,h2,h3⟩;have:n≠k:=λz=>by rw[z,V]at h2;cases h2
    omega
  |some j=>
   simp only;rw[up,up,Z];constructor
   .rintro((⟨n,i,h1,h2⟩|h)|h)
    .exact⟨n,i,by omega,h2⟩
    .exact⟨k,j,by omega,V,.inl h⟩
    .exact⟨k,j,by omega,V,.inr h⟩
   .rintro⟨n,i,h1,h2,h3⟩
    by_cases e:n=k
    .subst e
     rw[V]at h2;cases h2;rcases h3 with z|z
     .exact .inl (.inr z)
     .exact .inr z
    .exact .inl (.inl ⟨n,i,by omega,h2,h3⟩)
def EbI(N J:D)(ns:List Str)(js:List Jt)(k:Nat)(ρ:En):Prop:=∃q z O U:Option D,ρ=[some N,some J,some (lead ns (adj js k)),q,z,O,U]
local macro_rules
 |`(tactic|simp_arith[$xs,*])=>`(tactic|simp[aG,xg,aO,cW,w_ite,Hm,bI,di,tK,sIf,ur,iW,rH,jf,fY,iD,u_,sFz,qZ,mL,pF,upS,tgN,tgT,aQ,dh,gY,tpN,tpT,fj,ue,aq,eC,aJ,ak,eAp,eUp,pR,cU,ee2,bT,oM,e2,e1,eB,eeB,qz,mU,eOr,vB,yQ,Sy,eTT,isB,o8,itS,itE,vh,eF,rF,tM,eSl,R4,JH,CG,uw,sY,eMt,R5,eIo,objs,kJ,cV,dg,cB,clean,aB,aA,au,az,gA,gn,view,dw,mkV,mkF,fz,fzL,fzo,gZ,mkO,fnP,fnI,en0,outs,gU,gh,obC,truth,$xs,*])
theorem Q9:∀ns:List Str,iJ (tpN 0) eTT (aq false 0) (eAp bK aJ) [none] (ns.map D.str)=some (ns.map λy=>((Ub y:Key),D.lst .own []))
 |[]=>rfl
 |x::r=>by
  rw[TF,iJ,Q9 r];simp_arith[cO,iV,gM,iz,gQ,qu,iU,gLt,gGt,gGe,gIx,bK,aZ,dZ,wI,mF,jh,gIs,iZ,atI,ixN,aW,cC,gSl,nF,fW,cg]
variable{J:D}{js:List Jt}
theorem Pa{N:D}(z:NK N ns)(hJ:JJ J js)(hn:ns.Nodup)(V:∀j∈js,j.1∈ns/\j.2.1∈ns)(Y:ns.length<=1000)(a1:js.length<=1000):bM [N,J]=some (lead ns (adj js js.length)):=by
 apply Wp.eq;simp only[bM,fnP,en0,T_,UJ,TF,U7,U3,Ud,aO,Nat.reduceAdd,Nat.reduceSub,Ug,List.nil_append];refine bf (EbI N J ns js 0) (λQ q=>?_) ?_
 .have hnd:(ns.map λy=>(Ub y:Key)).Nodup:=abP.mpr (hn.imp λh e=>h (by cases e;rfl))
  simp_arith[-eF,sX,z.v,z.s,Q9];refine⟨by omega,?_⟩;rw[nR,TX,TX,show((λx:Key×D=>x.1)∘λy=>((Ub y:Key),D.lst .own []))=Ub from rfl];rw[Tz hnd,aG];refine⟨⟨?_,?_⟩,q _ ⟨_,_,_,_,rfl⟩⟩
  .simp only[aB];rw[cF λd hd=>by obtain⟨y,_,rfl⟩:=Tp.mp hd;rfl];rfl
  .simp only[aA];rw[cI λd hd=>by obtain⟨y,_,rfl⟩:=Tp.mp hd;rfl];rfl
 rintro _ ⟨y3,y4,y5,y6,rfl⟩;refine bf (EbI N J ns js js.length) (λQ q=>?_) ?_
 .simp[iD,itE,aq,ak,aJ,hJ.v,hJ.s,aO,aG,w_ite]
  refine iT (EbI N J ns js) ⟨y3,y4,y5,y6,rfl⟩ ?_ (λρ h=>q _ (by rw[jr]at h;simpa using h));rintro k d ρ I ⟨x3,x4,O,U,rfl⟩;rw[ju,List.getElem?_map]at I;cases F:js[k]? with
  |none=>simp[F]at I
  |some j=>
   obtain rfl:D.tup [.int (k:Int),jD j]=d:=by simpa[F]using I
   obtain⟨a0,B⟩:=V j (T9 F);have Z:k<js.length:=(List.getElem?_eq_some_iff.mp F).1;simp[jD,tgT,aQ,dh,tgN,au,az,clean,aB,aA,aG];refine bf (λρ=>ρ=[some N,some J,some (lead ns (upF (adj js k) j.1 (k,1,j.2.1))),some (.int k),some (.str j.1),some (.str j.2.1),some (.int j.2.2)]) (λQ q=>?_) ?_
   .refine Mh (yE (t:=((k:Int),1,j.2.1)) hn rfl (x:=j.1) (by simp[aq,view]) a0 (by have:=oR js j.1 k;omega) (by simp_arith[cO,iV,gM,iz,gQ,qu,iU,gLt,gGt,gGe,gIx,bK,aZ,dZ,wI,mF,jh,gIs,iZ,atI,ixN,aW,cC,gSl,nF,fW,tD])) (q _ rfl)
   rintro _ rfl;refine Mh (yE (t:=((k:Int),-1,j.1)) hn rfl (x:=j.2.1) (by simp[aq,view]) B (by have:=oR js j.2.1 k;have:=qH (f:=adj js k) (x:=j.1) (y:=j.2.1) (t:=((k:Int),1,j.2.1));omega) (by simp_arith[cO,iV,gM,iz,gQ,qu,iU,gLt,gGt,gGe,gIx,bK,aZ,dZ,wI,mF,jh,gIs,iZ,atI,ixN,aW,cC,gSl,nF,fW,tD])) ⟨some (.int k),some (.str j.1),some (.str j.2.1),some (.int j.2.2),?_⟩;rw[adj,F];rfl
 rintro _ ⟨x3,x4,O,U,rfl⟩;simp[jf,aG]
variable{Q:Fl->Prop}
theorem qF{c:En->Option (Bool×En)}{B:En->Option Fl}(I:Nat->En->Prop)(z:Nat)(hs:∀p ρ,I p ρ->Wp (c ρ) λb=>if b.1=true then(p<z/\Wp (B b.2) λr=>match r with
   |.nx ρ2=>I (p+1) ρ2
   |.cnt ρ2=>I (p+1) ρ2
   |.brk ρ2=>Q (.nx ρ2)
   |.ret d ρ2=>Q (.ret d ρ2))else Q (.nx b.2)):∀(q p:Nat)(ρ:En),I p ρ->z-p<q->Wp (iK c B q ρ) Q
 |0,p,ρ,_,h=>by omega
 |q+1,p,ρ,hI,h=>by
  obtain⟨⟨b,ρ1⟩,e1,w⟩:=hs p ρ hI;rw[iK,e1,S8];cases b with
  |false=>
   simp only[Uo,VM]at w⊢;exact aG.mpr w
  |true=>
   simp only[Ud]at w⊢;obtain⟨N,r,e2,w⟩:=w;rw[e2];cases r with
   |nx ρ2=>exact qF I z hs q (p+1) ρ2 w (by omega)
   |cnt ρ2=>exact qF I z hs q (p+1) ρ2 w (by omega)
   |brk ρ2=>exact aG.mpr w
   |ret d ρ2=>exact aG.mpr w
abbrev Uw:=Str×List Pt
def pT(ps:List Pt):D:=.tup (ps.map ptD)
def wM(m:Mk)(us:List Uw):D:=.dct m ((us.map (·.1)).map Ub) (us.map λu=>pT u.2)
theorem um(ps:List Pt):aB (pT ps)=true/\aA (pT ps)=true/\(∀b,view b (pT ps)=pT ps)/\fz (pT ps)=pT ps/\fzo (pT ps)=pT ps:=by
 refine⟨?_,?_,λb=>?_,?_,?_⟩<;>simp[pT,aB,aA,Rc,Ra,view,Rj,fz,QG,fzo,RJ]
theorem Cv(b:Bool)(us:List Uw):dw b (us.map λu=>pT u.2)=us.map λu=>pT u.2:=by
 rw[eE,TX];exact UW λu _=>(um u.2).2.2.1 b
theorem Qq(us:List Uw):fzL (us.map λu=>pT u.2)=us.map λu=>pT u.2:=by
 rw[gG,TX];exact UW λu _=>(um u.2).2.2.2.1
theorem Q3(us:List Uw):au (us.map λu=>pT u.2)=true:=cF λd hd=>by obtain⟨u,_,rfl⟩:=Tp.mp hd;exact(um u.2).1
theorem Ri(us:List Uw):az (us.map λu=>pT u.2)=true:=cI λd hd=>by obtain⟨u,_,rfl⟩:=Tp.mp hd;exact(um u.2).2.1
variable{us:List Uw}
theorem Dj:view false (wM .own us)=wM .brw us:=by simp only[wM,view,Cv];rfl
theorem Rk:view false (wM .frz us)=wM .frz us:=by simp only[wM,view,Cv];rfl
variable{m:Mk}
theorem QX(h:m≠.scr):fz (wM m us)=wM .frz us:=by
 simp only[wM,fz,Qq];cases m<;>first|rfl|exact absurd rfl h
theorem Hj(h:m= .own∨m= .frz):aB (wM m us)=true/\aA (wM m us)=true:=by
 rcases h with rfl|rfl<;>simp[wM,aB,aA,Q3,Ri]
theorem yl:dD (.str x) (wM m us)=some (.bl (!decide (x∈us.map (·.1)))):=by
 simp only[dD,wM,yM,cg,Ux,kI]
theorem Ih(F:x∈us.map (·.1)):∃ps,(x,ps)∈us/\gIx (wM m us) (.str x)=some (pT ps):=by
 obtain⟨i,h1,h2,O⟩:=jg F;rw[List.getElem?_map]at h2;cases e:us[i]? with
 |none=>simp[e]at h2
 |some u=>
  have e2:u.1=x:=by simpa[e]using h2
  refine⟨u.2,e2▸T9 e,?_⟩;simp only[gIx,wM,cg,S8,h1,List.getElem?_map,e,Ux]
theorem Hu{ps:List Pt}(F:x∉us.map (·.1))(Y:us.length<1000000):cC (wM .own us) [.str x,pT ps]=some (wM .own (us++[(x,ps)]),.non):=by
 have h1:cu ((us.map (·.1)).map Ub) (Ub x)=none:=by
  cases e:cu ((us.map (·.1)).map Ub) (Ub x)with
  |none=>rfl
  |some j=>have:=kI (ys:=us.map (·.1)) (x:=x);rw[e]at this;exact absurd (of_decide_eq_true this.symm) F
 simp only[cC,wM,cg,S8,Tv,Y,Ud,gf,h1,Uy,TF,U7]
def gj(ns:List Str)(f:Str->List Tt):D:=.dct .frz (ns.map Ub) (ns.map λy=>.lst .frz ((f y).map tD))
theorem N7:fz (lead ns f)=gj ns f:=by
 simp only[lead,gj,fz,gG,TX];congr 1;refine UW λy _=>?_;simp only[W4,lT,fz,gG,TX];rfl
theorem Ju(b:Bool):view b (gj ns f)=gj ns f:=by
 simp only[gj,view,eE,TX];congr 1;refine UW λy _=>?_;simp only[W4,view,QL];rfl
theorem Gk(F:x∈ns):gIx (gj ns f) (.str x)=some (.lst .frz ((f x).map tD)):=by
 obtain⟨i,h1,h2,O⟩:=jg F;simp only[gIx,gj,cg,S8,h1,List.getElem?_map,h2,Ux]
def ky(us:List Uw):List Str:=us.map (·.1)
theorem eG(us:List Uw):(ky us).length=us.length:=by simp[ky]
theorem v7(us:List Uw)(u:Uw):ky (us++[u])=ky us++[u.1]:=by simp[ky]
theorem Qh{l:List Tt}(h:(l.map tD)[k]? =some d):∃t,l[k]? =some t/\d=tD t:=by
 rw[List.getElem?_map]at h;cases e:l[k]? with
 |none=>simp[e]at h
 |some t=>exact⟨t,rfl,by simpa[e]using h.symm⟩
theorem Ab(us:List Uw):cM (wM .own us)=true:=by
 have h2:∀l:List Pt,bG (l.map ptD)=true:=by
  intro l
  induction l with
  |nil=>rfl
  |cons p r Z=>rw[TF,bG,Z];rfl
 have h1:bG (us.map λu=>pT u.2)=true:=by
  induction us with
  |nil=>rfl
  |cons u r Z=>rw[TF,bG,Z,pT,cM,h2];rfl
 simp only[wM,cM,h1];rfl
variable{ds:List D}
theorem call_of{F:List D->Option D}(h:F (fzL ds)=some d)(B:cM d=true):cV F ds=some d:=by
 unfold cV;rw[h,S8,B,Bool.or_true,Tz rfl]
variable{j:Jt}
theorem KQ:cV gR [jD j,.int 1]=some (.tup [.str j.1,.str j.2.1]):=call_of (by
 apply Wp.eq;simp_arith[gR,jD,eq_int,aZ]) rfl
def ndl(js:List Jt):List Str:=js.flatMap λj=>[j.1,j.2.1]
theorem wH(js:List Jt):(ndl js).length=2*js.length:=by
 induction js with
 |nil=>rfl
 |cons j r Z=>rw[ndl,List.flatMap_cons,Ui,←ndl,Z,T_];simp;omega
def nw(js:List Jt)(a b:Str):List Str:=L_ (jP (a::b::ndl js))
variable{a b:Str}
theorem Q0:(nw js a b).Nodup:=(mJ _).nodup_iff.mpr (wz _)
theorem zA:x∈nw js a b↔x=a∨x=b∨∃j∈js,x=j.1∨x=j.2.1:=by
 rw[nw,(mJ _).mem_iff,ym];simp[ndl]
theorem Ow:(nw js a b).length<=2*js.length+2:=by
 have:=xr (a::b::ndl js);rw[nw,(mJ _).length_eq];simp only[T_,wH]at this;omega
def NwI(J:D)(a b:Str)(js:List Jt)(k:Nat)(ρ:En):Prop:=∃z:Option D,ρ=[some J,some (.str a),some (.str b),some (.lst .own ((a::b::ndl (js.take k)).map D.str)),z]
theorem R_(hJ:JJ J js)(Y:js.length<=200)(N:(jP (a::b::ndl js)).length<64):b8 [J,.str a,.str b]=some (.lst .own ((nw js a b).map D.str)):=by
 apply Wp.eq;simp only[b8,fnP,en0,T_,UJ,TF,U7,U3,Ud,aO,Nat.reduceAdd,Nat.reduceSub,Ug,List.nil_append];refine bf (NwI J a b js 0) (λQ q=>?_) ?_
 .simp_arith[bK]
  exact q _ ⟨_,rfl⟩
 rintro _ ⟨O,rfl⟩;refine bf (NwI J a b js js.length) (λQ q=>?_) ?_
 .simp only[iD,itS,aq,Ul,hJ.v,hJ.s,S8,aO,aG,w_ite,Ud]
  refine iT (NwI J a b js) ⟨O,rfl⟩ ?_ (λρ h=>q _ (by rw[Tv]at h;exact h));rintro k d ρ I ⟨z,rfl⟩;rw[List.getElem?_map]at I;cases F:js[k]? with
  |none=>simp[F]at I
  |some j=>
   obtain rfl:jD j=d:=by simpa[F]using I
   have Z:k<js.length:=(List.getElem?_eq_some_iff.mp F).1;have a0:a::b::ndl (js.take (k+1))=a::b::ndl (js.take k)++[j.1,j.2.1]:=by
    rw[Yw,F];simp[ndl]
   have V:(ndl (js.take k)).length<=400:=by rw[wH,Vu];omega
   have B:iC (.lst .own ((a::b::ndl (js.take k)).map D.str)) [.tup [.str j.1,.str j.2.1]]=some (.lst .own ((a::b::ndl (js.take (k+1))).map D.str),.non):=by
    rw[a0,Uy];simp only[iC,strsOf,Ux,S8];rw[Tz (by simp;omega)];rfl
   generalize a::b::ndl (js.take k)=l at B⊢;simp only[tgN,clean,N6,PL,VB,Ud,aG,Us,U5];simp only[mL,pF,fj,upS,dg,cB,eAp,ak,aJ,eC,aq,Uh,Ul,RX,KQ,B,au,az,aB,aA,VB,and_self,Ud,S8,Ux,aO,cW,aG,Us,U5];exact⟨_,rfl⟩
 rintro _ ⟨z,rfl⟩;rw[YZ];have V:=wH js;have U:∀m:Mk,iy [.lst m ((a::b::ndl js).map D.str)]=some (.lst .own ((nw js a b).map D.str)):=λm=>by
  have:=BL (a::b::ndl js);simp only[iy];rw[Tz (by simp;omega),this,S8];show(if(jP (a::b::ndl js)).length<64 then _ else none)=_;rw[Tz N];rfl
 generalize a::b::ndl js=l at U⊢;simp only[iW,eAp,ak,aJ,aq,Uh,Ul,view,cT,U,S8,aO,cW,aG,clean,aB,aA,dI,cX];simp[aG]
theorem Pb(N:m≠.scr):(x∈ky us/\∃ps,pB (wM m us) [.str x]=some (pT ps))∨(x∉ky us/\pB (wM m us) [.str x]=some .non):=by
 by_cases F:x∈ky us
 .obtain⟨i,h1,_,h3⟩:=jg F
  rw[eG]at h3;refine .inl ⟨F,us[i].2,?_⟩;have B:cu ((us.map (·.1)).map Ub) (Ub x)=some i:=h1;simp only[pB,wM,TQ N,cg,S8,B];rw[List.getElem?_map,Td h3];rfl
 .refine .inr ⟨F,?_⟩
  have h1:cu ((us.map (·.1)).map Ub) (Ub x:Key)=none:=by
   unfold cu;rw[Ut];intro y V;obtain⟨z,hz,rfl⟩:=Tp.mp V;exact T8 λe=>F (by cases e;exact hz)
  simp only[pB,wM,TQ N,cg,S8,h1]
def pr2(t:Tt):Pq:=(t.1,t.2.1)
theorem Bc(js:List Jt)(x:Str):∀n,(adj js n x).Pairwise λa b=>a.1<b.1∨a.2.2=x
 |0=>abJ
 |n+1=>by
  have Z:=Bc js x n;have lt:∀a∈adj js n x,a.1<(n:Int):=λa Y=>by
   obtain⟨k,j,h1,_,O⟩:=(qM js x n).mp Y;rcases O with⟨_,rfl⟩|⟨_,rfl⟩<;>simp<;>omega
  rw[adj];cases V:js[n]? with
  |none=>exact Z
  |some j=>
   simp only[upF];by_cases h1:x=j.1
   .by_cases h2:x=j.2.1
    .rw[Tz h2,Tz h1,V_]
     refine Vx.mpr ⟨Z,?_,λa Y b U=>.inl ?_⟩
     .refine V7.mpr ⟨λb U=>.inr h2.symm,WL _ _⟩
     .have:=lt a Y
      simp at U;rcases U with rfl|rfl<;>simpa using this
    .rw[TQ h2,Tz h1]
     refine Vx.mpr ⟨Z,WL _ _,λa Y b U=>.inl ?_⟩;rw[Ti.mp U];exact lt a Y
   .by_cases h2:x=j.2.1
    .rw[Tz h2,TQ h1]
     refine Vx.mpr ⟨Z,WL _ _,λa Y b U=>.inl ?_⟩;rw[Ti.mp U];exact lt a Y
    .rw[TQ h2,TQ h1]
     exact Z
theorem Lh{R:α->α->Prop}{a b:α}(h:l.Pairwise R)(Y:a∈l.take k)(U:l[k]? =some b):R a b:=by
 have I:=(List.getElem?_eq_some_iff.mp U).1;rw[←Wf k l]at h;refine(Vx.mp h).2.2 a Y b ?_;rw[←VG I,(List.getElem?_eq_some_iff.mp U).2];simp
structure Ay(ad:Str->List Tt)(ns:List Str)(h:Str)(us:List Uw)(p:Nat):Prop where
 n:(ky us).Nodup
 i:∀x∈ky us,x∈ns
 w:∀u∈us,Wk2 ad h u.2 u.1
 l:∀u∈us,u.2.length<us.length
 s:us.Pairwise λa b=>sl a.2 b.2
 c:∀i,i<p->∀u,us[i]? =some u->∀t∈ad u.1,∃e∈us,e.1=t.2.2/\sle e.2 (u.2++[pr2 t])
 h:(h,[])∈us
structure Ay2(ad:Str->List Tt)(ns:List Str)(h:Str)(us:List Uw)(p:Nat)(x:Str)(ps:List Pq)(k:Nat):Prop extends Ay ad ns h us p where
 px:us[p]? =some (x,ps)
 b:∀e∈us,sle e.2 ps∨∃qs a,e.2=qs++[a]/\(sl qs ps∨(qs=ps/\∃t∈(ad x).take k,t.2.2≠x/\a=pr2 t))
 d:∀t∈(ad x).take k,∃e∈us,e.1=t.2.2/\sle e.2 (ps++[pr2 t])
def AyB(us:List Uw)(p:Nat):Prop:=∀u,us[p]? =some u->∀e∈us,sle e.2 u.2∨∃B a,e.2=B++[a]/\sl B u.2
section
variable{ad:Str->List Tt}{ns:List Str}{h x:Str}{us:List Uw}{p k:Nat}{ps:List Pq}{t:Tt}
theorem sG{y:Str}{p q:List Pq}(hn:(ky us).Nodup)(h1:(y,p)∈us)(h2:(y,q)∈us):p=q:=by
 induction us with
 |nil=>cases h1
 |cons c r Z=>
  rw[ky,TF,T5]at hn;rcases Tf.mp h1 with e1|e1<;>rcases Tf.mp h2 with e2|e2
  .have:=e1.trans e2.symm;cases this;rfl
  .exact absurd (Tp.mpr ⟨_,e2,by rw[←e1]⟩) hn.1
  .exact absurd (Tp.mpr ⟨_,e1,by rw[←e2]⟩) hn.1
  .exact Z hn.2 e1 e2
theorem Ay.len(a:Ay ad ns h us p):us.length<=ns.length:=by
 have:=mG a.n a.i;rwa[eG]at this
theorem Ay.open(a:Ay ad ns h us p)(b:AyB us p)(F:us[p]? =some (x,ps)):Ay2 ad ns h us p x ps 0:=
 {a with px:=F,b:=λe V=>(b _ F e V).imp id λ⟨B,c,h1,h2⟩=>⟨B,c,h1,.inl h2⟩,d:=λt U=>by simp at U}
theorem Ay2.cand(a:Ay2 ad ns h us p x ps k)(Y:(ad x).Pairwise λa b=>a.1<b.1∨a.2.2=x)(U:(ad x)[k]? =some t)(N:t.2.2≠x):∀e∈us,sl e.2 (ps++[pr2 t]):=λe V=>by
 rcases a.b e V with z|⟨B,c,h1,z|⟨rfl,t',h2,O,rfl⟩⟩
 .rcases z with z|z
  .rw[z];exact sl.one
  .exact z.tr sl.one
 .rw[h1];exact z.snoc
 .rw[h1]
  refine sl.last ?_;have:=(Lh Y h2 U).resolve_right O;simp[k_,pr2,this]
theorem Ay2.old(a:Ay2 ad ns h us p x ps k)(Y:(ad x).Pairwise λa b=>a.1<b.1∨a.2.2=x)(U:(ad x)[k]? =some t)(I:t.2.2∈ky us):Ay2 ad ns h us p x ps (k+1):=by
 have q:(ad x).take (k+1)=(ad x).take k++[t]:=by rw[Yw,U];rfl
 refine{a with b:=λe V=>(a.b e V).imp id λ⟨B,c,h1,h2⟩=>⟨B,c,h1,h2.imp id λ⟨O,t',h4,Z⟩=>⟨O,t',by rw[q];exact Th _ h4,Z⟩⟩,d:=λu F=>?_};rw[q]at F;rcases S9.mp F with z|z
 .exact a.d u z
 .rw[Ti.mp z]
  obtain⟨e,V,e1⟩:=Tp.mp I;refine⟨e,V,e1,?_⟩;by_cases N:t.2.2=x
  .have hxm:=T9 a.px
   have:e.2=ps:=sG a.n (y:=x) (by rw[←N,←e1];exact V) hxm;rw[this];exact .inr sl.one
  .exact .inr (a.cand Y U N e V)
theorem Ay2.new(a:Ay2 ad ns h us p x ps k)(Y:(ad x).Pairwise λa b=>a.1<b.1∨a.2.2=x)(U:(ad x)[k]? =some t)(I:t.2.2∉ky us)(N:t.2.2∈ns):Ay2 ad ns h (us++[(t.2.2,ps++[pr2 t])]) p x ps (k+1):=by
 have q:(ad x).take (k+1)=(ad x).take k++[t]:=by rw[Yw,U];rfl
 have a0:=T9 a.px;have a4:=(List.getElem?_eq_some_iff.mp a.px).1;have a2:t.2.2≠x:=λz=>I (by rw[z];exact Tp.mpr ⟨_,a0,rfl⟩);have a1:∀e∈us,e∈us++[(t.2.2,ps++[pr2 t])]:=λe V=>Th _ V;refine{n:=?_,i:=λy hy=>?_,w:=λu F=>?_,l:=λu F=>?_,s:=?_,c:=λi hi u F t' a3=>?_,h:=a1 _ a.h,px:=?_,b:=λe V=>?_,d:=λu F=>?_}
 .rw[v7,Tu]
  exact⟨a.n,by simp,λy hy z hz e=>I (by have e2:=e.trans (Ti.mp hz);simp only at e2;rw[←e2];exact hy)⟩
 .rw[v7]at hy
  rcases S9.mp hy with z|z
  .exact a.i y z
  .rw[Ti.mp z];exact N
 .rcases S9.mp F with z|z
  .exact a.w u z
  .rw[Ti.mp z]
   exact Wk2.snoc (a.w _ a0) (T9 U)
 .rw[Ui,aaH]
  rcases S9.mp F with z|z
  .have:=a.l u z;omega
  .have:=a.l _ a0
   rw[Ti.mp z];simp at this⊢;omega
 .exact Vx.mpr ⟨a.s,WL _ _,λe V f Z=>by rw[Ti.mp Z];exact a.cand Y U a2 e V⟩
 .rw[Uq (by omega)]at F
  obtain⟨e,h1,h2⟩:=a.c i hi u F t' a3;exact⟨e,a1 e h1,h2⟩
 .rw[Uq a4];exact a.px
 .rcases S9.mp V with z|z
  .exact(a.b e z).imp id λ⟨B,c,h1,h2⟩=>⟨B,c,h1,h2.imp id λ⟨O,t',h4,h5⟩=>⟨O,t',by rw[q];exact Th _ h4,h5⟩⟩
  .rw[Ti.mp z]
   exact .inr ⟨ps,pr2 t,rfl,.inr ⟨rfl,t,by rw[q];simp,a2,rfl⟩⟩
 .rw[q]at F
  rcases S9.mp F with z|z
  .obtain⟨e,h1,h2⟩:=a.d u z
   exact⟨e,a1 e h1,h2⟩
  .rw[Ti.mp z]
   exact⟨_,Tc _ (Ti.mpr rfl),rfl,.inl rfl⟩
theorem Ay2.close(a:Ay2 ad ns h us p x ps (ad x).length):Ay ad ns h us (p+1)/\AyB us (p+1):=by
 refine⟨{a with c:=λi hi u F t U=>?_},λu F e V=>?_⟩
 .by_cases hip:i=p
  .subst hip
   rw[a.px]at F;cases F;exact a.d t (by rw[YZ];exact U)
  .exact a.c i (by omega) u F t U
 .have hlt:sl ps u.2:=by
   have h1:=(List.getElem?_eq_some_iff.mp a.px).1;have h2:=(List.getElem?_eq_some_iff.mp F).1;have:=X7.mp a.s p (p+1) h1 h2 (by omega);rw[(List.getElem?_eq_some_iff.mp a.px).2,(List.getElem?_eq_some_iff.mp F).2]at this;exact this
  rcases a.b e V with z|⟨B,c,h1,z|⟨rfl,_⟩⟩
  .exact .inl (z.tr (.inr hlt))
  .exact .inr ⟨B,c,h1,z.tr hlt⟩
  .exact .inr ⟨B,c,h1,hlt⟩
theorem Ay.fin(a:Ay ad ns h us p)(N:us.length<=p):Lst ad h us:=by
 refine⟨a.w,λB y q=>?_⟩
 induction q with
 |nil=>exact⟨_,a.h,rfl,.inl rfl⟩
 |snoc q U Z=>
  rename_i B x t;obtain⟨u,F,e,hs⟩:=Z;subst e;obtain⟨i,hi,e⟩:=VN F;obtain⟨f,h1,h2,O⟩:=a.c i (by omega) u (by rw[Td hi,e]) t U;exact⟨f,h1,h2,O.tr hs.snoc⟩
theorem Ay.one(N:h∈ns):Ay ad ns h [(h,[])] 0 where
 n:=by simp[ky]
 i:=by simp[ky,N]
 w:=λu F=>by rw[Ti.mp F];exact .nil
 l:=λu F=>by rw[Ti.mp F];simp
 s:=WL _ _
 c:=λi hi=>absurd hi (aap i)
 h:=by simp
theorem AyB.one:AyB [(h,[])] 0:=λu F e V=>by
 cases F;rw[Ti.mp V];exact .inl (.inl rfl)
end
theorem Qo(l:List Tt):gZ (l.map tD)=l.map tD:=by rw[jt,TX];rfl
def WyD(js:List Jt)(h:Str)(d:D):Prop:=∃us,d=wM .own us/\(ky us).Nodup/\Lst (adj js js.length) h us
def WfI(L:D)(js:List Jt)(ns:List Str)(h:Str)(p:Nat)(ρ:En):Prop:=∃(us:List Uw)(z O U F:Option D),ρ=[some L,some (.str h),some (wM .own us),some (.lst .own (((ky us).drop p).map D.str)),z,O,U,F]/\Ay (adj js js.length) ns h us p/\p<=us.length/\AyB us p
def WfJ(L:D)(js:List Jt)(ns:List Str)(h:Str)(p:Nat)(x:Str)(k:Nat)(ρ:En):Prop:=∃(us:List Uw)(ps:List Pq)(O U F:Option D),ρ=[some L,some (.str h),some (wM .own us),some (.lst .own (((ky us).drop (p+1)).map D.str)),some (.str x),O,U,F]/\Ay2 (adj js js.length) ns h us p x ps k
theorem Ot(hh:h∈ns)(V:∀j∈js,j.1∈ns/\j.2.1∈ns)(Y:ns.length<=1000):Wp (cD [gj ns (adj js js.length),.str h]) (WyD js h):=by
 simp only[cD,fnP,en0,T_,UJ,TF,U7,U3,Ud,aO,Nat.reduceAdd,Nat.reduceSub,Ug,List.nil_append];refine bf (λρ=>ρ=[some (gj ns (adj js js.length)),some (.str h),some (wM .own [(h,[])]),none,none,none,none,none]) (λQ q=>?_) ?_
 .have:nR [((Ub h:Key),D.tup [])]=some (wM .own [(h,[])]):=by
   unfold nR;rw[Tz (by simp)];rfl
  simp_arith[cO,iV,gM,iz,gQ,qu,iU,gLt,gGt,gGe,gIx,bK,aZ,dZ,wI,mF,jh,gIs,iZ,atI,ixN,aW,cC,gSl,nF,fW,nq,jK,qi,cg,this];exact⟨Hj (.inl rfl),q _ rfl⟩
 rintro _ rfl;refine bf (λρ=>ρ=[some (gj ns (adj js js.length)),some (.str h),some (wM .own [(h,[])]),some (.lst .own [.str h]),none,none,none,none]) (λQ q=>?_) ?_
 .simp_arith[cO,iV,gM,iz,gQ,qu,iU,gLt,gGt,gGe,gIx,bK,aZ,dZ,wI,mF,jh,gIs,iZ,atI,ixN,aW,cC,gSl,nF,fW]
  exact q _ rfl
 rintro _ rfl;refine bf (λρ=>∃p,WfI (gj ns (adj js js.length)) js ns h p ρ/\∀us x4 x5 x6 x7 m,ρ=[some (gj ns (adj js js.length)),some (.str h),some (wM .own us),some m,x4,x5,x6,x7]->us.length<=p) (λQ q=>?_) ?_
 .refine qF (WfI (gj ns (adj js js.length)) js ns h) ns.length ?_ 1000000 0 _ ⟨[(h,[])],none,none,none,none,rfl,Ay.one hh,by simp,AyB.one⟩ (by omega)
  rintro p ρ ⟨us,x4,x5,x6,x7,rfl,hw,N,O⟩;have c6:=hw.len;cases e:(ky us).drop p with
  |nil=>
   have a4:us.length<=p:=by
    have:=congrArg V8 e;rw[WN,eG]at this;simp at this;omega
   simp[pR,qz,aq,view,dw,truth,cW,aG,e];refine q _ ⟨p,⟨us,x4,x5,x6,x7,by rw[e];rfl,hw,N,O⟩,?_⟩;intro b9 y4 y5 y6 y7 m e2;simp only[ab_,Xr]at e2;have:=e2.2.2.1;have h2:us.map (λu=>pT u.2)=b9.map λu=>pT u.2:=by unfold wM at this;injection this
   have:=congrArg V8 h2;simp at this;omega
  |cons x r=>
   have F:(ky us)[p]? =some x:=by
    have:=congrArg (λl=>l[0]?) e;simpa using this
   have a4:p<us.length:=by have:=(List.getElem?_eq_some_iff.mp F).1;rw[eG]at this;exact this
   have Z:r=(ky us).drop (p+1):=by
    have:=congrArg List.tail e;simpa using this.symm
   have b3:x∈ns:=hw.i x (T9 F);obtain⟨ps,a1⟩:∃ps,us[p]? =some (x,ps):=by
    rw[ky,List.getElem?_map,Td a4]at F;exact⟨us[p].2,by rw[Td a4];simp at F;rw[←F]⟩
   have a2:((ky us).drop p).length<1000000:=by rw[WN,eG];omega
   rw[e]at a2;simp[pR,qz,aq,view,dw,truth,cW,aG];refine⟨by omega,?_⟩;refine bf (WfJ (gj ns (adj js js.length)) js ns h p x 0) (λQ q=>?_) ?_
   .have hpop:jb (.lst .own ((x::r).map D.str)) [.int 0]=some (.lst .own (r.map D.str),.str x):=by
     simp only[jb,Tv,a2,Ud];simp[ixN]
    have B:upS jb 3 [] [.int 0] [some (gj ns (adj js js.length)),some (.str h),some (wM .own us),some (.lst .own ((x::r).map D.str)),x4,x5,x6,x7]=some (.str x,[some (gj ns (adj js js.length)),some (.str h),some (wM .own us),some (.lst .own (r.map D.str)),x4,x5,x6,x7]):=by
     unfold upS;simp only[Uh,Ul,dg,S8];rw[Tz ⟨rfl,rfl⟩,hpop];rfl
    simp only[TF]at B;simp[di,pF,fj,ak,aJ,eC,cW,aO,aG,B,tgN,aB,aA,clean];exact q _ ⟨us,ps,x5,x6,x7,by rw[Z],hw.open O a1⟩
   rintro _ ⟨b6,c1,y5,y6,y7,rfl,b8⟩;have a8:eF (.lst .frz ((adj js js.length x).map tD))=some (true,(adj js js.length x).map tD):=by simp[eF,clean,aB,aA,Qz,Q6,Qo]
   simp[iD,itS,e2,aq,Ju,view,aO,aG,Gk b3,a8,-List.map_drop];refine iT (WfJ (gj ns (adj js js.length)) js ns h p x) ⟨b6,c1,y5,y6,y7,rfl,b8⟩ ?_ ?_
   .rintro k d ρ hk ⟨us1,ps,z5,z6,z7,rfl,hw1⟩
    obtain⟨t,U,rfl⟩:=Qh hk;have b7:t∈adj js js.length x:=T9 U;have c4:=hw1.len;have a1:=T9 hw1.px;have b4:x∈us1.map (·.1):=Tp.mpr ⟨_,a1,rfl⟩;have a3:p+1<=us1.length:=(List.getElem?_eq_some_iff.mp hw1.px).1;obtain⟨a0,a9,b5⟩:=Ih (m:=.brw) b4;obtain rfl:=sG hw1.n a9 a1;have c5:a0.length<us1.length:=hw1.l _ a1;have b0:=Bc js x js.length;have c0:t.2.2∈ns:=by
     obtain⟨n,j,_,h2,h3⟩:=(qM js x js.length).mp b7;rcases h3 with⟨_,rfl⟩|⟨_,rfl⟩
     .exact(V j (T9 h2)).2
     .exact(V j (T9 h2)).1
    simp[tD,tgT,aQ,dh,tgN,au,az,clean,aB,aA,aG,-List.map_drop];simp[sIf,eB,e2,aq,Dj,view,yl,isB,aO,aG,w_ite,-List.map_drop];by_cases I:t.2.2∈us1.map (·.1)
    .have hin':∃a,(t.2.2,a)∈us1:=by obtain⟨u,hu,e⟩:=Tp.mp I;exact⟨u.2,by rw[←e];exact hu⟩
     simp[hin',fY,aG,-List.map_drop];exact⟨us1,_,_,_,_,rfl,hw1.old b0 U I⟩
    .have hin':¬∃a,(t.2.2,a)∈us1:=λ⟨a,z⟩=>I (Tp.mpr ⟨_,z,rfl⟩)
     simp[hin',-List.map_drop];have b1:cO (pT a0) (.tup [.tup [.int t.1,.int t.2.1]])=some (pT (a0++[(t.1,t.2.1)])):=by
      simp[pT,cO,ptD];omega
     refine bf (λρ=>ρ=[some (gj ns (adj js js.length)),some (.str h),some (wM .own (us1++[(t.2.2,a0++[(t.1,t.2.1)])])),some (.lst .own (((ky us1).drop (p+1)).map D.str)),some (.str x),some (.int t.1),some (.int t.2.1),some (.str t.2.2)]) (λQ q=>?_) ?_
     .have hset:=Hu (us:=us1) (x:=t.2.2) (ps:=a0++[(t.1,t.2.1)]) I (by omega)
      have a7:=um (a0++[(t.1,t.2.1)]);simp[bI,e2,aq,Dj,view,b5,eAp,ak,aJ,aZ,b1,aO,cW,aG,gY,fj,upS,dg,cB,hset,au,az,aB,aA,a7.1,a7.2.1,clean,-List.map_drop];exact q _ rfl
     rintro _ rfl;have c3:(((ky us1).drop (p+1)).map D.str).length<1000000:=by rw[Tv,WN,eG];omega
     have b2:aW (.lst .own (((ky us1).drop (p+1)).map D.str)) [.str t.2.2]=some (.lst .own (((ky us1).drop (p+1)).map D.str++[.str t.2.2]),.non):=by
      simp only[aW,c3,Ud]
     simp only[mL,pF,fj,ak,aJ,aq,view,Uh,Ul,S8,Ux,upS,dg,au,az,aB,aA,VB,and_self,Ud,b2,cB,aG,Us,U5];have a6:(ky (us1++[(t.2.2,a0++[(t.1,t.2.1)])])).drop (p+1)=(ky us1).drop (p+1)++[t.2.2]:=by
      rw[v7,List.drop_append_of_le_length (by rw[eG];exact a3)]
     exact⟨us1++[(t.2.2,a0++[(t.1,t.2.1)])],_,_,_,_,by rw[a6,Uy];rfl,hw1.new b0 U I c0⟩
   .rintro ρ ⟨us1,ps,z5,z6,z7,rfl,hw1⟩
    rw[Tv]at hw1;have a3:p+1<=us1.length:=(List.getElem?_eq_some_iff.mp hw1.px).1;exact⟨us1,_,z5,z6,z7,rfl,hw1.close.1,a3,hw1.close.2⟩
 rintro _ ⟨p,⟨us,x4,x5,x6,x7,rfl,hw,N,O⟩,a5⟩;have c2:=a5 us _ _ _ _ _ rfl;simp[jf,aG];exact⟨us,rfl,hw.n,hw.fin c2⟩
theorem Cu(N:m≠.scr):(∃ps,(x,ps)∈us/\pB (wM m us) [.str x]=some (pT ps))∨(x∉ky us/\pB (wM m us) [.str x]=some .non):=by
 rcases Pb (us:=us) (x:=x) N with⟨h1,_⟩|h
 .obtain⟨i,h1,h2,h3⟩:=jg h1
  rw[eG]at h3;have B:cu ((us.map (·.1)).map Ub) (Ub x)=some i:=h1;refine .inl ⟨us[i].2,?_,?_⟩
  .have:us[i].1=x:=by rw[ky,List.getElem?_map,Td h3]at h2;simpa using h2
   rw[←this];exact Vw h3
  .simp only[pB,wM,TQ N,cg,S8,B]
   rw[List.getElem?_map,Td h3];rfl
 .exact .inr h
theorem Sq(z:JJ J js)(Y:js.length<=200)(a1:(jP (a::b::ndl js)).length<64):∃us,(ky us).Nodup/\Lst (adj js js.length) a us/\Wp (bz [J,.str a,.str b]) λd=>(∃ps,(b,ps)∈us/\d=pT ps)∨(b∉ky us/\d= .non):=by
 have vs:∀x:Str,view false (.str x)= .str x:=λ_=>rfl;have h1:cV b8 [J,.str a,.str b]=some (.lst .own ((nw js a b).map D.str)):=by
  simp[cV,fzL,fz,z.f,R_ z Y a1,au,az,aB,aA,z.b,z.o]
 have V:∀j∈js,j.1∈nw js a b/\j.2.1∈nw js a b:=λj V=>⟨zA.mpr (.inr (.inr ⟨j,V,.inl rfl⟩)),zA.mpr (.inr (.inr ⟨j,V,.inr rfl⟩))⟩;have a2:=Ow (js:=js) (a:=a) (b:=b);have h2:cV bM [.lst .own ((nw js a b).map D.str),J]=some (lead (nw js a b) (adj js js.length)):=by
  simp[cV,fzL,fz,oH,mkF,z.f,Pa (NK.lst (nw js a b)) z Q0 V (by omega) (by omega),au,az,aB,aA,dI,cX,z.b,z.o]
 obtain⟨_,O,us,rfl,I,a0⟩:=Ot (js:=js) (ns:=nw js a b) (h:=a) (zA.mpr (.inl rfl)) V (by omega);have F:cV cD [lead (nw js a b) (adj js js.length),.str a]=some (wM .own us):=call_of (by simpa[fzL,fz,N7]using O) (Ab us);have N:=Hj (us:=us) (m:=.own) (.inl rfl);have U:bU [J,.str a,.str b]=some (wM .own us):=by
  apply Wp.eq;simp only[bU,fnP,en0,T_,UJ,TF,U7,U3,Ud,aO,Nat.reduceAdd,Nat.reduceSub,Ug,List.nil_append];simp only[iW,eAp,ak,aJ,aq,Uh,Ul,z.v,vs,h1,h2,F,S8,aO,cW,aG,clean,N];simp[aG]
 have Z:cV bU [J,.str a,.str b]=some (wM .own us):=call_of (by simpa[fzL,fz,z.f]using U) (Ab us);refine⟨us,I,a0,?_⟩;simp only[bz,fnP,en0,T_,UJ,TF,U7,U3,Ud,aO,Nat.reduceAdd,Nat.reduceSub,Ug,List.nil_append];rcases Cu (us:=us) (m:=.own) (x:=b) (by decide)with⟨ps,q,B⟩|⟨q,B⟩
 .obtain⟨p1,p2',_⟩:=um ps
  simp only[iW,eMt,eAp,ak,aJ,aq,Uh,Ul,z.v,vs,Z,B,S8,aO,cW,aG,clean,p1,p2',VB,Ud];exact .inl ⟨ps,q,rfl⟩
 .simp only[iW,eMt,eAp,ak,aJ,aq,Uh,Ul,z.v,vs,Z,B,S8,aO,cW,aG,clean,aB,aA,VB,Ud]
  exact .inr ⟨q,trivial⟩
structure By(ad:Str->List Tt)(ns:List Str)(h:Str)(fs hs:List Uw)(d:Nat):Prop where
 n:(ky fs).Nodup
 hn:(ky hs).Nodup
 i:∀y∈ky fs,y∈ns
 w:∀u∈fs,Wk2 ad h u.2 u.1/\u.2.length<=d
 e:∀u,u∈hs↔(u∈fs/\u.2.length=d)
 c:∀qs y,Wk2 ad h qs y->qs.length<=d->∃u∈fs,u.1=y/\sle u.2 qs
 z:hs≠[]->d<fs.length
structure Bz(ad:Str->List Tt)(fs hs:List Uw)(gs:List Uw)(dn:Uw->Tt->Prop):Prop where
 n:(ky gs).Nodup
 f:∀u∈gs,u.1∉ky fs/\∃v∈hs,∃t∈ad v.1,u.1=t.2.2/\u.2=v.2++[pr2 t]
 c:∀v∈hs,∀t∈ad v.1,dn v t->t.2.2∉ky fs->∃u∈gs,u.1=t.2.2/\sle u.2 (v.2++[pr2 t])
def vZ(gs:List Uw)(x:Str)(w:List Pq):List Uw:=gs.map λu=>if u.1=x then(u.1,w)else u
section
variable{ad:Str->List Tt}{ns:List Str}{h:Str}{fs hs gs:List Uw}{d:Nat}{dn dn':Uw->Tt->Prop}{v:Uw}{t:Tt}
theorem Bz.nil(Z:∀v t,¬dn v t):Bz ad fs hs [] dn:=⟨by simp[ky],by simp,λv _ t _ h=>(Z v t h).elim⟩
theorem Bz.len(a:Bz ad fs hs gs dn)(hd:∀v∈hs,v.2.length=d):∀u∈gs,u.2.length=d+1:=λu F=>by
 obtain⟨_,v,B,t,_,_,e⟩:=a.f u F;rw[e,Ui,hd v B];rfl
theorem Bz.mono(a:Bz ad fs hs gs dn)(N:∀v∈hs,∀t∈ad v.1,dn' v t->t.2.2∉ky fs->dn v t):Bz ad fs hs gs dn':=⟨a.n,a.f,λv B t U h1 h2=>a.c v B t U (N v B t U h1 h2) h2⟩
theorem Bz.add(a:Bz ad fs hs gs dn)(B:v∈hs)(U:t∈ad v.1)(h1:t.2.2∉ky fs)(h2:t.2.2∉ky gs)(hd:∀w∈hs,∀s∈ad w.1,dn' w s->dn w s∨(w.2=v.2/\s=t)):Bz ad fs hs (gs++[(t.2.2,v.2++[pr2 t])]) dn' where
 n:=by
  rw[v7,Tu];exact⟨a.n,by simp,λy V z hz e=>h2 (by have e2:=e.trans (Ti.mp hz);simp only at e2;rw[←e2];exact V)⟩
 f:=λu F=>by
  rcases S9.mp F with z|z
  .exact a.f u z
  .rw[Ti.mp z]
   exact⟨h1,v,B,t,U,rfl,rfl⟩
 c:=λw N s I O Y=>by
  rcases hd w N s I O with z|⟨e1,e2⟩
  .obtain⟨u,F,q⟩:=a.c w N s I z Y
   exact⟨u,Th _ F,q⟩
  .subst e2
   exact⟨_,Tc _ (Ti.mpr rfl),rfl,by rw[e1];exact .inl rfl⟩
theorem CP{x:Str}{w:List Pq}:ky (vZ gs x w)=ky gs:=by
 unfold ky vZ;rw[TX];refine UW λu _=>?_;simp only[W4];split<;>rfl
theorem Bz.set(a:Bz ad fs hs gs dn)(Y:∀v∈hs,v.2.length=d)(B:v∈hs)(U:t∈ad v.1)(h1:t.2.2∉ky fs){V:List Pq}(h2:(t.2.2,V)∈gs)(a1:ltP (v.2++[pr2 t]) V=true)(hd:∀w∈hs,∀s∈ad w.1,dn' w s->dn w s∨(w.2=v.2/\s=t)):Bz ad fs hs (vZ gs t.2.2 (v.2++[pr2 t])) dn' where
 n:=by rw[CP];exact a.n
 f:=λu F=>by
  obtain⟨u0,q,rfl⟩:=Tp.mp F;split
  .rename_i e
   exact⟨by rw[e];exact h1,v,B,t,U,e,rfl⟩
  .exact a.f u0 q
 c:=λw N s a0 O h4=>by
  have I:(t.2.2,v.2++[pr2 t])∈vZ gs t.2.2 (v.2++[pr2 t]):=Tp.mpr ⟨_,h2,by simp⟩;rcases hd w N s a0 O with z|⟨e1,e2⟩
  .obtain⟨u,F,q1,q2⟩:=a.c w N s a0 z h4
   by_cases e:u.1=t.2.2
   .refine⟨_,I,by rw[←q1,e],?_⟩
    have e3:u.2=V:=sG a.n (y:=t.2.2) (by rw[←e];exact F) h2;have Z:V.length=d+1:=a.len Y _ h2;have a2:(v.2++[pr2 t]).length=d+1:=by rw[Ui,Y v B];rfl
    rw[e3]at q2;show sle (v.2++[pr2 t]) _;exact sle.tr (.inr (.inr ⟨by omega,a1⟩)) q2
   .exact⟨u,Tp.mpr ⟨u,F,by simp[e]⟩,q1,q2⟩
  .subst e2
   exact⟨_,I,rfl,by rw[e1];exact .inl rfl⟩
theorem Bz.keep(a:Bz ad fs hs gs dn)(Y:∀v∈hs,v.2.length=d)(B:v∈hs){V:List Pq}(h2:(t.2.2,V)∈gs)(a0:ltP (v.2++[pr2 t]) V=false)(hd:∀w∈hs,∀s∈ad w.1,dn' w s->dn w s∨(w.2=v.2/\s=t)):Bz ad fs hs gs dn':=⟨a.n,a.f,λw N s I O F=>by
 rcases hd w N s I O with z|⟨e1,e2⟩
 .exact a.c w N s I z F
 .subst e2
  refine⟨_,h2,rfl,?_⟩;have Z:V.length=d+1:=a.len Y _ h2;have U:(v.2++[pr2 s]).length=d+1:=by rw[Ui,Y v B];rfl
  rcases sle.tot (a:=V) (b:=v.2++[pr2 s]) (by omega)with q|q
  .rw[e1];exact q
  .rw[a0]at q;cases q⟩
theorem Bz.skip(a:Bz ad fs hs gs dn)(h1:t.2.2∈ky fs)(hd:∀w∈hs,∀s∈ad w.1,dn' w s->dn w s∨s=t):Bz ad fs hs gs dn':=a.mono λv B s I h2 O=>(hd v B s I h2).resolve_right λe=>O (by rw[e];exact h1)
theorem Wk2.zero{B:List Pq}{y:Str}(N:Wk2 ad h B y)(e:B=[]):y=h:=by
 cases N with
 |nil=>rfl
 |snoc=>simp at e
theorem By.one(q:h∈ns):By ad ns h [(h,[])] [(h,[])] 0 where
 n:=by simp[ky]
 hn:=by simp[ky]
 i:=by simp[ky,q]
 w:=λu F=>by rw[Ti.mp F];exact⟨.nil,by simp⟩
 e:=λu=>by
  rw[Ti];exact⟨λe=>⟨e,by rw[e];rfl⟩,λe=>e.1⟩
 c:=λB y N Y=>by
  have:B=[]:=List.length_eq_zero_iff.mp (by omega);obtain rfl:=N.zero this;exact⟨_,Ti.mpr rfl,rfl,.inl this.symm⟩
 z:=λ_=>by simp
theorem By.next(a:By ad ns h fs hs d)(b:Bz ad fs hs gs λ_ _=>True)(a0:∀v∈ky fs,∀t∈ad v,t.2.2∈ns)(Z:hs≠[]):By ad ns h (fs++gs) gs (d+1)where
 n:=by
  unfold ky;rw[Uy,Tu];refine⟨a.n,b.n,λy V z hz e=>?_⟩;subst e;obtain⟨u,F,rfl⟩:=Tp.mp hz;exact(b.f u F).1 V
 hn:=b.n
 i:=λy V=>by
  unfold ky at V;rw[Uy]at V;rcases S9.mp V with z|z
  .exact a.i y z
  .obtain⟨u,F,rfl⟩:=Tp.mp z
   obtain⟨_,v,hv,t,U,e,_⟩:=b.f u F;rw[e];exact a0 v.1 (Tp.mpr ⟨v,((a.e v).mp hv).1,rfl⟩) t U
 w:=λu F=>by
  rcases S9.mp F with z|z
  .exact⟨(a.w u z).1,by have:=(a.w u z).2;omega⟩
  .obtain⟨_,v,hv,t,U,e,e2⟩:=b.f u z
   rw[e,e2];exact⟨Wk2.snoc (a.w v ((a.e v).mp hv).1).1 U,by rw[Ui,((a.e v).mp hv).2];simp⟩
 e:=λu=>by
  have Y:=b.len (d:=d) λv hv=>((a.e v).mp hv).2;constructor
  .exact λF=>⟨Tc _ F,Y u F⟩
  .rintro⟨F,e⟩
   rcases S9.mp F with z|z
   .have:=(a.w u z).2;omega
   .exact z
 c:=λqs y N Y=>by
  by_cases B:qs.length<=d
  .obtain⟨u,F,q⟩:=a.c qs y N B
   exact⟨u,Th _ F,q⟩
  .cases N with
   |nil=>simp at B
   |snoc N U=>
    rename_i qs x t;simp at Y B;obtain⟨v,hv,e,I⟩:=a.c qs x N (by omega);subst e;by_cases O:v.2.length=d
    .by_cases hin:t.2.2∈ky fs
     .obtain⟨u,F,e⟩:=Tp.mp hin
      refine⟨u,Th _ F,e,.inr (.inl ?_)⟩;have:=(a.w u F).2;simp;omega
     .obtain⟨u,F,e,q⟩:=b.c v ((a.e v).mpr ⟨hv,O⟩) t U trivial hin
      exact⟨u,Tc _ F,e,q.tr I.snoc⟩
    .have hvl:=(a.w v hv).2
     obtain⟨u,F,e,q⟩:=a.c (v.2++[pr2 t]) t.2.2 (Wk2.snoc (a.w v hv).1 U) (by simp;omega);exact⟨u,Th _ F,e,q.tr I.snoc⟩
 z:=λhg=>by
  have h1:=a.z Z;have h2:0<gs.length:=abj.mpr hg;rw[Ui];omega
theorem By.fin(a:By ad ns h fs [] d):Lst ad h fs:=by
 refine⟨λu F=>(a.w u F).1,λY y N=>?_⟩
 induction N with
 |nil=>exact a.c [] h .nil (by simp)
 |snoc N U Z=>
  rename_i Y x t;obtain⟨v,B,e,I⟩:=Z;subst e;have O:=(a.w v B).2;have V:v.2.length≠d:=λz=>by have:=(a.e v).mpr ⟨B,z⟩;cases this
  obtain⟨u,F,e,q⟩:=a.c (v.2++[pr2 t]) t.2.2 (Wk2.snoc (a.w v B).1 U) (by simp;omega);exact⟨u,F,e,q.tr I.snoc⟩
end
def bD(t:Tt):D:=.tup [.tup [.int t.1,.int t.2.1],.str t.2.2]
theorem Mg(l:List Tt):au (l.map bD)=true:=cF λd hd=>by obtain⟨x,_,rfl⟩:=Tp.mp hd;rfl
theorem Mp(l:List Tt):az (l.map bD)=true:=cI λd hd=>by obtain⟨x,_,rfl⟩:=Tp.mp hd;rfl
theorem QZ(b:Bool)(l:List Tt):dw b (l.map bD)=l.map bD:=by rw[eE,TX];rfl
theorem QK(l:List Tt):fzL (l.map bD)=l.map bD:=by rw[gG,TX];rfl
theorem Ru(l:List Tt):gZ (l.map bD)=l.map bD:=by rw[jt,TX];rfl
def bH(m m':Mk)(ks:List Str)(f:Str->List Tt):D:=.dct m (ks.map Ub) (ks.map λy=>.lst m' ((f y).map bD))
structure Bes(ks:List Str)(f:Str->List Tt):Prop where
 n:ks.Nodup
 e:∀y,y∉ks->f y=[]
theorem LQ{fx:En->Option (List D)}(U:Bes ks f)(hl:ks.length<1000000)(N:(f x).length<1000000)(h1:ρ[1]? =some (some (bH .own .own ks f)))(Y:fa ρ=some [.str x,.lst .own []])(F:∀d,fx (ρ.set 1 d)=some [bD t]) :
  ∃a1,a1.length<=ks.length+1/\Bes a1 (upF f x t)/\yH 1 fa fx ρ=some (.nx (ρ.set 1 (some (bH .own .own a1 (upF f x t))))):=by
 have a3:1<ρ.length:=(List.getElem?_eq_some_iff.mp h1).1;have a0:au [bD t]=true/\az [bD t]=true:=⟨rfl,rfl⟩;have a2:ρ.set 1 (some (bH .own .own ks f))=ρ:=by
  refine Yu λi=>?_;rw[W5];split
  .rename_i e;subst e;first|rw[h1]|rw[Tz a3,h1]
  .rfl
 by_cases I:x∈ks
 .obtain⟨i,h2,O,h4⟩:=jg I
  refine⟨ks,by omega,⟨U.n,λy V=>by rw[upF,TQ (λz=>V (by rw[z];exact I))];exact U.e y V⟩,?_⟩;have e1:Ae 1 fa ρ=some (i,ρ):=by
   unfold Ae;rw[h1];simp only[bH,Y,cg,Tv,Tz hl,h2]
  have a5:fx ρ=some [bD t]:=by rw[←a2];exact F _
  have q:dg [i] (bH .own .own ks f)=some (.lst .own ((f x).map bD)):=by
   simp only[dg,kids,bH,List.getElem?_map,O,Ux,S8]
  have B:aW (.lst .own ((f x).map bD)) [bD t]=some (.lst .own ((f x++[t]).map bD),.non):=by
   simp[aW,N]
  have g3:cB [i] (.lst .own ((f x++[t]).map bD)) (bH .own .own ks f)=bH .own .own ks (upF f x t):=by
   have hs:=zH (g:=λy=>D.lst .own ((f y).map bD)) (g':=λy=>D.lst .own ((upF f x t y).map bD)) (a:=.lst .own ((f x++[t]).map bD)) U.n O (by simp[upF]) (λy V=>by simp[upF,V]);have Z:(ks.map λy=>D.lst .own ((f y).map bD))[i]? =some (.lst .own ((f x).map bD)):=by rw[List.getElem?_map,O];rfl
   rw[cB];simp only[kids,bH,Z,cB,za];rw[hs]
  unfold yH;rw[e1,S8,a5,S8];unfold upS;simp only[h1,q,S8,a0.1,a0.2,and_self,Ud,B,Ux,g3]
 .have h2:cu (ks.map Ub) (Ub x:Key)=none:=by
   unfold cu;rw[Ut];intro y V;obtain⟨z,hz,rfl⟩:=Tp.mp V;exact T8 λe=>I (by cases e;exact hz)
  have a4:=U.e x I;refine⟨ks++[x],by simp,⟨?_,λy V=>?_⟩,?_⟩
  .rw[Tu]
   exact⟨U.n,by simp,λy V z hz e=>I (by rw[Ti.mp hz]at e;rw[←e];exact V)⟩
  .rw[upF,TQ (λz=>V (by rw[z];simp))]
   exact U.e y λz=>V (Th _ z)
  have e0:D.dct .own (ks.map Ub++[Ub x]) ((ks.map λy=>D.lst .own ((f y).map bD))++[.lst .own []])=bH .own .own (ks++[x]) f:=by
   simp[bH,a4]
  have e1:Ae 1 fa ρ=some (ks.length,ρ.set 1 (some (bH .own .own (ks++[x]) f))):=by
   unfold Ae;rw[h1];simp only[bH,Y,cg,Tv,Tz hl,h2];rw[e0];rfl
  have O:(ks++[x])[ks.length]? =some x:=by simp
  have a6:(ks++[x]).Nodup:=by
   rw[Tu];exact⟨U.n,by simp,λy V z hz e=>I (by rw[Ti.mp hz]at e;rw[←e];exact V)⟩
  have q:dg [ks.length] (bH .own .own (ks++[x]) f)=some (.lst .own ((f x).map bD)):=by
   simp only[dg,kids,bH,List.getElem?_map,O,Ux,S8]
  have B:aW (.lst .own ((f x).map bD)) [bD t]=some (.lst .own ((f x++[t]).map bD),.non):=by
   simp[aW,N]
  have g3:cB [ks.length] (.lst .own ((f x++[t]).map bD)) (bH .own .own (ks++[x]) f)=bH .own .own (ks++[x]) (upF f x t):=by
   have hs:=zH (g:=λy=>D.lst .own ((f y).map bD)) (g':=λy=>D.lst .own ((upF f x t y).map bD)) (a:=.lst .own ((f x++[t]).map bD)) a6 O (by simp[upF]) (λy V=>by simp[upF,V]);have Z:((ks++[x]).map λy=>D.lst .own ((f y).map bD))[ks.length]? =some (.lst .own ((f x).map bD)):=by rw[List.getElem?_map,O];rfl
   rw[cB];simp only[kids,bH,Z,cB,za];rw[hs]
  unfold yH;rw[e1,S8,F,S8];unfold upS;simp only[Wa a3,q,S8,a0.1,a0.2,and_self,Ud,B,Ux,g3,List.set_set]
def BeI(J:D)(js:List Jt)(k:Nat)(ρ:En):Prop:=∃(ks:List Str)(N q z O:Option D),ρ=[some J,some (bH .own .own ks (adj js k)),N,q,z,O]/\Bes ks (adj js k)/\ks.length<=2*k
theorem Fv(hJ:JJ J js)(Y:js.length<=1000):Wp (bL [J]) λd=>∃ks,d=bH .own .own ks (adj js js.length)/\Bes ks (adj js js.length):=by
 simp only[bL,fnP,en0,T_,UJ,TF,U7,U3,Ud,aO,Nat.reduceAdd,Nat.reduceSub,Ug,List.nil_append];refine bf (BeI J js 0) (λQ q=>?_) ?_
 .simp_arith[tZ]
  exact q _ ⟨[],_,_,_,_,rfl,⟨by simp,λy _=>rfl⟩,by simp⟩
 rintro _ ⟨ks,y2,y3,y4,y5,rfl,U,I⟩;refine bf (BeI J js js.length) (λQ q=>?_) ?_
 .simp[iD,itE,aq,ak,aJ,hJ.v,hJ.s,aO,aG,w_ite]
  refine iT (BeI J js) ⟨ks,y2,y3,y4,y5,rfl,U,I⟩ ?_ (λρ h=>q _ (by rw[jr]at h;simpa using h));rintro k d ρ I ⟨ks,N,x3,z,O,rfl,U,Z⟩;rw[ju,List.getElem?_map]at I;cases a0:js[k]? with
  |none=>simp[a0]at I
  |some j=>
   obtain rfl:D.tup [.int (k:Int),jD j]=d:=by simpa[a0]using I
   have a7:k<js.length:=(List.getElem?_eq_some_iff.mp a0).1;simp[jD,tgT,aQ,dh,tgN,au,az,clean,aB,aA,aG];have F:=oR js j.1 k;have a2:=oR js j.2.1 k;obtain⟨a6,V,B,c3⟩:=LQ (t:=((k:Int),1,j.2.1)) (x:=j.1) (ρ:=[some J,some (bH .own .own ks (adj js k)),some (.int k),some (.str j.1),some (.str j.2.1),some (.int j.2.2)]) (fa:=ak (aq false 3) (ak (eAp bK aJ) aJ)) (fx:=ak (eAp aZ (ak (eAp aZ (ak (aq false 2) (ak (eC (.int 1)) aJ))) (ak (aq false 4) aJ))) aJ) U (by omega) (by omega) rfl rfl (λd=>rfl);have a3:=qH (f:=adj js k) (x:=j.1) (y:=j.2.1) (t:=((k:Int),1,j.2.1));obtain⟨a5,d1,d2,d3⟩:=LQ (t:=((k:Int),-1,j.1)) (x:=j.2.1) (ρ:=[some J,some (bH .own .own a6 (upF (adj js k) j.1 ((k:Int),1,j.2.1))),some (.int k),some (.str j.1),some (.str j.2.1),some (.int j.2.2)]) (fa:=ak (aq false 4) (ak (eAp bK aJ) aJ)) (fx:=ak (eAp aZ (ak (eAp aZ (ak (aq false 2) (ak (e1 iU (eC (.int 1))) aJ))) (ak (aq false 3) aJ))) aJ) B (by omega) (by omega) rfl rfl (λd=>rfl);have a4:adj js (k+1)=upF (upF (adj js k) j.1 ((k:Int),1,j.2.1)) j.2.1 ((k:Int),-1,j.1):=by rw[adj,a0]
   rw[Hm,c3,aG];simp only[Us,U5];rw[d3,aG];simp only[Us,U5];exact⟨a5,_,_,_,_,by rw[a4],by rw[a4];exact d2,by omega⟩
 rintro _ ⟨ks,N,x3,z,O,rfl,U,_⟩;simp[jf,aG];exact⟨ks,rfl,U⟩
theorem jq:∀ds:List D,mV ds=ds.map toS
 |[]=>rfl
 |d::r=>by rw[mV,jq r];rfl
theorem Om(ps:List Pt):toS (pT ps)=pT ps:=by
 simp only[pT,toS,jq,TX];congr 1
theorem Qf(us:List Uw):mV (us.map λu=>pT u.2)=us.map λu=>pT u.2:=by
 rw[jq,TX];exact UW λu _=>Om u.2
theorem Pk:toS (wM m us)=wM (mkS m) us:=by simp only[wM,toS,Qf]
theorem Kc{m':Mk}:toS (bH m m' ks f)=bH (mkS m) m' ks f:=by
 simp only[bH,toS,jq,TX];congr 1;refine UW λy _=>?_;simp only[W4,toS,jq,TX];congr 1
theorem Qg(js:List Jt):toS (.lst .frz (js.map jD))= .lst .frz (js.map jD):=by
 simp only[toS,jq,TX];congr 1
theorem Hb{m':Mk}:fz (bH m m' ks f)=bH (mkF m) (mkF m') ks f:=by
 simp only[bH,fz,gG,TX];congr 1;refine UW λy _=>?_;simp only[W4,fz,QK]
theorem RQ(N:mkV false m=m):view false (bH m .frz ks f)=bH m .frz ks f:=by
 simp only[bH,view,eE,TX,N];congr 1;refine UW λy _=>?_;simp only[W4,view,QZ];rfl
theorem RB:view false (wM .scr us)=wM .scr us:=by simp only[wM,view,Cv];rfl
theorem Kw(U:Bes ks f)(x:Str):∃m',(m'= .frz∨m'= .own)/\lr (bH m .frz ks f) [.str x,.lst .own []]=some (.lst m' ((f x).map bD)):=by
 by_cases F:x∈ks
 .obtain⟨i,h1,h2,h3⟩:=jg F
  exact⟨.frz,.inl rfl,by simp only[lr,bH,cg,S8,h1,List.getElem?_map,h2,Ux]⟩
 .have h2:cu (ks.map Ub) (Ub x:Key)=none:=by
   unfold cu;rw[Ut];intro y V;obtain⟨z,hz,rfl⟩:=Tp.mp V;exact T8 λe=>F (by cases e;exact hz)
  exact⟨.own,.inr rfl,by simp only[lr,bH,cg,S8,h2,U.e x F,U7]⟩
theorem Ia:∀ps:List Pt,(ps.map ptD).mapM prD=some ps
 |[]=>rfl
 |p::r=>by rw[TF,aaN,Ia r];rfl
theorem Mj(a b:List Pt):t7 (pT a) (pT b)=some (.bl (ltP a b)):=by
 simp only[t7,pT,Ia]
theorem Mf:Hv (wM m us) (.dct .own [] [])=some (.bl (us.length !=0)):=by
 simp only[Hv,wM,Tv]
theorem LC{gs:List Uw}{w:List Pt}(hn:(ky gs).Nodup)(F:x∈ky gs)(Y:gs.length<1000000):cC (wM .own gs) [.str x,pT w]=some (wM .own (vZ gs x w),.non):=by
 obtain⟨i,h1,h2,O⟩:=jg F;have B:cu ((gs.map (·.1)).map Ub) (Ub x)=some i:=h1;have h4:(gs.map λu=>pT u.2).set i (pT w)=(vZ gs x w).map λu=>pT u.2:=by
  apply Yu;intro k;rw[W5,vZ,List.getElem?_map,List.getElem?_map,List.getElem?_map];rw[eG]at O;rw[ky,List.getElem?_map]at h2;by_cases e:i=k
  .subst e
   rw[Tz rfl,Tz (by simpa using O)];rw[Td O]at h2⊢;have:gs[i].1=x:=by simpa using h2
   simp[this]
  .rw[TQ e]
   cases I:gs[k]? with
   |none=>rfl
   |some u=>
    have Z:u.1≠x:=λz=>by
     obtain⟨U,N⟩:=List.getElem?_eq_some_iff.mp I;rw[Td O]at h2;have q:gs[i].1=x:=by simpa using h2
     have V:(ky gs)[i]'(by rw[eG];exact O)=(ky gs)[k]'(by rw[eG];exact U):=by
      simp only[ky,List.getElem_map,q,N,z]
     exact e ((Z5 hn).mp V)
    simp[Z]
 have U:((vZ gs x w).map (·.1)).map (Ub:Str->Key)=(gs.map (·.1)).map Ub:=by
  have:=CP (gs:=gs) (x:=x) (w:=w);unfold ky at this;rw[this]
 simp only[cC,wM,cg,S8,Tv,Y,Ud,gf,B,h4,U]
theorem uM:∀(gs fs:List Uw),(ky (fs++gs)).Nodup->b_ ((fs.map (·.1)).map Ub) (fs.map λu=>pT u.2) (((gs.map (·.1)).map Ub).zip (gs.map λu=>pT u.2))=(((fs++gs).map (·.1)).map Ub,(fs++gs).map λu=>pT u.2)
 |[],fs,_=>by simp[b_]
 |g::r,fs,hn=>by
  have q:cu ((fs.map (·.1)).map Ub) (Ub g.1:Key)=none:=by
   unfold cu;rw[Ut];intro y V;obtain⟨z,hz,rfl⟩:=Tp.mp V;refine T8 λe=>?_;cases e;unfold ky at hn;rw[Uy,Tu]at hn;exact hn.2.2 _ hz _ (by simp) rfl
  have Z:=uM r (fs++[g]) (by rw[V_];exact hn);rw[V_]at Z;simp only[TF,abz,b_,gf,q];have e1:((fs++[g]).map (·.1)).map (Ub:Str->Key)=(fs.map (·.1)).map Ub++[Ub g.1]:=by simp
  have e2:((fs++[g]).map λu=>pT u.2)=(fs.map λu=>pT u.2)++[pT g.2]:=by simp
  rw[e1,e2]at Z;rw[Z];rfl
theorem O2{fs gs:List Uw}(hn:(ky (fs++gs)).Nodup)(Y:fs.length+gs.length<=50000):iM (wM .own fs) [wM .frz gs]=some (wM .own (fs++gs),.non):=by
 simp only[iM,wM,Tv];rw[Tz ⟨rfl,Y⟩,uM gs fs hn]
def LwE(js:List Jt)(h:Str)(B:D)(fs:List Uw)(m:Mk)(hs:List Uw)(O U F I q:Option D):En:=[some (.lst .frz (js.map jD)),some (.str h),some B,some (wM .own fs),some (wM m hs),O,U,F,I,q]
def LwI(js:List Jt)(ns ks:List Str)(h:Str)(d:Nat)(ρ:En):Prop:=∃(B:D)(m:Mk)(fs hs:List Uw)(O U F I q:Option D),ρ=LwE js h B fs m hs O U F I q/\(B=bH .own .own ks (adj js js.length)∨B=bH .scr .frz ks (adj js js.length))/\(m= .own∨m= .frz)/\By (adj js js.length) ns h fs hs d
def LwJ(js:List Jt)(ks:List Str)(h:Str)(fs hs:List Uw)(i:Nat)(ρ:En):Prop:=∃(gs:List Uw)(U F I q:Option D),ρ=LwE js h (bH .scr .frz ks (adj js js.length)) fs .scr hs (some (wM .own gs)) U F I q/\Bz (adj js js.length) fs hs gs (λv _=>∃z<i,hs[z]? =some v)
def LwK(js:List Jt)(ks:List Str)(h:Str)(fs hs:List Uw)(i:Nat)(v:Uw)(k:Nat)(ρ:En):Prop:=∃(gs:List Uw)(F I q:Option D),ρ=LwE js h (bH .scr .frz ks (adj js js.length)) fs .scr hs (some (wM .own gs)) (some (.str v.1)) F I q/\Bz (adj js js.length) fs hs gs (λw s=>(∃z<i,hs[z]? =some w)∨(w=v/\s∈((adj js js.length) v.1).take k))
theorem Kg{fs hs:List Uw}{d:Nat}{v:Uw}(hd:By (adj js js.length) ns h fs hs d)(Y:ns.length<=1000)(B:hs[i]? =some v)(ht:(adj js js.length v.1)[k]? =some t)(b3:LwK js ks h fs hs i v k ρ)(q:∀I,LwK js ks h fs hs i v (k+1) I->Q (.nx I))(b4:∀y∈ky fs,∀t∈adj js js.length y,t.2.2∈ns) :
  Wp (tgT 2 (aQ (tgN 7) (aQ (tgN 8) dh)) (bD t) ρ) λρ1=>Wp ((a_ (bI (e2 cO (e2 gIx (aq false 4) (aq false 6)) (eAp aZ (ak (aq false 7) aJ))) (tgN 9))
  (sIf (mU (eB (e2 dD (aq false 8) (aq false 3))) (eOr (eB (e2 dD (aq false 8) (aq false 5))) (eB (e2 t7 (aq false 9) (e2 gIx (aq false 5) (aq false 8)))))) (bI (aq false 9) (gY cC 5 (fj 5) (aq false 8))) fY)) ρ1) Q:=by
 obtain⟨gs,x7,x8,x9,rfl,U⟩:=b3;have a2:v∈hs:=T9 B;have a7:=T9 ht;have b6:v.1∈hs.map (·.1):=Tp.mpr ⟨v,a2,rfl⟩;have Z:∀v∈hs,v.2.length=d:=λv B=>((hd.e v).mp B).2;have b8:gs.length<=ns.length:=by
  have:=mG U.n (ns:=ns) λy V=>by
   obtain⟨u,F,rfl⟩:=Tp.mp V;obtain⟨_,w,N,s,a6,e,_⟩:=U.f u F;rw[e];exact b4 w.1 (Tp.mpr ⟨w,((hd.e w).mp N).1,rfl⟩) s a6
  rwa[eG]at this
 have b7:fs.length<=ns.length:=by
  have:=mG hd.n hd.i;rwa[eG]at this
 have b9:d<=1000:=by
  have:=hd.z (λz=>by rw[z]at a2;cases a2);omega
 obtain⟨ps,b5,b1⟩:=Ih (m:=.scr) b6;obtain rfl:ps=v.2:=sG hd.hn b5 a2;have b0:cO (pT v.2) (.tup [.tup [.int t.1,.int t.2.1]])=some (pT (v.2++[pr2 t])):=by
  have:=Z v a2;simp[pT,cO,ptD,pr2];omega
 have b2:(adj js js.length v.1).take (k+1)=(adj js js.length v.1).take k++[t]:=by rw[Yw,ht];rfl
 have step:∀w∈hs,∀s∈adj js js.length w.1,((∃i'<i,hs[i']? =some w)∨(w=v/\s∈(adj js js.length v.1).take (k+1)))->((∃i'<i,hs[i']? =some w)∨(w=v/\s∈(adj js js.length v.1).take k))∨(w.2=v.2/\s=t):=λw _ s _ z=>by
  rcases z with z|⟨e,z⟩
  .exact .inl (.inl z)
  .rw[b2]at z
   rcases S9.mp z with z|z
   .exact .inl (.inr ⟨e,z⟩)
   .exact .inr ⟨by rw[e],Ti.mp z⟩
 have a1:=um (v.2++[pr2 t]);simp only[LwE,bD,tgT,aQ,dh,tgN,au,az,clean,aB,aA,aG,T_,UJ,VB,and_self,Ud,aO,Us,U5,Nat.reduceAdd];refine bf (λρ=>ρ=LwE js h (bH .scr .frz ks (adj js js.length)) fs .scr hs (some (wM .own gs)) (some (.str v.1)) (some (.tup [.int t.1,.int t.2.1])) (some (.str t.2.2)) (some (pT (v.2++[pr2 t])))) (λQ q=>?_) ?_
 .simp[bI,e2,aq,RB,view,dw,b1,eAp,ak,aJ,aZ,b0,aO,cW,aG,tgN,au,az,aB,aA,a1.1,a1.2.1,clean]
  exact q _ rfl
 rintro _ rfl;by_cases a3:t.2.2∈fs.map (·.1)
 .simp[LwE,sIf,mU,eB,e2,aq,Dj,view,yl,isB,aO,aG,w_ite,a3,fY]
  exact q _ ⟨gs,_,_,_,rfl,U.skip a3 λw N s a6 z=>(step w N s a6 z).imp id And.right⟩
 .have ni1:dD (.str t.2.2) (wM .brw fs)=some (.bl true):=by rw[yl,T8 a3];rfl
  by_cases a0:t.2.2∈gs.map (·.1)
  .have ni2:dD (.str t.2.2) (wM .brw gs)=some (.bl false):=by rw[yl,Vm a0];rfl
   obtain⟨w0,a8,a9⟩:=Ih (m:=.brw) a0;have a5:=LC (gs:=gs) (x:=t.2.2) (w:=v.2++[pr2 t]) U.n a0 (by omega);cases O:ltP (v.2++[pr2 t]) w0 with
   |true=>
    have a4:t7 (pT (v.2++[pr2 t])) (pT w0)=some (.bl true):=by rw[Mj,O]
    simp[LwE,sIf,mU,eOr,eB,e2,aq,Dj,view,dw,ni1,ni2,a9,a1.2.2.1,a4,isB,aO,aG,w_ite,bI,gY,fj,upS,dg,cB,a5,au,az,aB,aA,a1.1,a1.2.1,clean,cW];exact q _ ⟨vZ gs t.2.2 (v.2++[pr2 t]),_,_,_,rfl,U.set Z a2 a7 a3 a8 O step⟩
   |false=>
    have a4:t7 (pT (v.2++[pr2 t])) (pT w0)=some (.bl false):=by rw[Mj,O]
    simp[LwE,sIf,mU,eOr,eB,e2,aq,Dj,view,dw,ni1,ni2,a9,a1.2.2.1,a4,isB,aO,aG,w_ite,fY];exact q _ ⟨gs,_,_,_,rfl,U.keep Z a2 a8 O step⟩
  .have ni2:dD (.str t.2.2) (wM .brw gs)=some (.bl true):=by rw[yl,T8 a0];rfl
   have a5:=Hu (us:=gs) (x:=t.2.2) (ps:=v.2++[pr2 t]) a0 (by omega);simp[LwE,sIf,mU,eOr,eB,e2,aq,Dj,view,dw,ni1,ni2,a1.2.2.1,isB,aO,aG,w_ite,bI,gY,fj,upS,dg,cB,a5,au,az,aB,aA,a1.1,a1.2.1,clean,cW];exact q _ ⟨gs++[(t.2.2,v.2++[pr2 t])],_,_,_,rfl,U.add a2 a7 a3 a0 step⟩
theorem JS(U:Bes ks (adj js js.length))(hB:bL [.lst .frz (js.map jD)]=some (bH .own .own ks (adj js js.length)))(hh:h∈ns)(V:∀j∈js,j.1∈ns/\j.2.1∈ns)(Y:ns.length<=1000):Wp (bA [.lst .frz (js.map jD),.str h]) λd=>∃us,d=wM .own us/\(ky us).Nodup/\Lst (adj js js.length) h us:=by
 have b4:∀y:Str,∀t∈adj js js.length y,t.2.2∈ns:=λy t ht=>by
  obtain⟨n,j,_,h2,O⟩:=(qM js y js.length).mp ht;rcases O with⟨_,rfl⟩|⟨_,rfl⟩
  .exact(V j (T9 h2)).2
  .exact(V j (T9 h2)).1
 have a6:nR [((Ub h:Key),D.tup [])]=some (wM .own [(h,[])]):=by
  unfold nR;rw[Tz (by simp)];rfl
 have b8:fz (.lst .frz (js.map jD))= .lst .frz (js.map jD):=by simp[fz,uA,mkF]
 have b1:cM (bH .own .own ks (adj js js.length))=true:=by
  have O:∀l:List Tt,bG (l.map bD)=true:=by
   intro l
   induction l with
   |nil=>rfl
   |cons p r Z=>rw[TF,bG,Z];rfl
  have F:∀l:List Str,bG (l.map λy=>D.lst .own ((adj js js.length y).map bD))=true:=by
   intro l
   induction l with
   |nil=>rfl
   |cons p r Z=>rw[TF,bG,Z];simp[cM,O]
  simp[bH,cM,F]
 have b5:aB (bH .own .own ks (adj js js.length))=true/\aA (bH .own .own ks (adj js js.length))=true:=by
  constructor
  .simp only[bH,aB];rw[cF λd hd=>by obtain⟨y,_,rfl⟩:=Tp.mp hd;simp[aB,Mg]];rfl
  .simp only[bH,aA];rw[cI λd hd=>by obtain⟨y,_,rfl⟩:=Tp.mp hd;simp[aA,Mp]];rfl
 have a7:cV bL [.lst .frz (js.map jD)]=some (bH .own .own ks (adj js js.length)):=call_of (by simpa[fzL,b8]using hB) b1;have c3:view false (.lst .frz (js.map jD))= .lst .frz (js.map jD):=by simp[view,nW,mkV]
 simp only[bA,fnP,en0,T_,UJ,TF,U7,U3,Ud,aO,Nat.reduceAdd,Nat.reduceSub,Ug,List.nil_append];refine bf (λρ=>ρ=[some (.lst .frz (js.map jD)),some (.str h),some (bH .own .own ks (adj js js.length)),none,none,none,none,none,none,none]) (λQ q=>?_) ?_
 .simp[bI,eAp,ak,aJ,aq,c3,a7,aO,cW,aG,tgN,clean,b5.1,b5.2]
  exact q _ rfl
 rintro _ rfl;refine bf (λρ=>ρ=[some (.lst .frz (js.map jD)),some (.str h),some (bH .own .own ks (adj js js.length)),some (wM .own [(h,[])]),none,none,none,none,none,none]) (λQ q=>?_) ?_
 .simp_arith[cO,iV,gM,iz,gQ,qu,iU,gLt,gGt,gGe,gIx,bK,aZ,dZ,wI,mF,jh,gIs,iZ,atI,ixN,aW,cC,gSl,nF,fW,nq,jK,qi,cg,a6]
  exact⟨Hj (.inl rfl),q _ rfl⟩
 rintro _ rfl;refine bf (λρ=>ρ=LwE js h (bH .own .own ks (adj js js.length)) [(h,[])] .own [(h,[])] none none none none none) (λQ q=>?_) ?_
 .simp_arith[cO,iV,gM,iz,gQ,qu,iU,gLt,gGt,gGe,gIx,bK,aZ,dZ,wI,mF,jh,gIs,iZ,atI,ixN,aW,cC,gSl,nF,fW,nq,jK,qi,cg,a6]
  exact⟨Hj (.inl rfl),q _ rfl⟩
 rintro _ rfl;refine bf (λρ=>∃(B:D)(m:Mk)(fs:List Uw)(d:Nat)(x5 x6 x7 x8 x9:Option D),ρ=LwE js h B fs m [] x5 x6 x7 x8 x9/\By (adj js js.length) ns h fs [] d) (λQ q=>?_) ?_
 .refine qF (LwI js ns ks h) ns.length ?_ 1000000 0 _ ⟨_,_,_,_,_,_,_,_,_,rfl,.inl rfl,.inl rfl,By.one hh⟩ (by omega)
  rintro d ρ ⟨B,m,fs,hs,x5,x6,x7,x8,x9,rfl,c2,N,hd⟩;have b2:view false (wM m hs)=wM (mkV false m) hs:=by simp only[wM,view,Cv]
  by_cases a5:hs=[]
  .subst a5
   simp[LwE,pR,eB,e2,aq,b2,eAp,aJ,tZ,Mf,isB,cW,aO,aG];exact q _ ⟨B,m,fs,d,x5,x6,x7,x8,x9,rfl,hd⟩
  .have hlh:(hs.length !=0)=true:=by simpa using a5
   have c7:fs.length<=ns.length:=by
    have:=mG hd.n hd.i;rwa[eG]at this
   have c8:=hd.z a5;simp only[LwE,pR,eB,e2,aq,b2,eAp,aJ,tZ,Mf,hlh,isB,cW,aO,aG,Uh,Ul,S8,Ux,Ud];refine⟨by omega,?_⟩;refine bf (λρ=>ρ=LwE js h B fs m hs (some (wM .own [])) x6 x7 x8 x9) (λQ q=>?_) ?_
   .simp[bI,eAp,aJ,tZ,cW,aO,aG,tgN,clean,aB,aA,au,az]
    exact q _ rfl
   rintro _ rfl;refine bf (λρ=>∃(gs:List Uw)(x6 x7 x8 x9:Option D),ρ=LwE js h (bH .scr .frz ks (adj js js.length)) fs .scr hs (some (wM .own gs)) x6 x7 x8 x9/\Bz (adj js js.length) fs hs gs λ_ _=>True) (λQ q=>?_) ?_
   .obtain⟨m2,hm2,hfB⟩:∃m2,(m2= .frz∨m2= .scr)/\fz B=bH m2 .frz ks (adj js js.length):=by
     rcases c2 with rfl|rfl
     .exact⟨.frz,.inl rfl,by rw[Hb];rfl⟩
     .exact⟨.scr,.inr rfl,by rw[Hb];rfl⟩
    have b7:mkS m2= .scr:=by rcases hm2 with rfl|rfl<;>rfl
    have c6:fz (wM m hs)=wM .frz hs:=QX (by rcases N with rfl|rfl<;>decide);simp only[sFz,qZ,LwE,Uh,Ul,S8,hfB,c6,Us,U5];have b9:∀x:Str,∀y7 y8 y9 gs,itS (eMt lr (aq false 2) (ak (aq false 6) (ak (eAp bK aJ) aJ))) (LwE js h (bH .scr .frz ks (adj js js.length)) fs .scr hs (some (wM .own gs)) (some (.str x)) y7 y8 y9)=some (true,(adj js js.length x).map bD):=λx y7 y8 y9 gs=>by
     obtain⟨m',c5,e⟩:=Kw (m:=.scr) U x;simp only[itS,eMt,aq,LwE,Uh,Ul,RQ (m:=.scr) rfl,ak,eAp,aJ,bK,view,S8];refine(congrArg (λo=>Option.bind o eF) e).trans ?_;rcases c5 with rfl|rfl<;>simp[eF,clean,aB,aA,Mg,Mp,Ru]
    have c0:Wp (forL (tgN 6) (iD (itS (eMt lr (aq false 2) (ak (aq false 6) (ak (eAp bK aJ) aJ))))
      (tgT 2 (aQ (tgN 7) (aQ (tgN 8) dh)))
      (a_
       (bI (e2 cO (e2 gIx (aq false 4) (aq false 6)) (eAp aZ (ak (aq false 7) aJ))) (tgN 9))
       (sIf
        (mU (eB (e2 dD (aq false 8) (aq false 3)))
         (eOr (eB (e2 dD (aq false 8) (aq false 5)))
          (eB (e2 t7 (aq false 9) (e2 gIx (aq false 5) (aq false 8))))))
        (bI (aq false 9) (gY cC 5 (fj 5) (aq false 8))) fY))) ((ky hs).map D.str) (LwE js h (bH .scr .frz ks (adj js js.length)) fs .scr hs (some (wM .own [])) (x6.map toS) (x7.map toS) (x8.map toS) (x9.map toS))) λr=>∃I,r= .nx I/\LwJ js ks h fs hs hs.length I:=by
     refine iT (LwJ js ks h fs hs) ⟨[],_,_,_,_,rfl,Bz.nil λv t ⟨i',h1,_⟩=>by omega⟩ ?_ (λρ a4=>⟨ρ,rfl,by rw[Tv,eG]at a4;exact a4⟩);rintro i dd ρ hi ⟨gs,y6,y7,y8,y9,rfl,a1⟩;rw[List.getElem?_map,ky,List.getElem?_map]at hi;cases a3:hs[i]? with
     |none=>rw[a3]at hi;cases hi
     |some v=>
      obtain rfl:D.str v.1=dd:=by rw[a3]at hi;simpa using hi
      have c4:tgN 6 (.str v.1) (LwE js h (bH .scr .frz ks (adj js js.length)) fs .scr hs (some (wM .own gs)) y6 y7 y8 y9)=some (LwE js h (bH .scr .frz ks (adj js js.length)) fs .scr hs (some (wM .own gs)) (some (.str v.1)) y7 y8 y9):=rfl;rw[c4,aG];simp only[iD,b9,aO,aG,Ud];refine iT (LwK js ks h fs hs i v) ⟨gs,_,_,_,rfl,a1.mono λw _ s _ z _=>z.resolve_right λz=>by simp at z⟩ ?_ ?_
      .rintro k e ρ hk a4
       rw[List.getElem?_map]at hk;cases a8:(adj js js.length v.1)[k]? with
       |none=>rw[a8]at hk;cases hk
       |some t=>
        obtain rfl:bD t=e:=by rw[a8]at hk;simpa using hk
        exact Kg hd Y a3 a8 a4 (λI h=>h) (λy _ t ht=>b4 y t ht)
      .rintro ρ ⟨gs2,z7,z8,z9,rfl,hbz2⟩
       rw[Tv,YZ]at hbz2;refine⟨gs2,_,_,_,_,rfl,hbz2.mono λw _ s b0 ⟨i',h1,h2⟩ _=>?_⟩;by_cases e:i'=i
       .subst e
        rw[a3]at h2;cases h2;exact .inr ⟨rfl,b0⟩
       .exact .inl ⟨i',by omega,h2⟩
    obtain⟨r,er,I,rfl,gs,y6,y7,y8,y9,rfl,a1⟩:=c0;have hD:uD 4 (tgN 6) (iD (itS (eMt lr (aq false 2) (ak (aq false 6) (ak (eAp bK aJ) aJ))))
      (tgT 2 (aQ (tgN 7) (aQ (tgN 8) dh)))
      (a_
       (bI (e2 cO (e2 gIx (aq false 4) (aq false 6)) (eAp aZ (ak (aq false 7) aJ))) (tgN 9))
       (sIf
        (mU (eB (e2 dD (aq false 8) (aq false 3)))
         (eOr (eB (e2 dD (aq false 8) (aq false 5)))
          (eB (e2 t7 (aq false 9) (e2 gIx (aq false 5) (aq false 8))))))
        (bI (aq false 9) (gY cC 5 (fj 5) (aq false 8))) fY))) [some (.lst .frz (js.map jD)),some (.str h),some (bH m2 .frz ks (adj js js.length)),some (wM .own fs),some (wM .frz hs),some (wM .own []),x6,x7,x8,x9]=some (.nx (LwE js h (bH .scr .frz ks (adj js js.length)) fs .scr hs (some (wM .own gs)) y6 y7 y8 y9)):=by
     have e1:([some (.lst .frz (js.map jD)),some (.str h),some (bH m2 .frz ks (adj js js.length)),some (wM .own fs),some (wM .frz hs),some (wM .own []),x6,x7,x8,x9]:En).map (aa3 toS)=LwE js h (bH .scr .frz ks (adj js js.length)) fs .scr hs (some (wM .own [])) (x6.map toS) (x7.map toS) (x8.map toS) (x9.map toS):=by
      simp only[TF,U7,Ux,Qg,Kc,b7,Pk,LwE];rfl
     have e2:((hs.map (·.1)).map (Ub:Str->Key)).map kD=(ky hs).map D.str:=by rw[TX];rfl
     have e3:=er;rw[←e1,←e2]at e3;unfold uD;simp only[Uh,Ul,wM];simp only[wM]at e3;rw[e3]
    rw[hD,aG];exact q _ ⟨gs,y6,y7,y8,y9,rfl,a1.mono λw hw s b0 _ _=>let⟨i,hi,e⟩:=VN hw;⟨i,hi,by rw[Td hi,e]⟩⟩
   rintro _ ⟨gs,y6,y7,y8,y9,rfl,a1⟩;have a0:=hd.next a1 (λv _ t ht=>b4 v t ht) a5;have c1:(fs++gs).length<=ns.length:=by
    have:=mG a0.n a0.i;rwa[eG]at this
   have b3:=O2 a0.n (by rw[Ui]at c1;omega);have b6:fz (wM .own gs)=wM .frz gs:=QX (by decide);have a2:=Hj (us:=gs) (m:=.frz) (.inr rfl);have a9:view false (wM .frz gs)=wM .frz gs:=Rk;refine bf (λρ=>ρ=LwE js h (bH .scr .frz ks (adj js js.length)) (fs++gs) .scr hs (some (wM .frz gs)) y6 y7 y8 y9) (λQ q=>?_) ?_
   .simp[LwE,sFz,qZ,b6,mL,pF,fj,ak,aJ,aq,a9,upS,dg,cB,b3,au,az,a2.1,a2.2,cW,aO,aG]
    exact q _ rfl
   rintro _ rfl;simp[LwE,bI,aq,a9,tgN,clean,a2.1,a2.2,cW,aO,aG];exact⟨_,.frz,fs++gs,gs,_,_,_,_,_,rfl,.inr rfl,.inr rfl,a0⟩
 rintro _ ⟨B,m,fs,d,x5,x6,x7,x8,x9,rfl,hd⟩;simp[LwE,jf,aG];exact⟨fs,rfl,hd.n,hd.fin⟩
theorem Ck:∀ps:List Pt,kh (ps.map ptD)=true
 |[]=>rfl
 |p::r=>by simp[kh,ptD,m_,Ck r]
theorem xR:∀l:List Jt,kh (l.map jD)=true
 |[]=>rfl
 |p::r=>by simp[kh,jD,m_,xR r]
theorem m7:∀ds:List D,dtL ds=ds.map dt
 |[]=>rfl
 |d::r=>by rw[dtL,m7 r];rfl
theorem rC{P:α->α->Prop}:∀{l:List α},(∀x∈l,P x x)->∀p∈l.zip l,P p.1 p.2
 |[],_,p,h=>by simp at h
 |x::r,hl,p,h=>by
  rw[abz]at h;rcases Tf.mp h with rfl|z
  .exact hl x (by simp)
  .exact rC (λy V=>hl y (by simp[V])) p z
theorem xO(ps:List Pt):eqD (dt (pT ps)) (dt (pT ps))=true:=by
 simp only[pT,dt,m7,eqD]
 induction ps with
 |nil=>rfl
 |cons p r Z=>simp only[TF,eqL,Z,YQ];simp[ptD,dt,dtL,eqD,eqL]
theorem Qn(ps:List Pt):gNe (pT ps) (pT ps)=some (.bl false):=by
 unfold gNe;have h1:m_ (pT ps)=true:=by simpa[pT,m_]using Ck ps
 have Y:Alk (dt (pT ps)) (dt (pT ps)):=by
  simp only[pT,dt,m7];refine .deepT (rC λx F=>?_);obtain⟨y,V,rfl⟩:=Tp.mp F;obtain⟨p,_,rfl⟩:=Tp.mp V;exact⟨_,_,rfl,rfl,λq B=>by simp[dtL,dt]at B;rcases B with rfl|rfl<;>exact Sc.int _ _⟩
 rw[Tz ⟨h1,h1,Y⟩,xO];rfl
theorem Ql:gNe .non .non=some (.bl false):=by
 unfold gNe;rw[Tz ⟨rfl,rfl,.sc .non⟩];rfl
theorem QB{m':Mk}(js:List Jt):gNe (.lst m (js.map jD)) (.lst m' (js.map jD))=some (.bl false):=by
 unfold gNe;have h1:∀m,m_ (.lst m (js.map jD))=true:=λm=>by simpa[m_]using xR js
 have Y:Alk (dt (.lst m (js.map jD))) (dt (.lst m' (js.map jD))):=by
  simp only[dt,m7];refine .deep (rC λx F=>?_);obtain⟨y,z,rfl⟩:=Tp.mp F;obtain⟨p,_,rfl⟩:=Tp.mp z;exact⟨_,_,rfl,rfl,λq B=>by simp[jD,dtL,dt]at B;rcases B with rfl|rfl|rfl<;>first|exact Sc.str _ _|exact Sc.int _ _⟩
 have V:∀l:List Jt,eqL ((l.map jD).map dt) ((l.map jD).map dt)=true:=by
  intro l
  induction l with
  |nil=>rfl
  |cons p r Z=>simp only[TF,eqL,Z,YQ];simp[jD,dt,dtL,eqD,eqL]
 have:eqD (dt (.lst m (js.map jD))) (dt (.lst m' (js.map jD)))=true:=by
  simp only[dt,m7,eqD];exact V js
 rw[Tz ⟨h1 m,h1 m',Y⟩,this];rfl
def RtI(js:List Jt)(a b:Str)(v:D)(k:Nat)(ρ:En):Prop:=∃z O:Option D,ρ=[some (.lst .frz (js.map jD)),some (.str a),some (.str b),some v,z,O]
theorem J5(Y:a∈ns)(U:b∈ns)(V:∀j∈js,j.1∈ns/\j.2.1∈ns)(hl:ns.length<64)(b3:js.length<=200):cH [.lst .frz (js.map jD),.str a,.str b]=some (.bl true):=by
 have b0:(jP (a::b::ndl js)).length<64:=by
  have:=mG (wz (a::b::ndl js)) (ns:=ns) λx F=>by
   rw[ym]at F;rcases Tf.mp F with rfl|F
   .exact Y
   rcases Tf.mp F with rfl|F
   .exact U
   obtain⟨j,h1,h2⟩:=List.mem_flatMap.mp F;simp at h2;rcases h2 with rfl|rfl
   .exact(V j h1).1
   .exact(V j h1).2
  omega
 obtain⟨dB,qB,ks,rfl,a6⟩:=Fv (JJ.lst js) (by omega);obtain⟨dL,qL,us,rfl,a2,a3⟩:=JS a6 qB Y V (by omega);have vs:∀x:Str,view false (.str x)= .str x:=λ_=>rfl;have b5:fz (.lst .frz (js.map jD))= .lst .frz (js.map jD):=by simp[fz,uA,mkF]
 have a4:view false (.lst .frz (js.map jD))= .lst .frz (js.map jD):=by simp[view,nW,mkV]
 have hL:cV bA [.lst .frz (js.map jD),.str a]=some (wM .own us):=call_of (by simpa[fzL,fz,uA,mkF]using qL) (Ab us);obtain⟨w,N,a8,a1,a9,b4,a0⟩:∃w:D,pB (wM .own us) [.str b]=some w/\(∀J,JJ J js->bz [J,.str a,.str b]=some w)/\(aB w=true/\aA w=true)/\gNe w w=some (.bl false)/\(iZ w=true∨(iZ w=false/\qQ [w,.ty "tuple"]=some (.bl true)))/\view false w=w/\cM w=true:=by
  have same:∀J,JJ J js->∃vs,(ky vs).Nodup/\Lst (adj js js.length) a vs/\Wp (bz [J,.str a,.str b]) λd=>(∃ps,(b,ps)∈vs/\d=pT ps)∨(b∉ky vs/\d= .non):=λJ hJ=>Sq hJ b3 b0;rcases Cu (us:=us) (m:=.own) (x:=b) (by decide)with⟨ps,g1,g2⟩|⟨g1,g2⟩
  .refine⟨pT ps,g2,λJ hJ=>?_,⟨(um ps).1,(um ps).2.1⟩,Qn ps,.inr ⟨rfl,rfl⟩,(um ps).2.2.1 false,?_⟩
   .obtain⟨vs,v1,v2,d,e,h⟩:=same J hJ
    rcases h with⟨B,h1,rfl⟩|⟨h1,rfl⟩
    .have:=a3.eq v2 v1 g1 a2
     rw[e,sG v1 this h1]
    .exact absurd (Tp.mpr ⟨_,a3.eq v2 v1 g1 a2,rfl⟩) h1
   .have h2:∀l:List Pt,bG (l.map ptD)=true:=by
     intro l
     induction l with
     |nil=>rfl
     |cons p r Z=>rw[TF,bG,Z];rfl
    simp[pT,cM,h2]
  .refine⟨.non,g2,λJ hJ=>?_,⟨rfl,rfl⟩,Ql,.inl rfl,rfl,rfl⟩
   obtain⟨vs,v1,v2,d,e,h⟩:=same J hJ;rcases h with⟨B,h1,rfl⟩|⟨h1,rfl⟩
   .exact absurd (Tp.mpr ⟨_,v2.eq a3 a2 h1 v1,rfl⟩) g1
   .exact e
 have hF:∀J,JJ J js->cV bz [J,.str a,.str b]=some w:=λJ hJ=>call_of (by simpa[fzL,fz,hJ.f]using a8 J hJ) a0.2;apply Wp.eq;simp only[cH,fnP,en0,T_,UJ,TF,U7,U3,Ud,aO,Nat.reduceAdd,Nat.reduceSub,Ug,List.nil_append];refine bf (λρ=>RtI js a b w 0 ρ) (λQ q=>?_) ?_
 .simp only[bI,eMt,eAp,ak,aJ,aq,Uh,Ul,a4,vs,hL,N,S8,aO,cW,aG,tgN,clean,a1.1,a1.2,VB,Ud,Us,U5]
  exact q _ ⟨_,_,rfl⟩
 rintro _ ⟨y4,y5,rfl⟩;refine bf (λρ=>RtI js a b w 0 ρ) (λQ q=>?_) ?_
 .have hit:itS (eAp aZ (ak (eAp kW (ak (aq false 0) aJ)) (ak (eAp fW (ak (aq false 0) aJ)) (ak (eAp kW (ak (aq false 0) aJ)) aJ)))) [some (.lst .frz (js.map jD)),some (.str a),some (.str b),some w,y4,y5]=some (true,[.lst .frz (js.map jD),.tup (js.map jD),.lst .frz (js.map jD)]):=by
   simp[itS,eAp,ak,aJ,aq,a4,kW,fW,aZ,eF,clean,aB,aA,au,az,nG,j8,gZ,fzo,mkO,xW]
  simp only[iD,hit,aO,aG,Ud];refine iT (RtI js a b w) ⟨y4,y5,rfl⟩ ?_ (λρ h=>q _ h);rintro k d ρ I ⟨x4,O,rfl⟩;obtain⟨hd,a5⟩:JJ d js/\∃m,kW [d]=some (.lst m (js.map jD)):=by
   have:d= .lst .frz (js.map jD)∨d= .tup (js.map jD):=by
    have:=T9 I;have:d=D.lst Mk.frz (List.map jD js)∨d=D.tup (List.map jD js)∨d=D.lst Mk.frz (List.map jD js):=by simpa using this
    rcases this with z|z|z
    .exact .inl z
    .exact .inr z
    .exact .inl z
   rcases this with rfl|rfl
   .exact⟨JJ.lst js,_,rfl⟩
   .exact⟨JJ.tup js,_,rfl⟩
  obtain⟨m,a5⟩:=a5;have b2:tgN 4 d [some (.lst .frz (js.map jD)),some (.str a),some (.str b),some w,x4,O]=some [some (.lst .frz (js.map jD)),some (.str a),some (.str b),some w,some d,O]:=by
   simp[tgN,clean,hd.b,hd.o]
  rw[b2,aG];refine bf (λρ=>ρ=[some (.lst .frz (js.map jD)),some (.str a),some (.str b),some w,some d,some w]) (λQ q=>?_) ?_
  .simp only[bI,eAp,ak,aJ,aq,Uh,Ul,hd.v,vs,hF d hd,S8,aO,cW,aG,tgN,clean,a1.1,a1.2,VB,Ud,Us,U5]
   exact q _ rfl
  rintro _ rfl;have b1:=QB (m:=m) (m':=.frz) js;refine bf (λρ=>ρ=[some (.lst .frz (js.map jD)),some (.str a),some (.str b),some w,some d,some w]) (λQ q=>?_) ?_
  .simp[sIf,eOr,eB,e2,eAp,ak,aJ,aq,a0.1,a9,hd.v,a5,a4,b1,isB,aO,aG,w_ite,fY]
   exact q _ rfl
  rintro _ rfl;rcases b4 with hi|⟨hi,a7⟩
  .simp[sIf,mU,vB,qz,eB,e2,eAp,ak,aJ,eC,aq,a0.1,rA,hi,isB,aO,aG,w_ite,fY]
   exact⟨_,_,rfl⟩
  .simp[sIf,mU,vB,qz,eB,e2,eAp,ak,aJ,eC,aq,a0.1,rA,hi,a7,truth,isB,aO,cW,aG,w_ite,fY]
   exact⟨_,_,rfl⟩
 rintro _ ⟨x4,O,rfl⟩;simp[iW,eC,aO,aG,clean,aB,aA]
abbrev sd(z:List Int)(t:Int):D:=.dct .own [.inr "cells",.inr "turn"] [.lst .own (z.map D.int),.int t]
def Sd(n:Int)(d:D):Prop:=∃z t,d=sd z t/\z≠[]/\z.length<=63/\0<=t/\t<=n
theorem kc:cu [.inr "cells",.inr "turn"] (.inr "cells")=some 0:=by decide +kernel
theorem kt:cu [.inr "cells",.inr "turn"] (.inr "turn")=some 1:=by decide +kernel
theorem jM:∀z:List Int,au (z.map D.int)=true
 |[]=>rfl
 |c::r=>by simp[au,aB,jM r]
theorem jH:∀z:List Int,az (z.map D.int)=true
 |[]=>rfl
 |c::r=>by simp[az,aA,jH r]
theorem lK(b:Bool):∀z:List Int,dw b (z.map D.int)=z.map D.int
 |[]=>rfl
 |c::r=>by simp[dw,view,lK b r]
theorem vI{n:Nat}(h:k<n):ixN n (k:Int)=some k:=by
 unfold ixN;simp;omega
theorem GC{m:Int}(hd:Sd n d)(hn:n<1000000)(N:0<m)(V:m<1000000):Wp (aF [d,.int m]) λq=>∃(r:Int)(d':D),q=(.int r,[d',.int m])/\0<=r/\r<m/\Sd (n+1) d':=by
 obtain⟨z,t,rfl,O,Y,t0,t1⟩:=hd;have a0:0<z.length:=abj.mpr O;obtain⟨k,I,Z⟩:∃k:Nat,(t+1) % (z.length:Int)=(k:Int)/\k<z.length:=by
  have h1:=X_ (t+1) (show(z.length:Int)≠0 by omega);have h2:=Yk (t+1) (show(0:Int)<z.length by omega);exact⟨((t+1) % (z.length:Int)).toNat,by omega,by omega⟩
 have F:=vI Z;simp_arith[aF,cO,iV,gM,iz,gQ,qu,iU,gLt,gGt,gGe,gIx,bK,aZ,dZ,wI,mF,jh,gIs,iZ,atI,ixN,aW,cC,gSl,nF,fW,kc,kt,cg,gf,jM,jH,lK,I,F,a0,qK,N];refine⟨Z,?_⟩;rw[Td Z,aG];by_cases U:(1000000000000000000:Int)<=z[k]
 .rw[Tz U]
  refine⟨by omega,?_⟩;simp[ixP,kc,cg,kids,dg,cB,za,aG,w_ite,cW,Z];refine⟨_,_,⟨rfl,rfl⟩,X_ _ (by omega),Yk _ N,z.set k (z[k] / m),t+1,?_,by simpa using O,by simpa using Y,by omega,by omega⟩;simp only[sd,List.map_set]
 .rw[TQ U]
  have B:∀x:Int,0<=x % 2147483647/\x % 2147483647<2147483647:=λx=>⟨X_ _ (by decide),Yk _ (by decide)⟩;refine⟨⟨by omega,by omega⟩,⟨by have:=(B ((z[k] % 2147483629+(t+1)*(t+1)*7919+11)*48271)).1;omega,by have:=(B ((z[k] % 2147483629+(t+1)*(t+1)*7919+11)*48271)).2;omega⟩,_,_,⟨rfl,rfl⟩,X_ _ (by omega),Yk _ N,z,t+1,rfl,O,Y,by omega,by omega⟩
theorem dq{m:Int}{Q:D×List D->Prop}(hd:Sd n d)(hn:n<1000000)(N:0<m)(V:m<1000000)(h:∀r d',0<=r->r<m->Sd (n+1) d'->Q (.int r,[d',.int m])):Wp (aF [d,.int m]) Q:=by
 refine(GC hd hn N V).mono ?_;rintro _ ⟨r,d',rfl,h1,h2,O⟩;exact h r d' h1 h2 O
theorem vD{m:Int}(hd:Sd n d)(hn:n<1000000)(N:0<m)(V:m<1000000):∃r d',aF [d,.int m]=some (.int r,[d',.int m])/\0<=r/\r<m/\Sd (n+1) d':=by
 obtain⟨q,e,r,d',rfl,h⟩:=GC hd hn N V;exact⟨r,d',e,h⟩
theorem uZ:∀z:List Int,kh (z.map D.int)=true
 |[]=>rfl
 |c::r=>by simp[kh,m_,uZ r]
theorem J3{z:List Int}:gEq (.lst m (z.map D.int)) (.lst .own [])=some (.bl z.isEmpty):=by
 unfold gEq;have h1:=uZ z;rw[Tz ⟨by simpa[m_]using h1,rfl,.lst (by simp[dtL])⟩];cases z with
 |nil=>rfl
 |cons j r=>rfl
theorem Gr:cutD ds none (some (k:Int))=ds.take k:=by
 unfold cutD;rw[HT.sIx_none,HT.sIx_nat,aaM,Nat.sub_zero];rcases Nat.le_total k ds.length with h|h
 .rw[acb h]
 .rw[ab6 h,YZ,VH h]
theorem G7:cutD ds (some (k:Int)) none=ds.drop k:=by
 unfold cutD;rw[HT.sIx_none,HT.sIx_nat];rcases Nat.le_total k ds.length with h|h
 .rw[acb h,VH (by simp)]
 .rw[ab6 h,Wb,YJ h];simp
theorem Lf{ns:List Int}(Y:ns.length<=63):Wp (cG [.lst .scr (ns.map D.int)]) (Sd 0):=by
 have hs:cutD (ns.map D.int) none (some 63)=ns.map D.int:=by
  have:=Gr (ds:=ns.map D.int) (k:=63);rw[VH (by simpa using Y)]at this;exact this
 simp_arith[cG,cO,iV,gM,iz,gQ,qu,iU,gLt,gGt,gGe,gIx,bK,aZ,dZ,wI,mF,jh,gIs,iZ,atI,ixN,aW,cC,gSl,nF,fW,kW,jM,jH,lK,sO,hs,J3];cases ns with
 |nil=>exact⟨[7],0,rfl,by simp,by simp,by omega,by omega⟩
 |cons n r=>
  exact⟨n::r,0,rfl,by simp,Y,by omega,by omega⟩
def sV:List Str:=["b","aa","zebra","c","quartzes","ab","m","knows","d","mm","likes","z","a","ba","abcdefgh","y"]
theorem JT:vm "b aa zebra c quartzes ab m knows d mm likes z a ba abcdefgh y" " "=some sV:=by decide +kernel
theorem R6:sV.Nodup:=by decide +kernel
def Nm(n:Int)(q:D×List D):Prop:=∃(ns:List Str)(d':D),q=(.lst .own (ns.map D.str),[d'])/\(∀x∈ns,x∈sV)/\ns.Nodup/\ns.length<=14/\Sd (n+4) d'
theorem J0(hd:Sd n d)(hn:n<900000):Wp (cY [d]) (Nm n):=by
 obtain⟨z,d1,I,b0,b2,a2⟩:=vD hd (by omega) (show(0:Int)<5 by decide) (by decide);obtain⟨N,q,B,a7,a6,a1⟩:=vD a2 (by omega) (show(0:Int)<3 by decide) (by decide);obtain⟨O,d3,Z,a5,a9,a4⟩:=vD a1 (by omega) (show(0:Int)<8 by decide) (by decide);obtain⟨r4,d4,V,a8,b1,a0⟩:=vD a4 (by omega) (show(0:Int)<16 by decide) (by decide);have Y:((sV.map D.str).length:Int)=16:=rfl;simp_arith[cY,q_,JT,bK,cO,dZ,I,B,Z];obtain⟨mn,a3,U⟩:∃mn:Nat,gIx (D.lst Mk.own [D.int 4,D.int 5,D.int 6,D.int 7,D.int 8,D.int 6,D.int (10+z),D.int N]) (D.int O)=some (.int (mn:Int))/\mn<=14:=by
  have:O=0∨O=1∨O=2∨O=3∨O=4∨O=5∨O=6∨O=7:=by omega
  rcases this with rfl|rfl|rfl|rfl|rfl|rfl|rfl|rfl
  .exact⟨4,rfl,by omega⟩
  .exact⟨5,rfl,by omega⟩
  .exact⟨6,rfl,by omega⟩
  .exact⟨7,rfl,by omega⟩
  .exact⟨8,rfl,by omega⟩
  .exact⟨6,rfl,by omega⟩
  .exact⟨(10+z).toNat,by rw[show(((10+z).toNat:Nat):Int)=10+z by omega];rfl,by omega⟩
  .exact⟨N.toNat,by rw[show((N.toNat:Nat):Int)=N by omega];rfl,by omega⟩
 obtain⟨k,rfl⟩:∃k:Nat,r4=(k:Int):=⟨r4.toNat,by omega⟩;rw[a3,aG,cT,Y,V,aG];simp_arith[dI,cX,cT,gSl,cO,Gr,G7];have e5:((List.drop k (List.map D.str sV)++List.take k (List.map D.str sV)).take mn)=((sV.drop k++sV.take k).take mn).map D.str:=by
  rw[aba,Uy,List.map_drop,aba]
 have pm:(sV.drop k++sV.take k).Perm sV:=Y8.trans (by rw[Wf]);rw[e5];refine⟨by show 16-k+min k 16<=1000000;omega,⟨dI _,cX _⟩,_,d4,rfl,λx F=>pm.subset (XN F),?_,by rw[Vu];omega,by rw[show n+4=n+1+1+1+1 by omega];exact a0⟩;exact(abG _ _).nodup (pm.nodup_iff.mpr R6)
theorem BX:∀z:List Int,gZ (z.map D.int)=z.map D.int
 |[]=>rfl
 |c::r=>by simp[gZ,fzo,BX r]
theorem Sd.le{m:Int}(h:Sd n d)(N:n<=m):Sd m d:=by
 obtain⟨z,t,h1,h2,O,F,U⟩:=h;exact⟨z,t,h1,h2,O,F,by omega⟩
theorem Sd.cl(h:Sd n d):aB d=true/\aA d=true:=by
 obtain⟨z,t,rfl,_⟩:=h;simp[aB,aA,au,az,jM,jH]
def Jo(n:Int)(ns:List Str)(q:D×List D):Prop:=∃(js:List Jt)(d':D),q=(.lst .own (js.map jD),[d',.lst .frz (ns.map D.str)])/\(∀j∈js,j.1∈ns/\j.2.1∈ns)/\js.length<=2*ns.length/\Sd (n+1000) d'
def JoI(n:Int)(ns:List Str)(k:Nat)(acc:List D)(ρ:En):Prop:=∃(sp:List Int)(d':D),acc=sp.map D.int/\sp.length=k/\Sd (n+k) d'/\ρ=[some d',some (D.lst Mk.frz (List.map D.str ns)),none,none,none,none,none,none,none,none,none]
def JoE(ns:List Str)(sp:List Int)(js:List Jt)(d':D)(z O U F I q B:Option D):En:=[some d',some (D.lst Mk.frz (List.map D.str ns)),some (.lst .own (sp.map D.int)),some (D.lst Mk.own (js.map jD)),z,O,U,F,I,q,B]
def JoF(n:Int)(ns:List Str)(sp:List Int)(k:Nat)(ρ:En):Prop:=∃(js:List Jt)(d':D)(z O U F I q B:Option D),ρ=JoE ns sp js d' z O U F I q B/\(∀j∈js,j.1∈ns/\j.2.1∈ns)/\js.length=k/\Sd (n+30+8*k) d'
theorem zm{q:Jt}:List.set ((js++[j]).map jD) js.length (jD q)=(js++[q]).map jD:=by
 rw[←List.map_set,XC _ _ (Tg _),Wq];rfl
theorem Az(hd:Sd n d)(hn:n<900000)(hl:ns.length<=14):Wp (cz [d,.lst .frz (ns.map D.str)]) (Jo n ns):=by
 simp only[cz,fnI,en0,T_,UJ,TF,U7,U3,Ud,aO,Nat.reduceAdd,Nat.reduceSub,Ug,List.nil_append];refine bf (λρ=>∃(sp:List Int)(d':D),sp.length=ns.length/\Sd (n+14) d'/\ρ=[some d',some (D.lst Mk.frz (List.map D.str ns)),some (.lst .own (sp.map D.int)),none,none,none,none,none,none,none,none]) (λQ hQ=>?_) ?_
 .simp_arith[cT,CN,dI,cX]
  refine⟨by omega,Gd (JoI n ns) ⟨[],d,rfl,rfl,by simpa using hd,rfl⟩ ?_ ?_⟩
  .rintro i x acc ρ hi ⟨sp,d2,rfl,a2,s2,rfl⟩
   rw[List.getElem?_map]at hi;have b9:i<ns.length:=by
    rcases aby i ns.length with h|h
    .exact h
    .rw[We h]at hi;cases hi
   cases F:ns[i]? with
   |none=>simp[F]at hi
   |some y=>
    obtain rfl:D.str y=x:=by simpa[F]using hi
    simp_arith[aG];refine dq s2 (by omega) (by omega) (by omega) λr3 d3 p3 q3 N=>?_;simp_arith[iV];exact⟨sp++[r3-9],d3,by simp,by simp[a2],N.le (by push_cast;omega),rfl⟩
  .rintro ys ρ ⟨sp,d2,rfl,a2,s2,rfl⟩
   rw[Tv]at a2 s2;refine⟨⟨jM _,jH _⟩,hQ _ ⟨sp,d2,a2,s2.le (by omega),rfl⟩⟩
 rintro _ ⟨sp,d2,a2,s2,rfl⟩;refine bf (λρ=>∃(sp:List Int)(d':D),sp.length=ns.length/\Sd (n+15) d'/\ρ=[some d',some (D.lst Mk.frz (List.map D.str ns)),some (.lst .own (sp.map D.int)),none,none,none,none,none,none,none,none]) (λQ hQ=>?_) ?_
 .simp_arith[aG]
  refine dq s2 (by omega) (by omega) (by omega) λr3 d3 p3 q3 N=>?_;simp_arith[eq_int,lK,jM,jH];split
  .rw[BX]
   refine⟨by rw[Tv,a2];omega,?_⟩;rw[sH (p:=λ_=>true) (f:=λd=>match d with|.int k=>.int (k*50000000021)|_=>.non)]
   .rw[aG,filter_tt]
    have e5:List.map (λd=>match d with|D.int k=>D.int (k*50000000021)|_=>D.non) (sp.map D.int)=(sp.map λk=>k*50000000021).map D.int:=by
     rw[TX,TX];rfl
    rw[e5];exact⟨⟨jM _,jH _⟩,hQ _ ⟨_,d3,by simpa using a2,N.le (by omega),rfl⟩⟩
   .intro d hd
    obtain⟨k,I,rfl⟩:=Tp.mp hd;simp[tpN,aG,eTT,e2,aq,view,eC,gM]
  .exact hQ _ ⟨sp,d3,a2,N.le (by omega),rfl⟩
 clear s2 a2;rintro _ ⟨sp,d2,a2,s2,rfl⟩;refine bf (λρ=>ρ=[some d2,some (D.lst Mk.frz (List.map D.str ns)),some (.lst .own (sp.map D.int)),some (.lst .own []),none,none,none,none,none,none,none]) (λQ hQ=>?_) ?_
 .simp_arith[bK]
  exact hQ _ rfl
 rintro _ rfl;refine bf (λρ=>∃k,k<=2*ns.length/\JoF n ns sp k ρ) (λQ hQ=>?_) ?_
 .simp_arith[dZ,cT,cO,gM]
  refine dq s2 (by omega) (by omega) (by omega) λr5 d5 p5 q5 s5=>?_;simp_arith[aG];refine⟨by omega,iT (JoF n ns sp) ⟨[],d5,_,_,_,_,_,_,_,rfl,by simp,rfl,s5.le (by omega)⟩ ?_ ?_⟩
  .rintro k x ρ I ⟨js,d6,x4,x5,x6,x7,x8,x9,a3,rfl,a5,a6,s6⟩
   obtain⟨c1,rfl⟩:=qI I;have c3:0<ns.length:=by omega
   simp only[tgN,clean,aB,aA,VB,Ud,aG,JoE,Us,U5];have c0:(ns.map D.str).length=ns.length:=Tv _;have c2:(sp.map D.int).length=ns.length:=by rw[Tv,a2]
   refine bf (λρ=>∃(a b:Nat)(d':D),a<ns.length/\b<ns.length/\Sd (n+30+8*k+2) d'/\ρ=JoE ns sp js d' (some (.int k)) (some (.int a)) (some (.int b)) x7 x8 x9 a3) (λQ hQ=>?_) ?_
   .simp_arith[dZ,cT]
    refine dq s6 (by omega) (by omega) (by omega) λr7 d7 p7 q7 s7=>?_;simp_arith[dZ,cT];refine dq s7 (by omega) (by omega) (by omega) λr8 d8 p8 q8 s8=>?_;simp_arith[aG];refine hQ _ ⟨r7.toNat,r8.toNat,d8,by omega,by omega,s8.le (by omega),?_⟩;rw[show((r7.toNat:Nat):Int)=r7 by omega,show((r8.toNat:Nat):Int)=r8 by omega];rfl
   rintro _ ⟨a,b,d7,Y,U,s7,rfl⟩;have b6:∀c:Nat,c<ns.length->gIx (.lst .brw (sp.map D.int)) (.int (c:Int))=some (.int (sp[c]?.getD 0)):=λc O=>by
    have:c<sp.length:=by omega
    simp only[gIx,atI,Tv,vI this,S8,List.getElem?_map,Td this];rfl
   have b2:∀{m:Mk}(c:Nat)(O:c<ns.length),gIx (.lst m (ns.map D.str)) (.int (c:Int))=some (.str ns[c]):=λ{m} c O=>by
    simp only[gIx,atI,Tv,vI O,S8,List.getElem?_map,Td O];rfl
   refine bf (λρ=>∃st:Int,ρ=JoE ns sp js d7 (some (.int k)) (some (.int a)) (some (.int b)) (some (.int st)) x8 x9 a3) (λQ hQ=>?_) ?_
   .simp_arith[JoE,lK,b6 a Y,b6 b U,iV]
    exact hQ _ ⟨_,rfl⟩
   rintro _ ⟨st,rfl⟩;refine bf (λρ=>∃(st:Int)(d':D),Sd (n+30+8*k+4) d'/\ρ=JoE ns sp js d' (some (.int k)) (some (.int a)) (some (.int b)) (some (.int st)) x8 x9 a3) (λQ hQ=>?_) ?_
   .simp_arith[JoE]
    refine dq s7 (by omega) (by omega) (by omega) λr8 d8 p8 q8 s8=>?_;simp_arith[eq_int];split
    .refine dq s8 (by omega) (by omega) (by omega) λr9 d9 p9 q9 s9=>?_
     simp_arith[iV];exact hQ _ ⟨_,d9,s9.le (by omega),rfl⟩
    .exact hQ _ ⟨_,d8,s8.le (by omega),rfl⟩
   clear s7 d7 st;rintro _ ⟨st,d7,s7,rfl⟩;refine bf (λρ=>ρ=JoE ns sp (js++[(ns[a],ns[b],st)]) d7 (some (.int k)) (some (.int a)) (some (.int b)) (some (.int st)) x8 x9 a3) (λQ hQ=>?_) ?_
   .simp_arith[JoE,b2 a Y,b2 b U,aZ,cT,aW]
    refine⟨by omega,hQ _ ?_⟩;simp[JoE,jD]
   rintro _ rfl;generalize b7:(ns[a],ns[b],st)=j1;have a9:j1.1∈ns/\j1.2.1∈ns:=by subst b7;exact⟨Vw Y,Vw U⟩
   refine bf (λρ=>∃(w:Int)(d':D),Sd (n+30+8*k+5) d'/\ρ=JoE ns sp (js++[j1]) d' (some (.int k)) (some (.int a)) (some (.int b)) (some (.int st)) (some (.int w)) x9 a3) (λQ hQ=>?_) ?_
   .simp_arith[JoE]
    refine dq s7 (by omega) (by omega) (by omega) λr8 d8 p8 q8 s8=>?_;simp_arith[aG];refine hQ _ ⟨r8,d8,s8.le (by omega),?_⟩;simp[JoE]
   clear s7 d7;rintro _ ⟨w,d7,s7,rfl⟩;have a1:∀j∈js++[j1],j.1∈ns/\j.2.1∈ns:=λj V=>(S9.mp V).elim (a5 j) λz=>by rw[Ti.mp z];exact a9
   have Z:(js++[j1]).length=k+1:=by simp[a6]
   obtain⟨a0,a4⟩:∃a0,a0=js++[j1]:=⟨_,rfl⟩;have a7:∀q:Jt,cC (.lst .own (a0.map jD)) [.int (-1),jD q]=some (.lst .own ((js++[q]).map jD),.non):=λq=>by
    have b0:ixN (a0.map jD).length (-1)=some js.length:=by
     unfold ixN;rw[Tv,a4,Z];simp;omega
    simp only[cC,b0,Ux];rw[a4,zm]
   rw[←a4]at a1 Z⊢;have b3:∀{Q:Fl->Prop}{d7:D}{x9 a3:Option D}{st w:Int},Sd (n+30+8*k+5) d7->(∀(j2:Jt)(d':D),(j2.1∈ns/\j2.2.1∈ns)->Sd (n+30+8*k+6) d'->Q (.nx (JoE ns sp (js++[j2]) d' (some (.int k)) (some (.int a)) (some (.int b)) (some (.int st)) (some (.int w)) x9 a3)))->
     Wp (sIf (eB (e2 gEq (aq false 8) (eC (.int 0)))) (di (ee2 gIx (eUp (aq false 3)) (eIo aF [0] (cU (ak (eAp dZ (ak (aq false 3) aJ)) aJ)))) (gY cC 3 (fj 3) (e1 iU (eC (.int 1))))) fY (JoE ns sp a0 d7 (some (.int k)) (some (.int a)) (some (.int b)) (some (.int st)) (some (.int w)) x9 a3)) Q:=by
    intro Q d7 x9 a3 st w s7 hQ;simp_arith[JoE,eq_int,dZ,nW];split
    .rw[Z]
     refine dq s7 (by omega) (by omega) (by omega) λr8 d8 p8 q8 s8=>?_;obtain⟨j,V,_,b1⟩:=lG (f:=jD) (l:=a0) p8 (by rw[Z];exact q8);have hg:gIx (D.lst Mk.brw (List.map jD a0)) (D.int r8)=some (jD j):=b1;simp_arith[iU,nW,j8,hg,N6,PL,a7];have hz:=hQ j d8 (a1 j V) (s8.le (by omega));simpa[JoE]using hz
    .rw[a4]
     exact hQ j1 d7 a9 (s7.le (by omega))
   refine bf (λρ=>∃(j2:Jt)(d':D),(j2.1∈ns/\j2.2.1∈ns)/\Sd (n+30+8*k+6) d'/\ρ=JoE ns sp (js++[j2]) d' (some (.int k)) (some (.int a)) (some (.int b)) (some (.int st)) (some (.int w)) x9 a3) (λQ hQ=>b3 s7 λj2 d' h1 h2=>hQ _ ⟨j2,d',h1,h2,rfl⟩) ?_;clear b3 a7 a1 Z a4 a0;rintro _ ⟨j2,d8,b5,s8,rfl⟩;obtain⟨a0,a4⟩:∃a0,a0=js++[j2]:=⟨_,rfl⟩;have Z:a0.length=k+1:=by rw[a4];simp[a6]
   have a1:∀j∈a0,j.1∈ns/\j.2.1∈ns:=λj V=>by
    rw[a4]at V;exact(S9.mp V).elim (a5 j) λz=>by rw[Ti.mp z];exact b5
   have a7:∀q:Jt,cC (.lst .own (a0.map jD)) [.int (-1),jD q]=some (.lst .own ((js++[q]).map jD),.non):=λq=>by
    have b0:ixN (a0.map jD).length (-1)=some js.length:=by
     unfold ixN;rw[Tv,Z];simp;omega
    simp only[cC,b0,Ux];rw[a4,zm]
   rw[←a4];simp_arith[JoE,eq_int,dZ,nW];split
   .rw[Z]
    refine dq s8 (by omega) (by omega) (by omega) λr8 d9 p8 q8 s9=>?_;obtain⟨j,V,_,b1⟩:=lG (f:=jD) (l:=a0) p8 (by rw[Z];exact q8);have hg:gIx (D.lst Mk.brw (List.map jD a0)) (D.int r8)=some (jD j):=b1;have a8:=a7 (j.2.1,j.1,-j.2.2);have b8:jD j= .tup [.str j.1,.str j.2.1,.int j.2.2]:=rfl;have b4:jD (j.2.1,j.1,-j.2.2)= .tup [.str j.2.1,.str j.1,.int (-j.2.2)]:=rfl;rw[b4]at a8;simp_arith[iU,nW,j8,hg,b8,aZ,a8];exact⟨js++[(j.2.1,j.1,-j.2.2)],d9,_,_,_,_,_,_,_,by rw[JoE,Uy];rfl,λq B=>(S9.mp B).elim (a5 q) λz=>by rw[Ti.mp z];exact⟨(a1 j V).2,(a1 j V).1⟩,by simp[a6],s9.le (by push_cast;omega)⟩
   .exact⟨a0,d8,_,_,_,_,_,_,_,rfl,a1,Z,s8.le (by push_cast;omega)⟩
  .rintro ρ h
   rw[qG]at h;exact hQ _ ⟨_,by omega,h⟩
 rintro _ ⟨k,I,js,d6,x4,x5,x6,x7,x8,x9,a3,rfl,a5,a6,s6⟩;simp_arith[JoE];exact⟨js,d6,rfl,a5,by omega,s6.le (by omega)⟩
def Tw(n:Int)(m:Mk)(ns:List Str)(q:D×List D):Prop:=∃(a b:Str)(d':D),q=(.tup [.str a,.str b],[d',.lst m (ns.map D.str)])/\a∈ns++[("lone":Str)]/\b∈ns++[("lone":Str)]/\Sd (n+3) d'
theorem Rp(hd:Sd n d)(hn:n<900000)(hl:ns.length<=1000):Wp (cZ [d,.lst .frz (ns.map D.str)]) (Tw n .frz ns):=by
 have e5:List.map D.str ns++[D.str "lone"]=(ns++[("lone":Str)]).map D.str:=by simp
 have B:∀m:Mk,view false (.lst m (ns.map D.str))= .lst (mkV false m) (ns.map D.str):=λm=>by simp[view,cT]
 simp only[cZ,fnI,en0,T_,UJ,TF,U7,U3,Ud,aO,Nat.reduceAdd,Nat.reduceSub,Ug,List.nil_append];generalize a0:ns++[("lone":Str)]=ns2 at e5;have N:ns2.length=ns.length+1:=by rw[←a0];simp
 refine bf (λρ=>ρ=[some d,some (.lst .frz (ns.map D.str)),some (.lst .own (ns2.map D.str)),none,none]) (λQ hQ=>?_) ?_
 .simp_arith[bK,cO,cT]
  rw[e5];refine⟨?_,⟨dI _,cX _⟩,hQ _ rfl⟩;omega
 rintro _ rfl;refine bf (λρ=>∃(a:Str)(d':D),a∈ns2/\Sd (n+1) d'/\ρ=[some d',some (.lst .frz (ns.map D.str)),some (.lst .own (ns2.map D.str)),some (.str a),none]) (λQ hQ=>?_) ?_
 .simp_arith[dZ,cT]
  refine dq hd (by omega) (by omega) (by omega) λI z Z F s8=>?_;obtain⟨a,Y,_,O⟩:=lG (f:=D.str) (l:=ns2) Z F;have q:gIx (D.lst Mk.brw (List.map D.str ns2)) (D.int I)=some (D.str a):=O;simp_arith[q,cX];exact hQ _ ⟨a,z,Y,s8,rfl⟩
 rintro _ ⟨a,z,Y,s8,rfl⟩;refine bf (λρ=>∃(b:Str)(d':D),b∈ns2/\Sd (n+2) d'/\ρ=[some d',some (.lst .frz (ns.map D.str)),some (.lst .own (ns2.map D.str)),some (.str a),some (.str b)]) (λQ hQ=>?_) ?_
 .simp_arith[dZ,cT]
  refine dq s8 (by omega) (by omega) (by omega) λI z Z F s8=>?_;obtain⟨a,Y,_,O⟩:=lG (f:=D.str) (l:=ns2) Z F;have q:gIx (D.lst Mk.brw (List.map D.str ns2)) (D.int I)=some (D.str a):=O;simp_arith[q,cX];exact hQ _ ⟨a,z,Y,s8.le (by omega),rfl⟩
 rintro _ ⟨b,d9,U,s9,rfl⟩;simp_arith[bK];refine dq s9 (by omega) (by omega) (by omega) λI z Z F s8=>?_;simp_arith[eq_int,mF];rw[←a0]at Y U;by_cases V:I=0
 .simp_arith[V,gIx,atI,ixN,aZ]
  exact⟨a,a,z,rfl,Y,Y,s8.le (by omega)⟩
 .simp_arith[V,gIx,atI,ixN,aZ]
  exact⟨a,b,z,rfl,Y,U,s8.le (by omega)⟩
def Lo(n:Int)(mn:Nat)(q:D×List D):Prop:=∃(ns:List Str)(js:List Jt)(d':D),q=(.tup [.lst .own (ns.map D.str),.lst .own (js.map jD)],[d',.int (mn:Int)])/\ns.length=40/\(∀j∈js,j.1∈ns/\j.2.1∈ns)/\js.length=mn/\Sd (n+4*mn) d'
def LoE(mn:Nat)(ns:List Str)(js:List Jt)(d':D)(O U F:Option D):En:=[some d',some (.int (mn:Int)),some (.str "abcdefghijklmnopqrstuvwxyz"),some (.lst .own (ns.map D.str)),some (.lst .own (js.map jD)),O,U,F]
def LoF(n:Int)(mn:Nat)(ns:List Str)(k:Nat)(ρ:En):Prop:=∃(js:List Jt)(d':D)(O U F:Option D),ρ=LoE mn ns js d' O U F/\(∀j∈js,j.1∈ns/\j.2.1∈ns)/\js.length=k/\Sd (n+4*k) d'
theorem Lr:("abcdefghijklmnopqrstuvwxyz":Str).cps.toList.length=26:=by decide +kernel
theorem M8:("abcdefghijklmnopqrstuvwxyz":Str).length<=Te:=by decide +kernel
def one(n:Nat):Str:=⟨#[n]⟩
theorem Bh(n:Nat):(one n).length=1:=rfl
variable{i:Int}
theorem Fe(Z:0<=i)(h1:i<26):gIx (.str ("abcdefghijklmnopqrstuvwxyz":Str)) (.int i)=some (.str (one ((("abcdefghijklmnopqrstuvwxyz":Str).cps.toList[i.toNat]?).getD 0))):=by
 obtain⟨x,F,q,z⟩:=lG (f:=id) (l:=("abcdefghijklmnopqrstuvwxyz":Str).cps.toList) (i:=i) Z (by rw[Lr];exact h1);rw[Xp]at z;simp only[gIx];rw[Tz M8,q,z];rfl
def nmK(k:Int):Str:=one ((("abcdefghijklmnopqrstuvwxyz":Str).cps.toList[((7*k) % 26).toNat]?).getD 0)++rJ "q" (k / 26).toNat
theorem M6(Z:0<=i)(h1:i<100000)(Y:js.length<100000):∃F:List Jt,iH (.lst .own (js.map jD)) [.int i,jD j]=some (.lst .own (F.map jD),.non)/\F.length=js.length+1/\∀q∈F,q∈js∨q=j:=by
 refine⟨js.take (qm js.length i)++j::js.drop (qm js.length i),?_,?_,λq B=>?_⟩
 .simp only[iH,Tv]
  rw[Tz ⟨by omega,by omega,by omega⟩];simp[aba,List.map_drop]
 .have:=congrArg V8 (Wf (qm js.length i) js)
  simp only[Ui,T_]at this⊢;omega
 .rcases S9.mp B with z|z
  .exact .inl (XN z)
  .rcases Tf.mp z with z|z
   .exact .inr z
   .exact .inl (Ze z)
variable{f:En->Option (List D)}
theorem SQ{j:Int}(h:f ρ=some [.int j])(h1: -(2 ^ 62)<=j)(h2:j<2 ^ 62):o8 f ρ=some (true,h_ 0 j.toNat):=by
 unfold o8;rw[h,S8];exact Tz ⟨h1,h2⟩
theorem zR{n:Nat}(h:f ρ=some [.int n])(hn:n<=1000):o8 f ρ=some (true,h_ 0 n):=by
 have h1:(n:Int)<=1000:=by omega
 have:=SQ h (Zg (by decide) (Int.natCast_nonneg n)) (Int.lt_of_le_of_lt h1 (by decide));rwa[VL]at this
theorem Nq{mn:Nat}(hd:Sd n d)(hn:n<900000)(N:mn<=1000):Wp (du [d,.int (mn:Int)]) (Lo n mn):=by
 simp only[du,fnI,en0,T_,UJ,TF,U7,U3,Ud,aO,Nat.reduceAdd,Nat.reduceSub,Ug,List.nil_append];refine bf (λρ=>ρ=[some d,some (.int (mn:Int)),some (.str "abcdefghijklmnopqrstuvwxyz"),none,none,none,none,none]) (λQ hQ=>?_) ?_
 .simp_arith[aG]
  exact hQ _ rfl
 rintro _ rfl;refine bf (λρ=>∃ns:List Str,ns.length=40/\ρ=[some d,some (.int (mn:Int)),some (.str "abcdefghijklmnopqrstuvwxyz"),some (.lst .own (ns.map D.str)),none,none,none,none]) (λQ hQ=>?_) ?_
 .have hit:o8 (ak (eC (.int 40)) aJ) [some d,some (.int (mn:Int)),some (.str "abcdefghijklmnopqrstuvwxyz"),none,none,none,none,none]=some (true,h_ 0 40):=zR (n:=40) rfl (by omega)
  simp only[bI,rF,aO,cW,hit,aG];rw[Tz (by rw[qG];decide),cW];rw[sH (p:=λ_=>true) (f:=λd=>match d with|.int k=>.str (nmK k)|_=>.non)]
  .rw[aG,filter_tt,Le]
   have e5:(Ue 40).map (λ(k:Nat)=>D.str (nmK (k:Int)))=((Ue 40).map λ(k:Nat)=>nmK (k:Int)).map D.str:=by rw[TX];rfl
   show Wp (tgN 3 (D.lst Mk.own ((Ue 40).map (λ(k:Nat)=>D.str (nmK (k:Int))))) _) _;rw[e5];obtain⟨b2,a2⟩:∃l,l=(Ue 40).map λ(k:Nat)=>nmK (k:Int):=⟨_,rfl⟩;have a8:b2.length=40:=by rw[a2,Tv,Ys]
   rw[←a2];simp[tgN,clean,aB,aA,dI,cX,aG];exact hQ _ ⟨b2,a8,rfl⟩
  .intro x hx
   obtain⟨k,I,rfl⟩:=Jm hx;have B:(Yg "q").length=1:=by decide
   have hs:(3:Nat)<=Te:=by decide
   have a1:(k:Int) / 26=0∨(k:Int) / 26=1:=by omega
   have Z:(rJ "q" 0).length=0:=rfl;have h1:(rJ "q" 1).length=1:=by decide
   rcases a1 with a1|a1
   .have l1:∀c,(one c).length+(rJ (Yg "q") 0).length<=Te:=λc=>by rw[Bh,Z];omega
    simp[tpN,aG,eTT,e2,eC,aq,view,gU,mX,gM,gQ,iz,Fe (i:=7*(k:Int) % 26) (by omega) (by omega),cO,a1,B,l1,nmK]
   .have l1:∀c,(one c).length+(rJ (Yg "q") 1).length<=Te:=λc=>by rw[Bh,h1];omega
    simp[tpN,aG,eTT,e2,eC,aq,view,gU,mX,gM,gQ,iz,Fe (i:=7*(k:Int) % 26) (by omega) (by omega),cO,a1,B,l1,nmK]
 rintro _ ⟨ns,a7,rfl⟩;refine bf (λρ=>ρ=LoE mn ns [] d none none none) (λQ hQ=>?_) ?_
 .simp_arith[bK]
  exact hQ _ rfl
 rintro _ rfl;refine bf (LoF n mn ns mn) (λQ hQ=>?_) ?_
 .have hit:o8 (ak (aq false 1) aJ) (LoE mn ns [] d none none none)=some (true,h_ 0 mn):=zR (n:=mn) rfl N
  simp only[iD,aO,hit,aG,Ud];refine iT (LoF n mn ns) ⟨[],d,_,_,_,rfl,by simp,rfl,by simpa using hd⟩ ?_ ?_
  .rintro k x ρ I ⟨js,d6,O,U,F,rfl,a3,a5,s6⟩
   obtain⟨b7,rfl⟩:=qI I;simp only[tgN,clean,aB,aA,VB,Ud,aG,LoE,Us,U5];have a6:∀{m:Mk}(c:Int),0<=c->c<40->∃y∈ns,gIx (.lst m (ns.map D.str)) (.int c)=some (.str y):=λ{m} c Z h1=>by
    obtain⟨y,V,_,a4⟩:=lG (f:=D.str) (l:=ns) Z (by rw[a7];exact h1);exact⟨y,V,a4⟩
   refine bf (λρ=>∃(t:Int)(d':D),0<=t/\t<40/\Sd (n+4*k+1) d'/\ρ=LoE mn ns js d' (some (.int k)) (some (.int t)) F) (λQ hQ=>?_) ?_
   .simp_arith[gGt,mF,gQ,cO]
    refine dq s6 (by omega) (by omega) (by omega) λr8 d8 p8 q8 Y=>?_;have b0:=X_ (k:Int) (show(39:Int)≠0 by decide);have b1:(-18446744073709551616:Int)<r8/\r8<18446744073709551616:=by omega
    by_cases a9:38<(k:Int)
    .simp_arith[a9,mX,gM,cO,gQ,jh,b1]
     exact hQ _ ⟨_,d8,by split<;>omega,by split<;>omega,Y,rfl⟩
    .simp_arith[a9,mX,gM,cO,gQ,jh,b1]
     exact hQ _ ⟨_,d8,by split<;>omega,by split<;>omega,Y,rfl⟩
   rintro _ ⟨t,d7,t0,t1,s7,rfl⟩;obtain⟨y1,b6,b5⟩:=a6 (m:=.brw) ((k:Int) % 39) (by omega) (by omega);obtain⟨y2,a4,b3⟩:=a6 (m:=.brw) t t0 t1;refine bf (λρ=>∃(j:Jt)(d':D),(j.1∈ns/\j.2.1∈ns)/\Sd (n+4*k+2) d'/\ρ=LoE mn ns js d' (some (.int k)) (some (.int t)) (some (jD j))) (λQ hQ=>?_) ?_
   .simp_arith[LoE,gQ,cT,b5,b3]
    refine dq s7 (by omega) (by omega) (by omega) λr8 d8 p8 q8 Y=>?_;simp_arith[iV,aZ];exact hQ _ ⟨(y1,y2,r8-4),d8,⟨b6,a4⟩,Y.le (by omega),rfl⟩
   rintro _ ⟨j,d8,a0,Y,rfl⟩;refine bf (λρ=>∃(j:Jt)(d':D),(j.1∈ns/\j.2.1∈ns)/\Sd (n+4*k+3) d'/\ρ=LoE mn ns js d' (some (.int k)) (some (.int t)) (some (jD j))) (λQ hQ=>?_) ?_
   .simp_arith[LoE]
    refine dq Y (by omega) (by omega) (by omega) λr9 d9 p9 q9 s9=>?_;simp_arith[eq_int];split
    .simp_arith[jD,gIx,atI,ixN,iU,aZ]
     exact hQ _ ⟨(j.2.1,j.1,-j.2.2),d9,⟨a0.2,a0.1⟩,s9.le (by omega),rfl⟩
    .exact hQ _ ⟨j,d9,a0,s9.le (by omega),rfl⟩
   clear Y d8 a0 j;rintro _ ⟨j,d8,a0,Y,rfl⟩;simp_arith[yo,LoE,cO];refine dq Y (by omega) (by omega) (by omega) λr9 d9 p9 q9 s9=>?_;obtain⟨b4,e6,h6,h7⟩:=M6 (js:=js) (j:=j) p9 (by omega) (by omega);simp_arith[N6,PL,RX,e6];exact⟨b4,d9,_,_,_,rfl,λq B=>(h7 q B).elim (a3 q) λz=>by rw[z];exact a0,by omega,s9.le (by push_cast;omega)⟩
  .rintro ρ h
   rw[qG]at h;exact hQ _ h
 rintro _ ⟨js,d6,O,U,F,rfl,a3,a5,s6⟩;simp_arith[sW,LoE];exact⟨ns,js,d6,rfl,a7,a3,a5,s6⟩
theorem zb:∀z:List Int,bG (z.map D.int)=true
 |[]=>rfl
 |c::r=>by rw[TF,bG,zb r];rfl
theorem Sd.own(h:Sd n d):cM d=true:=by
 obtain⟨z,t,rfl,_⟩:=h;simp[cM,bG,zb]
def LgI(S:D)(k:Nat)(ρ:En):Prop:=∃(d:D)(N q z O U F:Option D),ρ=[some S,some d,N,q,z,O,U,F]/\Sd (1+2000*k) d
def LgE(S d N:D)(m:Mk)(ns:List Str)(js:List Jt)(O U F:Option D):En:=[some S,some d,some N,some (.lst m (ns.map D.str)),some (.lst .own (js.map jD)),O,U,F]
def LgJ(S:D)(n:Int)(N:D)(m:Mk)(ns:List Str)(js:List Jt)(k:Nat)(ρ:En):Prop:=∃(d:D)(O U F:Option D),ρ=LgE S d N m ns js O U F/\Sd (n+3*k) d
theorem Iu(ns:List Int)(h:ns.length<=63):jL [.lst .scr (ns.map D.int)]=some (.bl true):=by
 apply Wp.eq;have a3:view false (.lst .scr (ns.map D.int))= .lst .scr (ns.map D.int):=by simp[view,lK,mkV]
 generalize hS:D.lst .scr (ns.map D.int)=S at a3;obtain⟨d0,q0,s0⟩:=Lf h;have a4:fz S=S:=by
  rw[←hS];have:fzL (ns.map D.int)=ns.map D.int:=by rw[gG,TX];rfl
  simp[fz,this,mkF]
 have hB:cV cG [S]=some d0:=call_of (by rw[←hS]at a4⊢;simpa[fzL,a4]using q0) s0.own;simp only[jL,fnP,en0,T_,UJ,TF,U7,U3,Ud,aO,Nat.reduceAdd,Nat.reduceSub,Ug,List.nil_append];refine bf (λρ=>ρ=[some S,some d0,none,none,none,none,none,none]) (λQ q=>?_) ?_
 .simp[bI,eAp,ak,aJ,aq,a3,hB,aO,cW,aG,tgN,clean,s0.cl.1,s0.cl.2]
  exact q _ rfl
 rintro _ rfl;refine bf (λρ=>True) (λQ q=>?_) ?_
 .simp_arith[aG]
  refine dq s0 (by omega) (by omega) (by omega) λz d1 p1 q1 Z=>?_;simp_arith[cO];refine⟨by omega,iT (LgI S) ⟨d1,_,_,_,_,_,_,rfl,Z.le (by omega)⟩ ?_ (λρ _=>q _ trivial)⟩;rintro k x ρ I ⟨d2,x2,x3,x4,x5,x6,F,rfl,O⟩;obtain⟨b2,rfl⟩:=qI I;have b3:k<2:=by omega
  simp only[tgN,clean,aB,aA,VB,Ud,aG,Us,U5];refine bf (λρ=>∃(ms:List Str)(d':D),ms.length<=14/\Sd (1+2000*k+4) d'/\ρ=[some S,some d',some (.int k),some (.lst .own (ms.map D.str)),x4,x5,x6,F]) (λQ q=>?_) ?_
  .simp_arith[aG]
   refine Wp.mono (J0 O (by omega)) ?_;rintro _ ⟨ms,d3,rfl,_,_,a1,s3⟩;simp_arith[dI,cX];exact q _ ⟨ms,d3,a1,s3,rfl⟩
  rintro _ ⟨ms,d3,a1,s3,rfl⟩;refine bf (λρ=>∃(js:List Jt)(d':D),(∀j∈js,j.1∈ms/\j.2.1∈ms)/\js.length<=28/\Sd (1+2000*k+1004) d'/\ρ=LgE S d' (.int k) .frz ms js x5 x6 F) (λQ q=>?_) ?_
  .simp_arith[oH,cT,dI,cX]
   refine Wp.mono (Az s3 (by omega) a1) ?_;rintro _ ⟨js,d4,rfl,a0,a2,B⟩;simp_arith[nG,j8];exact q _ ⟨js,d4,a0,by omega,B.le (by omega),rfl⟩
  rintro _ ⟨js,d4,a0,a2,B,rfl⟩;refine bf (λρ=>∃(ms:List Str)(js:List Jt)(d':D)(m:Mk),(m= .frz∨m= .own)/\ms.length<=40/\(∀j∈js,j.1∈ms/\j.2.1∈ms)/\js.length<=120/\Sd (1+2000*k+1504) d'/\ρ=LgE S d' (.int k) m ms js x5 x6 F) (λQ q=>?_) ?_
  .simp_arith[LgE,eq_int]
   split
   .refine dq B (by omega) (by omega) (by omega) λr8 d8 p8 q8 s8=>?_
    simp_arith[eq_int];split
    .refine Wp.mono (Nq (mn:=120) s8 (by omega) (by omega)) ?_
     rintro _ ⟨a7,a5,d9,rfl,a9,a8,b0,s9⟩;simp_arith[dI,cX,nG,j8];exact q _ ⟨a7,a5,d9,.own,.inr rfl,by omega,a8,by omega,s9.le (by push_cast;omega),rfl⟩
    .exact q _ ⟨ms,js,d8,.frz,.inl rfl,by omega,a0,by omega,s8.le (by omega),rfl⟩
   .exact q _ ⟨ms,js,d4,.frz,.inl rfl,by omega,a0,by omega,B.le (by omega),rfl⟩
  clear a0 a2 B a1 s3;rintro _ ⟨ms,js,d5,m,N,a1,a0,a2,s5,rfl⟩;have a6:o8 (ak (eC (.int 6)) aJ) (LgE S d5 (.int k) m ms js x5 x6 F)=some (true,h_ 0 6):=zR (n:=6) rfl (by omega);simp only[iD,a6,aO,aG,Ud];refine iT (LgJ S (1+2000*k+1504) (.int k) m ms js) ⟨d5,_,_,_,rfl,by simpa using s5⟩ ?_ ?_
  .rintro i x ρ hi ⟨d6,y5,y6,y7,rfl,s6⟩
   obtain⟨b1,rfl⟩:=qI hi;simp only[tgN,clean,aB,aA,VB,Ud,aG,LgE,Us,U5];refine bf (λρ=>∃(a b:Str)(d':D),a∈ms++[("lone":Str)]/\b∈ms++[("lone":Str)]/\Sd (1+2000*k+1504+3*i+3) d'/\ρ=LgE S d' (.int k) m ms js (some (.int i)) (some (.str a)) (some (.str b))) (λQ q=>?_) ?_
   .have key:∀{Q:D×List D->Prop},(∀a b d',a∈ms++[("lone":Str)]->b∈ms++[("lone":Str)]->Sd (1+2000*k+1504+3*i+3) d'->Q (.tup [.str a,.str b],[d',.lst .frz (ms.map D.str)]))->Wp (cZ [d6,.lst .frz (ms.map D.str)]) Q:=λ{Q} q=>by
     refine Wp.mono (Rp s6 (by omega) (by omega)) ?_;rintro _ ⟨a,b,d7,rfl,Y,U,s7⟩;exact q a b d7 Y U s7
    rcases N with rfl|rfl
    .simp_arith[cT,oH,dI,cX]
     refine key λa b d7 Y U s7=>?_;simp_arith[aG];exact q _ ⟨a,b,d7,Y,U,s7,rfl⟩
    .simp_arith[cT,oH,dI,cX]
     refine key λa b d7 Y U s7=>?_;simp_arith[cM,bG,s7.own];exact q _ ⟨a,b,d7,Y,U,s7,rfl⟩
   rintro _ ⟨a,b,d7,Y,U,s7,rfl⟩;have hR:cV cH [.lst .brw (js.map jD),.str a,.str b]=some (.bl true):=by
    refine call_of ?_ rfl;have:=J5 (ns:=ms++[("lone":Str)]) Y U (λj V=>⟨Th _ (a0 j V).1,Th _ (a0 j V).2⟩) (by simp;omega) (by omega);simpa[fzL,fz,uA,mkF]using this
   simp[LgE,sIf,vB,qz,eAp,ak,aJ,aq,view,nW,mkV,hR,truth,aO,cW,aG,w_ite,fY];exact⟨d7,_,_,_,rfl,s7.le (by push_cast;omega)⟩
  .rintro ρ ⟨d6,y5,y6,y7,rfl,s6⟩
   rw[qG]at s6;exact⟨d6,_,_,_,_,_,_,rfl,s6.le (by push_cast;omega)⟩
 rintro ρ _;simp[iW,eC,aO,aG,clean,aB,aA]
def top(i:Nat):Stmt:=aaA.main.body.getD i (.Pass ⟨0,0,0,0⟩)
local macro_rules
 |`(tactic|trivial)=>`(tactic|exact⟨rfl,by decide +kernel,by decide +kernel,by decide +kernel,rfl,by decide +kernel⟩)
open PySem.W (Frag nsIn fnOf keepIn codeIn mg_of mg_none_of)
noncomputable abbrev nl0:List Str:=["joinings","one","other"]
abbrev nl1:List Str:=["_law_script"]
abbrev nl2:List Str:=["_law_state","_law_many"]
abbrev nl3:List Str:=["_law_state","_law_names_here"]
abbrev nl4:List Str:=["_law_state"]
noncomputable abbrev nl5:List Str:=["leading","start"]
abbrev nl6:List Str:=["names","joinings"]
abbrev nl7:List Str:=["joining","side"]
abbrev nl8:List Str:=["_law_joinings_here"]
abbrev nl9:List Str:=["_law_joinings_here","_law_start"]
abbrev Lg:List Str:=["_law_joinings_here","_law_one","_law_other"]
abbrev Qd:List Str:=["_law_state","_law_names_here","_law_spots","_law_found","_law_turn","_law_k","_law_j","_law_step","_law_way","_law_one","_law_other"]
abbrev QC:List Str:=["_law_state","_law_many","_law_letters","_law_names_here","_law_found","_law_k","_law_to","_law_joining"]
noncomputable abbrev RD:List Str:=["names","joinings","leading","number","one","other","step"]
abbrev ob0:Nat->Bool:=λi=>i==0
abbrev fD(P:Uj)(w:World)(K:Frag)(mg:Str->Option Value)(base:Heap):Prop:=Cal P w K mg base 1 "_law_take" nl2 (spI ⟨K,mg⟩ ob0 ob0 aF)
abbrev Fb(P:Uj)(w:World)(K:Frag)(mg:Str->Option Value)(base:Heap):Prop:=Cal P w K mg base 1 "ends" nl7 (spP ⟨K,mg⟩ gR)
abbrev p6(P:Uj)(w:World)(K:Frag)(mg:Str->Option Value)(base:Heap):Prop:=Cal P w K mg base 1 "ways_from" nl5 (spP ⟨K,mg⟩ cD)
abbrev kj(P:Uj)(w:World)(K:Frag)(mg:Str->Option Value)(base:Heap):Prop:=Cal P w K mg base 1 "ends_by_name" nl6 (spP ⟨K,mg⟩ bM)
abbrev m5(P:Uj)(w:World)(K:Frag)(mg:Str->Option Value)(base:Heap):Prop:=Cal P w K mg base 2 "names_with" nl0 (spP ⟨K,mg⟩ b8)
abbrev lW(P:Uj)(w:World)(K:Frag)(mg:Str->Option Value)(base:Heap):Prop:=Cal P w K mg base 3 "fewest_ways" nl0 (spP ⟨K,mg⟩ bU)
abbrev l_(P:Uj)(w:World)(K:Frag)(mg:Str->Option Value)(base:Heap):Prop:=Cal P w K mg base 1 "_law_beside" nl8 (spP ⟨K,mg⟩ bL)
abbrev oO(P:Uj)(w:World)(K:Frag)(mg:Str->Option Value)(base:Heap):Prop:=Cal P w K mg base 4 "fewest_way" nl0 (spP ⟨K,mg⟩ bz)
abbrev i_(P:Uj)(w:World)(K:Frag)(mg:Str->Option Value)(base:Heap):Prop:=Cal P w K mg base 2 "_law_least_ways" nl9 (spP ⟨K,mg⟩ bA)
abbrev oK(P:Uj)(w:World)(K:Frag)(mg:Str->Option Value)(base:Heap):Prop:=Cal P w K mg base 1 "_law_begin" nl1 (spP ⟨K,mg⟩ cG)
abbrev oV(P:Uj)(w:World)(K:Frag)(mg:Str->Option Value)(base:Heap):Prop:=Cal P w K mg base 2 "_law_names" nl4 (spI ⟨K,mg⟩ ob0 ob0 cY)
abbrev jX(P:Uj)(w:World)(K:Frag)(mg:Str->Option Value)(base:Heap):Prop:=Cal P w K mg base 2 "_law_joinings" nl3 (spI ⟨K,mg⟩ ob0 ob0 cz)
abbrev qe(P:Uj)(w:World)(K:Frag)(mg:Str->Option Value)(base:Heap):Prop:=Cal P w K mg base 2 "_law_long" nl2 (spI ⟨K,mg⟩ ob0 ob0 du)
abbrev tG(P:Uj)(w:World)(K:Frag)(mg:Str->Option Value)(base:Heap):Prop:=Cal P w K mg base 2 "_law_two" nl3 (spI ⟨K,mg⟩ ob0 ob0 cZ)
abbrev m6(P:Uj)(w:World)(K:Frag)(mg:Str->Option Value)(base:Heap):Prop:=Cal P w K mg base 5 "_law_right" Lg (spP ⟨K,mg⟩ cH)
noncomputable abbrev fK:Stmt:=top 10
noncomputable abbrev gk:Stmt:=top 11
noncomputable abbrev fP:Stmt:=top 12
noncomputable abbrev bZ:Stmt:=top 13
noncomputable abbrev fu:Stmt:=top 17
noncomputable abbrev il:Stmt:=top 16
noncomputable abbrev fG:Stmt:=top 5
noncomputable abbrev cL:Stmt:=top 4
noncomputable abbrev pG:Stmt:=top 1
noncomputable abbrev dW:Stmt:=top 3
noncomputable abbrev dz:Stmt:=top 7
noncomputable abbrev dX:Stmt:=top 8
noncomputable abbrev d_:Stmt:=top 14
noncomputable abbrev cJ:Stmt:=top 15
noncomputable abbrev fL:Stmt:=top 18
noncomputable abbrev oJ:Stmt:=top 19
structure Blt(mg:Str->Option Value):Prop where
 divmod:mg "divmod"=none
 enumerate:mg "enumerate"=none
 int_:mg "int"=none
 isinstance:mg "isinstance"=none
 len:mg "len"=none
 list_:mg "list"=none
 min:mg "min"=none
 range:mg "range"=none
 set_:mg "set"=none
 sorted:mg "sorted"=none
 tuple:mg "tuple"=none
theorem aR(r:ie k A):A.units+1<cLine:=by have:=r.units;omega
theorem KH(r:ie k A):A.units+2<cLine:=by have:=r.units;omega
section
variable{P:Program}{w:World}{K:Frag}{mg:Str->Option Value}{base:Heap}
theorem nM:bV ["_law_script","_law_cells"] nl1 (aK fK):=⟨rfl,rfl,rfl,by decide +kernel,rfl,by decide +kernel,by decide +kernel⟩
theorem vJ{f:Addr}{fd:U_}(F:Fun K "_law_begin" "_law_begin" fK f fd)(B:Blt mg):eX P w K mg base CX0 1 f fd nl1 (spP ⟨K,mg⟩ cG):=by
 have nd:∀_:Unit,_:=λ_=>nM.nd;refine okP (k:=0) (ob:=(λi=>false)) (Pr:=λ_=>false) F nM λV A outer s H E Z=>?_;exact(aD (bw 1 nd (iw n6 (λ_=>rfl) (λ_=>B.list_) abA (aa (nu slb (aj false 0) mW (nH aL)) ao)))
  (aD (jn (dG (cb_eq _ (λ_=>rfl) Z.units) (aj false 1) (g8 ao)) (aN (bw 1 nd (g8 (aa aL ao)))) dJ)
  (aN (Dy 1))))
theorem qg:bV ["_law_state","_law_many","_law_turn","_law_spot","_law_cell","_law_digit","_law_mixed"] nl2 (aK gk):=⟨rfl,rfl,rfl,by decide +kernel,rfl,by decide +kernel,by decide +kernel⟩
theorem yX{f:Addr}{fd:U_}(F:Fun K "_law_take" "_law_take" gk f fd)(B:Blt mg):eX P w K mg base CX0 1 f fd nl2 (spI ⟨K,mg⟩ ob0 ob0 aF):=by
 have nd:∀_:Unit,_:=λ_=>qg.nd;refine okI (k:=0) (ob:=ob0) (pr:=ob0) F qg λV A outer s H E Z=>?_;exact(aD (bw 2 nd (bY eY (fZ (ixb (λ_=>aR Z)) (aj true 0) jo) aL))
  (aD (lJ (aj false 2) (lE (lz (λ_=>aR Z)) (dH 0) jo))
  (aD (bw 3 nd (bY jE (aj false 2) (dR ig (λ_=>rfl) (λ_=>B.len) Yl (aa (fZ (ixb (λ_=>aR Z)) (aj true 0) jo) ao))))
  (aD (bw 4 nd (fZ (ixb (λ_=>aR Z)) (fZ (ixb (λ_=>aR Z)) (aj true 0) jo) (aj false 3)))
  (aD (jn (dG Qx (aj false 4) (bY Ny aL aL)) (aD (lJ (dR zp (λ_=>rfl) (λ_=>B.divmod) boot_divmod (aa (aj false 4) (aa (aj false 1) ao))) (fX (λ_=>rfl) (aU (lE (lz (λ_=>aR Z)) (wY (λ_=>aR Z) (dH 0) jo) (aj false 3)) (aU (aV 5 nd) dU))))
  (aN (jx 5))) dJ)
  (aD (bw 6 nd (bY jE (bY jB (bY eY (bY eY (bY jE (aj false 4) aL) (bY jB (bY jB (aj false 2) (aj false 2)) aL)) aL) aL) aL))
  (aD (bw 6 nd (bY jE (bY jB (aj false 6) (aj false 6)) aL))
  (aN (eV (bY jE (bY BV (bY jE (bY jB (bY eY (aj false 6) (bY jB (aj false 2) aL)) aL) aL) aL) (aj false 1)))))))))))
theorem oF:bV ["_law_state","_law_many","_law_some","_law_first"] nl4 (aK fP):=⟨rfl,rfl,rfl,by decide +kernel,rfl,by decide +kernel,by decide +kernel⟩
theorem xf{f:Addr}{fd:U_}(F:Fun K "_law_names" "_law_names" fP f fd)(B:Blt mg)(z:fD P w K mg base):eX P w K mg base CX0 2 f fd nl4 (spI ⟨K,mg⟩ ob0 ob0 cY):=by
 have nd:∀_:Unit,_:=λ_=>oF.nd;refine okI (k:=1) (ob:=ob0) (pr:=ob0) F oF λV A outer s H E Z=>?_;exact(aD (dN 1 nd (o5 (ixb (λ_=>aR Z)) (Kq (bc (bQ aL) (bc (bQ aL) (bc (bQ aL) (bc (bQ aL) (bc (bQ aL) (bc (bQ aL) (bc (mz eY (bQ aL) (bR [0] (λ_=>z) (λ_=>Z.mono (by decide)) (bj 0 (bu (aX (aa aL ao)))))) (bc (bR [0] (λ_=>z) (λ_=>Z.mono (by decide)) (bj 0 (bu (aX (aa aL ao))))) (aX ao)))))))))) (bR [0] (λ_=>z) (λ_=>Z.mono (by decide)) (bj 0 (bu (aX (aa aL ao)))))))
  (aD (bw 2 nd (Gw EY PySem.F.plainAttrs_str PySem.F.slot_str_split PySem.F.type_str_split jo (aa jo ao)))
  (aD (dN 3 nd (bR [0] (λ_=>z) (λ_=>Z.mono (by decide)) (bj 0 (bu (aX (aa (dR ig (λ_=>rfl) (λ_=>B.len) Yl (aa (aj false 2) ao)) ao))))))
  (aN (eV (nu slb (bY eY (nu slb (aj false 2) (nH (aj false 3)) mW) (nu slb (aj false 2) mW (nH (aj false 3)))) mW (nH (aj false 1))))))))
theorem jV:bV Qd nl3 (aK bZ):=⟨rfl,rfl,rfl,by decide +kernel,rfl,by decide +kernel,by decide +kernel⟩
def mC:Scope:={kind:=.function,names:=[(".0",.local),("_law_name",.local),("_law_take",.globalImplicit),("_law_state",.free)],isGenerator:=false,isCoroutine:=false}
theorem nY:(["_law_name","_law_state"]:List Str).Nodup:=by decide +kernel
theorem oN:fU (aK bZ) Qd ["_law_name","_law_state"] mC [none,some 0]:=by trivial
def mK:Scope:={kind:=.function,names:=[(".0",.local),("_law_spot",.local)],isGenerator:=false,isCoroutine:=false}
theorem oX:(["_law_spot"]:List Str).Nodup:=by decide +kernel
theorem mZ:fU (aK bZ) Qd ["_law_spot"] mK [none]:=by trivial
theorem qp{f:Addr}{fd:U_}(F:Fun K "_law_joinings" "_law_joinings" bZ f fd)(B:Blt mg)(z:fD P w K mg base):eX P w K mg base CX0 2 f fd nl3 (spI ⟨K,mg⟩ ob0 ob0 cz):=by
 have nd:∀_:Unit,_:=λ_=>jV.nd;refine okI (k:=1) (ob:=ob0) (pr:=ob0) F jV λV A outer s H E Z=>?_;exact(aD (Df 2 [none,some 0] ob0 nd (λ_=>rfl) (λ_=>rfl) (λ_=>oN) (J4 rfl) (qO rfl) (jF (aj false 1)) (Eg 0 (λ_=>nY)) m9 (mz wX (bR [1] (λ_=>z) (λ_=>Z.mono (by decide)) (bj 1 (bu (aX (aa aL ao))))) (bQ aL)))
  (aD (qJ (nP (cb_eq _ (λ_=>rfl) Z.units) (bR [0] (λ_=>z) (λ_=>Z.mono (by decide)) (bj 0 (bu (aX (aa aL ao))))) (bQ aL)) (aN (yO 2 [none] ob0 nd (λ_=>rfl) (λ_=>rfl) (λ_=>mZ) (qO rfl) (jF (aj false 2)) (o6 0 (λ_=>oX)) m9 (bY jB (aj false 0) aL))) dJ)
  (aD (bw 3 nd (g8 ao))
  (aD (xH (λ_=>Vg) (λ_=>rfl) (Cw (λ_=>rfl) (λ_=>B.range) (bc (bR [0] (λ_=>z) (λ_=>Z.mono (by decide)) (bj 0 (bu (aX (aa (bY eY (bY jB aL (dR ig (λ_=>rfl) (λ_=>B.len) Yl (aa (aj false 1) ao))) aL) ao))))) (aX ao))) (aV 4 nd) (aD (GP 5 6 (λ_=>rfl) nd (bc (bR [0] (λ_=>z) (λ_=>Z.mono (by decide)) (bj 0 (bu (aX (aa (dR ig (λ_=>rfl) (λ_=>B.len) Yl (aa (aj false 1) ao)) ao))))) (bc (bR [0] (λ_=>z) (λ_=>Z.mono (by decide)) (bj 0 (bu (aX (aa (dR ig (λ_=>rfl) (λ_=>B.len) Yl (aa (aj false 1) ao)) ao))))) (aX ao))))
  (aD (bw 7 nd (bY wX (fZ (ixb (λ_=>aR Z)) (aj false 2) (aj false 6)) (fZ (ixb (λ_=>aR Z)) (aj false 2) (aj false 5))))
  (aD (qJ (nP (cb_eq _ (λ_=>rfl) Z.units) (bR [0] (λ_=>z) (λ_=>Z.mono (by decide)) (bj 0 (bu (aX (aa aL ao))))) (bQ aL)) (aN (dN 7 nd (mz wX (bR [0] (λ_=>z) (λ_=>Z.mono (by decide)) (bj 0 (bu (aX (aa aL ao))))) (bQ aL)))) dJ)
  (aD (lC jN Vl Ws Wt (dH 3) (aa (dF (aa (fZ (ixb (λ_=>aR Z)) (aj false 1) (aj false 5)) (aa (fZ (ixb (λ_=>aR Z)) (aj false 1) (aj false 6)) (aa (aj false 7) ao)))) ao))
  (aD (dN 8 nd (bR [0] (λ_=>z) (λ_=>Z.mono (by decide)) (bj 0 (bu (aX (aa aL ao))))))
  (aD (jn (dG (cb_eq _ (λ_=>rfl) Z.units) (aj false 8) aL) (aN (oY (o5 (ixb (λ_=>aR Z)) (bQ (aj false 3)) (bR [0] (λ_=>z) (λ_=>Z.mono (by decide)) (bj 0 (bu (aX (aa (dR ig (λ_=>rfl) (λ_=>B.len) Yl (aa (aj false 3) ao)) ao)))))) (lE (lz (λ_=>aR Z)) (dH 3) (uL pK aL)))) dJ)
  (aN (jn (dG (cb_eq _ (λ_=>rfl) Z.units) (aj false 8) aL) (aD (oY (o5 (ixb (λ_=>aR Z)) (bQ (aj false 3)) (bR [0] (λ_=>z) (λ_=>Z.mono (by decide)) (bj 0 (bu (aX (aa (dR ig (λ_=>rfl) (λ_=>B.len) Yl (aa (aj false 3) ao)) ao)))))) (fX (λ_=>rfl) (aU (aV 9 nd) (aU (aV 10 nd) (aU (aV 7 nd) dU)))))
  (aN (lJ (dF (aa (aj false 10) (aa (aj false 9) (aa (uL pK (aj false 7)) ao)))) (lE (lz (λ_=>aR Z)) (dH 3) (uL pK aL))))) dJ)))))))))
  (aN (jx 3))))))
theorem qd:bV QC nl2 (aK fu):=⟨rfl,rfl,rfl,by decide +kernel,rfl,by decide +kernel,by decide +kernel⟩
def rO:Scope:={kind:=.function,names:=[(".0",.local),("_law_k",.local),("_law_letters",.free)],isGenerator:=false,isCoroutine:=false}
theorem t8:(["_law_k","_law_letters"]:List Str).Nodup:=by decide +kernel
theorem ug:fU (aK fu) QC ["_law_k","_law_letters"] rO [none,some 2]:=by trivial
theorem xY{f:Addr}{fd:U_}(F:Fun K "_law_long" "_law_long" fu f fd)(B:Blt mg)(z:fD P w K mg base):eX P w K mg base CX0 2 f fd nl2 (spI ⟨K,mg⟩ ob0 ob0 du):=by
 have nd:∀_:Unit,_:=λ_=>qd.nd;refine okI (k:=1) (ob:=ob0) (pr:=ob0) F qd λV A outer s H E Z=>?_;exact(aD (bw 2 nd jo)
  (aD (yO 3 [none,some 2] ob0 nd (λ_=>rfl) (λ_=>rfl) (λ_=>ug) (qO rfl) (zY (λ_=>rfl) (λ_=>B.range) (aa aL ao)) (o6 0 (λ_=>t8)) m9 (bY eY (fZ (ixb (λ_=>aR Z)) (aj false 1) (bY jE (bY wJ aL (aj false 0)) aL)) (bY wJ jo (bY BV (aj false 0) aL))))
  (aD (bw 4 nd (g8 ao))
  (aD (jc (λ_=>Vg) (λ_=>rfl) (zY (λ_=>rfl) (λ_=>B.range) (aa (aj false 1) ao)) (aV 5 nd) (aD (dN 6 nd (Ey (IK (λ_=>rfl)) (λ_=>rfl) (λ_=>B.min) boot_min (bc (bQ aL) (bc (mz eY (bQ (bY eY (bY jE (aj false 5) aL) aL)) (mz wJ (bQ (iw Be (λ_=>rfl) (λ_=>B.int_) boot_int (aa (Oz RN (aj false 5) aL) ao))) (bR [0] (λ_=>z) (λ_=>Z.mono (by decide)) (bj 0 (bu (aX (aa aL ao))))))) (aX ao)))))
  (aD (dN 7 nd (BK (bc (bQ (fZ (ixb (λ_=>aR Z)) (aj false 3) (bY jE (aj false 5) aL))) (bc (bQ (fZ (ixb (λ_=>aR Z)) (aj false 3) (aj false 6))) (bc (mz wX (bR [0] (λ_=>z) (λ_=>Z.mono (by decide)) (bj 0 (bu (aX (aa aL ao))))) (bQ aL)) (aX ao))))))
  (aD (qJ (nP (cb_eq _ (λ_=>rfl) Z.units) (bR [0] (λ_=>z) (λ_=>Z.mono (by decide)) (bj 0 (bu (aX (aa aL ao))))) (bQ aL)) (aN (bw 7 nd (dF (aa (fZ (ixb (λ_=>aR Z)) (aj false 7) aL) (aa (fZ (ixb (λ_=>aR Z)) (aj false 7) aL) (aa (uL pK (fZ (ixb (λ_=>aR Z)) (aj false 7) aL)) ao)))))) dJ)
  (aN (IV Ai Vl PySem.F.slot_list_insert PySem.F.type_list_insert (dH 4) (bc (bR [0] (λ_=>z) (λ_=>Z.mono (by decide)) (bj 0 (bu (aX (aa (bY eY (aj false 5) aL) ao))))) (aX (aa (aj false 7) ao))) (show KpS 4 _ from by repeat first|exact PJ|exact JB|apply Io|apply Px|apply Ry|apply Qj|(apply NT rfl)|apply PB)))))))
  (aN (Eb 3 4))))))
theorem tB:bV ["_law_state","_law_names_here","_law_some","_law_one","_law_other"] nl3 (aK il):=⟨rfl,rfl,rfl,by decide +kernel,rfl,by decide +kernel,by decide +kernel⟩
theorem Ac{f:Addr}{fd:U_}(F:Fun K "_law_two" "_law_two" il f fd)(B:Blt mg)(z:fD P w K mg base):eX P w K mg base CX0 2 f fd nl3 (spI ⟨K,mg⟩ ob0 ob0 cZ):=by
 have nd:∀_:Unit,_:=λ_=>tB.nd;refine okI (k:=1) (ob:=ob0) (pr:=ob0) F tB λV A outer s H E Z=>?_;exact(aD (bw 2 nd (bY eY (aj false 1) (g8 (aa jo ao))))
  (aD (dN 3 nd (o5 (ixb (λ_=>aR Z)) (bQ (aj false 2)) (bR [0] (λ_=>z) (λ_=>Z.mono (by decide)) (bj 0 (bu (aX (aa (dR ig (λ_=>rfl) (λ_=>B.len) Yl (aa (aj false 2) ao)) ao)))))))
  (aD (dN 4 nd (o5 (ixb (λ_=>aR Z)) (bQ (aj false 2)) (bR [0] (λ_=>z) (λ_=>Z.mono (by decide)) (bj 0 (bu (aX (aa (dR ig (λ_=>rfl) (λ_=>B.len) Yl (aa (aj false 2) ao)) ao)))))))
  (aN (Fj (BK (bc (bQ (aj false 3)) (bc (o5 (ixb (λ_=>aR Z)) (bQ (g8 (aa (aj false 4) (aa (aj false 3) ao)))) (zG Be (λ_=>rfl) (λ_=>B.int_) boot_int (bc (Jr (cb_eq _ (λ_=>rfl) Z.units) (bR [0] (λ_=>z) (λ_=>Z.mono (by decide)) (bj 0 (bu (aX (aa aL ao))))) (bQ aL)) (aX ao)))) (aX ao)))))))))
theorem oG:bV ["leading","start","ways","waiting","name","number","side","end"] nl5 (aK fG):=⟨rfl,rfl,rfl,by decide +kernel,rfl,by decide +kernel,by decide +kernel⟩
theorem wC{f:Addr}{fd:U_}(F:Fun K "ways_from" "ways_from" fG f fd)(B:Blt mg):eX P w K mg base CX0 1 f fd nl5 (spP ⟨K,mg⟩ cD):=by
 have nd:∀_:Unit,_:=λ_=>oG.nd;refine okP (k:=0) (ob:=(λi=>i==3)) (Pr:=λ_=>false) F oG λV A outer s H E Z=>?_;exact(aD (bw 2 nd (wF (pH (aj false 1) (dF ao) rT)))
  (aD (bw 3 nd (g8 (aa (aj false 1) ao)))
  (aD (vg 1000000 (λ_=>Vg) (vO (wB (aj true 3))) (aD (dN 4 nd (Kl Eo Vl PySem.F.slot_list_pop PySem.F.type_list_pop (dH 3) (aa aL ao)))
  (aN (jc (λ_=>Vg) (λ_=>rfl) (jF (fZ (ixb (λ_=>aR Z)) (aj false 0) (aj false 4))) (fX (λ_=>rfl) (aU (aV 5 nd) (aU (aV 6 nd) (aU (aV 7 nd) dU)))) (aN (jn (dG (tW (λ_=>aR Z)) (aj false 7) (aj false 2)) (aD (lJ (bY eY (fZ (ixb (λ_=>aR Z)) (aj false 2) (aj false 4)) (dF (aa (dF (aa (aj false 5) (aa (aj false 6) ao))) ao))) (lE (lz (λ_=>aR Z)) (dH 2) (aj false 7)))
  (aN (lC jN Vl Ws Wt (dH 3) (aa (aj false 7) ao)))) dJ))))))
  (aN (jx 2)))))
theorem jW:bV RD nl6 (aK cL):=⟨rfl,rfl,rfl,by decide +kernel,rfl,by decide +kernel,by decide +kernel⟩
def mD:Scope:={kind:=.function,names:=[(".0",.local),("name",.local)],isGenerator:=false,isCoroutine:=false}
theorem nA:(["name"]:List Str).Nodup:=by decide +kernel
theorem n_:fU (aK cL) RD ["name"] mD [none]:=by trivial
theorem qx{f:Addr}{fd:U_}(F:Fun K "ends_by_name" "ends_by_name" cL f fd)(B:Blt mg):eX P w K mg base CX0 1 f fd nl6 (spP ⟨K,mg⟩ bM):=by
 have nd:∀_:Unit,_:=λ_=>jW.nd;refine okP (k:=0) (ob:=(λi=>false)) (Pr:=λ_=>false) F jW λV A outer s H E Z=>?_;exact(aD (Hd 2 [none] ob0 nd (λ_=>rfl) (λ_=>rfl) (λ_=>n_) (qO rfl) (jF (aj false 0)) (o6 0 (λ_=>nA)) m9 (aj false 0) (g8 ao))
  (aD (jc (λ_=>Vg) (λ_=>rfl) (xF (λ_=>rfl) (λ_=>B.enumerate) (aa (aj false 1) ao)) (fX (λ_=>rfl) (aU (aV 3 nd) (aU (fX (λ_=>rfl) (aU (aV 4 nd) (aU (aV 5 nd) (aU (aV 6 nd) dU)))) dU))) (aD (lC jN Vl Ws Wt (wY (λ_=>aR Z) (dH 2) (aj false 4)) (aa (dF (aa (aj false 3) (aa aL (aa (aj false 5) ao)))) ao))
  (aN (lC jN Vl Ws Wt (wY (λ_=>aR Z) (dH 2) (aj false 5)) (aa (dF (aa (aj false 3) (aa (uL pK aL) (aa (aj false 4) ao)))) ao)))))
  (aN (jx 2))))
theorem Bp:bV ["joining","side","one","other","step"] nl7 (aK pG):=⟨rfl,rfl,rfl,by decide +kernel,rfl,by decide +kernel,by decide +kernel⟩
theorem K9{f:Addr}{fd:U_}(F:Fun K "ends" "ends" pG f fd)(B:Blt mg):eX P w K mg base CX0 1 f fd nl7 (spP ⟨K,mg⟩ gR):=by
 have nd:∀_:Unit,_:=λ_=>Bp.nd;refine okP (k:=0) (ob:=(λi=>false)) (Pr:=λ_=>false) F Bp λV A outer s H E Z=>?_;exact(aD (lJ (aj false 0) (fX (λ_=>rfl) (aU (aV 2 nd) (aU (aV 3 nd) (aU (aV 4 nd) dU)))))
  (aD (jn (dG (cb_eq _ (λ_=>rfl) Z.units) (aj false 1) aL) (aN (eV (dF (aa (aj false 2) (aa (aj false 3) ao))))) dJ)
  (aN (eV (dF (aa (aj false 3) (aa (aj false 2) ao)))))))
theorem lY:bV ["joinings","one","other","found","joining"] nl0 (aK dW):=⟨rfl,rfl,rfl,by decide +kernel,rfl,by decide +kernel,by decide +kernel⟩
theorem t6{f:Addr}{fd:U_}(F:Fun K "names_with" "names_with" dW f fd)(B:Blt mg)(q:Fb P w K mg base):eX P w K mg base CX0 2 f fd nl0 (spP ⟨K,mg⟩ b8):=by
 have nd:∀_:Unit,_:=λ_=>lY.nd;refine okP (k:=1) (ob:=(λi=>false)) (Pr:=λ_=>false) F lY λV A outer s H E Z=>?_;exact(aD (bw 3 nd (g8 (aa (aj false 1) (aa (aj false 2) ao))))
  (aD (jc (λ_=>Vg) (λ_=>rfl) (jF (aj false 0)) (aV 4 nd) (aN (lC Ag Vl PySem.F.slot_list_extend PySem.F.type_list_extend (dH 3) (aa (jm (λ_=>q) (λ_=>Z.mono (by decide)) (aa (aj false 4) (aa aL ao))) ao))))
  (aN (eV (xT _ (λ_=>rfl) (KH Z) (λ_=>rfl) (λ_=>B.sorted) (λ_=>B.set_) (aa (aj false 3) ao))))))
theorem kE:bV nl0 nl0 (aK dz):=⟨rfl,rfl,rfl,by decide +kernel,rfl,by decide +kernel,by decide +kernel⟩
theorem sJ{f:Addr}{fd:U_}(F:Fun K "fewest_ways" "fewest_ways" dz f fd)(B:Blt mg)(z:p6 P w K mg base)(U:kj P w K mg base)(q:m5 P w K mg base):eX P w K mg base CX0 3 f fd nl0 (spP ⟨K,mg⟩ bU):=by
 have nd:∀_:Unit,_:=λ_=>kE.nd;refine okP (k:=2) (ob:=(λi=>false)) (Pr:=λ_=>false) F kE λV A outer s H E Z=>?_;exact(aN (eV (jm (λ_=>z) (λ_=>Z.mono (by decide)) (aa (jm (λ_=>U) (λ_=>Z.mono (by decide)) (aa (jm (λ_=>q) (λ_=>Z.mono (by decide)) (aa (aj false 0) (aa (aj false 1) (aa (aj false 2) ao)))) (aa (aj false 0) ao))) (aa (aj false 1) ao)))))
theorem lX:bV nl0 nl0 (aK dX):=⟨rfl,rfl,rfl,by decide +kernel,rfl,by decide +kernel,by decide +kernel⟩
theorem t_{f:Addr}{fd:U_}(F:Fun K "fewest_way" "fewest_way" dX f fd)(B:Blt mg)(q:lW P w K mg base):eX P w K mg base CX0 4 f fd nl0 (spP ⟨K,mg⟩ bz):=by
 have nd:∀_:Unit,_:=λ_=>lX.nd;refine okP (k:=3) (ob:=(λi=>false)) (Pr:=λ_=>false) F lX λV A outer s H E Z=>?_;exact(aN (eV (Gw (B_ (λ_=>aR Z)) WK V2 Y9 (jm (λ_=>q) (λ_=>Z.mono (by decide)) (aa (aj false 0) (aa (aj false 1) (aa (aj false 2) ao)))) (aa (aj false 2) ao))))
theorem lR:bV ["_law_joinings_here","_law_found","_law_number","_law_one","_law_other","_law_step"] nl8 (aK d_):=⟨rfl,rfl,rfl,by decide +kernel,rfl,by decide +kernel,by decide +kernel⟩
theorem tY{f:Addr}{fd:U_}(F:Fun K "_law_beside" "_law_beside" d_ f fd)(B:Blt mg):eX P w K mg base CX0 1 f fd nl8 (spP ⟨K,mg⟩ bL):=by
 have nd:∀_:Unit,_:=λ_=>lR.nd;refine okP (k:=0) (ob:=(λi=>false)) (Pr:=λ_=>false) F lR λV A outer s H E Z=>?_;exact(aD (bw 1 nd wD)
  (aD (jc (λ_=>Vg) (λ_=>rfl) (xF (λ_=>rfl) (λ_=>B.enumerate) (aa (aj false 0) ao)) (fX (λ_=>rfl) (aU (aV 2 nd) (aU (fX (λ_=>rfl) (aU (aV 3 nd) (aU (aV 4 nd) (aU (aV 5 nd) dU)))) dU))) (aD (Ca 1 (aa (aj false 3) (aa (g8 ao) ao)) (aa (dF (aa (dF (aa (aj false 2) (aa aL ao))) (aa (aj false 4) ao))) ao))
  (aN (Ca 1 (aa (aj false 4) (aa (g8 ao) ao)) (aa (dF (aa (dF (aa (aj false 2) (aa (uL pK aL) ao))) (aa (aj false 3) ao))) ao)))))
  (aN (jx 1))))
theorem iY:bV ["_law_joinings_here","_law_start","_law_beside_here","_law_found","_law_here","_law_further","_law_name","_law_pair","_law_other","_law_way"] nl9 (aK cJ):=⟨rfl,rfl,rfl,by decide +kernel,rfl,by decide +kernel,by decide +kernel⟩
theorem mY{f:Addr}{fd:U_}(F:Fun K "_law_least_ways" "_law_least_ways" cJ f fd)(B:Blt mg)(q:l_ P w K mg base):eX P w K mg base CX0 2 f fd nl9 (spP ⟨K,mg⟩ bA):=by
 have nd:∀_:Unit,_:=λ_=>iY.nd;refine okP (k:=1) (ob:=(λi=>false)) (Pr:=λ_=>false) F iY λV A outer s H E Z=>?_;exact(aD (bw 2 nd (jm (λ_=>q) (λ_=>Z.mono (by decide)) (aa (aj false 0) ao)))
  (aD (bw 3 nd (wF (pH (aj false 1) (dF ao) rT)))
  (aD (bw 4 nd (wF (pH (aj false 1) (dF ao) rT)))
  (aD (vg 1000000 (λ_=>Vg) (vO (dG (MK _ (λ_=>rfl) Z.units) (aj false 4) wD)) (aD (bw 5 nd wD)
  (aD (vq 2 (vq 4 (GK 4 (λ_=>Vg) (λ_=>rfl) (aV 6 nd) (aN (jc (λ_=>Vg) (λ_=>rfl) (jF (JM (λ_=>aR Z) (aj false 2) (aa (aj false 6) (aa (g8 ao) ao)))) (fX (λ_=>rfl) (aU (aV 7 nd) (aU (aV 8 nd) dU))) (aD (bw 9 nd (bY eY (fZ (ixb (λ_=>aR Z)) (aj false 4) (aj false 6)) (dF (aa (aj false 7) ao))))
  (aN (jn (Bw (Ci (dG (tW (λ_=>aR Z)) (aj false 8) (aj false 3)) (xM (Bw (HW (dG (tW (λ_=>aR Z)) (aj false 8) (aj false 5)) (Bq (dG (Ol _ (λ_=>rfl) Z.units) (aj false 9) (fZ (ixb (λ_=>aR Z)) (aj false 5) (aj false 8))))))))) (aN (lJ (aj false 9) (lE (lz (λ_=>aR Z)) (dH 5) (aj false 8)))) dJ))))))))
  (aD (vq 5 (lC (A_ (λ_=>rfl)) WK PySem.F.slot_dict_update PySem.F.type_dict_update (dH 3) (aa (aj false 5) ao)))
  (aN (bw 4 nd (aj false 5)))))))
  (aN (jx 3))))))
theorem nZ:bV ["_law_joinings_here","_law_one","_law_other","_law_due","_law_handed","_law_found"] Lg (aK fL):=⟨rfl,rfl,rfl,by decide +kernel,rfl,by decide +kernel,by decide +kernel⟩
theorem w6{f:Addr}{fd:U_}(F:Fun K "_law_right" "_law_right" fL f fd)(B:Blt mg)(q:oO P w K mg base)(N:i_ P w K mg base):eX P w K mg base CX0 5 f fd Lg (spP ⟨K,mg⟩ cH):=by
 have nd:∀_:Unit,_:=λ_=>nZ.nd;refine okP (k:=4) (ob:=(λi=>false)) (Pr:=λ_=>false) F nZ λV A outer s H E Z=>?_;exact(aD (bw 3 nd (Gw (B_ (λ_=>aR Z)) WK V2 Y9 (jm (λ_=>N) (λ_=>Z.mono (by decide)) (aa (aj false 0) (aa (aj false 1) ao))) (aa (aj false 2) ao)))
  (aD (jc (λ_=>Vg) (λ_=>rfl) (jF (dF (aa (iw n6 (λ_=>rfl) (λ_=>B.list_) abA (aa (aj false 0) ao)) (aa (iw Es (λ_=>rfl) (λ_=>B.tuple) boot_tuple (aa (aj false 0) ao)) (aa (iw n6 (λ_=>rfl) (λ_=>B.list_) abA (aa (aj false 0) ao)) ao))))) (aV 4 nd) (aD (bw 5 nd (jm (λ_=>q) (λ_=>Z.mono (by decide)) (aa (aj false 4) (aa (aj false 1) (aa (aj false 2) ao)))))
  (aD (jn (Bw (HW (dG (Jk _ (λ_=>rfl) Z.units) (aj false 5) (aj false 3)) (Bq (dG (Jk _ (λ_=>rfl) Z.units) (iw n6 (λ_=>rfl) (λ_=>B.list_) abA (aa (aj false 4) ao)) (aj false 0))))) (aN (eV yK)) dJ)
  (aN (jn (Bw (Ci (dG Gu (aj false 5) NB) (xM (Bk (wB (dR zV (λ_=>rfl) (λ_=>B.isinstance) boot_isinstance (aa (aj false 5) (aa (QJ (λ_=>rfl) (λ_=>B.tuple) boot_tuple) ao)))))))) (aN (eV yK)) dJ)))))
  (aN (eV yK))))
theorem Ik:bV ["_law_script","_law_state","_law_turn","_law_names_here","_law_joinings_here","_law_again","_law_one","_law_other"] nl1 (aK oJ):=⟨rfl,rfl,rfl,by decide +kernel,rfl,by decide +kernel,by decide +kernel⟩
theorem O1{f:Addr}{fd:U_}(F:Fun K "law" "law" oJ f fd)(B:Blt mg)(I:oK P w K mg base)(N:oV P w K mg base)(q:jX P w K mg base)(z:fD P w K mg base)(U:qe P w K mg base)(Y:tG P w K mg base)(O:m6 P w K mg base):eX P w K mg base CX0 6 f fd nl1 (spP ⟨K,mg⟩ jL):=by
 have nd:∀_:Unit,_:=λ_=>Ik.nd;refine okP (k:=5) (ob:=(λi=>i==1)) (Pr:=λ_=>false) F Ik λV A outer s H E Z=>?_;exact(aD (bw 1 nd (jm (λ_=>I) (λ_=>Z.mono (by decide)) (aa (aj false 0) ao)))
  (aD (xH (λ_=>Vg) (λ_=>rfl) (Cw (λ_=>rfl) (λ_=>B.range) (bc (mz eY (bQ aL) (bR [1] (λ_=>z) (λ_=>Z.mono (by decide)) (bj 1 (bu (aX (aa aL ao)))))) (aX ao))) (aV 2 nd) (aD (dN 3 nd (bR [1] (λ_=>N) (λ_=>Z.mono (by decide)) (bj 1 (bu (aX ao)))))
  (aD (vq 3 (dN 4 nd (bR [1] (λ_=>q) (λ_=>Z.mono (by decide)) (bj 1 (bu (aX (aa (aj false 3) ao)))))))
  (aD (qJ (Oj (Fw (vO (dG (cb_eq _ (λ_=>rfl) Z.units) (aj false 2) aL)) (Dq (nP (cb_eq _ (λ_=>rfl) Z.units) (bR [1] (λ_=>z) (λ_=>Z.mono (by decide)) (bj 1 (bu (aX (aa aL ao))))) (bQ aL))))) (aN (oY (bR [1] (λ_=>U) (λ_=>Z.mono (by decide)) (bj 1 (bu (aX (aa aL ao))))) (fX (λ_=>rfl) (aU (aV 3 nd) (aU (aV 4 nd) dU))))) dJ)
  (aN (jc (λ_=>Vg) (λ_=>rfl) (zY (λ_=>rfl) (λ_=>B.range) (aa aL ao)) (aV 5 nd) (aD (oY (bR [1] (λ_=>Y) (λ_=>Z.mono (by decide)) (bj 1 (bu (aX (aa (aj false 3) ao))))) (fX (λ_=>rfl) (aU (aV 6 nd) (aU (aV 7 nd) dU))))
  (aN (jn (Bk (wB (jm (λ_=>O) (λ_=>Z.mono (by decide)) (aa (aj false 4) (aa (aj false 6) (aa (aj false 7) ao)))))) (aN (eV yK)) dJ)))))))))
  (aN (eV yK))))
end
theorem yC:∀ns:List Int,aC G H W (ns.map D.int) (ns.map V.int) []
 |[]=>.nil
 |x::r=>aC.cons (M:=[]) (M':=[]) cQ (yC r)
theorem Ni{K:Frag}{a:Addr}{ns:List Int}{Q:VK}{E:XK}(Y:ns.length<=63)(N:SqL K H a (ns.map V.int))(q:∀H',Q (.bl true) H'):spP ⟨K,mg⟩ jL [.ref a] H Q E:=by
 refine⟨[.lst .scr (ns.map D.int)],λ_=>False,?_,?_,?_,λ_ z=>z.elim,.bl true,Iu ns Y,λv H' L s r B nd c=>?_⟩
 .refine aC.one (M:=[]) ?_
  rw[Rep];refine⟨a,_,[],rfl,yC ns,?_,rfl,rfl⟩;rcases N with z|z
  .exact .inl ⟨z,⟨λz=>z,λz=>z,λz=>z⟩⟩
  .exact .inr ⟨_,rfl,z⟩
 .simp[au,aB,cF (ds:=ns.map D.int) (by simp[aB])]
 .simp[az,aA,cI (ds:=ns.map D.int) (by simp[aA])]
 .rw[(tR r).1];exact q H'
variable{P:List Value->Prop}
theorem un1(h:∀q,P [q]):∀us:List Value,us.length=1->P us
 |[q],_=>h q
theorem un2(h:∀q F,P [q,F]):∀us:List Value,us.length=2->P us
 |[q,F],_=>h q F
theorem un3(h:∀q F Y,P [q,F,Y]):∀us:List Value,us.length=3->P us
 |[q,F,Y],_=>h q F Y
def Gm(K:Frag):Sp:=λvs H Q _=>∃(a:Addr)(ns:List Int),vs=[.ref a]/\SqL K H a (ns.map V.int)/\ns.length<=63/\∀H',Q (.bl true) H'
variable{l:aan}
theorem all_mk{K:Frag}{h:Heap}{fa I f2 Z f4 f5 f6 f7 f8 f9 e8 e4 e3 e5 e2 e7 e6:Addr}(X:K.In h)(G:h.Ns Uc mg)(r9:mg "law"=some (.ref fa))
  {y0 A4 u2 p4 r3 r6 y8 y6 t9 y7 y9 v1 s0 u7 A2 y1 x4 r4 j9 m7 h9 j1 j6 g1 g6 m2 e9 n1 o0 h4 g7 e0:Option Addr} {y4 u5 w0 t3 q9 A6 r0 s6 A5 m9 o3 o6 n6 m1 h3 n5:Array (Option Value)} {s2 v9 w7 y3 n0 t1 q5 s1 y2 q6 g0 q3 x7 r1 w5 q4 o7 t8 x8 A1 v3 u6 j3 s8 w1 p5 u1 r2 j4 u4 s9 A0 t2 v4 g5 p8 v5 y5 v8 x5 o1 w3 r5 x3 w4 q8 i5 q7 s7 q0 s4 u9 h7 u3 j5 g4 n3 o8 e1 h0 m4 n7 o2 l0 d5 g2 f0 h6 n8 p3 d3 i6 j8 n4 o4 i7 d1 o5 j2 n2 i4 j7 d7 o9 g9 i2 n9 i8 d8 k0 h5 d6 d9 d2 c0 d4:Value}
  (a1:nsIn K Uc "_law_begin"=some (some (.ref I))) (l1:K.lookup I=some ⟨s2,y0,.func (fnOf "_law_begin" "_law_begin" (bW fK) (bF fK) (aK fK) .none v9 w7 y3 A4 n0 t1),y4⟩) (V:codeIn K n0 "_law_begin"=true) (F:keepIn K (.ref I)=true)
  (a2:nsIn K Uc "_law_take"=some (some (.ref f2))) (l2:K.lookup f2=some ⟨q5,u2,.func (fnOf "_law_take" "_law_take" (bW gk) (bF gk) (aK gk) .none s1 y2 q6 p4 g0 q3),u5⟩) (c2:codeIn K g0 "_law_take"=true) (O:keepIn K (.ref f2)=true)
  (a3:nsIn K Uc "_law_names"=some (some (.ref Z))) (l3:K.lookup Z=some ⟨x7,r3,.func (fnOf "_law_names" "_law_names" (bW fP) (bF fP) (aK fP) .none r1 w5 q4 r6 o7 t8),w0⟩) (c3:codeIn K o7 "_law_names"=true) (k3:keepIn K (.ref Z)=true)
  (a4:nsIn K Uc "_law_joinings"=some (some (.ref f4))) (l4:K.lookup f4=some ⟨x8,y8,.func (fnOf "_law_joinings" "_law_joinings" (bW bZ) (bF bZ) (aK bZ) .none A1 v3 u6 y6 j3 s8),t3⟩) (c4:codeIn K j3 "_law_joinings"=true) (k4:keepIn K (.ref f4)=true)
  (a5:nsIn K Uc "_law_long"=some (some (.ref f5))) (l5:K.lookup f5=some ⟨w1,t9,.func (fnOf "_law_long" "_law_long" (bW fu) (bF fu) (aK fu) .none p5 u1 r2 y7 j4 u4),q9⟩) (c5:codeIn K j4 "_law_long"=true) (k5:keepIn K (.ref f5)=true)
  (a6:nsIn K Uc "_law_two"=some (some (.ref f6))) (l6:K.lookup f6=some ⟨s9,y9,.func (fnOf "_law_two" "_law_two" (bW il) (bF il) (aK il) .none A0 t2 v4 v1 g5 p8),A6⟩) (c6:codeIn K g5 "_law_two"=true) (k6:keepIn K (.ref f6)=true)
  (a7:nsIn K Uc "ways_from"=some (some (.ref f7))) (l7:K.lookup f7=some ⟨v5,s0,.func (fnOf "ways_from" "ways_from" (bW fG) (bF fG) (aK fG) .none y5 v8 x5 u7 o1 w3),r0⟩) (c7:codeIn K o1 "ways_from"=true) (k7:keepIn K (.ref f7)=true)
  (a8:nsIn K Uc "ends_by_name"=some (some (.ref f8))) (l8:K.lookup f8=some ⟨r5,A2,.func (fnOf "ends_by_name" "ends_by_name" (bW cL) (bF cL) (aK cL) .none x3 w4 q8 y1 i5 q7),s6⟩) (c8:codeIn K i5 "ends_by_name"=true) (k8:keepIn K (.ref f8)=true)
  (a9:nsIn K Uc "ends"=some (some (.ref f9))) (l9:K.lookup f9=some ⟨s7,x4,.func (fnOf "ends" "ends" (bW pG) (bF pG) (aK pG) .none q0 s4 u9 r4 h7 u3),A5⟩) (c9:codeIn K h7 "ends"=true) (k9:keepIn K (.ref f9)=true)
  (w8:nsIn K Uc "names_with"=some (some (.ref e8))) (t4:K.lookup e8=some ⟨j5,j9,.func (fnOf "names_with" "names_with" (bW dW) (bF dW) (aK dW) .none g4 n3 o8 m7 e1 h0),m9⟩) (s5:codeIn K e1 "names_with"=true) (g8:keepIn K (.ref e8)=true)
  (A3:nsIn K Uc "fewest_ways"=some (some (.ref e4))) (v6:K.lookup e4=some ⟨m4,h9,.func (fnOf "fewest_ways" "fewest_ways" (bW dz) (bF dz) (aK dz) .none n7 o2 l0 j1 d5 g2),o3⟩) (x9:codeIn K d5 "fewest_ways"=true) (m0:keepIn K (.ref e4)=true)
  (w2:nsIn K Uc "fewest_way"=some (some (.ref e3))) (u8:K.lookup e3=some ⟨f0,j6,.func (fnOf "fewest_way" "fewest_way" (bW dX) (bF dX) (aK dX) .none h6 n8 p3 g1 d3 i6),o6⟩) (z0:codeIn K d3 "fewest_way"=true) (h8:keepIn K (.ref e3)=true)
  (x6:nsIn K Uc "_law_beside"=some (some (.ref e5))) (w9:K.lookup e5=some ⟨j8,g6,.func (fnOf "_law_beside" "_law_beside" (bW d_) (bF d_) (aK d_) .none n4 o4 i7 m2 d1 o5),n6⟩) (v2:codeIn K d1 "_law_beside"=true) (g3:keepIn K (.ref e5)=true)
  (v7:nsIn K Uc "_law_least_ways"=some (some (.ref e2))) (r7:K.lookup e2=some ⟨j2,e9,.func (fnOf "_law_least_ways" "_law_least_ways" (bW cJ) (bF cJ) (aK cJ) .none n2 i4 j7 n1 d7 o9),m1⟩) (t0:codeIn K d7 "_law_least_ways"=true) (i0:keepIn K (.ref e2)=true)
  (t5:nsIn K Uc "_law_right"=some (some (.ref e7))) (v0:K.lookup e7=some ⟨g9,o0,.func (fnOf "_law_right" "_law_right" (bW fL) (bF fL) (aK fL) .none i2 n9 i8 h4 d8 k0),h3⟩) (s3:codeIn K d8 "_law_right"=true) (i1:keepIn K (.ref e7)=true)
  (p7:nsIn K Uc "law"=some (some (.ref e6))) (u0:K.lookup e6=some ⟨h5,g7,.func (fnOf "law" "law" (bW oJ) (bF oJ) (aK oJ) .none d6 d9 d2 e0 c0 d4),n5⟩) (r8:codeIn K c0 "law"=true) (x2:keepIn K (.ref e6)=true)
  (z1:nsIn K Uc "divmod"=some none)
  (z2:nsIn K Uc "enumerate"=some none)
  (z3:nsIn K Uc "int"=some none)
  (z4:nsIn K Uc "isinstance"=some none)
  (z5:nsIn K Uc "len"=some none)
  (z6:nsIn K Uc "list"=some none)
  (z7:nsIn K Uc "min"=some none)
  (z8:nsIn K Uc "range"=some none)
  (z9:nsIn K Uc "set"=some none)
  (x0:nsIn K Uc "sorted"=some none)
  (p9:nsIn K Uc "tuple"=some none) :
  ∃fd:U_,(∀(s:S6)(v:Value),aaF s fd ⟨[v],[]⟩ [("_law_script",v)])/\∀base:Heap,K.In base->base.Ns Uc mg->eX l.prog w K mg base CX0 6 fa fd nl1 (Gm K):=by
 have e:=r9.symm.trans (mg_of X G p7);cases e;have B:Blt mg:=⟨mg_none_of X G z1,mg_none_of X G z2,mg_none_of X G z3,mg_none_of X G z4,mg_none_of X G z5,mg_none_of X G z6,mg_none_of X G z7,mg_none_of X G z8,mg_none_of X G z9,mg_none_of X G x0,mg_none_of X G p9⟩;have F1:=eO (st:=fK) l1 V F;have F2:=eO (st:=gk) l2 c2 O;have F3:=eO (st:=fP) l3 c3 k3;have F4:=eO (st:=bZ) l4 c4 k4;have F5:=eO (st:=fu) l5 c5 k5;have F6:=eO (st:=il) l6 c6 k6;have F7:=eO (st:=fG) l7 c7 k7;have F8:=eO (st:=cL) l8 c8 k8;have F9:=eO (st:=pG) l9 c9 k9;have i9:=eO (st:=dW) t4 s5 g8;have m3:=eO (st:=dz) v6 x9 m0;have j0:=eO (st:=dX) u8 z0 h8;have i3:=eO (st:=d_) w9 v2 g3;have p0:=eO (st:=cJ) r7 t0 i0;have m8:=eO (st:=fL) v0 s3 i1;have t7:=eO (st:=oJ) u0 r8 x2;refine⟨fnOf "law" "law" (bW oJ) (bF oJ) (aK oJ) .none d6 d9 d2 e0 c0 d4,λs v=>.of_eq rfl,λbase _ _=>?_⟩;have b6:oK l.prog w K mg base:=⟨_,_,vJ F1 B,mg_of X G a1,F,F1.binds (ps:=nl1) λ_ _ _ _ _ _=>un1 λ_=>rfl⟩;have z:fD l.prog w K mg base:=⟨_,_,yX F2 B,mg_of X G a2,O,F2.binds (ps:=nl2) λ_ _ _ _ _ _=>un2 λ_ _=>rfl⟩;have b5:oV l.prog w K mg base:=⟨_,_,xf F3 B z,mg_of X G a3,k3,F3.binds (ps:=nl4) λ_ _ _ _ _ _=>un1 λ_=>rfl⟩;have a0:jX l.prog w K mg base:=⟨_,_,qp F4 B z,mg_of X G a4,k4,F4.binds (ps:=nl3) λ_ _ _ _ _ _=>un2 λ_ _=>rfl⟩;have b8:qe l.prog w K mg base:=⟨_,_,xY F5 B z,mg_of X G a5,k5,F5.binds (ps:=nl2) λ_ _ _ _ _ _=>un2 λ_ _=>rfl⟩;have b9:tG l.prog w K mg base:=⟨_,_,Ac F6 B z,mg_of X G a6,k6,F6.binds (ps:=nl3) λ_ _ _ _ _ _=>un2 λ_ _=>rfl⟩;have b7:p6 l.prog w K mg base:=⟨_,_,wC F7 B,mg_of X G a7,k7,F7.binds (ps:=nl5) λ_ _ _ _ _ _=>un2 λ_ _=>rfl⟩;have U:kj l.prog w K mg base:=⟨_,_,qx F8 B,mg_of X G a8,k8,F8.binds (ps:=nl6) λ_ _ _ _ _ _=>un2 λ_ _=>rfl⟩;have d0:Fb l.prog w K mg base:=⟨_,_,K9 F9 B,mg_of X G a9,k9,F9.binds (ps:=nl7) λ_ _ _ _ _ _=>un2 λ_ _=>rfl⟩;have b2:m5 l.prog w K mg base:=⟨_,_,t6 i9 B d0,mg_of X G w8,g8,i9.binds (ps:=nl0) λ_ _ _ _ _ _=>un3 λ_ _ _=>rfl⟩;have b0:lW l.prog w K mg base:=⟨_,_,sJ m3 B b7 U b2,mg_of X G A3,m0,m3.binds (ps:=nl0) λ_ _ _ _ _ _=>un3 λ_ _ _=>rfl⟩;have b1:oO l.prog w K mg base:=⟨_,_,t_ j0 B b0,mg_of X G w2,h8,j0.binds (ps:=nl0) λ_ _ _ _ _ _=>un3 λ_ _ _=>rfl⟩;have b3:l_ l.prog w K mg base:=⟨_,_,tY i3 B,mg_of X G x6,g3,i3.binds (ps:=nl8) λ_ _ _ _ _ _=>un1 λ_=>rfl⟩;have N:i_ l.prog w K mg base:=⟨_,_,mY p0 B b3,mg_of X G v7,i0,p0.binds (ps:=nl9) λ_ _ _ _ _ _=>un2 λ_ _=>rfl⟩;have b4:m6 l.prog w K mg base:=⟨_,_,w6 m8 B b1 N,mg_of X G t5,i1,m8.binds (ps:=Lg) λ_ _ _ _ _ _=>un3 λ_ _ _=>rfl⟩;exact eX.imp (O1 t7 B b6 b5 a0 z b8 b9 b4) λvs H Q E ⟨a,ns,e,hS,Y,q⟩=>by subst e;exact Ni Y hS q
theorem walk{q:Uj}{O:(Str->Option Value)->Heap->Prop}{I:World->Heap->Prop}{d:DefRec}{K:Params->Frag}(hn:l.most=some 63)(B:d.params.defaults=[])
  (V:∀(w:World)(h:Heap),I w h->(K w.params).In h)
  (F:∀(w:World)(mg:Str->Option Value)(fa:Addr)(h:Heap),(K w.params).In h->h.Ns Uc mg->mg d.name=some (.ref fa)->
   ∃fd:U_,(∀(s:S6)(u:Value),aaF s fd ⟨[u],[]⟩ [("_law_script",u)])/\∀base:Heap,(K w.params).In base->base.Ns Uc mg->eX l.prog w (K w.params) mg base CX0 6 fa fd nl1 (Gm (K w.params))) :
  acn q U O I l.row.toRowW d [] (λf vs=>ab9 f vs):=
 L2.walk_of (n:=63) (k:=6) (x:="_law_script") (CX:=λ_=>CX0) (sp:=λw=>Gm (K w.params)) hn (by decide) B ⟨rfl,by decide,by decide,rfl⟩ V F (λ_ _ a ns Y _ N=>⟨a,ns,rfl,N,Y,λ_=>rfl⟩) λ_ _ _ _ _ z=>z
end Jb
end
namespace PySem.W.Fast
def tw5795708219167220848:=0
def tw1957109890022377105:=0
def tw16818945961694194613:=0
def tw5050859387516654549:=0
def tw4645712842320321902:=0
def tw9027903734440747438:=0
def tw2905505307136920981:=0
def tw15702523526834619706:=0
def tw17351558171816508480:=0
def tw4958593598916450453:=0
def tw1783091724617748860:=0
def tw1093601352378758853:=0
def tw5113158325368614306:=0
def tw7360344064507988223:=0
def tw6166052961507380133:=0
def tw8194058796158712802:=0
def tw13934865619974116800:=0
def tw1217706910784470209:=0
def tw7904985043991690518:=0
def tw1038550642846526868:=0
def tw3866609875413712976:=0
def tw13224860676045151848:=0
def tw13651283821752166743:=0
def tw17705943980412795217:=0
def tw2508596770440992612:=0
def tw6026786461851069431:=0
def tw13939568688827795408:=0
def tw1365592888023680242:=0
def tw12455208524241224509:=0
def tw13393488189344014574:=0
def tw6154812340334216068:=0
def tw8722718460989248196:=0
def tw13650870831963161395:=0
def tw14063625172618025801:=0
def tw3961733905598163599:=0
def tw18137927771408831581:=0
def tw2604240665984377769:=0
def tw1740721143064722588:=0
def tw13613761007649152523:=0
def tw308217628180488876:=0
def tw13560498772829400813:=0
def tw13975084921185207638:=0
def tw12525124132929217604:=0
def tw11589585321718494785:=0
def tw13636342554415161761:=0
def tw9223648914117172578:=0
def tw15200617085248568919:=0
def tw9279232844166667948:=0
def tw5106519862457792825:=0
def tw18407972889156452138:=0
def tw7818860940509798093:=0
def tw2357288280097159844:=0
def tw3341116650554319647:=0
def tw2194292222634499634:=0
def tw13553873001959986303:=0
def tw892875181693717764:=0
def tw15023184353874018489:=0
def tw10206862687714029673:=0
def tw11517771390750067380:=0
def tw13992679590535692104:=0
def tw2724379618173864226:=0
def tw14860998788159139173:=0
def tw9662434900638330049:=0
def tw792394117201766201:=0
def tw3899993664390520026:=0
def tw7791269613766927583:=0
def tw14405541139826467709:=0
def tw1176256713327172327:=0
def tw17507891233765573523:=0
def tw5908381279611053340:=0
def tw7066125948176139059:=0
def tw3039885587205678242:=0
def tw8721415387722362563:=0
def tw11261956821967844189:=0
def tw10194533014805253550:=0
def tw6019508241609771545:=0
def tw12776985814619079783:=0
def tw852093780123047461:=0
def tw4758191045414338907:=0
def tw2679321836033767987:=0
def tw1530800010626329250:=0
def tw5006485365747249219:=0
def tw899863560585612241:=0
def tw13686622924589737449:=0
def tw5832814127901361762:=0
def tw5471935896640934558:=0
def tw14944663118099973853:=0
def tw15936707801298525986:=0
def tw15878462162194076452:=0
def tw16684201764261629532:=0
def tw18184002007128011943:=0
def tw225546464250831134:=0
def tw7058730788034146683:=0
def tw4250542297314589172:=0
def tw6031886080087915090:=0
def tw10405812485871947155:=0
def tw5330353610636592069:=0
def tw5472600960622407505:=0
def tw5298565409829892750:=0
def tw17615008528963101660:=0
def tw12694388657747879029:=0
def tw3158490293594255423:=0
def tw16171325977340802488:=0
def tw3180769403785417287:=0
def tw3743514707498296671:=0
def tw2325784659882322972:=0
def tw8394795660671584917:=0
end PySem.W.Fast
open PySem PySem.W PyProof.Rows
set_option maxRecDepth 100000 in
set_option maxHeartbeats 0 in
theorem PySem.Challenge.cw_joinback_k10_fewest_ways_holds : PySem.Challenge.rw_joinback_k10_fewest_ways.Holds := by
 w_on;o_law;k_head;(case hw=>w_witness2)
 k_fill
 refine Jb.walk (l:=PySem.Challenge.rw_joinback_k10_fewest_ways) rfl rfl (λw h Y=>PySem.W.kIn_of Y) ?F
 case F=>
  intro w mg fa h KX G hmg;refine' Jb.all_mk KX G hmg ?_ ?_ ?_ ?_ ?_ ?_ ?_ ?_ ?_ ?_ ?_ ?_ ?_ ?_ ?_ ?_ ?_ ?_ ?_ ?_ ?_ ?_ ?_ ?_ ?_ ?_ ?_ ?_ ?_ ?_ ?_ ?_ ?_ ?_ ?_ ?_ ?_ ?_ ?_ ?_ ?_ ?_ ?_ ?_ ?_ ?_ ?_ ?_ ?_ ?_ ?_ ?_ ?_ ?_ ?_ ?_ ?_ ?_ ?_ ?_ ?_ ?_ ?_ ?_ ?_ ?_ ?_ ?_ ?_ ?_ ?_ ?_ ?_ ?_ ?_
  any_goals k_is
