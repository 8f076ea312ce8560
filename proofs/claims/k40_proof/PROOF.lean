import PyProof.Rows.All
import Wide.All
import OpenK.AllK
import Wide.FinOn
import Lean
import PyProof.EqAt
import PyProof.EqKinds
import PyProof.TupleCall
import KE.KDictList
import KE.KMinBuiltin
import KE.KSortTup
import PyProof.AttrMissHeap
import PyProof.NeKinds
import PyProof.Rows.CallKwBuiltin
import PyProof.TupleIter
import PyProof.TupleOfSeq
import PySem.Challenge.RW_joinback_k40_standing_rows
set_option Elab.async false
set_option linter.all false
set_option compiler.extract_closed false
set_option maxRecDepth 100000
open Lean.Parser.Command Lean.Parser.Term in
local macro_rules
 |`(command|def $i:declId $s:optDeclSig := $v)=>`(command|noncomputable def $i $s := $v)
 |`(command|def $i:declId $s:optDeclSig $[$a:matchAlt]*)=>`(command|noncomputable def $i $s:optDeclSig $[$a:matchAlt]*)
section
def Pk:=@if_pos
def Pn:=@if_neg
def Qf:=@if_true
def Qk:=@getElem?_pos
def Qv:=@if_false
def QB:=@decide_eq_false
def R4:=@decide_eq_true
def S7:=@decide_false
def Td:=@decide_eq_true_eq
def Tz:=@decide_true
def UG:=@or_false
open PySem renaming wpAny_bind->eH,wpAny_pure->yr,Shared->zc,sizeLine->Px,starEach->PK,mainGlobals->Qa,Program->QG,wpAny_newObj_type->QM,wpAny_callSpecial?_slot->QW,compareOp->Q3,wpAny_setField_rec->Q5,rawInt->Q7,codeAny_call_builtin->Ra,wpAny_holding->Rf,assignEach->Rg,Around->Rh,FuncData->Rj,wpAny_rule->Rz,binaryOp->RB,codeAny_builtin->RP,bootBuiltins->RW,foldedSetIterable->R6,wpAny_mono->Sq,wpAny_isInstance->Ss,backTo->SM,wpAny_truthy_bool->S9,wpAny_setState_of->Te,plainId_quiet->Th,mem_of_lookup->Tp,IsPair->Tq,holding->Tt,wpAny_attempt->TX,sysModules->T3,codeAny->T9,wpAny_seqItems->T_,wpAny_call_entry->Uc,wpAny_typeOf->Ud,SetTable->Ui,wpAny_askSetting->Uj,boot_len->Um
open PySem renaming pyNext->Ut,wpAny_Call_Name_kw->Uu,pickOrder->Ux,wpAny_of_eq->Uz,IsPart->UV,firstArgMember->UW,builtinLookup_eq_fast->U0,scanBound->U7,swapsWithSole->Vb,sliceBounds->Ve,newList->Vf,wpAny_passesOwn->Vj,codeAny_mono->Vn,isSubtype_type->Vu,wpAny_pyIter_enum->VD,wpAny_pyIter_list->VF,assign->VR,wpAny_pyNext_list_item->VV,wpAny_field->V2,wpAny_throw->V4,swappedStores->V5,behindInMarks->V6,holding->V7,NameKind->V8,wpAny_pyIter_zip->Wb,swapsWith->Wf,wpAny_pyNext_list_end->Wg,letOwnedTupleGo->Wl,wpAny_load->Wm,typeLookup_type->Wo,wpAny_updateSeq_pair->Wt,getItem->WD,wpAny_newTuple->WM,sizeLine_eq->WQ,unsupported->WR,wpAny_standAt->W5,wpAny_letOwnedTupleGo_enum->W8,wpAny_handled->W9,wpAny_newList->Xa,wpAny_onRaise->Xc
open PySem renaming wpAny_letOwnedTupleGo_zip->Xk,valueAt->Xm,callerA->Xn,noFill_tuple_add->Xo,wpAny_comprehension_free->Xq,relayAll->XD,tupleKind->XX,wpAny_execs_nil->X4,seqItems?->X8,wpAny_ite_split->Yb,pyIter->Yn,BindsTo->Yp,Keyword->Yr,setNext->Yv,typeLookup->YB,call_meets->YD,attributeErrorLeaves->YH,entryFor->YJ,assignInOrder->YL,seq_tuple_add->YM,attributeBase->YQ,Paired->Y9,isTrue->Y_,Result->Zd,concat_meets->Ze,seqIndex_neg->Zh,tupleKind_room_in1->Zj,Fin->Zm,wpAny_assign_Name->Zy,wpAny_sequenceKey->ZG,slot_list_getitem->ZJ,list_append->ZK,wpAny_storeSet_of->ZV,fits_of_scanBound->ZW,wpAny_pyIter_slot->ZX,seqIndex_of->Z2,keywordEach->Z3,wpAny_letGo->Z5,wpAny_eqBool_str->Z6,GenState->Z7
open PySem renaming wpAny_execs_cons->Z8,bindName->Z9,call->aam
open PySem.Heap renaming get?_push_of_some->gD,lt_size->Ph,get?_push_size->Pz,get?_update_other->Q0,size_push->Rc,SameBut->TF,get?_update_self->TJ,get?_update_ne->Vi,size_update->aaf
open List renaming getElem?_eq_some_iff->Mx,mem_append->Mz,mem_append_right->Pa,mem_cons->Pj,getElem?_eq_getElem->Py,mem_append_left->PL,map_cons->PP,mem_singleton->PQ,getElem?_cons_zero->PX,map->Qc,getElem?_cons_succ->Qd,length_map->Qe,nodup_append->Qg,append_assoc->Qi,take_append_drop->Qj,append_nil->Ql,mem_cons_of_mem->Qm,map_map->Qp,range->Qq,mem_cons_self->Qt,getElem?_append_left->Qu,length_append->Qx,set_cons_succ->Qy,getElem?_append_right->Qz,nodup_cons->QC,pairwise_append->QD,mem_map->QF,Perm->QJ,length_cons->QL,mem_of_getElem?->QS,set_cons_zero->QT,findIdx?_eq_some_iff_getElem->QV,drop_eq_getElem_cons->QX,pairwise_cons->Q4,length_nil->Q6,drop_eq_nil_of_le->Rb,length_take->Rm,not_mem_nil->Rn,eq_nil_of_length_eq_zero->Rp,getElem_of_mem->Rq
open List renaming map_nil->Ru,cons_append->RC,Sublist->RG,getD_eq_getElem?_getD->RK,mem_range->RL,take_of_length_le->RM,sublist_append_right->RQ,nil_append->RT,getElem_mem->RZ,replicate->R3,map_append->Sd,map_congr_left->Sg,drop_zero->Sv,getElem?_eq_none->Sw,findIdx?_eq_none_iff->Sx,getElem?_eq_none_iff->Sy,pairwise_iff_getElem->SJ,drop_sublist->Tf,getElem_cons_drop->Tv,find?_cons->TQ,mem_of_mem_take->T6,mem_of_mem_drop->T7,getElem?_take_of_lt->Ub,drop_length->Uh,mem_reverse->Ul,length_pos_iff->Ur,length->Uy,map_id->UL,perm_append_comm->U4,drop_drop->U5,length_drop->U_,filterMap_cons->Vg,foldl_cons->Vl,sublist_append_left->Vr,toArray->Vt,take_sublist->VB,getElem_take->VJ,take_add_one->VM,flatten_cons->VN,getElem?_set_self->VP
open List renaming range_succ_eq_map->V3,nil_sublist->V_,countP_cons->Wa,length_singleton->Wh,mem_iff_getElem?->Wi,drop_append_of_le_length->Ww,take_append_of_le_length->Wx,mem_filterMap->WY,all_cons->W7,length_range->Xf,getElem?_set->Xg,getElem?_inj->Xh,reverse_perm->Xj,lookup_cons->Xp,set_eq_of_length_le->Xr,any_eq_true->Xu,all_eq_true->Xv,zipIdx_cons->Xz,take_length->XH,getElem?_replicate->XN,of_mem_zip->X5,forIn_cons->X7,drop_left'->Yc,pairwise_lt_range->Yl,set_append_right->Yt,getElem?_toArray->Yw,pairwise_reverse->Yy,length_eraseIdx->YK,any_cons->YS,Pairwise->YW,getElem?_range->Y4,length_zipWith->Y6,flatten_append->Y8,all_map->Zk,extract->Zr,getElem?_drop->Zt,zip_cons_cons->Zv,ext_getElem?->ZM,getElem_drop->ZS,pairwise_map->Z0
open List renaming ext_getElem->aah,map_snd_zip->aai,mem_filter->aak,zipIdx_nil->aap,set_append->aat,forIn_nil->aaz,take_take->aaC
open Option renaming bind_some->Pb,map_some->QZ,getD_some->Va,bind_none->XM,map_eq_some_iff->Yj,getD_none->aad
open Nat renaming le_refl->Pg,ne_of_lt->PN,lt_of_lt_of_le->P0,lt_irrefl->Rt,le_trans->RX,zero_le->R0,ne_of_gt->Sh,zero_add->SX,lt_succ_of_lt->TY,le_of_lt->UT,lt_succ_self->V9,sub_self->Wq,add_zero->XC,not_lt_zero->X_,add_assoc->YX,eq_zero_or_pos->Zo,le_succ->Z4,succ_ne_self->aag,not_lt->aaq,min_eq_left->aas
open PyProof.Rows renaming wpS_bind->Pq,wpS_pure->PB,pendingOf->QH,wpS_forRange->Q8,slot_tuple_getitem->Ri,SortSt->Ry,boot_isinstance->RV,failedOf->R8,wpS_mono->R9,callWith_type1->R_,oneType'->S6,seqObj->Uv,mirror->U6,K_mirror_equal->Vv,envOfC->V0,AllBare->We,wpS_get->Wj,get?_update_seq->Ws,wpS_modify->Wv,wpS_lift->WN,mirror_perm->WT,assignInOrder_cons->WX,listUpdate_at->Xb,SortKind->Xw,setArr->XJ,boot_list->Ye,subscriptTail_builtinR->Yh,seqEpoch_at->Yk,wpS_reverse->Ym,entry_tuple_getitem->YZ,getElem?_mirror_all->Y5,args_tuple_getitem->Zg,IntsAre->Zw,assignInOrder_nil->Zz
open PySem.W renaming Frag->Pu,kia_one->Rv,fnOf->Vo,kitx_list->Vy,kitx_dict->Vz,kitOne->Wy,keepIn->Wz,kitAny->WK,methodObj->Xe,kas_kind->Xy,instObj->X3,OpenLaw->X6,cellsFrom_some->Yg,lookIn->Yo,codeIn->Yq,kitx_float->Za,kitx_tuple->Zb,kitx_none->ZC,kitx_bool->ZD,plainGet->Z_,kitx_int->aaa,kitx_str->aab,kitx_own->aac,findIn->aav,WalkO->aaE
open Bool renaming false_eq_true->PJ,and_eq_true->Qo,false_ne_true->Rx,not_true->Tg,and_self->Ti,and_true->Vd,or_eq_true->Wr,and_eq_true_iff->YG,eq_iff_iff->aan,and_assoc->aax,and_false->aay
open Array renaming getD_eq_getD_getElem?->P_,length_toList->Qh,getElem?_toList->Qs,toList_append->Rr,perm_iff_toList_perm->RJ,getElem_toList->R5,toList_reverse->S8,getElem?_eq_none->UJ,toList_push->VH,toList_extract->Wu,toList_setIfInBounds->Xd,toList_inj->Xx
open Ne renaming symm->Qn
open PySem.Value renaming ref->Qw,none->QK,type->R1,str->Wd,int->WW,bool->Yz,float->Z1,isStrOf->aaD
open Int renaming le_refl->QQ,toNat_natCast->R7,le_of_lt->U3,le_trans->Vs,lt_of_lt_of_le->Zn,emod_lt_of_pos->Zu,emod_nonneg->aau
open Option.some renaming inj->QR,injEq->S_
open PySem.Builtin.Slice renaming sliceAdjust->Q9,slicePlaces->Q_,sliceApplied->TV
open PySem.Around renaming under_plainId->Rk
open PySem.F renaming slot_tuple_iterator_next->RD,slot_list_getattribute->Ug,called_set->Uk,slot_list_append->Uo,type_list_append->Uq,plainAttrs_list->Us,slot_zip_next->Uw,args_tuple_add_2->Vp,entry_tuple_add->Vw,slot_tuple_add->V1,args_tuple_iterator_next_1->WL,entry_tuple_iterator_next->W2,plain_extend_loop->Xl,args_list_append_2->YF,entry_list_append->Y0,slot_list_append->Zi,args_zip_next_1->ZQ,plain_list_iadd->ZZ
open True renaming intro->RN
open Or renaming inr->Su,inl->Ue
open PySem.Builtin.Tuple renaming tupleExact->SN,tupleItemsOf->W6
open PySem.Obj renaming mapSeq->SQ,data_mapFields->W0,isFreed_of_fields->Ys,cls_mapFields->ZL,putSet->aar
open List.Sublist renaming refl->Tc
open PySem.Builtin.Str renaming occurrences->Tj,strKind->Vh,partsBetween->Vq
open List.Perm renaming refl->Tu,append_left->Yx,mem_iff->ZP
open False renaming elim->T4
open PySem.Builtin.SmallTypes renaming nextOf->T5,stopIteration->W_,ownedTupleFields->Zx,newRecord->aaw
open Sum renaming inr->T8,inl->Wc,elim->aaj
open PySem.SetTable renaming grown->Ua,insertAt->ZR,Probe->aaA,fits->aaH
open PySem.Builtin.List renaming listLengthHint->U8,listExtendWith->U9,listSameRef->XF,listUpdate->XR
open Prod.mk renaming injEq->Vc
open ForInStep renaming yield->Vk
open PySem.PassesOwn renaming never->Vm
open PyProof.Rows.F renaming plain_set_update_loop->Vx,entry_set_update_loop->XS
open PySem.SetTable.below renaming go->VG
open Decidable renaming not_not->VL
open PySem.Paired renaming length->W3
open PySem.Calls renaming Name_function_global->W4,callWith_builtin->Yi,evalArgs_plain->YC,spliced_cons->Zc,spliced_nil->ZF
open PySem.SetTable.probe renaming go->Xi
open PySem.Builtin.Dict renaming updateFrom->XQ
open PySem.Challenge renaming pw_joinback_k40_standing_rows->Yd
open PySem.W.Looks renaming of_pure->Yu
open PySem.NameKind renaming free->YT
open PySem.Heap.SameBut renaming update->Y7
open PySem.Str renaming ofString->Zf
open PySem.pickOrder renaming go->Zq
open PySem.IsL renaming update->aae
open PySem.Heap.DictOf renaming new->aal
open StateT renaming run_pure->aao
open PySem.Builtin.Frozenset renaming updateFrom->aaB,newClass->aaF,addrOf->aaI,sizeOf->aaJ,slot0->aaK
open PySem.Shared renaming TypeIs->aaG
open Sum.inl renaming inj->aaL
open Sum.inr renaming inj->aaM
open PySem
variable{XP:(Str->Option Value)->Heap->Prop}{a it f dx sl S:Addr}{A:Around}{g:Array GenState}{U a₀:Array Keyed}{p xs:Array Nat}{items:Array Value}{g':Array Z7}{b left:Bool}{op:CmpOp}{d' d:Drawn}{env:Env}{e c tg elt target:Expr}{h h' base:Heap}{C:Int->Int->Prop}{pins:List (Addr×Obj)}{ks:List (List Str)}{ch M fp L:List Addr}{es ifs elts:List Expr}{ns:List Int}{l:List Keyed}{js:List Nat}{O:List Stmt}{N ps J N':List Str}{B vs its:List Value}{t' j i n tk x1 ep:Nat}{ob pr:Nat->Bool}{ρ:Nat->Int}{o:Obj}{pos pos' apos cpos tpos:Pos}{prog:Program}{P:QG}{fd:Rj}{scope:Scope}{s:Shared}{x Y name:Str}{Z mg:Str->Option Value}{T:String}{κ α β ι:Type}{u v:Value}{E:Value->Shared->Prop}{Q:Value->zc->Prop}{w:World}{YP:World->Heap->Prop}{R:Zd->zc->Prop}{s':zc}
namespace L2
open PySem PySem.Spec PyProof.Rows
abbrev Key:=Sum Int Str
def ni:Key->Value->Bool
 |.inl k,v=>Value.isInt k v
 |.inr x,v=>aaD x v
def O7(w:World):Key->Int
 |.inl k=>hashInt k
 |.inr x=>hashStr w x
theorem bF:∀{k:Key}{v:Value},ni k v=true->(∃i t,k=Wc i/\v=WW i t)∨(∃x t,k=T8 x/\v=Wd x t)
 |.inl i,v,h=>by
  obtain⟨t,e⟩:=Value.isInt_shape (k:=i) (v:=v) h;exact .inl ⟨i,t,rfl,e⟩
 |.inr x,v,h=>by
  obtain⟨t,e⟩:=Value.isStrOf_shape (x:=x) (v:=v) h;exact .inr ⟨x,t,rfl,e⟩
theorem zW(i:Int)(t:Tok):ni (.inl i) (.int i t)=true:=by simp[ni,Value.isInt]
theorem Bf(x:Str)(t:Tok):ni (.inr x) (.str x t)=true:=by simp[ni,aaD]
theorem K1(a b:Int):decide ((Wc a:Key)=Wc b)=(a==b):=by
 by_cases e:a=b
 .subst e;simp
 .have h:¬(Wc a:Key)=Wc b:=λq=>e (aaL q)
  rw[QB h];exact(beq_eq_false_iff_ne.mpr e).symm
theorem Ku(a b:Str):decide ((T8 a:Key)=T8 b)=decide (a=b):=by
 by_cases e:a=b
 .subst e;simp
 .have h:¬(T8 a:Key)=T8 b:=λq=>e (aaM q)
  rw[QB h,QB e]
theorem Lb(a:Int)(b:Str):decide ((Wc a:Key)=T8 b)=false:=QB (λq=>nomatch q)
theorem Lg(a:Str)(b:Int):decide ((T8 a:Key)=Wc b)=false:=QB (λq=>nomatch q)
noncomputable def bz(prog:QG)(w:World):PySem.KeyKind prog w Key where
 is:=ni
 hash:=O7 w
 inj:=λv a b O U=>by
  rcases bF O with⟨i,t,rfl,rfl⟩|⟨x,t,rfl,rfl⟩
  .rcases bF U with⟨j,u,rfl,e⟩|⟨y,u,rfl,e⟩
   .injection e with e1 _;rw[e1]
   .exact nomatch e
  .rcases bF U with⟨j,u,rfl,e⟩|⟨y,u,rfl,e⟩
   .exact nomatch e
   .injection e with e1 _;rw[e1]
 byValue:=λk v h=>by
  rcases bF h with⟨i,t,rfl,rfl⟩|⟨x,t,rfl,rfl⟩<;>rfl
 pyHash:=λN h=>by
  rcases bF N with⟨i,t,rfl,rfl⟩|⟨x,t,rfl,rfl⟩
  .exact wpAny_pyHash_int h
  .exact wpAny_pyHash_str h
 eqBool:=λJ N h=>by
  rcases bF J with⟨i,t,rfl,rfl⟩|⟨x,t,rfl,rfl⟩
  .rcases bF N with⟨j,u,rfl,rfl⟩|⟨y,u,rfl,rfl⟩
   .rw[K1]at h;exact wpAny_eqBool_int h
   .rw[Lb]at h;exact SeqAt.EqAt.int_str i t y u _ _ _ _ h
  .rcases bF N with⟨j,u,rfl,rfl⟩|⟨y,u,rfl,rfl⟩
   .rw[Lg]at h;exact SeqAt.EqAt.str_int x t j u _ _ _ _ h
   .rw[Ku]at h;exact Z6 h
 «strs»:=λk x t v h=>by
  rcases bF h with⟨i,u,rfl,e⟩|⟨y,u,rfl,e⟩
  .exact nomatch e
  .injection e with e1 _
   subst e1;cases v<;>rfl
theorem v4(prog:QG)(w:World)(i:Int)(t:Tok):(bz prog w).is (.inl i) (.int i t)=true:=zW i t
theorem vq(prog:QG)(w:World)(x:Str)(t:Tok):(bz prog w).is (.inr x) (.str x t)=true:=Bf x t
inductive V where
 |non|bl (b:Bool)|int (i:Int)|str (x:Str)|byt (b:Array UInt8)|flt (b:UInt64)|ref (a:Addr)|ty (n:String)
 deriving DecidableEq
def RelV:V->Value->Prop
 |.non,u=>u=QK
 |.bl b,u=>u=Yz b
 |.int i,u=>∃t,u=WW i t
 |.str x,u=>∃t,u=Wd x t
 |.byt b,u=>∃t,u=Value.bytes b t
 |.flt b,u=>∃t,u=Z1 b t
 |.ref a,u=>u=Qw a
 |.ty n,u=>u=R1 n
noncomputable abbrev Vals:List V->List Value->Prop:=Y9 RelV
variable{xs:List V}
theorem Vals.length(r:Vals xs B):xs.length=B.length:=W3 r
theorem Vals.get:∀{xs:List V}{B:List Value}{i:Nat}{x:V},Vals xs B->xs[i]? =some x->∃u,B[i]? =some u/\RelV x u
 |_,_,_,_,.nil,e=>by simp at e
 |_,_,0,_,.cons r _,e=>by simp at e;subst e;exact⟨_,rfl,r⟩
 |_,_,i+1,x,.cons _ t,e=>by
  obtain⟨u,h1,h2⟩:=Vals.get (i:=i) (x:=x) t (by simpa using e);exact⟨u,by simpa using h1,h2⟩
theorem Vals.set{x:V}(r:RelV x u):∀{xs:List V}{B:List Value}(i:Nat),Vals xs B->Vals (xs.set i x) (B.set i u)
 |_,_,_,.nil=>.nil
 |_,_,0,.cons _ t=>.cons r t
 |_,_,i+1,.cons q t=>.cons q (Vals.set r i t)
theorem Vals.append:∀{xs ys:List V}{B J:List Value},Vals xs B->Vals ys J->Vals (xs++ys) (B++J)
 |_,_,_,_,.nil,s=>s
 |_,_,_,_,.cons r t,s=>.cons r (Vals.append t s)
theorem Vals.take:∀{xs:List V}{B:List Value}(n:Nat),Vals xs B->Vals (xs.take n) (B.take n)
 |_,_,0,_=>.nil
 |_,_,_+1,.nil=>.nil
 |_,_,n+1,.cons r t=>.cons r (Vals.take n t)
theorem Vals.drop:∀{xs:List V}{B:List Value}(n:Nat),Vals xs B->Vals (xs.drop n) (B.drop n)
 |_,_,0,r=>r
 |_,_,_+1,.nil=>.nil
 |_,_,n+1,.cons _ t=>Vals.drop n t
def p_:Option V->Option Value->Prop
 |some v,some u=>RelV v u
 |none,none=>True
 |_,_=>False
def KV:List (κ×V)->List (κ×Value)->Prop:=Y9 λ(p:κ×V)(q:κ×Value)=>p.1=q.1/\RelV p.2 q.2
def kV:Key->V
 |.inl i=>.int i
 |.inr x=>.str x
inductive HO where
 |lst (xs:List V)
 |tup (xs:List V)
 |dK (kvs:List (Key×V))|dT (kvs:List (List Key×V))
 |set (S:Int->Bool) (n:Nat)
 |ins (C dx:Addr) (fs:List (Str×V))
 |own (x:Addr)
 |xd (fs:List (Str×V))
 |met (f x:Addr)
 |rng (lo hi:Int)
 |frz (o:Obj) (u:HO)
 |tbl (ps:Array Value)
 |ext (φ:Heap->Prop)
abbrev Hp:=Addr->Option HO
def upd(H:Hp)(a:Addr)(o:HO):Hp:=λb=>if b=a then some o else H b
variable{H:Hp}{o:HO}
theorem aZ:upd H a o a=some o:=by unfold upd;rw[Pk rfl]
variable{b:Addr}
theorem aK(h:b≠a):upd H a o b=H b:=by unfold upd;rw[Pn h]
theorem zN{u:HO}:upd (upd H a o) a u=upd H a u:=by
 funext b;unfold upd;split<;>rfl
theorem zy{u:HO}(h:H a=some o)(h':H b=some u)(d:o≠u):a≠b:=by
 intro e;subst e;rw[h]at h';exact d (QR h')
theorem aQ(h:H a=some o)(h':H b=none):a≠b:=by
 intro e;subst e;rw[h]at h';cases h'
def jj(h:Heap)(a:Addr)(items:Array Value):Prop:=∃o,h.get? a=some o/\o.cls= .type "tuple"/\∃n,o.data= .seq items n/\o.dict=none
theorem jj.new(h:Heap)(items:Array Value):jj (h.push {cls:=.type "tuple",data:=.seq items}) h.objs.size items:=⟨_,Pz _ rfl,rfl,_,rfl,rfl⟩
theorem jj.t(x:jj h a items):IsTup h a items:=let⟨o,e,c,n,d,_⟩:=x;⟨o,e,c,n,d⟩
section
variable(P:Program)(w:World)
def bw(H:Hp)(h:Heap)(a:Addr):HO->Prop
 |.lst xs=>xs.length<=Px/\∃(its:List Value)(n:Nat),Vals xs its/\h.get? a=some {cls:=.type "list",data:=.seq its.toArray n}
 |.tup xs=>xs.length<=Px/\∃its:List Value,Vals xs its/\jj h a its.toArray
 |.dK kvs=>kvs.length<=Px/\(a==T3)=false/\∃vs,KV kvs vs/\h.DictOf (bz P w) a vs
 |.dT kvs=>kvs.length<=Px/\(a==T3)=false/\∃xs:List (List Key×Addr×Value),
  Y9 (λ(p:List Key×V)(q:List Key×Addr×Value)=>p.1=q.1/\H q.2.1=some (.tup (p.1.map kV))/\RelV p.2 q.2.2) kvs xs/\
  ∃o es ep,h.get? a=some o/\o.ExactDict/\o.data= .dict es ep/\es.toList=xs.map (entryOfKey (XX (bz P w)))/\(xs.map (·.1)).Nodup
 |.set S n=>h.SetOf (intKind P w) a S n
 |.ins C dx fs=>H dx=some (.own a)/\fs.length<=1000/\dx≠a/\h.get? a=some (X3 C dx)/\
  ∃Z,h.Ns1 dx Z/\(∀f,p_ (fs.lookup f) (Z f))/\PySem.Within Z (fs.map (·.1))
 |.own _=>∃o,h.get? a=some o
 |.xd fs=>∃Z,h.Ns1 a Z/\∀f,p_ (fs.lookup f) (Z f)
 |.rng lo hi=>∃t u v,h.get? a=some {cls:=.type "range",data:=.fields #[.int lo t,.int hi u,.int 1 v]}
 |.frz o u=>h.get? a=some o/\bw H h a u
 |.tbl ps=>h.get? a=some {cls:=.none,data:=.fields ps}
 |.met f x=>h.get? a=some (Xe (.ref f) (.ref x))
 |.ext j=>j h/\(∃o,h.get? a=some o)/\∀h1 h2:Heap,j h1->(∀o,h1.get? a=some o->h2.get? a=some o)->j h2
def HOk(H:Hp)(h:Heap):Prop:=∀a o,H a=some o->bw P w H h a o
end
variable{P:Program}
theorem bw.lt(x:bw P w H h a o):a<h.objs.size:=by
 cases o with
 |lst xs=>obtain⟨_,_,_,_,e⟩:=x;exact Ph e
 |tup xs=>obtain⟨_,_,_,p⟩:=x;exact p.t.lt
 |dK kvs=>obtain⟨_,_,_,_,o,_,_,e,_⟩:=x;exact Ph e
 |dT kvs=>obtain⟨_,_,_,_,o,_,_,e,_⟩:=x;exact Ph e
 |set S n=>obtain⟨o,_,_,_,e,_⟩:=x;exact Ph e
 |ins C dx fs=>obtain⟨_,_,_,e,_⟩:=x;exact Ph e
 |own y=>obtain⟨_,e⟩:=x;exact Ph e
 |xd fs=>obtain⟨_,⟨_,_,_,e,_⟩,_⟩:=x;exact Ph e
 |rng lo hi=>obtain⟨_,_,_,e⟩:=x;exact Ph e
 |frz ob u=>obtain⟨e,_⟩:=x;exact Ph e
 |tbl ps=>exact Ph (show h.get? a=some _ from x)
 |met f y=>exact Ph (show h.get? a=some _ from x)
 |ext j=>obtain⟨_,⟨_,e⟩,_⟩:=x;exact Ph e
theorem Paired.mapP{F G:α->β->Prop}:∀{j:List α}{q:List β},Y9 F j q->(∀a b,F a b->G a b)->Y9 G j q
 |_,_,.nil,_=>.nil
 |_,_,.cons r t,f=>.cons (f _ _ r) (Paired.mapP t f)
variable{H':Hp}
theorem bw.stay(x:bw P w H h a o)(k:∀b u,(b=a∨H b=some (.own a))->h.get? b=some u->h'.get? b=some u)
  (B:∀b,H b=some (.own a)->H' b=some (.own a)) (U:∀b xs,H b=some (.tup xs)->H' b=some (.tup xs)):bw P w H' h' a o:=by
 induction o with
 |lst xs=>obtain⟨z,its,n,r,e⟩:=x;exact⟨z,its,n,r,k _ _ (.inl rfl) e⟩
 |tup xs=>obtain⟨z,its,r,ob,e,c⟩:=x;exact⟨z,its,r,ob,k _ _ (.inl rfl) e,c⟩
 |dK kvs=>obtain⟨z,y,vs,r,ob,es,ep,e,c⟩:=x;exact⟨z,y,vs,r,ob,es,ep,k _ _ (.inl rfl) e,c⟩
 |dT kvs=>
  obtain⟨z,y,xs,r,ob,es,ep,e,c⟩:=x;exact⟨z,y,xs,Paired.mapP r λp q z=>⟨z.1,U _ _ z.2.1,z.2.2⟩,ob,es,ep,k _ _ (.inl rfl) e,c⟩
 |set S n=>obtain⟨ob,es,ep,t,e,c⟩:=x;exact⟨ob,es,ep,t,k _ _ (.inl rfl) e,c⟩
 |ins C dx fs=>
  obtain⟨d,z,ne,e,Z,⟨O,es,ep,e2,c⟩,r⟩:=x;exact⟨B _ d,z,ne,k _ _ (.inl rfl) e,Z,⟨O,es,ep,k _ _ (.inr d) e2,c⟩,r⟩
 |own y=>obtain⟨ob,e⟩:=x;exact⟨ob,k _ _ (.inl rfl) e⟩
 |xd fs=>obtain⟨Z,⟨O,es,ep,e,c⟩,r⟩:=x;exact⟨Z,⟨O,es,ep,k _ _ (.inl rfl) e,c⟩,r⟩
 |rng lo hi=>obtain⟨t,u,v,e⟩:=x;exact⟨t,u,v,k _ _ (.inl rfl) e⟩
 |frz ob u F=>obtain⟨e,q⟩:=x;exact⟨k _ _ (.inl rfl) e,F q⟩
 |tbl ps=>
  have e:h.get? a=some {cls:=.none,data:=.fields ps}:=x;show h'.get? a=some {cls:=.none,data:=.fields ps};exact k a _ (.inl rfl) e
 |met f y=>
  have e:h.get? a=some (Xe (.ref f) (.ref y)):=x;show h'.get? a=some (Xe (.ref f) (.ref y));exact k a _ (.inl rfl) e
 |ext j=>obtain⟨p,⟨o,e⟩,st⟩:=x;exact⟨st _ _ p λo q=>k _ _ (.inl rfl) q,⟨o,k _ _ (.inl rfl) e⟩,st⟩
theorem HOk.lt(x:HOk P w H h)(e:H a=some o):a<h.objs.size:=(x a o e).lt
theorem HOk.fresh(x:HOk P w H h)(e:h.objs.size<=a):H a=none:=by
 cases q:H a with
 |none=>rfl
 |some u=>exact absurd (P0 (x.lt q) e) (Rt _)
theorem HOk.kept(x:HOk P w H h)(k:∀b u,h.get? b=some u->h'.get? b=some u):HOk P w H h':=λa o e=>
 (x a o e).stay (λb u _ q=>k b u q) (λ_ q=>q) λ_ _ q=>q
theorem HOk.laid(x:HOk P w H h)(k:∀b u,h.get? b=some u->h'.get? b=some u)(Y:h.objs.size<=a)(new:bw P w (upd H a o) h' a o):HOk P w (upd H a o) h':=λb u e=>by
 have hn:=x.fresh Y;by_cases U:b=a
 .subst U;rw[aZ]at e;cases e;exact new
 .rw[aK U]at e
  exact(x b u e).stay (λc v _ q=>k c v q) (λc q=>by rw[aK (aQ q hn)];exact q) λc xs q=>by rw[aK (aQ q hn)];exact q
def Rd(H:Hp)(a:Addr)(u:HO):Prop:=H a=some u∨∃o,H a=some (.frz o u)
theorem Rd.ok{P:QG}{u:HO}(r:Rd H a u)(x:HOk P w H h):bw P w H h a u:=by
 rcases r with r|⟨o,r⟩
 .exact x a u r
 .obtain⟨_,q⟩:=x a _ r
  exact q
def Mut:Option HO->Prop
 |some (.lst _)=>True
 |some (.dK _)=>True
 |some (.dT _)=>True
 |some (.set _ _)=>True
 |some (.ins _ _ _)=>True
 |some (.ext _)=>True
 |_=>False
variable{x e:Addr}{o':HO}
theorem HOk.write(ok:HOk P w H h)(mu:Mut (H x))(V:e=x∨H e=some (.own x))(k:∀b u,b≠e->h.get? b=some u->h'.get? b=some u)(B:∃u,h'.get? e=some u)
  (new:bw P w (upd H x o') h' x o'):HOk P w (upd H x o') h':=λb u q=>by
 have F:∀c y,H c=some (.own y)->c≠x:=λc y r z=>by subst z;rw[r]at mu;exact mu
 have I:∀c xs,H c=some (.tup xs)->c≠x:=λc xs r z=>by subst z;rw[r]at mu;exact mu
 by_cases U:b=x
 .subst U;rw[aZ]at q;cases q;exact new
 .rw[aK U]at q
  by_cases j:b=e
  .have q':H b=some (.own x):=by
    rcases V with z|z
    .exact absurd (j.trans z) U
    .rw[j];exact z
   rw[q]at q';cases q';obtain⟨v,N⟩:=B;exact⟨v,by rw[j];exact N⟩
  .refine(ok b u q).stay (λc v Y r=>k c v ?_ r) (λc r=>by rw[aK (F c b r)];exact r) λc xs r=>by rw[aK (I c xs r)];exact r
   rcases Y with rfl|Y
   .exact j
   .rintro rfl
    rcases V with z|z
    .exact F c b Y z
    .rw[Y]at z;cases z;exact U rfl
structure Un(fs ex:List Addr)(H H':Hp)(h h':Heap):Prop where
 keep:∀b o,h.get? b=some o->H b=none->b∉fs->b∉ex->h'.get? b=some o
 slot:∀b o,h.get? b=some o->H b=none->b∈fs->b∉ex->∃sl,h'.get? b=some {o with slots:=sl}
 free:∀b o,h.get? b=some o->H b=none->b∉ex->H' b=none
 there:∀b o,h.get? b=some o->b∉ex->∃o',h'.get? b=some o'
 tups:∀b xs,H b=some (.tup xs)->H' b=some (.tup xs)
 frzs:∀b o u,H b=some (.frz o u)->H' b=some (.frz o u)
 tbls:∀b ps,H b=some (.tbl ps)->∃more,H' b=some (.tbl (ps++more))
section
variable{fs fs' ex ex':List Addr}{H H1 H2:Hp}{h h1 h2 h':Heap}{a x e:Addr}{o:HO}
theorem Un.any(u:Un fs ex H H1 h h1){b:Addr}{ob:Obj}(q:h.get? b=some ob)(n:H b=none)(J:b∉ex):∃sl,h1.get? b=some {ob with slots:=sl}:=by
 by_cases U:b∈fs
 .exact u.slot b ob q n U J
 .exact⟨ob.slots,u.keep b ob q n U J⟩
theorem Un.kept(k:∀b u,h.get? b=some u->h'.get? b=some u):Un fs ex H H h h':=
 ⟨λb ob q _ _ _=>k b ob q,λb ob q _ _ _=>⟨ob.slots,k b ob q⟩,λ_ _ _ n _=>n,λb ob q _=>⟨ob,k b ob q⟩,λ_ _ q=>q,λ_ _ _ q=>q,λ_ ps q=>⟨#[],by rw[q];simp⟩⟩
theorem Un.refl:Un fs ex H H h h:=Un.kept λ_ _ q=>q
theorem Un.laid(k:∀b u,h.get? b=some u->h'.get? b=some u)(Y:h.objs.size<=a)(hn:H a=none):Un fs ex H (upd H a o) h h' where
 keep:=λb u q _ _ _=>k b u q
 slot:=λb u q _ _ _=>⟨u.slots,k b u q⟩
 free:=λb u q n _=>by rw[aK (PN (P0 (Ph q) Y))];exact n
 there:=λb u q _=>⟨u,k b u q⟩
 tups:=λb xs q=>by rw[aK (aQ q hn)];exact q
 frzs:=λb u xs q=>by rw[aK (aQ q hn)];exact q
 tbls:=λb ps q=>⟨#[],by rw[aK (aQ q hn),q];simp⟩
theorem Un.write(mu:Mut (H x))(V:e=x∨H e=some (.own x))(k:∀b u,b≠e->h.get? b=some u->h'.get? b=some u)(B:∃u,h'.get? e=some u):Un fs ex H (upd H x o) h h':=by
 have J:∀b,H b=none->b≠x:=λb n z=>by subst z;rw[n]at mu;exact mu
 have U:∀b,H b=none->b≠e:=λb n z=>by
  subst z;rcases V with r|r
  .exact J b n r
  .rw[n]at r;cases r
 have F:∀b u,H b=some u->¬Mut (some u)->b≠x:=λb u q Y z=>by subst z;rw[q]at mu;exact Y mu
 refine⟨λb u q n _ _=>k b u (U b n) q,λb u q n _ _=>⟨u.slots,k b u (U b n) q⟩,λb u q n _=>by rw[aK (J b n)];exact n,λb u q _=>?_,
  λb xs q=>by rw[aK (F b _ q λz=>z)];exact q,λb u xs q=>by rw[aK (F b _ q λz=>z)];exact q,λb ps q=>⟨#[],by rw[aK (F b _ q λz=>z),q];simp⟩⟩
 by_cases j:b=e
 .subst j;exact B
 .exact⟨u,k b u j q⟩
end
def trk(h:Heap)(H:Hp):List Addr:=(Qq h.objs.size).filter λa=>(H a).isSome
def tU(h:Heap)(H:Hp):Heap:=PySem.W.hideAll h (trk h H)
theorem Av(h:Heap)(H:Hp):(tU h H).objs.size=h.objs.size:=PySem.W.hideAll_size _ _
variable{o:Obj}
theorem CZ(e:h.get? b=some o)(n:H b=none):(tU h H).get? b=some o:=
 PySem.W.hideAll_get _ e λV=>by
  have q:(H b).isSome=true:=(aak.mp V).2;rw[n]at q;simp at q
theorem HN(e:(tU h H).get? b=some o):h.get? b=some o/\H b=none:=by
 have B:h.get? b=some o:=PySem.W.of_hideAll (trk h H) e;refine⟨B,?_⟩;cases q:H b with
 |none=>rfl
 |some x=>
  have V:b∈trk h H:=aak.mpr ⟨RL.mpr (Ph B),by simp[q]⟩;have z:(tU h H).get? b=none:=PySem.W.hideAll_none (trk h H) V;rw[z]at e;cases e
def Ir(g h:Heap)(L:Addr):List (Addr×Obj):=(Qq h.objs.size).filterMap λa=>if a=L∨(g.get? a).isSome=true then none else(h.get? a).map λo=>(a,o)
def rest(g h:Heap)(L d:Addr):List (Addr×Obj):=(Ir g h L).filter λp=>decide (p.1≠d)
structure Mod(K:PySem.W.Frag)(mg:Str->Option Value)(base:Heap):Prop where
 kin:K.In base
 glob:base.Ns Qa mg
 blt:∃mb,base.Ns builtinsNs mb/\∀x:Str,x≠"__name__"->mb x=RW x
 nolimit:base.NoLimit
structure Cx where
 prog:QG
 w:World
 K:Pu
 mg:Str->Option Value
 base:Heap
 A:Rh
 N:List Str
 s₀:zc
 H₀:Hp
 env:Env
 outer:List Env
 stack:List Env
 ex:List Addr
 fn:Str->Bool
 calm:Bool
 pn:List (Addr×Obj)
 xe:Value->zc->Prop
def frs(l:List Env):List Addr:=l.filterMap (·.frame)
noncomputable abbrev Cx.fs(X:Cx):List Addr:=frs X.outer
def Vis(j:Scope)(x:Str):Prop:=j.names.lookup x=some .local∨j.names.lookup x=some .cell∨j.names.lookup x=some .free
def Loc(j:Scope)(x:Str):Prop:=j.names.lookup x=some .local∨j.names.lookup x=some .cell
def Look(env:Env)(h:Heap)(m:Str->Option Value)(x:Str)(u:Value):Prop:=
 (env.kindOf x=some .local/\m x=some u)∨((env.kindOf x=some .cell∨env.kindOf x=some .free)/\∃c,env.cells.lookup x=some c/\h.IsCell c (some u))
structure Cx.Ok(X:Cx):Prop where
 mod:Mod X.K X.mg X.base
 kind:X.env.scope.kind= .function
 glob:X.env.globals=Qa
 blt:X.env.builtins=builtinsNs
 above:X.s₀.heap.objs.size<=X.env.locals
 inj:∀x y c,X.env.cells.lookup x=some c->X.env.cells.lookup y=some c->x=y
 has:∀x,(X.env.kindOf x=some .cell∨X.env.kindOf x=some .free)->∃c,X.env.cells.lookup x=some c
 cab:∀x c,X.fn x=true->X.env.cells.lookup x=some c->X.s₀.heap.objs.size<=c
 hd:X.calm=true->X.A.handled=none
 frames:X.A.frames=some X.stack
 stk:X.stack=X.outer∨(X.stack=X.env::X.outer/\X.env.frame=some X.env.locals)
 exf:∀b∈X.ex,b≠X.env.locals/\∀x c,X.env.cells.lookup x=some c->c≠b
 bs:∀b o,X.base.get? b=some o->X.s₀.heap.get? b=some o/\X.H₀ b=none
 bsz:X.base.objs.size<=X.s₀.heap.objs.size
 noex:∀b o,X.base.get? b=some o->b∉X.ex
 exfs:∀b∈X.ex,b∉X.fs
 funs:X.s₀.heap.FunFrames X.base X.outer
 frf:∀b∈X.fs,X.H₀ b=none
structure Inv(X:Cx)(pins:List (Addr×Obj))(σ:List (Option V))(H:Hp)(s:Shared):Prop where
 ok:X.Ok
 os:s.os=X.s₀.os
 bare:We s.gens
 base:Un X.fs X.ex X.H₀ H X.s₀.heap s.heap
 loc:∃m,s.heap.Ns X.env.locals m/\∀(i:Nat)(x:Str)(v:V),X.N[i]? =some x->σ[i]? =some (some v)->Vis X.env.scope x->∃u,RelV v u/\Look X.env s.heap m x u
 cell:∀x c,X.env.cells.lookup x=some c->∃v,s.heap.IsCell c v
 free:H X.env.locals=none
 freeC:∀x c,X.env.cells.lookup x=some c->H c=none
 pin:∀p∈X.pn++pins,s.heap.get? p.1=some p.2/\H p.1=none/\p.1≠X.env.locals/\p.1∉X.fs/\∀v,p.2.data≠.cell v
 hok:HOk X.prog X.w H s.heap
 len:σ.length=X.N.length
variable{X:Cx}
theorem Cx.Ok.nofr(ok:X.Ok)(e:X.base.get? b=some o):b∉X.fs:=λU=>by
 have:=(ok.funs.mem U).1;rw[e]at this;cases this
variable{σ:List (Option V)}
theorem Inv.bs(I:Inv X pins σ H s):∀b o,X.base.get? b=some o->s.heap.get? b=some o/\H b=none:=λb o e=>
 ⟨I.base.keep b o (I.ok.bs b o e).1 (I.ok.bs b o e).2 (I.ok.nofr e) (I.ok.noex b o e),I.base.free b o (I.ok.bs b o e).1 (I.ok.bs b o e).2 (I.ok.noex b o e)⟩
theorem Inv.bk(I:Inv X pins σ H s):∀b o,X.base.get? b=some o->s.heap.get? b=some o:=λb o e=>(I.bs b o e).1
theorem Inv.mod(I:Inv X pins σ H s):Mod X.K X.mg X.base:=I.ok.mod
theorem Inv.kIn(I:Inv X pins σ H s):X.K.In s.heap:=I.ok.mod.kin.keeps I.bk
theorem Inv.lt(I:Inv X pins σ H s):X.env.locals<s.heap.objs.size:=let⟨_,hn,_⟩:=I.loc;hn.lt
theorem Inv.sz(I:Inv X pins σ H s):X.s₀.heap.objs.size<=s.heap.objs.size:=RX I.ok.above (UT I.lt)
theorem Inv.nofs(I:Inv X pins σ H s)(h:s.heap.objs.size<=a):a∉X.fs:=λU=>by
 obtain⟨_,o,B,_⟩:=I.ok.funs.mem U;exact absurd (P0 (Ph B) (RX I.sz h)) (Rt _)
theorem Inv.cne(I:Inv X pins σ H s):∀x c,X.env.cells.lookup x=some c->c≠X.env.locals:=λx c e z=>by
 obtain⟨v,o,B,hd⟩:=I.cell x c e;obtain⟨m,⟨o',es,ep,q,N,_⟩,_⟩:=I.loc;rw[z,q]at B;cases B;rw[N]at hd;cases hd
theorem Inv.funs(I:Inv X pins σ H s):s.heap.FunFrames X.base X.outer:=by
 have all:∀(l:List Env),(∀b∈frs l,b∈X.fs)->X.s₀.heap.FunFrames X.base l->s.heap.FunFrames X.base l:=by
  intro l
  induction l with
  |nil=>intro _ _;trivial
  |cons env r j=>
   intro F q;obtain⟨J,⟨L,o,O,hn,B,hd⟩,Z⟩:=q;have N:L∈X.fs:=F L (by unfold frs;rw[Vg,O];exact Qt);obtain⟨sl,e⟩:=I.base.slot L o B (I.ok.frf L N) N λz=>I.ok.exfs L z N;exact⟨J,⟨L,_,O,hn,e,hd⟩,j (λb U=>F b (by unfold frs;rw[Vg,O];exact Qm _ U)) Z⟩
 exact all X.outer (λ_ U=>U) I.ok.funs
theorem Inv.stack(I:Inv X pins σ H s):s.heap.FunFrames X.base X.stack:=by
 rcases I.ok.stk with e|⟨e,O⟩
 .rw[e];exact I.funs
 .rw[e]
  obtain⟨m,hn,_⟩:=I.loc;refine .cons (by rw[I.ok.kind];decide) O hn ?_ I.funs;exact Heap.get?_none_of_le (RX I.ok.bsz I.ok.above)
theorem Inv.stkSub(I:Inv X pins σ H s):∀b∈frs X.stack,b∈X.env.locals::X.fs:=λb U=>by
 rcases I.ok.stk with e|⟨e,O⟩
 .rw[e]at U;exact Qm _ U
 .rw[e]at U
  unfold frs at U;rw[Vg,O]at U;exact U
theorem Inv.stkFree(I:Inv X pins σ H s):∀b∈frs X.stack,H b=none:=λb U=>by
 rcases Pj.mp (I.stkSub b U)with e|U
 .rw[e];exact I.free
 .obtain⟨_,o,ho,_⟩:=I.ok.funs.mem U
  exact I.base.free b o ho (I.ok.frf b U) λz=>I.ok.exfs b z U
theorem Inv.step(I:Inv X pins σ H s)
  (F:∀b∈ch,(b∈X.ex∨X.s₀.heap.objs.size<=b)/\b≠X.env.locals/\(∀x c,X.env.cells.lookup x=some c->c≠b)/\∀p∈X.pn++pins,p.1≠b)
  (keep:∀b o,b≠X.env.locals->b∉X.fs->b∉ch->s.heap.get? b=some o->H b=none->h'.get? b=some o)
  (slot:∀b o,b≠X.env.locals->b∈X.fs->b∉ch->s.heap.get? b=some o->H b=none->∃sl,h'.get? b=some {o with slots:=sl}) (free:∀b o,b∉ch->s.heap.get? b=some o->H b=none->H' b=none)
  (there:∀b o,b∉ch->s.heap.get? b=some o->∃o',h'.get? b=some o')
  (tups:∀b xs,H b=some (.tup xs)->H' b=some (.tup xs)) (frzs:∀b o u,H b=some (.frz o u)->H' b=some (.frz o u)) (tbls:∀b ps,H b=some (.tbl ps)->∃a2,H' b=some (.tbl (ps++a2)))
  (ns:∀m,s.heap.Ns X.env.locals m->h'.Ns X.env.locals m) (hok:HOk X.prog X.w H' h') (j:We g') :
  Inv X pins σ H' {s with heap:=h',gens:=g',drawn:=d',toks:=t'}:=by
 have a1:∀b o,X.s₀.heap.get? b=some o->b≠X.env.locals:=λb o e=>PN (P0 (Ph e) I.ok.above);have a0:∀b o,X.s₀.heap.get? b=some o->b∉X.ex->b∉ch:=λb o e J U=>by
  rcases(F b U).1 with z|z
  .exact J z
  .exact absurd (P0 (Ph e) z) (Rt _)
 have V:∀x c,X.env.cells.lookup x=some c->∀v,s.heap.IsCell c v->h'.IsCell c v:=λx c e v ⟨o,B,hd⟩=>by
  have Z:c∉ch:=λz=>(F c z).2.2.1 x c e rfl;by_cases Y:c∈X.fs
  .obtain⟨sl,q⟩:=slot c o (I.cne x c e) Y Z B (I.freeC x c e)
   exact⟨_,q,hd⟩
  .exact⟨o,keep c o (I.cne x c e) Y Z B (I.freeC x c e),hd⟩
 refine⟨I.ok,I.os,j,⟨λb o e n U J=>?_,λb o e n U J=>?_,λb o e n J=>?_,λb o e J=>?_,λb xs e=>tups b xs (I.base.tups b xs e),λb o xs e=>frzs b o xs (I.base.frzs b o xs e),λb ps e=>?_⟩,?_,λx c e=>?_,?_,λx c e=>?_,λp hp=>?_,hok,I.len⟩
 .exact keep b o (a1 b o e) U (a0 b o e J) (I.base.keep b o e n U J) (I.base.free b o e n J)
 .obtain⟨sl,e1⟩:=I.base.slot b o e n U J
  obtain⟨a3,e2⟩:=slot b _ (a1 b o e) U (a0 b o e J) e1 (I.base.free b o e n J);exact⟨a3,e2⟩
 .obtain⟨o',e1⟩:=I.base.there b o e J
  exact free b o' (a0 b o e J) e1 (I.base.free b o e n J)
 .obtain⟨o',e1⟩:=I.base.there b o e J
  exact there b o' (a0 b o e J) e1
 .obtain⟨m1,e1⟩:=I.base.tbls b ps e
  obtain⟨N,e2⟩:=tbls b _ e1;exact⟨m1++N,by rw[e2,Array.append_assoc]⟩
 .obtain⟨m,hn,hl⟩:=I.loc
  refine⟨m,ns m hn,λi x v e1 e2 O=>?_⟩;obtain⟨u,r,l⟩:=hl i x v e1 e2 O;refine⟨u,r,?_⟩;rcases l with l|⟨k,c,e,z⟩
  .exact .inl l
  .exact .inr ⟨k,c,e,V x c e _ z⟩
 .obtain⟨v,z⟩:=I.cell x c e
  exact⟨v,V x c e v z⟩
 .obtain⟨m,⟨o,_,_,B,_⟩,_⟩:=I.loc
  exact free _ o (λz=>(F _ z).2.1 rfl) B I.free
 .obtain⟨v,o,B,hd⟩:=I.cell x c e
  exact free c o (λz=>(F c z).2.2.1 x c e rfl) B (I.freeC x c e)
 .obtain⟨e,n,ne,nf,d⟩:=I.pin p hp
  have Z:p.1∉ch:=λz=>(F p.1 z).2.2.2 p hp rfl;exact⟨keep p.1 p.2 ne nf Z e n,free p.1 p.2 Z e n,ne,nf,d⟩
theorem Inv.un(I:Inv X pins σ H s)(u:Un X.fs [] H H' s.heap h')(hok:HOk X.prog X.w H' h'):Inv X pins σ H' {s with heap:=h',toks:=t'}:=by
 obtain⟨m,⟨o,es,ep,B,r⟩,_⟩:=id I.loc;obtain⟨sl,N⟩:=u.any B I.free (by simp);exact I.step (g':=s.gens) (d':=s.drawn) (ch:=[]) (λ_ z=>nomatch z) (λb o _ U _ e n=>u.keep b o e n U (by simp)) (λb o _ U _ e n=>u.slot b o e n U (by simp)) (λb o _ e n=>u.free b o e n (by simp)) (λb o _ e=>u.there b o e (by simp)) u.tups u.frzs u.tbls (λj V=>by
  obtain⟨o',F,J,q,Z⟩:=V;rw[B]at q;cases q;exact⟨_,F,J,N,Z⟩) hok I.bare
theorem Inv.call(I:Inv X pins σ H s)(u:Un (frs X.stack) ch H H' s.heap h')(hok:HOk X.prog X.w H' h')(j:We g')
  (O:∀b∈ch,(b∈X.ex∨X.s₀.heap.objs.size<=b)/\b≠X.env.locals/\(∀x c,X.env.cells.lookup x=some c->c≠b)/\∀p∈X.pn++pins,p.1≠b) :
  Inv X pins σ H' {s with heap:=h',gens:=g',drawn:=d',toks:=t'}:=by
 obtain⟨m,⟨o,es,ep,B,r⟩,_⟩:=id I.loc;obtain⟨sl,N⟩:=u.any B I.free λz=>(O _ z).2.1 rfl;exact I.step (ch:=ch) O (λb o N U Y e n=>u.keep b o e n (λz=>(Pj.mp (I.stkSub b z)).elim N U) Y) (λb o _ _ Y e n=>u.any e n Y) (λb o Y e n=>u.free b o e n Y) (λb o Y e=>u.there b o e Y) u.tups u.frzs u.tbls (λm' V=>by
  obtain⟨o',F,J,q,Z⟩:=V;rw[B]at q;cases q;exact⟨_,F,J,N,Z⟩) hok j
theorem Inv.turned(I:Inv X pins σ H s)(k:∀b o,b≠it->s.heap.get? b=some o->h'.get? b=some o)(hn:H it=none)(B:it≠X.env.locals)
  (h1:it∈X.ex∨X.s₀.heap.objs.size<=it) (h2:∀x c,X.env.cells.lookup x=some c->c≠it) (N:∀p∈X.pn++pins,p.1≠it):Inv X pins σ H {s with heap:=h',toks:=t'}:=by
 have j:∀b u,H b=some u->b≠it:=λb u e z=>by rw[z,hn]at e;cases e
 refine I.step (g':=s.gens) (d':=s.drawn) (ch:=[it]) (λb U=>?_) (λb o _ _ Y e _=>k b o (λz=>Y (by simp[z])) e) (λb o _ _ Y e _=>⟨o.slots,k b o (λz=>Y (by simp[z])) e⟩) (λ_ _ _ _ n=>n)
  (λb o Y e=>⟨o,k b o (λz=>Y (by simp[z])) e⟩) (λ_ _ e=>e) (λ_ _ _ e=>e) (λb ps e=>⟨#[],by rw[e];simp⟩) (λm V=>?_) (λb u e=>?_) I.bare
 .have e:b=it:=by simpa using U
  subst e;exact⟨h1,B,h2,N⟩
 .obtain⟨o,es,ep,ho,r⟩:=V
  exact⟨o,es,ep,k _ o (Qn B) ho,r⟩
 .refine(I.hok b u e).stay (λc v Y q=>k c v ?_ q) (λ_ q=>q) λ_ _ q=>q
  rcases Y with z|z
  .rw[z];exact j b u e
  .exact j c _ z
theorem Inv.tok(I:Inv X pins σ H s)(t:Nat):Inv X pins σ H {s with toks:=t}:=I.un (h':=s.heap) (t':=t) Un.refl I.hok
theorem Inv.kept(I:Inv X pins σ H s)(k:∀b u,s.heap.get? b=some u->h'.get? b=some u):Inv X pins σ H {s with heap:=h',toks:=t'}:=I.un (Un.kept k) (I.hok.kept k)
theorem Inv.laid{o:HO}(I:Inv X pins σ H s)(k:∀b u,s.heap.get? b=some u->h'.get? b=some u)(Y:s.heap.objs.size<=a)(new:bw X.prog X.w (upd H a o) h' a o) :
 Inv X pins σ (upd H a o) {s with heap:=h',toks:=t'}:=I.un (Un.laid k Y (I.hok.fresh Y)) (I.hok.laid k Y new)
theorem Inv.write{o:HO}(I:Inv X pins σ H s)(mu:Mut (H x))(V:e=x∨H e=some (.own x))(k:∀b u,b≠e->s.heap.get? b=some u->h'.get? b=some u)(B:∃u,h'.get? e=some u)
 (new:bw X.prog X.w (upd H x o) h' x o):Inv X pins σ (upd H x o) {s with heap:=h',toks:=t'}:=I.un (Un.write mu V k B) (I.hok.write mu V k B new)
theorem Inv.weak{B:List (Option V)}(I:Inv X pins σ H s)(Z:B.length=σ.length)(w:∀(i:Nat) v,B[i]? =some (some v)->σ[i]? =some (some v)):Inv X pins B H s:=
 ⟨I.ok,I.os,I.bare,I.base,let⟨m,hn,hl'⟩:=I.loc;⟨m,hn,λi x v e1 e2 O=>hl' i x v e1 (w i v e2) O⟩,I.cell,I.free,I.freeC,I.pin,I.hok,Z.trans I.len⟩
theorem Inv.pins_of{j:List (Addr×Obj)}(I:Inv X pins σ H s)(h:∀p∈j,s.heap.get? p.1=some p.2/\H p.1=none/\p.1≠X.env.locals/\p.1∉X.fs/\∀v,p.2.data≠.cell v):Inv X j σ H s:=
 ⟨I.ok,I.os,I.bare,I.base,I.loc,I.cell,I.free,I.freeC,λp Y=>(Mz.mp Y).elim (λz=>I.pin p (PL _ z)) (h p),I.hok,I.len⟩
variable{x:Str}
theorem v9(U:N.Nodup)(a:N[i]? =some x)(b:N[j]? =some x):i=j:=by
 obtain⟨h1,e1⟩:=Mx.mp a;obtain⟨h2,e2⟩:=Mx.mp b;exact(List.getElem_inj U).mp (e1.trans e2.symm)
variable{M:Model}{A:Rh}{E:Value->zc->Prop}{Q:Unit->zc->Prop}
theorem A_{v:V}(I:Inv X pins σ H s)(hN:X.N.Nodup)(hi:X.N[i]? =some x)(J:Loc X.env.scope x)(r:RelV v u)
  (h:∀s',Inv X pins (σ.set i (some v)) H s'->(∃a,TF a s.heap s'.heap/\(a=X.env.locals∨X.env.cells.lookup x=some a))->Q () s') (hf:X.fn x=true∨X.env.scope.names.lookup x=some .local:=by first|exact .inl rfl|exact .inr rfl|assumption):wpAny M A (storeName X.env x u) Q E s:=by
 obtain⟨m,hn,Z⟩:=id I.loc;have a5:(X.env.scope.kind== .class||(X.env.scope.kind== .module&&X.env.locals !=X.env.globals))=false:=by rw[I.ok.kind];rfl
 have a2:i<σ.length:=by rw[I.len];exact(Mx.mp hi).1
 have cne:=I.cne;have a0:∀{a:Addr}{h':Heap},(∃o,s.heap.get? a=some o/\H a=none)->TF a s.heap h'->HOk X.prog X.w H h':=λ{a h'} O F b ob e=>by
  obtain⟨_,_,a1⟩:=O;refine(I.hok b ob e).stay (λc w' Y q=>(F.2 c ?_).trans q) (λ_ q=>q) λ_ _ q=>q;rintro rfl;rcases Y with rfl|Y
  .rw[a1]at e;cases e
  .rw[a1]at Y;cases Y
 rcases J with hk|hk
 .refine wpAny_storeName_local hk hn (λh' a7 F=>?_) a5
  obtain⟨oL,_,_,a8,_⟩:=id hn;refine h _ ⟨I.ok,I.os,I.bare,⟨λb o e n U J=>?_,λb o e n U J=>?_,I.base.free,λb o e J=>?_,I.base.tups,I.base.frzs,I.base.tbls⟩,⟨_,a7,λj y B e1 e2 e3=>?_⟩,λy c e=>?_,I.free,I.freeC,λp hp=>?_,a0 ⟨oL,a8,I.free⟩ F,by simpa using I.len⟩ ⟨_,F,.inl rfl⟩
  .exact(F.2 b (PN (P0 (Ph e) I.ok.above))).trans (I.base.keep b o e n U J)
  .obtain⟨sl,e1⟩:=I.base.slot b o e n U J
   exact⟨sl,(F.2 b (PN (P0 (Ph e) I.ok.above))).trans e1⟩
  .obtain⟨o',e1⟩:=I.base.there b o e J
   exact⟨o',(F.2 b (PN (P0 (Ph e) I.ok.above))).trans e1⟩
  .by_cases hj:j=i
   .subst hj
    rw[hi]at e1;cases e1;rw[VP a2]at e2;cases e2;exact⟨u,r,.inl ⟨hk,by simp⟩⟩
   .rw[List.getElem?_set_ne (Qn hj)]at e2
    obtain⟨u',r',q⟩:=Z j y B e1 e2 e3;refine⟨u',r',?_⟩;rcases q with⟨k,e⟩|⟨k,c,e,z⟩
    .refine .inl ⟨k,?_⟩
     have:y≠x:=λe=>hj (v9 hN e1 (e▸hi));simp[this,e]
    .exact .inr ⟨k,c,e,z.sameBut F (cne y c e)⟩
  .obtain⟨w',z⟩:=I.cell y c e
   exact⟨w',z.sameBut F (cne y c e)⟩
  .obtain⟨e,n,ne,nf,d⟩:=I.pin p hp
   exact⟨(F.2 p.1 ne).trans e,n,ne,nf,d⟩
 .have hfn:X.fn x=true:=by
   rcases hf with z|z
   .exact z
   .rw[z]at hk;cases hk
  obtain⟨c,Y⟩:=I.ok.has x (.inl hk);obtain⟨w',z⟩:=I.cell x c Y;refine wpAny_storeName_cell I.ok.kind hk Y z (λh' a6 F=>?_);obtain⟨oc,a3,a4⟩:=id z;refine h {s with heap:=h'} ⟨I.ok,I.os,I.bare,⟨λb o e n U J=>?_,λb o e n U J=>?_,I.base.free,λb o e J=>?_,I.base.tups,I.base.frzs,I.base.tbls⟩,⟨m,hn.sameBut F (Qn (cne x c Y)),λj y B e1 e2 e3=>?_⟩,λy c' e=>?_,I.free,I.freeC,λp hp=>?_,a0 ⟨oc,a3,I.freeC x c Y⟩ F,by simpa using I.len⟩ ⟨c,F,.inr Y⟩
  .exact(F.2 b (PN (P0 (Ph e) (I.ok.cab x c hfn Y)))).trans (I.base.keep b o e n U J)
  .obtain⟨sl,e1⟩:=I.base.slot b o e n U J
   exact⟨sl,(F.2 b (PN (P0 (Ph e) (I.ok.cab x c hfn Y)))).trans e1⟩
  .obtain⟨o',e1⟩:=I.base.there b o e J
   exact⟨o',(F.2 b (PN (P0 (Ph e) (I.ok.cab x c hfn Y)))).trans e1⟩
  .by_cases hj:j=i
   .subst hj
    rw[hi]at e1;cases e1;rw[VP a2]at e2;cases e2;exact⟨u,r,.inr ⟨.inl hk,c,Y,a6⟩⟩
   .rw[List.getElem?_set_ne (Qn hj)]at e2
    obtain⟨u',r',q⟩:=Z j y B e1 e2 e3;refine⟨u',r',?_⟩;rcases q with q|⟨k,c',e,z'⟩
    .exact .inl q
    .refine .inr ⟨k,c',e,z'.sameBut F ?_⟩
     rintro rfl;exact hj (v9 hN e1 (I.ok.inj _ _ _ e Y▸hi))
  .by_cases hcc:c'=c
   .subst hcc;exact⟨_,a6⟩
   .obtain⟨w2,z2⟩:=I.cell y c' e
    exact⟨w2,z2.sameBut F hcc⟩
  .obtain⟨e,n,ne,nf,d⟩:=I.pin p hp
   refine⟨(F.2 p.1 ?_).trans e,n,ne,nf,d⟩;intro q;rw[q,a3]at e;have q':oc=p.2:=QR e;exact d w' (by rw[←q'];exact a4)
theorem jq{v:V}(I:Inv X pins σ H s)(U:X.N.Nodup)(hi:X.N[i]? =some x)(J:Loc X.env.scope x)(r:RelV v u)
  (h:∀s',Inv X pins (σ.set i (some v)) H s'->Q () s') (O:X.fn x=true∨X.env.scope.names.lookup x=some .local:=by first|exact .inl rfl|exact .inr rfl|assumption):wpAny M A (storeName X.env x u) Q E s:=
 A_ I U hi J r (λs' Z _=>h s' Z) O
theorem Inv.call'(I:Inv X pins σ H s)(B:s'.os=s.os)(u:Un (frs X.stack) ch H H' s.heap s'.heap)(hok:HOk X.prog X.w H' s'.heap)(j:We s'.gens)
  (F:∀b∈ch,(b∈X.ex∨X.s₀.heap.objs.size<=b)/\b≠X.env.locals/\(∀x c,X.env.cells.lookup x=some c->c≠b)/\∀p∈X.pn++pins,p.1≠b):Inv X pins σ H' s':=by
 obtain⟨h',g',d',t',o'⟩:=s';have e:o'=s.os:=B;subst e;exact I.call (g':=g') (t':=t') (d':=d') u hok j F
abbrev XK:=Value->Option Addr->Hp->Prop
abbrev St:=List (Option V)
abbrev VK:=V->Hp->Prop
abbrev TE:=St->Hp->VK->Prop
abbrev TT:=St->Hp->(Bool->Hp->Prop)->Prop
abbrev TA:=St->Hp->(List V->Hp->Prop)->Prop
structure Ends where
 nx:St->Hp->Prop
 rt:VK
 bk:St->Hp->Prop:=λ_ _=>False
 ct:St->Hp->Prop:=λ_ _=>False
abbrev TS:=Ends->St->Hp->Prop
def EP(X:Cx)(pins:List (Addr×Obj))(σ:St)(Q:VK)(u:Value)(s':zc):Prop:=∃v H',Inv X pins σ H' s'/\RelV v u/\Q v H'
def TP(X:Cx)(pins:List (Addr×Obj))(σ:St)(Q:Bool->Hp->Prop)(b:Bool)(s':zc):Prop:=∃H',Inv X pins σ H' s'/\Q b H'
def AP(X:Cx)(pins:List (Addr×Obj))(σ:St)(Q:List V->Hp->Prop)(B:List Value)(s':zc):Prop:=∃vs H',Inv X pins σ H' s'/\Vals vs B/\Q vs H'
def SP(X:Cx)(pins:List (Addr×Obj))(D:Ends)(f:Flow)(s':zc):Prop:=
 match f with
 |.next=>∃B H',Inv X pins B H' s'/\D.nx B H'
 |.brk=>∃B H',Inv X pins B H' s'/\D.bk B H'
 |.cont=>∃B H',Inv X pins B H' s'/\D.ct B H'
 |.ret u=>∃v B H',Inv X pins B H' s'/\RelV v u/\D.rt v H'
def PE(X:Cx)(e:Expr)(t:TE):Prop:=
 ∀(pins:List (Addr×Obj))(s:zc)(σ:St)(H:Hp)(Q:VK),Inv X pins σ H s->t σ H Q->wpAny (model X.prog X.w) X.A (eval e X.env) (EP X pins σ Q) X.xe s
def PT(X:Cx)(e:Expr)(t:TT):Prop:=
 ∀(pins:List (Addr×Obj))(s:zc)(σ:St)(H:Hp)(Q:Bool->Hp->Prop),Inv X pins σ H s->t σ H Q->wpAny (model X.prog X.w) X.A (Y_ e X.env (eval e X.env)) (TP X pins σ Q) X.xe s
def PW(X:Cx)(e:Expr)(t:TT):Prop:=
 ∀(j:Sem Value)(pins:List (Addr×Obj))(s:zc)(σ:St)(H:Hp)(Q:Bool->Hp->Prop),Inv X pins σ H s->t σ H Q->wpAny (model X.prog X.w) X.A (Y_ e X.env j) (TP X pins σ Q) X.xe s
variable{e:Expr}
theorem PW.pt{t:TT}(h:PW X e t):PT X e t:=h _
def PA(X:Cx)(es:List Expr)(t:TA):Prop:=
 ∀(pos:Pos)(pins:List (Addr×Obj))(s:zc)(σ:St)(H:Hp)(Q:List V->Hp->Prop),Inv X pins σ H s->t σ H Q->wpAny (model X.prog X.w) X.A (spliced (SM pos (PK es X.env))) (AP X pins σ Q) X.xe s
def PS(X:Cx)(st:Stmt)(t:TS):Prop:=
 ∀(pins:List (Addr×Obj))(s:zc)(σ:St)(H:Hp)(D:Ends),Inv X pins σ H s->t D σ H->wpAny (model X.prog X.w) X.A (exec st X.env) (SP X pins D) X.xe s
def PSs(X:Cx)(st:List Stmt)(t:TS):Prop:=
 ∀(pins:List (Addr×Obj))(s:zc)(σ:St)(H:Hp)(D:Ends),Inv X pins σ H s->t D σ H->wpAny (model X.prog X.w) X.A (execs st X.env) (SP X pins D) X.xe s
theorem thn{t:Sem α}{Q V:α->zc->Prop}{s:zc}(h:wpAny M A t Q E s)(q:∀a s,Q a s->V a s):wpAny M A t V E s:=Sq h q λ_ _ x=>x
section
variable{X:Cx}
def Gs(i:Nat):TE:=λσ H Q=>∃v,σ[i]? =some (some v)/\Q v H
def tC(v:V):TE:=λ_ H Q=>Q v H
theorem JQ{i:Nat}{x:Str}{pos:Pos}(B:X.N[i]? =some x)(F:Vis X.env.scope x)(hd:(x==("__debug__":Str))=false:=by decide)(j:(x==("__classdict__":Str))=false:=by decide):PE X (.Name x pos) (Gs i):=by
 intro pins s σ H Q I h;obtain⟨v,e,h⟩:=h;obtain⟨m,hn,Z⟩:=I.loc;obtain⟨u,r,l⟩:=Z i x v B e F;have U:EP X pins σ Q u s:=⟨v,H,I,r,h⟩;rcases l with⟨J,V⟩|⟨J,c,Y,q⟩
 .exact wpAny_Name (wpAny_loadName_local I.ok.kind J hn V U) hd
 .rcases J with J|J
  .exact wpAny_Name (wpAny_loadName_cell I.ok.kind J Y q U) hd
  .exact wpAny_Name (wpAny_loadName_free I.ok.kind J Y q U j) hd
theorem J5{i j pos}:PE X (.Constant (.int i) j pos) (tC (.int i)):=λ_ _ _ H _ I h=>wpAny_Constant_int ⟨.int i,H,I.tok _,⟨_,rfl⟩,h⟩
theorem MK{b j pos}:PE X (.Constant (.bool b) j pos) (tC (.bl b)):=λ_ _ _ H _ I h=>Constant_bool ⟨.bl b,H,I,rfl,h⟩
theorem J_{j pos}:PE X (.Constant .none j pos) (tC .non):=λ_ _ _ H _ I h=>Constant_none ⟨.non,H,I,rfl,h⟩
theorem K7{x j pos}:PE X (.Constant (.str x) j pos) (tC (.str x)):=λ_ _ _ H _ I h=>Calls.Constant_str ⟨.str x,H,I.tok _,⟨_,rfl⟩,h⟩
def Gl(X:Cx)(x:Str):Prop:=X.env.kindOf x=some .globalImplicit
theorem Hk{E:Value->zc->Prop}{pins:List (Addr×Obj)}{s:zc}{σ:St}{H:Hp}{x:Str}{u:Value}{pos:Pos}{Q:Value->zc->Prop}(I:Inv X pins σ H s)(j:Gl X x)(V:X.mg x=some u)(h:Q u s)
  (hd:(x==("__debug__":Str))=false:=by decide):wpAny (model X.prog X.w) X.A (eval (.Name x pos) X.env) Q E s:=
 W4 I.ok.kind j (Calls.loadGlobal_global (by rw[I.ok.glob];exact I.mod.glob.keeps I.bk) V h) hd
theorem jr{E:Value->zc->Prop}{pins:List (Addr×Obj)}{s:zc}{σ:St}{H:Hp}{x:Str}{u:Value}{pos:Pos}{Q:Value->zc->Prop}(I:Inv X pins σ H s)(j:Gl X x)(V:X.mg x=none)(N:RW x=some u)(h:Q u s)
  (hn:x≠"__name__":=by decide) (hd:(x==("__debug__":Str))=false:=by decide):wpAny (model X.prog X.w) X.A (eval (.Name x pos) X.env) Q E s:=by
 obtain⟨q,h1,h2⟩:=I.mod.blt;exact W4 I.ok.kind j (Calls.loadGlobal_builtin (by rw[I.ok.glob];exact I.mod.glob.keeps I.bk) V (by rw[I.ok.blt];exact h1.keeps I.bk) ((h2 x hn).trans N) h) hd
theorem GK{x:Str}{v:V}{u:Value}{pos:Pos}(j:Gl X x)(q:X.mg x=none)(N:RW x=some u)(r:RelV v u)(hn:x≠"__name__":=by decide)(hd:(x==("__debug__":Str))=false:=by decide):PE X (.Name x pos) (tC v):=
 λ_ _ _ H _ I h=>jr I j q N ⟨v,H,I,r,h⟩ hn hd
variable{a b:Expr}{ta tb:TE}{pos:Pos}
def tB(t:TE):TT:=λσ H Q=>t σ H λx H1=>∃c,x= .bl c/\Q c H1
variable{tA tB':TT}{rest:List Expr}
def JX(t u:TT):TT:=λσ H Q=>t σ H λc H1=>if c=true then u σ H1 Q else Q false H1
def tOr(t u:TT):TT:=λσ H Q=>t σ H λc H1=>if c=true then Q true H1 else u σ H1 Q
def Og(t:TT):TT:=λσ H Q=>t σ H λc H1=>Q (!c) H1
theorem yW(O:PT X a tA):PW X (.BoolOp .And [a] pos) tA:=by
 intro j pins s σ H Q I h;refine isTrue_and (thn (O pins s σ H Q I h) λc Z e=>?_);cases c with
 |true=>exact isTrue_and_nil e
 |false=>exact e
theorem Ln(O:PT X a tA):PW X (.BoolOp .Or [a] pos) tA:=by
 intro j pins s σ H Q I h;refine isTrue_or (thn (O pins s σ H Q I h) λc Z e=>?_);cases c with
 |false=>exact isTrue_or_nil e
 |true=>exact e
theorem DQ(O:PT X a tA)(U:PW X (.BoolOp .And (b::rest) pos) tB'):PW X (.BoolOp .And (a::b::rest) pos) (JX tA tB'):=by
 intro j pins s σ H Q I h;refine isTrue_and (thn (O pins s σ H _ I h) λc Z ⟨H1,J,q1⟩=>?_);cases c with
 |true=>exact U j pins Z σ H1 Q J q1
 |false=>exact⟨H1,J,q1⟩
theorem M_(O:PT X a tA)(U:PW X (.BoolOp .Or (b::rest) pos) tB'):PW X (.BoolOp .Or (a::b::rest) pos) (tOr tA tB'):=by
 intro j pins s σ H Q I h;refine isTrue_or (thn (O pins s σ H _ I h) λc Z ⟨H1,J,q1⟩=>?_);cases c with
 |true=>exact⟨H1,J,q1⟩
 |false=>exact U j pins Z σ H1 Q J q1
theorem JR(O:PT X a tA):PT X (.UnaryOp .Not a pos) (Og tA):=by
 intro pins s σ H Q I h;exact isTrue_not (O pins s σ H (λc H1=>Q (!c) H1) I h)
def Jh(ta tb:TE):TE:=λσ H Q=>ta σ H λx H1=>∃c,x= .bl c/\if c=true then tb σ H1 Q else Q (.bl false) H1
theorem Lz{op}{t:TE}(h:PE X a t):PE X (.BoolOp op [a] pos) t:=λpins s σ H Q I V=>BoolOp_one (h pins s σ H Q I V)
theorem Kr(O:PE X a ta)(U:PE X (.BoolOp .And (b::rest) pos) tb):PE X (.BoolOp .And (a::b::rest) pos) (Jh ta tb):=by
 intro pins s σ H Q I h;refine BoolOp_and (thn (O pins s σ H _ I h) λv Z ⟨x,H1,J,Y,q1⟩=>?_);obtain⟨c,rfl,q1⟩:=q1;cases Y;refine S9 ?_;cases c with
 |true=>exact U pins Z σ H1 Q J q1
 |false=>exact⟨.bl false,H1,J,rfl,q1⟩
end
def SqL(K:Pu)(H:Hp)(a:Addr)(xs:List V):Prop:=
 Rd H a (.lst xs)∨
  ∃(o:Obj)(its:Array Value)(n:Nat),K.lookup a=some o/\o.cls= .type "list"/\o.dict=none/\o.data= .seq its n/\its.size<=Px/\Vals xs its.toList
def SqT(K:Pu)(H:Hp)(a:Addr)(xs:List V):Prop:=
 Rd H a (.tup xs)∨
  ∃(o:Obj)(its:Array Value)(n:Nat),K.lookup a=some o/\o.cls= .type "tuple"/\o.data= .seq its n/\its.size<=Px/\Vals xs its.toList
def O5:Value->Option V
 |.none=>some .non
 |.bool b=>some (.bl b)
 |.int i _=>some (.int i)
 |.str x _=>some (.str x)
 |.bytes b _=>some (.byt b)
 |.float b _=>some (.flt b)
 |.ref a=>some (.ref a)
 |.type n=>some (.ty n)
 |_=>none
theorem RelV.abs{x:V}(r:RelV x u):O5 u=some x:=by
 cases x with
 |non=>cases r;rfl
 |bl _=>cases r;rfl
 |int _=>obtain⟨t,rfl⟩:=r;rfl
 |str _=>obtain⟨t,rfl⟩:=r;rfl
 |byt _=>obtain⟨t,rfl⟩:=r;rfl
 |flt _=>obtain⟨t,rfl⟩:=r;rfl
 |ref _=>cases r;rfl
 |ty _=>cases r;rfl
theorem RelV.inj{x y:V}(r:RelV x u)(q:RelV y u):x=y:=QR (r.abs.symm.trans q.abs)
theorem Vals.inj:∀{xs ys:List V}{B:List Value},Vals xs B->Vals ys B->xs=ys
 |_,_,_,.nil,.nil=>rfl
 |_,_,_,.cons r t,.cons r' t'=>by rw[r.inj r',Vals.inj t t']
theorem SqL.of{K:Pu}(h:H a=some (.lst xs)):SqL K H a xs:=.inl (.inl h)
theorem SqT.of{K:Pu}(h:H a=some (.tup xs)):SqT K H a xs:=.inl (.inl h)
variable{σ:St}
theorem Inv.list(I:Inv X pins σ H s)(h:SqL X.K H a xs):∃its:List Value,Vals xs its/\PlainL s.heap a its.toArray/\xs.length<=Px:=by
 rcases h with h|⟨o,its,n,J,Y,hd,F,hz,r⟩
 .obtain⟨z,its,n,r,e⟩:=h.ok I.hok
  exact⟨its,r,⟨_,n,e,rfl,rfl,rfl⟩,z⟩
 .refine⟨its.toList,r,⟨o,n,I.kIn a o J,Y,hd,by simpa using F⟩,?_⟩
  have e:=r.length;simp only[Qh]at e;omega
theorem Inv.tuple(I:Inv X pins σ H s)(h:SqT X.K H a xs):∃its:List Value,Vals xs its/\IsTup s.heap a its.toArray/\xs.length<=Px:=by
 rcases h with h|⟨o,its,n,J,Y,F,hz,r⟩
 .obtain⟨z,its,r,p⟩:=h.ok I.hok
  exact⟨its,r,p.t,z⟩
 .refine⟨its.toList,r,⟨o,I.kIn a o J,Y,n,by simpa using F⟩,?_⟩
  have e:=r.length;simp only[Qh]at e;omega
variable{ys:List V}
theorem Inv.list_inj(I:Inv X pins σ H s)(h:SqL X.K H a xs)(h':SqL X.K H a ys):xs=ys:=by
 obtain⟨its,r,⟨o,n,e,_,_,d⟩,_⟩:=I.list h;obtain⟨its',Z,⟨o',j,B,_,_,d'⟩,_⟩:=I.list h';rw[e]at B;cases B;rw[d]at d';injection d' with d1 _;have:its=its':=by simpa using congrArg Array.toList d1
 subst this;exact r.inj Z
theorem Inv.tuple_inj(I:Inv X pins σ H s)(h:SqT X.K H a xs)(h':SqT X.K H a ys):xs=ys:=by
 obtain⟨its,r,⟨o,e,_,n,d⟩,_⟩:=I.tuple h;obtain⟨its',Z,⟨o',B,_,j,d'⟩,_⟩:=I.tuple h';rw[e]at B;cases B;rw[d]at d';injection d' with d1 _;have:its=its':=by simpa using congrArg Array.toList d1
 subst this;exact r.inj Z
abbrev Cx.wish(X:Cx)(E:Value->zc->Prop):Cx:={X with xe:=E}
abbrev Cx.nox(X:Cx):Cx:=X.wish λ_ _=>False
theorem Cx.Ok.wish(ok:X.Ok)(E:Value->zc->Prop):(X.wish E).Ok:=
 ⟨ok.mod,ok.kind,ok.glob,ok.blt,ok.above,ok.inj,ok.has,ok.cab,ok.hd,ok.frames,ok.stk,ok.exf,ok.bs,ok.bsz,ok.noex,ok.exfs,ok.funs,ok.frf⟩
theorem Cx.Ok.unwish(ok:(X.wish E).Ok):X.Ok:=
 ⟨ok.mod,ok.kind,ok.glob,ok.blt,ok.above,ok.inj,ok.has,ok.cab,ok.hd,ok.frames,ok.stk,ok.exf,ok.bs,ok.bsz,ok.noex,ok.exfs,ok.funs,ok.frf⟩
theorem Inv.wish(I:Inv X pins σ H s)(E:Value->zc->Prop):Inv (X.wish E) pins σ H s:=⟨I.ok.wish E,I.os,I.bare,I.base,I.loc,I.cell,I.free,I.freeC,I.pin,I.hok,I.len⟩
variable{E:Value->Shared->Prop}
theorem Inv.unwish(I:Inv (X.wish E) pins σ H s):Inv X pins σ H s:=⟨I.ok.unwish,I.os,I.bare,I.base,I.loc,I.cell,I.free,I.freeC,I.pin,I.hok,I.len⟩
theorem SP.unwish{D:Ends}{f:Flow}(h:SP (X.wish E) pins D f s'):SP X pins D f s':=by
 cases f with
 |next=>obtain⟨B,H',I,q⟩:=h;exact⟨B,H',I.unwish,q⟩
 |brk=>obtain⟨B,H',I,q⟩:=h;exact⟨B,H',I.unwish,q⟩
 |cont=>obtain⟨B,H',I,q⟩:=h;exact⟨B,H',I.unwish,q⟩
 |ret u=>obtain⟨v,B,H',I,r,q⟩:=h;exact⟨v,B,H',I.unwish,r,q⟩
theorem PSs.nox{st:List Stmt}{t:TS}(h:PSs X.nox st t):PSs X st t:=λpins s σ H D I V=>
 Sq (h pins s σ H D (I.wish _) V) (λ_ _ q=>q.unwish) λ_ _ z=>T4 z
section
variable{X:Cx}{st:Stmt}{rest:List Stmt}{t u:TS}{e:Expr}{te:TE}{pos:Pos}
def Jp:TS:=λD σ H=>D.nx σ H
def M5(t u:TS):TS:=λD σ H=>t {D with nx:=u D} σ H
theorem HH:PSs X [] Jp:=λ_ _ σ H _ I h=>X4 ⟨σ,H,I,h⟩
theorem Dd(h1:PS X st t)(h2:PSs X rest u):PSs X (st::rest) (M5 t u):=by
 intro pins s σ H D I h;refine Z8 (thn (h1 pins s σ H {D with nx:=u D} I h) λf Z q=>?_);cases f with
 |next=>
  obtain⟨B,H',j,q⟩:=q;exact h2 pins Z B H' D j q
 |ret v=>exact q
 |brk=>exact q
 |cont=>exact q
theorem Ij(h1:PS X st t):PSs X [st] t:=by
 intro pins s σ H D I h;refine Z8 (thn (h1 pins s σ H D I h) λf Z q=>?_);cases f with
 |next=>exact X4 q
 |ret v=>exact q
 |brk=>exact q
 |cont=>exact q
theorem Inv.quiet{pins:List (Addr×Obj)}{σ:St}{H:Hp}{s:zc}(I:Inv X pins σ H s):interactive X.env=false:=by simp[interactive,I.ok.kind]
def Jq(te:TE):TS:=λD σ H=>te σ H λ_ H1=>D.nx σ H1
theorem Iv(V:PE X e te)(F:Wf e none pos.line X.env=pure false:=by rfl):PS X (.Expr e pos) (Jq te):=by
 intro pins s σ H D I h;exact wpAny_Expr_any (thn (V pins s σ H _ I h) λv Z ⟨x,H1,J,Y,q1⟩=>⟨σ,H1,J,q1⟩) I.quiet F
def J4(te:TE):TS:=λD σ H=>te σ H D.rt
theorem xM(V:PE X e te):PS X (.Return (some e) pos) (J4 te):=by
 intro pins s σ H D I h;exact wpAny_Return_some (thn (V pins s σ H _ I h) λv Z ⟨x,H1,J,Y,q1⟩=>⟨x,σ,H1,J,Y,q1⟩)
def Nx(c:TT)(t u:TS):TS:=λD σ H=>c σ H λb H1=>if b=true then t D σ H1 else u D σ H1
theorem Ji{c:Expr}{a b:List Stmt}{tc:TT}(Y:PT X c tc)(O:PSs X a t)(U:PSs X b u):PS X (.If c a b pos) (Nx tc t u):=by
 intro pins s σ H D I h;refine wpAny_If (thn (Y pins s σ H _ I h) λd Z ⟨H1,J,q1⟩=>?_);cases d with
 |true=>exact O pins Z σ H1 D J q1
 |false=>exact U pins Z σ H1 D J q1
end
abbrev TG:=V->St->Hp->(St->Hp->Prop)->Prop
abbrev TGs:=List V->St->Hp->(St->Hp->Prop)->Prop
def PG(X:Cx)(target:Expr)(t:TG):Prop:=
 ∀(pins:List (Addr×Obj))(s:zc)(σ:St)(H:Hp)(v:V)(u:Value)(Q:St->Hp->Prop),Inv X pins σ H s->RelV v u->t v σ H Q->
  wpAny (model X.prog X.w) X.A (VR target X.env u) (λ_ s'=>∃B H',Inv X pins B H' s'/\Q B H') X.xe s
def PGs(X:Cx)(F:List Expr)(t:TGs):Prop:=
 ∀(pins:List (Addr×Obj))(s:zc)(σ:St)(H:Hp)(vs:List V)(j:List Value)(Q:St->Hp->Prop),Inv X pins σ H s->Vals vs j->t vs σ H Q->
  wpAny (model X.prog X.w) X.A (YL ((Rg F X.env).map (·.2)) j) (λ_ s'=>∃B H',Inv X pins B H' s'/\Q B H') X.xe s
abbrev Al:=V->V->V->Hp->(Hp->Prop)->Prop
def Gu(X:Cx)(t:Al):Prop:=
 ∀(pins:List (Addr×Obj))(s:zc)(σ:St)(H:Hp)(o i v:V)(U O u:Value)(Q:Hp->Prop),Inv X pins σ H s->RelV o U->RelV i O->RelV v u->t o i v H Q->
  wpAny (model X.prog X.w) X.A (setItem U O u) (λ_ s'=>∃H',Inv X pins σ H' s'/\Q H') X.xe s
def rD(i:Nat):TG:=λv σ H Q=>Q (σ.set i (some v)) H
theorem uh(U:X.N.Nodup)(hi:X.N[i]? =some x)(J:Loc X.env.scope x)(O:X.fn x=true∨X.env.scope.names.lookup x=some .local:=by first|exact .inl rfl|exact .inr rfl|assumption):PG X (.Name x pos) (rD i):=by
 intro pins s σ H v u Q I r h;exact Zy (jq I U hi J r (λs' Z=>⟨_,H,Z,h⟩) O)
def Gx:TGs:=λvs σ H Q=>vs=[]/\Q σ H
def Ef(t:TG)(u:TGs):TGs:=λvs σ H Q=>∃v r,vs=v::r/\t v σ H λB H'=>u r B H' Q
theorem yt:PGs X [] Gx:=by
 intro pins s σ H vs B Q I r h;obtain⟨e,h⟩:=h;subst e;cases r;exact Zz ⟨σ,H,I,h⟩
theorem wH{t:TG}{u:TGs}(h1:PG X e t)(h2:PGs X es u)
  (F:(Rg (e::es) X.env).map (·.2)=VR e X.env::(Rg es X.env).map (·.2):=by rfl):PGs X (e::es) (Ef t u):=by
 intro pins s σ H vs B Q I r h;obtain⟨v,j,e1,h⟩:=h;subst e1;cases r with
 |cons r N=>
  rw[F];refine WX (thn (h1 pins s σ H _ _ _ I r h) λ_ Z ⟨U,H1,J,q1⟩=>?_);exact h2 pins Z U H1 _ _ Q J N q1
def Ko(K:Pu)(n:Nat)(t:TGs):TG:=λv σ H Q=>∃a xs,v= .ref a/\SqT K H a xs/\xs.length=n/\t xs σ H Q
variable{k:Nat}
theorem F_{t:TGs}(Y:X.calm=true)(h:PGs X es t)
  (hn:(Rg es X.env).length=n:=by rfl) (j:(Rg es X.env).findIdx? (·.1)=none:=by rfl):PG X (.Tuple es k pos) (Ko X.K n t):=by
 intro pins s σ H v u Q I r V;obtain⟨a,xs,e1,N,Z,V⟩:=V;subst e1;cases r;obtain⟨its,F,U,hz⟩:=I.tuple N;refine assign_Tuple_tuple (I.ok.hd Y) U (by simp[hn,←Z,F.length]) j λh' J=>?_;have q:Inv X pins σ H {s with heap:=h'}:=I.kept (t':=s.toks) λb o e=>J b o (PN (Ph e)) e;exact h pins _ σ H xs _ Q q (by simpa using F) V
def je(to q:TE)(t:Al):TG:=λv σ H Q=>to σ H λo H1=>q σ H1 λi H2=>t o i v H2 λj=>Q σ j
theorem JK{o i:Expr}{to ti:TE}{t:Al}(B:PE X o to)(hi:PE X i ti)(F:Gu X t)
  (O:∀v,VR (.Subscript o i pos) X.env v=(do
   let U ←Tt [v] (eval o X.env)
   let iv ←Tt [v,U] (eval i X.env)
   standAt pos
   Tt [v,U,iv] (setItem U iv v)
   release [v,U,iv] []):=by intro _;rfl):PG X (.Subscript o i pos) (je to ti t):=by
 intro pins s σ H v u Q I r h;rw[O];refine eH (Rf (thn (B pins s σ H _ I h) λU Z ⟨x,H1,J,Y,q1⟩=>?_));refine eH (Rf (thn (hi pins Z σ H1 _ J q1) λiv s2 ⟨y,H2,N,r2,q2⟩=>?_));refine eH (W5 (eH (Rf (thn (F pins s2 σ H2 x y v U iv u _ N Y r2 r q2) λ_ s3 ⟨j,V,q⟩=>?_))));exact wpAny_release ⟨σ,j,V,q⟩
def GZ(te:TE)(g:TG):TS:=λD σ H=>te σ H λx H1=>g x σ H1 D.nx
variable{te:TE}{g:TG}
theorem CK(V:PE X e te)(j:PG X tg g)(F:Vb [tg] e pos.line X.env=pure false:=by rfl)(B:V5 [tg] e X.env=pure none:=by rfl)
  (h1:(Rg [tg] X.env).map (·.2)=[VR tg X.env]:=by rfl):PS X (.Assign [tg] e pos) (GZ te g):=by
 intro pins s σ H D I h;refine wpAny_Assign_stores (thn (V pins s σ H _ I h) λv Z ⟨x,H1,J,Y,q1⟩=>?_) F B;rw[h1];exact thn (j pins Z σ H1 x v _ J Y q1) λ_ N q=>q
theorem Di(U:X.N.Nodup)(hi:X.N[i]? =some x)(J:Loc X.env.scope x)(V:PE X e te)(F:Wf e (some (.Name x pos')) pos.line X.env=pure false:=by rfl)(O:X.fn x=true∨X.env.scope.names.lookup x=some .local:=by first|exact .inl rfl|exact .inr rfl|assumption) :
  PS X (.Assign [.Name x pos'] e pos) (GZ te (rD i)):=by
 intro pins s σ H D I h;refine wpAny_Assign_Name (thn (V pins s σ H _ I h) λv Z ⟨y,H1,q,Y,q1⟩=>?_) F;exact jq q U hi J Y (λB j=>⟨_,H1,j,q1⟩) O
def Nq(i j:Nat)(ta:TA):TS:=λD σ H=>ta σ H λvs H1=>∃v w,vs=[v,w]/\D.nx ((σ.set i (some v)).set j (some w)) H1
variable{a:Expr}{ta:TA}
theorem JZ{y:Str}{b:Expr}{px py pt:Pos}{kt k2 pt2}(Y:X.calm=true)(U:X.N.Nodup)(hi:X.N[i]? =some x)(hj:X.N[j]? =some y)(a1:i≠j)
  (J:X.env.scope.names.lookup x=some .local) (hy:X.env.scope.names.lookup y=some .local) (O:PA X [a,b] ta)
  (V:V5 [.Tuple [.Name x px,.Name y py] kt pt] (.Tuple [a,b] k2 pt2) X.env=pure (some [x,y]))
  (F:Vb [.Tuple [.Name x px,.Name y py] kt pt] (.Tuple [a,b] k2 pt2) pos.line X.env=pure false:=by rfl) :
  PS X (.Assign [.Tuple [.Name x px,.Name y py] kt pt] (.Tuple [a,b] k2 pt2) pos) (Nq i j ta):=by
 intro pins s σ H D I h;rw[exec_Assign_arm];refine eH (W5 ?_);rw[F];refine eH (yr ?_);rw[Pn (by decide)];refine eH (Tuple_ (thn (O _ pins s σ H _ I h) λB Z ⟨vs,H1,I1,r1,q1⟩=>?_));obtain⟨v,w,e1,q1⟩:=q1;subst e1;obtain⟨u1,u2,rfl,rv,a2⟩:∃u1 u2,B=[u1,u2]/\RelV v u1/\RelV w u2:=by
  cases r1 with
  |cons p q=>
   cases q with
   |cons p' q'=>
    cases q';exact⟨_,_,rfl,p,p'⟩
 refine QM ?_ (by show 2<=Px;decide);have I2:Inv X pins σ H1 {Z with heap:=Z.heap.push {cls:=.type "tuple",data:=.seq [u1,u2].toArray}}:=I1.kept (t':=Z.toks) λb o e=>gD _ e;rw[V];refine eH (yr ?_);show wpAny (model X.prog X.w) X.A (do rule "assign.swapped-stores";let items ←unpackItems (.ref Z.heap.objs.size) 2 none;YL [λv=>Z9 X.env y v,λv=>Z9 X.env x v] items.reverse;pure Flow.next) _ _ _;refine eH (Rz (eH (unpackItems_tuple (items:=#[u1,u2]) (I.ok.hd Y) (IsTup.new Z.heap _) λh' a0=>?_)));have I3:=I2.kept (h':=h') (t':=Z.toks) λb o e=>a0 b o (PN (Ph e)) e;show wpAny _ _ (YL [λv=>Z9 X.env y v,λv=>Z9 X.env x v] [u2,u1] >>=λ_=>pure Flow.next) _ _ _;refine eH (WX (wpAny_bindName (jq I3 U hj (.inl hy) a2 (λs2 I4=>?_) (.inr hy))));refine WX (wpAny_bindName (jq I4 U hi (.inl J) rv (λs3 I5=>Zz (yr ?_)) (.inr J)));rw[List.set_comm _ _ (Qn a1)]at I5;exact⟨_,H1,I5,q1⟩
structure It where
 go:Nat->Hp->Prop
 yld:Nat->Hp->V->Hp->Prop
 stop:Nat->Hp->Prop
def iG(X:Cx)(pins:List (Addr×Obj))(H:Hp)(b:Addr):Prop:=
 H b=none/\b≠X.env.locals/\b∉X.fs/\(b∈X.ex∨X.s₀.heap.objs.size<=b)/\(∀x c,X.env.cells.lookup x=some c->c≠b)/\∀p∈X.pn++pins,p.1≠b
variable{s:zc}
theorem Inv.fpOk(I:Inv X pins σ H s)(U:s.heap.objs.size<=b)(hn:H' b=none):iG X pins H' b:=by
 refine⟨hn,Sh (P0 I.lt U),I.nofs U,.inr (RX I.sz U),λx c e z=>?_,λp Y z=>?_⟩
 .obtain⟨v,q⟩:=I.cell x c e
  exact absurd (P0 q.lt (by rw[z];exact U)) (Rt _)
 .exact absurd (P0 (Ph (I.pin p Y).1) (by rw[z];exact U)) (Rt _)
structure Turn(P:Program)(w:World)(K:PySem.W.Frag)(tg:Expr)(J:It)(fp:List Addr)(it:Addr)(tn:Nat->Heap->Prop):Prop where
 mem:it∈fp
 obj:∀i h,tn i h->∀b∈fp,∃o,h.get? b=some o/\∀v,o.data≠.cell v
 keep:∀i h h',tn i h->(∀b∈fp,∀o,h.get? b=some o->h'.get? b=some o)->tn i h'
 item:∀(X:Cx),X.prog=P->X.w=w->X.K=K->X.calm=true->∀(i:Nat)(pins:List (Addr×Obj))(s:zc)(σ:St)(H:Hp)(E:Value->zc->Prop),Inv X pins σ H s->(∀b∈fp,iG X pins H b)->tn i s.heap->J.go i H->
  wpAny (model P w) X.A (Ut (.ref it)) (λr s1=>∃u,r=some u/\
   wpAny (model P w) X.A (Wl tg (.ref it) u) (λ_ s2=>∃x H',Inv X pins σ H' s2/\RelV x u/\J.yld i H x H'/\tn (i+1) s2.heap/\∀b∈fp,H' b=none) E s1) E s
 done:∀(X:Cx),X.prog=P->X.w=w->X.K=K->X.calm=true->∀(i:Nat)(pins:List (Addr×Obj))(s:zc)(σ:St)(H:Hp)(E:Value->zc->Prop),Inv X pins σ H s->(∀b∈fp,iG X pins H b)->tn i s.heap->J.stop i H->
  wpAny (model P w) X.A (Ut (.ref it)) (λr s1=>r=none/\Inv X pins σ H s1) E s
 self:∀(A:Rh)(i:Nat)(s:zc)(Q:Value->zc->Prop)(E:Value->zc->Prop),tn i s.heap->Q (.ref it) s->wpAny (model P w) A (Yn (.ref it)) Q E s
abbrev TI:=St->Hp->(It->Hp->Prop)->Prop
def PIE(X:Cx)(pins:List (Addr×Obj))(σ:St)(tg:Expr)(R:It->Hp->Prop)(q:Value)(F:zc):Prop:=
 ∃(it:Addr)(fp:List Addr)(j:Nat->Heap->Prop)(J:It)(H':Hp),q= .ref it/\Inv X pins σ H' F/\Turn X.prog X.w X.K tg J fp it j/\j 0 F.heap/\(∀b∈fp,iG X pins H' b)/\R J H'
def PI(X:Cx)(tg iter:Expr)(wi:TI):Prop:=
 ∀(pins:List (Addr×Obj))(s:zc)(σ:St)(H:Hp)(R:It->Hp->Prop),Inv X pins σ H s->wi σ H R->
  wpAny (model X.prog X.w) X.A (eval iter X.env) (λv Z=>wpAny (model X.prog X.w) X.A (Yn v) (PIE X pins σ tg R) X.xe Z) X.xe s
theorem CG   {E:Value->zc->Prop}      {n:String} {vs:Array Value}  (B:s.heap.get? it=some o) (Y:o.cls = .type n) (hd:o.data = .fields vs)
    (hn:["enumerate", "zip", "dict_itemiterator", "dict_reverseitemiterator", "odict_iterator", "itertools.zip_longest", "itertools.pairwise"].contains n=false) (q:Q () s):wpAny M A (Wl tg (.ref it) u) Q E s:=by
  unfold Wl
  cases tg <;> first
    | exact yr q
    | (cases u <;> first
        | exact yr q
        | (refine eH (Wm B ?_)
           rw [Y,hd]
           show wpAny M A (if (["enumerate", "zip", "dict_itemiterator", "dict_reverseitemiterator", "odict_iterator", "itertools.zip_longest", "itertools.pairwise"].contains n && vs[0]? == some (Q7 _))=true then _ else _) Q E s
           rw [Pn (by intro h; rw [hn,Bool.false_and] at h; cases h)]
           exact yr q))
def Itl(K:Pu)(a:Addr):It:=
 ⟨λi H=>∃xs x,SqL K H a xs/\xs[i]? =some x,λi H x H'=>H'=H/\∀xs,SqL K H a xs->xs[i]? =some x,λi H=>∃xs,SqL K H a xs/\xs.length<=i⟩
def Itt(K:Pu)(a:Addr):It:=
 ⟨λi H=>∃xs x,SqT K H a xs/\xs[i]? =some x,λi H x H'=>H'=H/\∀xs,SqT K H a xs->xs[i]? =some x,λi H=>∃xs,SqT K H a xs/\xs.length<=i⟩
def Itr(lo:Int)(n:Nat):It:=⟨λi _=>i<n,λi H x H'=>H'=H/\x= .int (lo+i),λi _=>n<=i⟩
variable{P:QG}
theorem Am{K:Pu}(a it:Addr):Turn P w K tg (Itl K a) [it] it (λi h=>h.IsListIter it a i)where
 mem:=by simp
 obj:=λi h st b U=>by
  have e:b=it:=by simpa using U
  subst e;obtain⟨o,e,c,d⟩:=st;exact⟨o,e,λv z=>by rw[d]at z;cases z⟩
 keep:=λi h h' st k=>st.at λo e=>k it (by simp) o e
 item:=by
  intro X q V hK Y i pins s σ H E I O st hg;subst q V hK;obtain⟨xs,x,N,J⟩:=hg;obtain⟨its,F,p,hz⟩:=I.list N;obtain⟨u,hu,ru⟩:=F.get J;obtain⟨f0,f1,f2,f3,f4,f5⟩:=O it (by simp);refine VV st p.isList (x:=u) (by simpa using hu) λh' B sb=>?_;have I1:Inv X pins σ H {s with heap:=h'}:=I.turned (t':=s.toks) (λb o U e=>(sb.2 b U).trans e) f0 f1 f3 f4 f5;obtain⟨o,e,c,d⟩:=id B;exact⟨u,rfl,CG (s:={s with heap:=h'}) e c d (by decide) ⟨x,H,I1,ru,⟨rfl,λys j=>by rw[I.list_inj j N];exact J⟩,B,λb U=>(O b U).1⟩⟩
 done:=by
  intro X q V hK Y i pins s σ H E I O st hg;subst q V hK;obtain⟨xs,N,J⟩:=hg;obtain⟨its,F,p,hz⟩:=I.list N;obtain⟨f0,f1,f2,f3,f4,f5⟩:=O it (by simp);have Z:=F.length;exact Wg (I.ok.hd Y) st p.isList (by simp;omega) λh' eb=>⟨rfl,I.turned (t':=s.toks) (λb o U e=>eb b o U e) f0 f1 f3 f4 f5⟩
 self:=λ_ _ _ _ _ st h=>wpAny_pyIter_listiter st h
theorem wX{K:Pu}(a it:Addr):Turn P w K tg (Itt K a) [it] it (λi h=>h.IsTupleIter it a i)where
 mem:=by simp
 obj:=λi h st b U=>by
  have e:b=it:=by simpa using U
  subst e;obtain⟨o,e,c,d⟩:=st;exact⟨o,e,λv z=>by rw[d]at z;cases z⟩
 keep:=λi h h' st k=>st.at λo e=>k it (by simp) o e
 item:=by
  intro X q V hK Y i pins s σ H E I O st hg;subst q V hK;obtain⟨xs,x,N,J⟩:=hg;obtain⟨its,F,p,hz⟩:=I.tuple N;obtain⟨u,hu,ru⟩:=F.get J;obtain⟨f0,f1,f2,f3,f4,f5⟩:=O it (by simp);refine wpAny_pyNext_tuple_item st (show s.heap.IsTuple a its.toArray from p) (x:=u) (by simpa using hu) λh' B sb=>?_;have I1:Inv X pins σ H {s with heap:=h'}:=I.turned (t':=s.toks) (λb o U e=>(sb.2 b U).trans e) f0 f1 f3 f4 f5;obtain⟨o,e,c,d⟩:=id B;exact⟨u,rfl,CG (s:={s with heap:=h'}) e c d (by decide) ⟨x,H,I1,ru,⟨rfl,λys j=>by rw[I.tuple_inj j N];exact J⟩,B,λb U=>(O b U).1⟩⟩
 done:=by
  intro X q V hK Y i pins s σ H E I O st hg;subst q V hK;obtain⟨xs,N,J⟩:=hg;obtain⟨its,F,p,hz⟩:=I.tuple N;obtain⟨f0,f1,f2,f3,f4,f5⟩:=O it (by simp);have Z:=F.length;exact wpAny_pyNext_tuple_end (I.ok.hd Y) st (show s.heap.IsTuple a its.toArray from p) (by simp;omega) λh' eb=>⟨rfl,I.turned (t':=s.toks) (λb o U e=>eb b o U e) f0 f1 f3 f4 f5⟩
 self:=λ_ _ _ _ _ st h=>wpAny_pyIter_tupleiter st h
theorem wZ{K:Pu}(it:Addr)(lo:Int)(n:Nat):Turn P w K tg (Itr lo n) [it] it (λi h=>IsRangeIter h it (lo+(i:Nat)*1) ((n:Int)-(i:Nat)) 1)where
 mem:=by simp
 obj:=λi h st b U=>by
  have e:b=it:=by simpa using U
  subst e;exact⟨_,st,λv z=>by
   have z':Data.fields _=Data.cell v:=z;cases z'⟩
 keep:=λi h h' st k=>k it (by simp) _ st
 item:=by
  intro X q V hK Y i pins s σ H E I O st j;subst q V hK;obtain⟨f0,f1,f2,F,Z,f5⟩:=O it (by simp);have W:=Walks.range (prog:=X.prog) (w:=X.w) (I.ok.hd Y) it lo 1 n;refine W.item i s _ _ j st λv h' tk N B kk=>?_;obtain⟨t,rfl⟩:=N;have J:Inv X pins σ H {s with heap:=h',toks:=tk}:=I.turned (λb o U e=>kk b o (by simpa using U) e) f0 f1 F Z f5;refine⟨_,rfl,CG (s:={s with heap:=h',toks:=tk}) (n:="range_iterator") B rfl rfl (by decide) ⟨.int (lo+i),H,J,⟨t,?_⟩,⟨rfl,rfl⟩,B,λb U=>(O b U).1⟩⟩;rw[Int.mul_one]
 done:=by
  intro X q V hK Y i pins s σ H E I O st j;subst q V hK;obtain⟨f0,f1,f2,F,Z,f5⟩:=O it (by simp);exact wpAny_pyNext_range_end (I.ok.hd Y) st (by have:n<=i:=j;omega) λh' eb=>⟨rfl,I.turned (t':=s.toks) (λb o U e=>eb b o U e) f0 f1 F Z f5⟩
 self:=λ_ _ _ _ _ st h=>wpAny_pyIter_rangeiter st h
theorem DP{R:It->Hp->Prop}{E:Value->zc->Prop}{lo hi:Int}{t u v:Tok}(I:Inv X pins σ H s)(h1: -(2 ^ 62)<=lo)(h2:lo<2 ^ 62)(N: -(2 ^ 62)<=hi)(V:hi<2 ^ 62)
  (q:R (Itr lo (hi-lo).toNat) H):wpAny (model X.prog X.w) X.A (Yn (.ref s.heap.objs.size)) (PIE X pins σ tg R) E {s with heap:=s.heap.push {cls:=.type "range",data:=.fields #[.int lo t,.int hi u,.int 1 v]},toks:=tk}:=by
 refine wpAny_pyIter_range (IsRange.new ..) (small_one h1 h2 N V) ?_;have J:Inv X pins σ H {s with heap:=s.heap.push {cls:=.type "range",data:=.fields #[.int lo t,.int hi u,.int 1 v]},toks:=tk}:=I.kept λb o e=>gD _ e;refine⟨(s.heap.push {cls:=.type "range",data:=.fields #[.int lo t,.int hi u,.int 1 v]}).objs.size,[(s.heap.push {cls:=.type "range",data:=.fields #[.int lo t,.int hi u,.int 1 v]}).objs.size],_,_,H,rfl,
  J.kept (t':=tk) λb o e=>gD _ e,wZ _ lo (hi-lo).toNat,?_,λb U=>?_,q⟩
 .have e1:lo+((0:Nat):Int)*1=lo:=by simp
  have e2:(((hi-lo).toNat:Nat):Int)-((0:Nat):Int)=Builtin.Range.rangeSize lo hi 1:=by rw[rangeSize_one];split<;>omega
  show IsRangeIter _ _ (lo+((0:Nat):Int)*1) ((((hi-lo).toNat:Nat):Int)-((0:Nat):Int)) 1;rw[e1,e2];exact Pz _ rfl
 .have e:b=(s.heap.push {cls:=.type "range",data:=.fields #[.int lo t,.int hi u,.int 1 v]}).objs.size:=by simpa using U
  subst e;exact J.fpOk (Pg _) (J.hok.fresh (Pg _))
def Gf(ta:TA):TI:=λσ H R=>ta σ H λvs H1=>∃j:Int,vs=[.int j]/\-(2 ^ 62)<=j/\j<2 ^ 62/\R (Itr 0 j.toNat) H1
theorem sH{p:Pos}(U:Gl X "range")(V:X.mg "range"=none)(O:PA X [a] ta)(F:PK [a] X.env=[(false,eval a X.env)]:=by rfl):PI X tg (.Call (.Name "range" p) [a] [] pos) (Gf ta):=by
 intro pins s σ H R I h;refine Call_ (jr I U V boot_range (R_ (thn (O pos pins s σ H _ I h) λB Z ⟨vs,H1,J,Y,q1⟩=>?_) F rfl));obtain⟨j,e,q1,q2,q⟩:=q1;subst e;cases Y with
 |cons r N=>
  cases N;obtain⟨t,rfl⟩:=r;exact call_range_1 (DP J (by omega) (by omega) q1 q2 (by simpa using q))
def La(wi:TI)(g:TG)(tb:TS):TS:=λD σ H=>wi σ H λJ H1=>∃W:Nat->Nat->St->Hp->Prop,(∃m,W 0 m σ H1)/\∀i m σ H,W i m σ H->
 (J.stop i H/\D.nx σ H)∨(J.go i H/\∃N:St->Hp->Prop,(∀B H',N B H'->∃V,V<m/\W (i+1) V B H')/\∀x H',J.yld i H x H'->g x σ H' λσ2 H2=>tb {D with nx:=N,ct:=N,bk:=D.nx} σ2 H2)
def jV(fp:List Addr)(h:Heap):List (Addr×Obj):=fp.filterMap λb=>(h.get? b).map λo=>(b,o)
theorem dZ(U:b∈fp)(e:h.get? b=some o):(b,o)∈jV fp h:=WY.mpr ⟨b,U,by rw[e];rfl⟩
theorem sE{p:Addr×Obj}(Y:p∈jV fp h):p.1∈fp/\h.get? p.1=some p.2:=by
 obtain⟨b,U,e⟩:=WY.mp Y;cases q:h.get? b with
 |none=>rw[q]at e;cases e
 |some o=>
  rw[q]at e;have B:(b,o)=p:=QR e;subst B;exact⟨U,q⟩
theorem Inv.pinned(I:Inv X pins σ H s)(O:∀b∈fp,iG X pins H b)(B:∀b∈fp,∃o,s.heap.get? b=some o/\∀v,o.data≠.cell v):Inv X (pins++jV fp s.heap) σ H s:=
 I.pins_of λp Y=>(Mz.mp Y).elim (λz=>I.pin p (Pa _ z)) λz=>by
  obtain⟨U,e⟩:=sE z;obtain⟨q,V,j,_⟩:=O p.1 U;obtain⟨o,F,d⟩:=B p.1 U;rw[e]at F;cases F;exact⟨e,q,V,j,d⟩
theorem Inv.unpinned{N:List (Addr×Obj)}(I:Inv X (pins++N) σ H s):Inv X pins σ H s:=I.pins_of λp Y=>I.pin p (Pa _ (PL _ Y))
theorem Cu{iter:Expr}{wi:TI}{tb:TS}(hp:PassesOwn (model X.prog X.w) X.A X.env X.xe)(Y:X.calm=true)(hi:PI X tg iter wi)(j:PG X tg g)(U:PSs X O tb)
  (F:∀x,R6 iter X.env x=pure x:=by intro _;rfl):PS X (.For tg iter O [] pos) (La wi g tb):=by
 intro pins s σ H D I h;refine wpAny_For (thn (hi pins s σ H _ I h) λv s1 h1=>thn h1 λb1 s2 h2=>?_) F;obtain⟨it,fp,tn,J,H2,e,I2,T,b0,f2,W,⟨m0,w0⟩,a5⟩:=h2;subst e;have a1:∀{H':Hp},(∀b∈fp,H' b=none)->∀b∈fp,iG X pins H' b:=λhn b U=>⟨hn b U,(f2 b U).2⟩;refine codeAny_forLoop_any (λn s'=>∃i B H',Inv X pins B H' s'/\tn i s'.heap/\(∀b∈fp,H' b=none)/\W i n B H') ?_ m0 ⟨0,σ,H2,I2,b0,λb U=>(f2 b U).1,w0⟩;rintro n s3 ⟨i,a3,H3,I3,q,a6,w3⟩;rcases a5 i n a3 H3 w3 with⟨stop,qn⟩|⟨go,N,hN,step⟩
 .refine Vj hp (thn (T.done X rfl rfl rfl Y i pins s3 a3 H3 X.xe I3 (a1 a6) q stop) λr s4 ⟨Z,I4⟩=>?_)
  subst Z;exact X4 ⟨a3,H3,I4,qn⟩
 .refine Vj hp (thn (T.item X rfl rfl rfl Y i pins s3 a3 H3 X.xe I3 (a1 a6) q go) λr s4 ⟨u,Z,h4⟩=>?_)
  subst Z;refine Vj hp (thn h4 λ_ s5 ⟨x,H5,I5,r5,y5,a4,a8⟩=>?_);have a9:=I5.pinned (a1 a8) (T.obj _ _ a4);refine Vj hp (thn (j _ s5 a3 H5 x u _ a9 r5 (step x H5 y5)) λ_ s6 ⟨a7,H6,I6,q6⟩=>?_);refine Vj hp (thn (U _ s6 a7 H6 _ I6 q6) λf s7 q7=>?_);have a2:∀{a0:St}{H7:Hp},Inv X (pins++jV fp s5.heap) a0 H7 s7->N a0 H7->∃m,m<n/\∃i B H',Inv X pins B H' s7/\tn i s7.heap/\(∀b∈fp,H' b=none)/\W i m B H':=λ{a0 H7} I7 n7=>by
   obtain⟨m',V,w7⟩:=hN a0 H7 n7;refine⟨m',V,i+1,a0,H7,I7.unpinned,T.keep _ _ _ a4 λb U o e=>(I7.pin (b,o) (Pa _ (Pa _ (dZ U e)))).1,λb U=>?_,w7⟩;obtain⟨o,e,d⟩:=T.obj _ _ a4 b U;exact(I7.pin (b,o) (Pa _ (Pa _ (dZ U e)))).2.1
  cases f with
  |next=>obtain⟨a0,H7,I7,n7⟩:=q7;exact a2 I7 n7
  |cont=>obtain⟨a0,H7,I7,n7⟩:=q7;exact a2 I7 n7
  |brk=>obtain⟨a0,H7,I7,q7⟩:=q7;exact⟨a0,H7,I7.unpinned,q7⟩
  |ret v=>obtain⟨x7,a0,H7,I7,r7,q7⟩:=q7;exact⟨x7,a0,H7,I7.unpinned,r7,q7⟩
abbrev R2:=V->V->Hp->VK->Prop
def OpR(X:Cx)(f:Value->Value->Sem Value)(r:R2):Prop:=
 ∀(pins:List (Addr×Obj))(s:zc)(σ:St)(H:Hp)(x y:V)(v u:Value)(Q:VK),Inv X pins σ H s->RelV x v->RelV y u->r x y H Q->
  wpAny (model X.prog X.w) X.A (f v u) (EP X pins σ Q) X.xe s
def UnR(X:Cx)(f:Value->Sem Value)(r:V->Hp->VK->Prop):Prop:=
 ∀(pins:List (Addr×Obj))(s:zc)(σ:St)(H:Hp)(x:V)(v:Value)(Q:VK),Inv X pins σ H s->RelV x v->r x H Q->
  wpAny (model X.prog X.w) X.A (f v) (EP X pins σ Q) X.xe s
def dD(X:Cx)(f:Value)(r:List V->Hp->VK->Prop):Prop:=
 ∀(pins:List (Addr×Obj))(s:zc)(σ:St)(H:Hp)(xs:List V)(B:List Value)(Q:VK),Inv X pins σ H s->Vals xs B->r xs H Q->
  wpAny (model X.prog X.w) X.A (call f B) (EP X pins σ Q) X.xe s
def Ow(X:Cx)(r:V->Hp->(Bool->Hp->Prop)->Prop):Prop:=
 ∀(pins:List (Addr×Obj))(s:zc)(σ:St)(H:Hp)(x:V)(v:Value)(Q:Bool->Hp->Prop),Inv X pins σ H s->RelV x v->r x H Q->
  wpAny (model X.prog X.w) X.A (truthy v) (TP X pins σ Q) X.xe s
def tOp(r:R2)(ta tb:TE):TE:=λσ H Q=>ta σ H λx H1=>tb σ H1 λy H2=>r x y H2 Q
def tUn(r:V->Hp->VK->Prop)(ta:TE):TE:=λσ H Q=>ta σ H λx H1=>r x H1 Q
def rI(C:Int->Int->Prop)(g:Int->Int->V):R2:=λx y H Q=>∃i j,x= .int i/\y= .int j/\C i j/\Q (g i j) H
def rI0(g:Int->Int->V):R2:=λx y H Q=>∃i j,x= .int i/\y= .int j/\Q (g i j) H
def rU(g:Int->V):V->Hp->VK->Prop:=λx H Q=>∃i,x= .int i/\Q (g i) H
variable{b:Expr}{f:Value->Value->Sem Value}{ta tb:TE}
theorem Ls(O:PE X a ta)(U:PE X b tb){R:V->V->Hp->Prop}(I:Inv X pins σ H s)
  (h:ta σ H λx H1=>tb σ H1 λy H2=>R x y H2) {Q:Value->zc->Prop} 
  (hf:∀v u F x y H2,Inv X pins σ H2 F->RelV x v->RelV y u->R x y H2->wpAny (model X.prog X.w) X.A (f v u) Q X.xe F) :
  wpAny (model X.prog X.w) X.A (eval a X.env) (λv B=>wpAny (model X.prog X.w) X.A (eval b X.env) (λu q=>wpAny (model X.prog X.w) X.A (f v u) Q X.xe q) X.xe B) X.xe s:=by
 refine thn (O pins s σ H _ I h) λv Z ⟨x,H1,J,Y,q1⟩=>?_;refine thn (U pins Z σ H1 _ J q1) λu F ⟨y,H2,N,j,q2⟩=>?_;exact hf v u F x y H2 N Y j q2
variable{r:R2}
theorem Ju{op:Operator}(B:OpR X (RB op) r)(O:PE X a ta)(U:PE X b tb):PE X (.BinOp a op b pos) (tOp r ta tb):=by
 intro pins s σ H Q I h;exact wpAny_BinOp (Ls O U I h λv u F x y H2 N rx j q=>B pins F σ H2 x y v u Q N rx j q)
theorem NB{op:UnaryOp}{r:V->Hp->VK->Prop}(B:UnR X (unaryOp op) r)(O:PE X a ta):PE X (.UnaryOp op a pos) (tUn r ta):=by
 intro pins s σ H Q I h;exact UnaryOp_ (thn (O pins s σ H _ I h) λv Z ⟨x,H1,J,Y,q1⟩=>B pins Z σ H1 x v Q J Y q1)
variable{g:Int->Int->Int}
theorem opI
  (F:∀(i j:Int)(t u:Tok)(s:zc)(Q:Value->zc->Prop)(E:Value->zc->Prop),C i j->Q (.int (g i j) s.toks) {s with toks:=s.toks+1}->wpAny (model X.prog X.w) X.A (f (.int i t) (.int j u)) Q E s) :
  OpR X f (rI C λi j=>.int (g i j)):=by
 intro pins s σ H x y v u Q I rx B h;obtain⟨i,j,rfl,rfl,Y,q⟩:=h;obtain⟨t,rfl⟩:=rx;obtain⟨t',rfl⟩:=B;exact F i j t t' s _ _ Y ⟨.int (g i j),H,I.tok _,⟨_,rfl⟩,q⟩
theorem Ol
  (F:∀(i j:Int)(t u:Tok)(s:zc)(Q:Value->zc->Prop)(E:Value->zc->Prop),Q (.int (g i j) s.toks) {s with toks:=s.toks+1}->wpAny (model X.prog X.w) X.A (f (.int i t) (.int j u)) Q E s) :
  OpR X f (rI0 λi j=>.int (g i j)):=by
 intro pins s σ H x y v u Q I rx B h;obtain⟨i,j,rfl,rfl,q⟩:=h;obtain⟨t,rfl⟩:=rx;obtain⟨t',rfl⟩:=B;exact F i j t t' s _ _ ⟨.int (g i j),H,I.tok _,⟨_,rfl⟩,q⟩
theorem Ho{g:Int->Int->Bool}
  (F:∀(i j:Int)(t u:Tok)(s:zc)(Q:Value->zc->Prop)(E:Value->zc->Prop),Q (.bool (g i j)) s->wpAny (model X.prog X.w) X.A (f (.int i t) (.int j u)) Q E s) :
  OpR X f (rI0 λi j=>.bl (g i j)):=by
 intro pins s σ H x y v u Q I rx B h;obtain⟨i,j,rfl,rfl,q⟩:=h;obtain⟨t,rfl⟩:=rx;obtain⟨t',rfl⟩:=B;exact F i j t t' s _ _ ⟨.bl (g i j),H,I,rfl,q⟩
def O1(i j:Int):Prop:=0<=j/\j<=1000000/\i.natAbs<2 ^ 64
def JM(i j:Int):Prop:=(-(2 ^ 64)<i/\i<2 ^ 64)∨(-(2 ^ 64)<j/\j<2 ^ 64)
theorem JM.ok{i j:Int}(h:JM i j):IntMulOk i j:=by
 rcases h with⟨h1,h2⟩|⟨h1,h2⟩
 .exact .of_left (intBits_le_64 h1 h2)
 .exact .of_right (intBits_le_64 h1 h2)
theorem Kw:OpR X (RB .Add) (rI0 λi j=>.int (i+j)):=Ol λ_ _ _ _ _ _ _ q=>add_int q
theorem JN:OpR X (RB .Sub) (rI0 λi j=>.int (i-j)):=Ol λ_ _ _ _ _ _ _ q=>sub_int q
theorem Kg:OpR X (RB .Mult) (rI JM λi j=>.int (i*j)):=opI λ_ _ _ _ _ _ _ Y q=>mul_int q Y.ok
theorem K9:OpR X (RB .Mod) (rI (λ_ j=>0<j) λi j=>.int (i % j)):=opI λi j _ _ _ _ _ Y q=>by
 have h1:(0:Int)<j:=Y;exact mod_int' (by omega) (by rw[Int.fmod_eq_emod_of_nonneg i (by omega)];exact q)
theorem J0:OpR X (RB .Pow) (rI O1 λi j=>.int (i ^ j.toNat)):=opI λ_ _ _ _ _ _ _ Y q=>pow_int_small Y.1 Y.2.1 Y.2.2 q
theorem unI{f:Value->Sem Value}{g:Int->Int}
  (F:∀(i:Int)(t:Tok)(s:zc)(Q:Value->zc->Prop)(E:Value->zc->Prop),Q (.int (g i) s.toks) {s with toks:=s.toks+1}->wpAny (model X.prog X.w) X.A (f (.int i t)) Q E s) :
  UnR X f (rU λi=>.int (g i)):=by
 intro pins s σ H x v Q I rx h;obtain⟨i,rfl,q⟩:=h;obtain⟨t,rfl⟩:=rx;exact F i t s _ _ ⟨.int (g i),H,I.tok _,⟨_,rfl⟩,q⟩
theorem KD:UnR X (unaryOp .USub) (rU λi=>.int (-i)):=unI λ_ _ _ _ _ q=>neg_int q
theorem Fw{Q:VK}{k Y:Bool}(I:Inv X pins σ H s)(q:Q (.bl k) H)(e:k=Y):EP X pins σ Q (.bool Y) s:=by
 subst e;exact⟨.bl k,H,I,rfl,q⟩
theorem Nu:OpR X (Q3 .Lt) (rI0 λi j=>.bl (decide (i<j))):=Ho λ_ _ _ _ _ _ _ q=>lt_int q
theorem Oa:OpR X (Q3 .LtE) (rI0 λi j=>.bl (decide (i<=j))):=Ho λ_ _ _ _ _ _ _ q=>le_int q
theorem Mm:OpR X (Q3 .Gt) (rI0 λi j=>.bl (decide (j<i))):=Ho λ_ _ _ _ _ _ _ q=>gt_int q
theorem Mq:OpR X (Q3 .GtE) (rI0 λi j=>.bl (decide (j<=i))):=Ho λ_ _ _ _ _ _ _ q=>ge_int q
theorem Ay:OpR X (Q3 .Lt) (λx y H Q=>∃i j,x= .str i/\y= .str j/\Q (.bl (decide (i.cps.toList<j.cps.toList))) H):=by
 intro pins s σ H x y v u Q I rx B h;obtain⟨i,j,rfl,rfl,q⟩:=h;obtain⟨t,rfl⟩:=rx;obtain⟨t',rfl⟩:=B;exact lt_str (Fw I q rfl)
theorem KY:OpR X (Q3 .Is) (λx y H Q=>y= .non/\Q (.bl (decide (x= .non))) H):=by
 intro pins s σ H x y v u Q I rx B h;obtain⟨rfl,q⟩:=h;cases B;refine is_none_gen (Fw I q ?_);cases x<;>first
  |(cases rx;rfl)
  |(obtain⟨t,rfl⟩:=rx;rfl)
theorem Hy(B:OpR X (Q3 op) r)(O:PE X a ta)(U:PE X b tb)(V:V6 op b=false):PE X (.Compare a [op] [b] pos) (tOp r ta tb):=by
 intro pins s σ H Q I h;exact wpAny_Compare1 (Ls O U I h λv u F x y H2 N rx j q=>B pins F σ H2 x y v u Q N rx j q) V
def yE(t:TE):TT:=λσ H Q=>t σ H λx H'=>∃k,x= .bl k/\Q k H'
theorem zp(B:OpR X (Q3 op) r)(O:PE X a ta)(U:PE X b tb)(V:V6 op b=false):PT X (.Compare a [op] [b] pos) (yE (tOp r ta tb)):=by
 intro pins s σ H Q I h;refine wpAny_isTrue_Compare1 (thn (O pins s σ H _ I h) λv Z ⟨x,H1,J,Y,q1⟩=>thn (U pins Z σ H1 _ J q1) λu F ⟨y,H2,N,r2,q2⟩=>
  thn (B pins F σ H2 x y v u _ N Y r2 q2) λc s3 ⟨z,j,I3,r3,k,e,q⟩=>?_) V
 subst e;cases r3;exact S9 ⟨j,I3,q⟩
def CW(r Z:R2)(ta tb tc:TE):TE:=λσ H Q=>ta σ H λx H1=>tb σ H1 λy H2=>r x y H2 λz j=>∃k,z= .bl k/\
 (if k=true then tc σ j λU q=>Z y U q Q else Q (.bl false) j)
variable{tc:TE}
theorem FZ{a0:CmpOp}{r':R2}(B:OpR X (Q3 op) r)(a1:OpR X (Q3 a0) r')(O:PE X a ta)(U:PE X b tb)(Y:PE X c tc)
  (V:lastMarks [op,a0] [b,c]=false:=by with_unfolding_all rfl):PT X (.Compare a [op,a0] [b,c] pos) (yE (CW r r' ta tb tc)):=by
 intro pins s σ H Q I h;refine isTrue_chain (thn (O pins s σ H _ I h) λv Z ⟨x,H1,J,r1,q1⟩=>test_link (thn (U pins Z σ H1 _ J q1) λu F ⟨y,H2,N,r2,q2⟩=>
  thn (B pins F σ H2 x y v u _ N r1 r2 q2) λd s3 ⟨z,j,I3,r3,k,e,q⟩=>?_)) V
 subst e;cases r3;refine S9 ?_;cases k with
 |false=>
  obtain⟨k',e',q'⟩:=q;cases e';exact ite_ff ⟨j,I3,q'⟩
 |true=>
  refine ite_tt (test_last (thn (Y pins s3 σ j _ I3 q) λw' s4 ⟨z',H4,I4,r4,q4⟩=>thn (a1 pins s4 σ H4 y z' u w' _ I4 r2 r4 q4) λd' s5 ⟨z2,H5,I5,r5,k2,e2,q5⟩=>?_));subst e2;cases r5;exact S9 ⟨H5,I5,q5⟩
def IV(K:Pu)(x:V)(H:Hp)(k:Bool):Prop:=
 match x with
 |.non=>k=false
 |.bl b=>k=b
 |.int i=>k=(i !=0)
 |.str y=>y.length<=Px/\k=((y.length:Int)!=0)
 |.byt y=>y.size<=Px/\k=((y.size:Int)!=0)
 |.ref p=>(∃xs,SqL K H p xs/\k= !xs.isEmpty)∨(∃xs,SqT K H p xs/\k= !xs.isEmpty)∨∃kvs,H p=some (.dK kvs)/\k= !kvs.isEmpty
 |_=>False
theorem xH{kvs:List (κ×V)}{vs:List (κ×Value)}(r:KV kvs vs):(!vs.isEmpty)= !kvs.isEmpty:=by
 cases r<;>rfl
theorem qH(r:Vals xs its):(!its.toArray.isEmpty)= !xs.isEmpty:=by
 cases r<;>simp
theorem jZ:(Px:Nat)<2 ^ 63:=by rw[WQ];decide
theorem Kf:Ow X (λx H Q=>∃k,IV X.K x H k/\Q k H):=by
 intro pins s σ H x v Q I rx h;obtain⟨k,e,q⟩:=h;have Z:=jZ;have F:Px=16777216:=WQ;cases x with
 |non=>
  cases rx;have B:k=false:=e;subst B;exact truthy_none ⟨H,I,q⟩
 |bl b=>
  cases rx;have B:k=b:=e;subst B;exact S9 ⟨H,I,q⟩
 |int i=>
  obtain⟨t,rfl⟩:=rx;have B:k=(i !=0):=e;subst B;exact PySem.P.truthy_int ⟨H,I,q⟩
 |str y=>
  obtain⟨t,rfl⟩:=rx;obtain⟨j,B⟩:y.length<=Px/\k=((y.length:Int)!=0):=e;subst B;exact PySem.P.truthy_str (by omega) ⟨H,I.tok _,q⟩
 |byt y=>
  obtain⟨t,rfl⟩:=rx;obtain⟨j,B⟩:y.size<=Px/\k=((y.size:Int)!=0):=e;subst B;exact PySem.W.truthy_bytes (by omega) ⟨H,I.tok _,q⟩
 |ref p=>
  cases rx;have B:(∃xs,SqL X.K H p xs/\k= !xs.isEmpty)∨(∃xs,SqT X.K H p xs/\k= !xs.isEmpty)∨∃kvs,H p=some (.dK kvs)/\k= !kvs.isEmpty:=e;rcases B with⟨xs,J,B⟩|⟨xs,J,B⟩|⟨kvs,J,B⟩
  .subst B
   obtain⟨its,r,N,hz⟩:=I.list J;have O:=r.length;exact wpAny_truthy_list N.isList (by simp only[List.size_toArray];omega) ⟨H,I.tok _,by rw[qH r];exact q⟩
  .subst B
   obtain⟨its,r,N,hz⟩:=I.tuple J;have O:=r.length;exact truthy_tuple N (by simp only[List.size_toArray];omega) ⟨H,I.tok _,by rw[qH r];exact q⟩
  .subst B
   obtain⟨hz,U,vs,r,m⟩:kvs.length<=Px/\(p==T3)=false/\∃vs,KV kvs vs/\s.heap.DictOf (bz X.prog X.w) p vs:=I.hok p _ J;have O:kvs.length=vs.length:=W3 r;exact wpAny_truthy_dict U m (by omega) ⟨H,I.tok _,by rw[xH r];exact q⟩
 |_=>exact(show False from e).elim
theorem Gm(O:PE X a ta)(V:∀j,Y_ a X.env j=(do let v ←j;standAt a.pos;Tt [v] (truthy v))) :
  PT X a (λσ H Q=>ta σ H λx H'=>∃k,IV X.K x H' k/\Q k H'):=by
 intro pins s σ H Q I h;exact isTrue_plain (thn (O pins s σ H _ I h) λv Z ⟨x,H1,J,Y,q1⟩=>Kf pins Z σ H1 x v Q J Y q1) (V _)
theorem ye:OpR X (RB .Add) (λx y H Q=>∃i j,x= .str i/\y= .str j/\i.length+j.length<=Px/\Q (.str (i++j)) H):=by
 intro pins s σ H x y v u Q I rx B h;obtain⟨i,j,rfl,rfl,hz,q⟩:=h;obtain⟨t,rfl⟩:=rx;obtain⟨t',rfl⟩:=B;exact add_str (λt' tk=>⟨.str (i++j),H,I.tok _,⟨_,rfl⟩,q⟩) hz
theorem vals1{x:V}(r:Vals [x] B):∃u,B=[u]/\RelV x u:=by
 cases r with
 |cons Y j=>cases j;exact⟨_,rfl,Y⟩
theorem vals2{x y:V}(r:Vals [x,y] B):∃u U,B=[u,U]/\RelV x u/\RelV y U:=by
 cases r with
 |cons Y j=>
  cases j with
  |cons I F=>cases F;exact⟨_,_,rfl,Y,I⟩
theorem Cy:dD X (.builtin "abs") (λxs H Q=>∃i,xs=[.int i]/\Q (.int (if i<0 then -i else i)) H):=by
 intro pins s σ H xs B Q I r h;obtain⟨i,rfl,q⟩:=h;obtain⟨u,rfl,t,rfl⟩:=vals1 r;exact call_abs_int λu tk=>⟨.int (if i<0 then -i else i),H,I.tok _,⟨_,rfl⟩,q⟩
theorem zV(Y:X.calm=true):dD X (.builtin "max") (λxs H Q=>∃i j,xs=[.int i,.int j]/\Q (.int (if j>i then j else i)) H):=by
 intro pins s σ H xs B Q I r h;obtain⟨i,j,rfl,q⟩:=h;obtain⟨u,U,rfl,⟨t,rfl⟩,⟨t',rfl⟩⟩:=vals2 r;refine max_two_ints (I.ok.hd Y) λh' tk k=>⟨_,H,I.kept k,?_,q⟩;by_cases F:j>i
 .rw[Pk F,Pk F];exact⟨_,rfl⟩
 .rw[Pn F,Pn F];exact⟨_,rfl⟩
theorem Bx(Y:X.calm=true):dD X (.builtin "min") (λxs H Q=>∃i j,xs=[.int i,.int j]/\Q (.int (if j<i then j else i)) H):=by
 intro pins s σ H xs B Q I r h;obtain⟨i,j,rfl,q⟩:=h;obtain⟨u,U,rfl,⟨t,rfl⟩,⟨t',rfl⟩⟩:=vals2 r;refine min_two_ints (I.ok.hd Y) λh' tk k=>⟨_,H,I.kept k,?_,q⟩;by_cases F:j<i
 .rw[Pk F,Pk F];exact⟨_,rfl⟩
 .rw[Pn F,Pn F];exact⟨_,rfl⟩
theorem z_:dD X (.type "int") (λxs H Q=>(∃i,xs=[.int i]/\Q (.int i) H)∨∃k,xs=[.bl k]/\Q (.int (if k then 1 else 0)) H):=by
 intro pins s σ H xs B Q I r h;rcases h with⟨i,rfl,q⟩|⟨k,rfl,q⟩
 .obtain⟨u,rfl,t,rfl⟩:=vals1 r
  exact call_int_int ⟨.int i,H,I,⟨_,rfl⟩,q⟩
 .obtain⟨u,rfl,r1⟩:=vals1 r
  cases r1;exact call_int_bool ⟨.int (if k then 1 else 0),H,I.tok _,⟨_,rfl⟩,q⟩
structure Ks(h:Heap)(x dx C:Addr)(mA:Str->Option Value):Prop where
 obj:h.get? x=some (X3 C dx)
 ns:h.Ns1 dx mA
 ne:dx≠x
theorem zZ(n:h.Ns1 dx Z):∃O,h.get? dx=some O/\∀name,Yo name O=some (Z name):=by
 obtain⟨o,es,ep,B,hd,J,_,V⟩:=n;refine⟨o,B,λname=>?_⟩;have e:=V name;unfold nsFind findBy at e;rw[←Array.find?_toList]at e;unfold Yo;rw[hd];dsimp only;split
 .rename_i y q
  rw[q]at e;exact congrArg some e
 .rename_i q
  rw[q]at e;have a:es.toList.any (·.refKey)=false:=by
   rw[List.any_eq_false];intro y j;obtain⟨z,t,N⟩:=J y (Array.mem_toList_iff.mp j);simp[DictEntry.refKey,N]
  have Y:¬es.toList.any (·.refKey)=true:=by rw[a];exact Rx
  rw[Pn Y];exact congrArg some e
theorem Ks.look{x C:Addr}(I:Ks h x dx C Z):∃O,PySem.W.InstAt h x (X3 C dx) C (some O)/\∀name,Yo name O=some (Z name):=
 let⟨O,ho,hl⟩:=zZ I.ns
 ⟨O,⟨I.obj,rfl,rfl,ho⟩,hl⟩
theorem p_.some_of{v:V}{o:Option Value}(r:p_ (some v) o):∃u,o=some u/\RelV v u:=by
 cases o with
 |none=>exact(show False from r).elim
 |some u=>exact⟨u,rfl,r⟩
section
variable{P:Program}{w:World}{H H':Hp}{h h':Heap}{a C dx:Addr}{fs fs':List (Str×V)}
theorem yZ(hok:HOk P w H h)(e:H a=some (.ins C dx fs)):∃Z,Ks h a dx C Z/\(∀f,p_ (fs.lookup f) (Z f))/\PySem.Within Z (fs.map (·.1))/\fs.length<=1000/\H dx=some (.own a):=by
 obtain⟨d,z,ne,ob,Z,n,r,q⟩:=(show bw P w H h a (.ins C dx fs)from hok a _ e);exact⟨Z,⟨ob,n,ne⟩,r,q,z,d⟩
end
structure Cls(K:PySem.W.Frag)(C:Addr):Prop where
 pg:Z_ K C Str.empty=true
 hd:PySem.W.hasDictIn K C=true
 po:PySem.W.plainOver K C=true
 sa:aav K (.ref C) "__setattr__"=some (some (.builtin "object.__setattr__"))
theorem Cls.get{K:Pu}{C:Addr}(c:Cls K C)(f:Str):Z_ K C f=true:=c.pg
inductive jh(K:PySem.W.Frag)(H:Hp):V->Value->Prop where
 |non:jh K H .non (.type "NoneType")
 |bl (x:Bool):jh K H (.bl x) (.type "bool")
 |int (i:Int):jh K H (.int i) (.type "int")
 |str (x:Str):jh K H (.str x) (.type "str")
 |flt (x:UInt64):jh K H (.flt x) (.type "float")
 |lst {a:Addr} {xs:List V} (e:H a=some (.lst xs)):jh K H (.ref a) (.type "list")
 |frz {a:Addr} {o:Obj} {xs:List V} (e:H a=some (.frz o (.lst xs))):jh K H (.ref a) (.type "list")
 |tup {a:Addr} {xs:List V} (e:H a=some (.tup xs)):jh K H (.ref a) (.type "tuple")
 |dK {a:Addr} {kvs:List (Key×V)} (e:H a=some (.dK kvs)):jh K H (.ref a) (.type "dict")
 |dT {a:Addr} {kvs:List (List Key×V)} (e:H a=some (.dT kvs)):jh K H (.ref a) (.type "dict")
 |ins {a C dx:Addr} {fs:List (Str×V)} (e:H a=some (.ins C dx fs)) (cl:Cls K C) (ha:aav K (.ref C) "__class__"=some (some (.builtin "object.__class__")))
  (hn:PySem.W.specialIn K (.builtin "object.__class__") "__get__"=some (some (.builtin "getset_descriptor.__get__"))) (htk:PySem.W.takesIn K (.builtin "object.__class__")=some true)
  (hm:PySem.W.mroIn K C (.type "object")=some true):jh K H (.ref a) (.ref C)
variable{b:Bool}{s:Shared}{A:Around}{Q:Value->Shared->Prop}{c:Value}
theorem Bp{x:V}{t:Value}(I:Inv X pins σ H s)(rx:RelV x u)(F:jh X.K H x t)(e:Wy X.K t c=some b)(h:∀tk,Q (.bool b) {s with toks:=tk}) :
  wpAny (model X.prog X.w) A (call (.builtin "isinstance") [u,c]) Q E s:=by
 cases F with
 |non=>cases (show u=QK from rx);exact Rv ZC I.kIn RN e (λz=>nomatch z) h
 |bl y=>cases (show u=Yz y from rx);exact Rv ZD I.kIn RN e (λz=>nomatch z) h
 |int i=>obtain⟨t,q⟩:=(show ∃t,u=WW i t from rx);cases q;exact Rv aaa I.kIn RN e (λz=>nomatch z) h
 |str y=>obtain⟨t,q⟩:=(show ∃t,u=Wd y t from rx);cases q;exact Rv aab I.kIn RN e (λz=>nomatch z) h
 |flt y=>obtain⟨t,q⟩:=(show ∃t,u=Z1 y t from rx);cases q;exact Rv Za I.kIn RN e (λz=>nomatch z) h
 |@lst a xs B=>
  cases (show u=Qw a from rx);obtain⟨_,_,n,_,h1⟩:=(show bw X.prog X.w H s.heap a (.lst xs)from I.hok a _ B);exact Rv Vy I.kIn ⟨_,h1,rfl⟩ e (λz=>nomatch z) h
 |@frz a ob xs B=>
  cases (show u=Qw a from rx);obtain⟨_,_,_,n,_,h1⟩:=(show bw X.prog X.w H s.heap a (.frz ob (.lst xs))from I.hok a _ B);exact Rv Vy I.kIn ⟨_,h1,rfl⟩ e (λz=>nomatch z) h
 |@tup a xs B=>
  cases (show u=Qw a from rx);obtain⟨_,_,_,p⟩:=(show bw X.prog X.w H s.heap a (.tup xs)from I.hok a _ B);obtain⟨o,h1,h2,_⟩:=p;exact Rv Zb I.kIn ⟨o,h1,h2⟩ e (λz=>nomatch z) h
 |@dK a kvs B=>
  cases (show u=Qw a from rx);obtain⟨_,_,vs,_,p⟩:=(show bw X.prog X.w H s.heap a (.dK kvs)from I.hok a _ B);obtain⟨o,es,ep,h1,h2,_⟩:=p;exact Rv Vz I.kIn ⟨o,h1,h2.1⟩ e (λz=>nomatch z) h
 |@dT a kvs B=>
  cases (show u=Qw a from rx);obtain⟨_,_,xs,_,o,es,ep,h1,h2,_⟩:=(show bw X.prog X.w H s.heap a (.dT kvs)from I.hok a _ B);exact Rv Vz I.kIn ⟨o,h1,h2.1⟩ e (λz=>nomatch z) h
 |@ins a C dx fs B j U hn N Y=>
  cases (show u=Qw a from rx);obtain⟨Z,O,_⟩:=yZ I.hok B;obtain⟨od,J,_⟩:=O.look;exact Rv (aac (j.get _) j.hd U hn N Y) I.kIn J e (λz=>nomatch z) h
structure gA(k:Nat)(A:Around):Prop where
 hd:A.handled=none
 dp:A.depth+3*k+5<recursionLimit
 un:A.units+16*k+200<cLine
 gd:A.guards=some []
variable{A:Rh}
theorem gA.mono(r:gA k A)(h:j<=k):gA j A:=⟨r.hd,by have:=r.dp;omega,by have:=r.un;omega,r.gd⟩
theorem gA.deeper(r:gA (k+1) A)(env:Env):gA k (A.deeper env):=
 ⟨r.hd,by have:=r.dp;show A.depth+1+3*k+5<_;omega,by have:=r.un;show A.units+3+16*k+200<_;omega,r.gd⟩
theorem gA.depth(r:gA k A):A.depth<recursionLimit:=by have:=r.dp;omega
theorem gA.units(r:gA k A):A.units+64<cLine:=by have:=r.un;omega
def Mt:TA:=λ_ H Q=>Q [] H
def Gn(ta:TE)(j:TA):TA:=λσ H Q=>ta σ H λx H1=>j σ H1 λxs H2=>Q (x::xs) H2
section
variable{X:Cx}{e:Expr}{es:List Expr}{te:TE}{t:TA}{pos:Pos}
theorem K4:PA X [] Mt:=λ_ _ _ _ H Q I h=>ZF ⟨[],H,I,.nil,h⟩
theorem tG(O:PE X e te)(Z:PA X es t)(F:PK (e::es) X.env=(false,eval e X.env)::PK es X.env:=by rfl):PA X (e::es) (Gn te t):=by
 intro pos pins s σ H Q I h;rw[F];show wpAny _ _ (spliced ((false,eval e X.env)::SM pos (PK es X.env))) _ _ s;refine Zc (thn (O pins s σ H _ I h) λu q ⟨x,H1,J,Y,q1⟩=>?_);exact thn (Z pos pins q σ H1 _ J q1) λB U ⟨xs,H2,N,j,q2⟩=>⟨x::xs,H2,N,.cons Y j,q2⟩
def O8(t:TA):TE:=λσ H Q=>t σ H λxs H1=>xs.length<=Px/\∀p,H1 p=none->Q (.ref p) (upd H1 p (.tup xs))
def O3(t:TA):TE:=λσ H Q=>t σ H λxs H1=>xs.length<=Px/\∀p,H1 p=none->Q (.ref p) (upd H1 p (.lst xs))
theorem Cr{x1}(h:PA X es t):PE X (.Tuple es x1 pos) (O8 t):=by
 intro pins s σ H Q I N;refine wpAny_Tuple_spliced (thn (h pos pins s σ H _ I N) λB Z ⟨xs,H1,J,r,z,q⟩=>⟨by rw[←r.length];exact z,?_⟩);have O:H1 Z.heap.objs.size=none:=J.hok.fresh (Pg _);refine⟨.ref Z.heap.objs.size,upd H1 Z.heap.objs.size (.tup xs),J.laid (t':=Z.toks) (λb u e=>gD _ e) (Pg _) ?_,rfl,q _ O⟩;exact⟨z,B,r,⟨_,Pz _ rfl,rfl,_,rfl,rfl⟩⟩
theorem BX(h:PA X es t):PE X (.List es pos) (O3 t):=by
 intro pins s σ H Q I N;refine wpAny_List_spliced (thn (h pos pins s σ H _ I N) λB Z ⟨xs,H1,J,r,z,q⟩=>⟨by rw[←r.length];exact z,?_⟩);have O:H1 Z.heap.objs.size=none:=J.hok.fresh (Pg _);refine⟨.ref Z.heap.objs.size,upd H1 Z.heap.objs.size (.lst xs),J.laid (t':=Z.toks) (λb u e=>gD _ e) (Pg _) ?_,rfl,q _ O⟩;exact⟨z,B,0,r,Pz _ rfl⟩
end
abbrev Sp:=List V->Hp->VK->XK->Prop
abbrev CXT:=List Env->Hp->zc->XK->Value->zc->Prop
structure HW(P:Program)(w:World)(K:PySem.W.Frag)(mg:Str->Option Value)(base:Heap)(A:Around)(outer:List Env)(s:Shared)(H:Hp):Prop where
 frames:A.frames=some outer
 mod:Mod K mg base
 bs:∀b o,base.get? b=some o->s.heap.get? b=some o/\H b=none
 bsz:base.objs.size<=s.heap.objs.size
 funs:s.heap.FunFrames base outer
 frf:∀b∈frs outer,H b=none
 hok:HOk P w H s.heap
 bare:We s.gens
def CE(outer:List Env)(P:QG)(w:World)(H:Hp)(s:zc)(Q:VK)(u:Value)(s':zc):Prop:=
 ∃v H',s'.os=s.os/\We s'.gens/\Un (frs outer) [] H H' s.heap s'.heap/\HOk P w H' s'.heap/\RelV v u/\Q v H'
def CR(CX:CXT)(outer:List Env)(P:QG)(w:World)(H:Hp)(s:zc)(Q:VK)(E:XK)(r:Zd)(s':zc):Prop:=
 match r with
 |.ok (.ret u)=>CE outer P w H s Q u s'
 |.ok _=>False
 |.error e=>CX outer H s E e s'
structure fK(P:Program)(w:World)(K:PySem.W.Frag)(mg:Str->Option Value)(base:Heap)(CX:CXT)(k:Nat)(f:Addr)(fd:FuncData)(ps:List Str)(sp:Sp):Prop where
 len:∀vs H Q E,sp vs H Q E->vs.length=ps.length
 run:∀(A:Rh)(outer:List Env)(s:zc)(H:Hp)(args:Args)(us:List Value)(vs:List V)(Q:VK)(E:XK),gA k A->HW P w K mg base A outer s H->Yp s fd args (ps.zip us)->Vals vs us->sp vs H Q E->
  T9 (model P w) A (.call (.ref f) args) (CR CX outer P w H s Q E) s
variable{f:Addr}{CX:CXT}
theorem fK.imp{K:Pu}{sp j:Sp}(F:fK P w K mg base CX k f fd ps sp)
  (h:∀vs H Q E,j vs H Q E->sp vs H Q E):fK P w K mg base CX k f fd ps j:=
 ⟨λvs H Q E q=>F.len vs H Q E (h _ _ _ _ q),λA outer s H args B vs Q E Z V U N I=>F.run A outer s H args B vs Q E Z V U N (h _ _ _ _ I)⟩
theorem Inv.env0(I:Inv X pins σ H s):HW X.prog X.w X.K X.mg X.base X.A X.stack s H:=
 ⟨I.ok.frames,I.ok.mod,I.bs,RX I.ok.bsz I.sz,I.stack,I.stkFree,I.hok,I.bare⟩
variable{s':Shared}
theorem Inv.after{Q:VK}(I:Inv X pins σ H s)(h:CE X.stack X.prog X.w H s Q u s'):EP X pins σ Q u s':=by
 obtain⟨v,H',os,bare,un,hok,r,q⟩:=h;obtain⟨B,g,d,t,j⟩:=s';obtain rfl:j=s.os:=os;exact⟨v,H',I.call (h':=B) (g':=g) (d':=d) (t':=t) (ch:=[]) un hok bare (λb z=>absurd z (by simp)),r,q⟩
def Jz(sp:Sp)(dvs:List V)(E:XK)(t:TA):TE:=λσ H Q=>t σ H λvs H1=>sp (vs++dvs) H1 Q E
def Binds(K:Pu)(fd:Rj)(ps:List Str)(ds:List Value):Prop:=
 ∀(s:zc)(B:List Value),K.In s.heap->(B++ds).length=ps.length->Yp s fd ⟨B,[]⟩ (ps.zip (B++ds))
theorem Binds.all{K:Pu}(h:∀B:List Value,B.length=ps.length->bindArgs fd ⟨B,[]⟩=pure (ps.zip B)):Binds K fd ps []:=λs B _ Z=>by
 rw[Ql]at Z⊢;exact .of_eq (h B Z)
def xX(CX:CXT)(X:Cx)(E:XK):Prop:=∀(pins:List (Addr×Obj))(σ:St)(H:Hp)(s:zc)(e:Value)(s':zc),Inv X pins σ H s->CX X.stack H s E e s'->X.xe e s'
section
variable{X:Cx}{CX:CXT}{k:Nat}{f C:Addr}{fd:FuncData}{ps:List Str}{sp:Sp}{dvs:List V}{ds:List Value}{E:XK}{x m:Str}{p pos apos:Pos}{e o:Expr}{es:List Expr}{ta:TE}{t:TA}
theorem Ky{pins:List (Addr×Obj)}{σ:St}{H:Hp}{s:zc}{Q:VK}{B:List Value}{vs:List V}(F:fK X.prog X.w X.K X.mg X.base CX k f fd ps sp)(Z:gA k X.A)(U:Binds X.K fd ps ds)(hd:Vals dvs ds)(J:xX CX X E)
  (I:Inv X pins σ H s) (r:Vals vs B) (h:sp (vs++dvs) H Q E):wpAny (model X.prog X.w) X.A (call (.ref f) B) (EP X pins σ Q) X.xe s:=by
 have j:Vals (vs++dvs) (B++ds):=r.append hd;have q:(B++ds).length=ps.length:=by rw[←j.length];exact F.len _ _ _ _ h
 refine wpAny_call (Vn (F.run X.A X.stack s H ⟨B,[]⟩ (B++ds) (vs++dvs) Q E Z I.env0 (U s B I.kIn q) j h) λr s' N=>?_);cases r with
 |error e=>exact J pins σ H s e s' I N
 |ok Y=>
  cases Y with
  |ret u=>exact I.after N
  |next=>exact T4 N
  |brk=>exact T4 N
  |cont=>exact T4 N
theorem Hw(F:fK X.prog X.w X.K X.mg X.base CX k f fd ps sp)(Z:gA k X.A)(j:Gl X x)(hm:X.mg x=some (.ref f))(hk:Wz X.K (.ref f)=true)(U:Binds X.K fd ps ds)(hd:Vals dvs ds)(J:xX CX X E)
  (O:PA X (e::es) t) (Y:(x==("__debug__":Str))=false:=by decide) (V:PK (e::es) X.env=(false,eval e X.env)::PK es X.env:=by rfl) (N:(SM pos (PK es X.env)).any (·.1)=false:=by rfl) :
  PE X (.Call (.Name x p) (e::es) [] pos) (Jz sp dvs E t):=by
 intro pins s σ H Q I h;refine Uu (Hk I j hm ?_ Y);refine PySem.W.callWith_K (h₀:=X.base) I.ok.mod.kin hk (thn (O pos pins s σ H _ I h) λB s1 ⟨vs,H1,I1,r,q⟩=>⟨I1.kIn,?_⟩) V N;exact Ky F Z U hd J I1 r q
end
structure cI(N P:List Str)(sc:Scope):Prop where
 kind:sc.kind= .function
 co:sc.isCoroutine=false
 gen:sc.isGenerator=false
 nd:N.Nodup
 pre:N.take P.length=P
 par:∀x∈P,sc.names.lookup x=some .local∨sc.names.lookup x=some .cell
 nofree:∀y∈sc.names,y.2≠.free
variable{j:Str->Option V8}
theorem q_:∀{binds:List (Str×Value)}{m:Str->Option Value},(∀v,(x,v)∉binds)->bindL j binds m x=m x
 |[],_,_=>rfl
 |(n,v)::r,m,h=>by
  unfold bindL;rw[q_ λw V=>h w (Qm _ V)];split
  .have:x≠n:=by rintro rfl;exact h v Qt
   simp[this]
  .rfl
theorem rE:∀{binds:List (Str×Value)}{m:Str->Option Value},(∀v,(x,v)∉binds)->bindC j binds m x=m x
 |[],_,_=>rfl
 |(n,v)::r,m,h=>by
  unfold bindC;rw[rE λw V=>h w (Qm _ V)];split
  .rfl
  .have:x≠n:=by rintro rfl;exact h v Qt
   simp[this]
theorem qX{j:Str->Option V8}{x:Str}{v:Value}:∀{P:List Str}{vs:List Value}{i:Nat}{m:Str->Option Value},P.Nodup->P[i]? =some x->vs[i]? =some v->j x=some .local->
  bindL j (P.zip vs) m x=some v
 |[],_,_,_,_,h,_,_=>by simp at h
 |_::_,[],_,_,_,_,h,_=>by simp at h
 |p::P,w::vs,0,m,nd,h1,h2,hk=>by
  simp at h1 h2;subst h1;subst h2;show bindL j ((p,w)::P.zip vs) m p=_;unfold bindL;rw[q_ λv N=>(QC.mp nd).1 (X5 N).1,Pk hk];simp
 |p::P,w::vs,i+1,m,nd,h1,h2,hk=>by
  show bindL j ((p,w)::P.zip vs) m x=_;unfold bindL;exact qX (i:=i) (QC.mp nd).2 (by simpa using h1) (by simpa using h2) hk
theorem rT{j:Str->Option V8}{x:Str}{v:Value}:∀{P:List Str}{vs:List Value}{i:Nat}{m:Str->Option Value},P.Nodup->P[i]? =some x->vs[i]? =some v->j x≠some .local->
  bindC j (P.zip vs) m x=some v
 |[],_,_,_,_,h,_,_=>by simp at h
 |_::_,[],_,_,_,_,h,_=>by simp at h
 |p::P,w::vs,0,m,nd,h1,h2,hk=>by
  simp at h1 h2;subst h1;subst h2;show bindC j ((p,w)::P.zip vs) m p=_;unfold bindC;rw[rE λv N=>(QC.mp nd).1 (X5 N).1,Pn hk];simp
 |p::P,w::vs,i+1,m,nd,h1,h2,hk=>by
  show bindC j ((p,w)::P.zip vs) m x=_;unfold bindC;exact rT (i:=i) (QC.mp nd).2 (by simpa using h1) (by simpa using h2) hk
def start(N:List Str)(vs:List V):St:=vs.map some++R3 (N.length-vs.length) none
noncomputable def wC(CX:CXT)(P:QG)(w:World)(K:Pu)(mg:Str->Option Value)(base:Heap)(N:List Str)(Y:Str)(scope:Scope)(f:Addr)(U:Value)(A:Rh)(outer:List Env)(s:zc)(H:Hp)(E:XK):Cx where
 prog:=P
 w:=w
 K:=K
 mg:=mg
 base:=base
 A:=A.deeper (V0 Y scope s.heap.objs.size f U)
 N:=N
 s₀:=s
 H₀:=H
 env:=V0 Y scope s.heap.objs.size f U
 outer:=outer
 stack:=V0 Y scope s.heap.objs.size f U::outer
 ex:=[]
 calm:=true
 fn:=λ_=>true
 pn:=[]
 xe:=λe s'=>wpAny (model P w) (A.deeper (V0 Y scope s.heap.objs.size f U)) (leaving (V0 Y scope s.heap.objs.size f U) e) (λ_ j=>CX outer H s E e j) (λB j=>CX outer H s E B j) s'
theorem vg{j:Scope}(h:j.names.lookup x=some .cell):∃c,(cellsFrom n j.names []).lookup x=some c:=by
 have q:=Yg j.names n [] (.inl h);exact Option.isSome_iff_exists.mp q
theorem Bm{K:Pu}{a0:Str}{U:Value}{outer:List Env}{s Z:zc}{E:XK}{vs:List V}
  (S:cI N ps scope) (hd:A.handled=none) (I:HW P w K mg base A outer s H) (hl:vs.length=ps.length) (r:Vals vs B)
  (x:InCallC s s.heap.objs.size (bindL (V0 a0 scope s.heap.objs.size f U).kindOf (ps.zip B) λ_=>none) (cellsFrom (s.heap.objs.size+1) scope.names []) (bindC (V0 a0 scope s.heap.objs.size f U).kindOf (ps.zip B) λ_=>none) Z) :
  Inv (wC CX P w K mg base N a0 scope f U A outer s H E) [] (start N vs) H Z:=by
 have a3:ps.length<=N.length:=by have:=congrArg Uy S.pre;rw[Rm]at this;omega
 obtain⟨h1,tk,rfl,J⟩:=x.done;have a1:∀b:Addr,b∉(wC CX P w K mg base N a0 scope f U A outer s H E).ex:=λb z=>absurd (show b∈([]:List Addr)from z) (by simp);refine⟨⟨I.mod,S.kind,rfl,rfl,Pg _,λy z c h1 h2=>?_,λy j=>?_,λy c _ h=>?_,λ_=>hd,Around.frames_deeper I.frames,.inr ⟨rfl,rfl⟩,λb z=>absurd z (a1 b),I.bs,I.bsz,λb _ _=>a1 b,λb z=>absurd z (a1 b),I.funs,I.frf⟩,
  rfl,I.bare,Un.kept J,⟨_,x.toInCall.ns,λi y v h1 h2 h3=>?_⟩,λy c h=>⟨_,x.cell y c h⟩,I.hok.fresh (Pg _),λy c h=>?_,λp Y=>absurd (show p∈([]:List (Addr×Obj))from Y) (by simp),I.hok.kept J,?_⟩
 .exact name_of_addr x.apart (Tp h1) (Tp h2)
 .have j:scope.names.lookup y=some .cell∨scope.names.lookup y=some .free:=j
  rcases j with j|j
  .exact vg j
  .exact absurd rfl (S.nofree _ (Tp j))
 .exact UT (x.above y c (Tp h))
 .have hi:i<vs.length:=by
   unfold start at h2;by_cases hi:i<vs.length
   .exact hi
   .rw[Qz (by simpa using hi)]at h2
    rw[XN]at h2;split at h2<;>cases h2
  have O:vs[i]? =some v:=by
   unfold start at h2;rw[Qu (by simpa using hi),List.getElem?_map]at h2;cases e:vs[i]? with
   |none=>rw[e]at h2;cases h2
   |some a=>rw[e]at h2;cases h2;rfl
  obtain⟨u,hu,F⟩:=r.get O;have Y:ps[i]? =some y:=by
   rw[←S.pre,Ub (by omega)];exact h1
  have a2:ps.Nodup:=by rw[←S.pre];exact S.nd.sublist (VB _ _)
  refine⟨u,F,?_⟩;rcases S.par y (QS Y)with k|k
  .exact .inl ⟨k,qX a2 Y hu k⟩
  .obtain⟨c,e⟩:=vg (n:=s.heap.objs.size+1) k
   refine .inr ⟨.inl k,c,e,?_⟩;have q:=x.cell y c e;rw[rT a2 Y hu (by show scope.names.lookup y≠_;rw[k];decide)]at q;exact q
 .exact I.hok.fresh (UT (x.above y c (Tp h)))
 .unfold start
  show _=N.length;rw[Qx,Qe,List.length_replicate];omega
theorem Ni{K:Pu}{a1:Arguments}{dV kV a4 pm a0 ct oc:Value}{an od:Option Addr}
  {a9:Array (Option Value)}  {sp:Sp} (lk:K.lookup f=some ⟨oc,od,.func (Vo name Y a1 O scope dV kV a4 pm an a0 ct),a9⟩) (a7:Yq K a0 Y=true) (S:cI N ps scope)
  (len:∀vs H Q E,sp vs H Q E->vs.length=ps.length)
  (a3:∀(A:Rh)(outer:List Env)(s:zc)(H:Hp)(vs:List V)(Q:VK)(E:XK),gA k (A.deeper (V0 Y scope s.heap.objs.size f a0))->sp vs H Q E->
   ∃t,PSs (wC CX P w K mg base N Y scope f a0 A outer s H E) O t/\t {nx:=λ_ H'=>Q .non H',rt:=Q} (start N vs) H) :
  fK P w K mg base CX (k+1) f (Vo name Y a1 O scope dV kV a4 pm an a0 ct) ps sp:=by
 refine⟨len,λA outer s H args us vs Q E Z e0 U r a6=>?_⟩;have hl:=len _ _ _ _ a6;have KX:K.In s.heap:=e0.mod.kin.keeps λb o e=>(e0.bs b o e).1;have a8:s.heap.NoLimit:=e0.mod.nolimit.keeps λb o e=>(e0.bs b o e).1;have a2:∀y∈ps.zip us,scope.names.lookup y.1=some .local∨(scope.names.lookup y.1=some .cell/\((cellsFrom (s.heap.objs.size+1) scope.names []).lookup y.1).isSome=true):=λ⟨n,v⟩ j=>by
  rcases S.par n (X5 j).1 with q|q
  .exact .inl q
  .exact .inr ⟨q,Yg _ _ _ (.inl q)⟩
 refine codeAny_call_function Z.depth (KX _ _ lk) rfl S.co S.gen rfl (PySem.W.codeRec_of KX a7) (U _ _ _ _ ?_);refine wpAny_newFunctionEnv_cells S.kind a2 λenv he s1 x=>?_;subst he;refine⟨a8.keeps x.toInCall.keep,codeAny_func ?_⟩;obtain⟨t,ht,hq⟩:=a3 A outer s H vs Q E (Z.deeper _) a6;have I:Inv (wC CX P w K mg base N Y scope f a0 A outer s H E) [] (start N vs) H s1:=Bm S Z.hd e0 hl r x;refine Sq (ht [] s1 (start N vs) H _ I hq) (λfl s' F=>?_) λe s' F=>F;have a5:∀{B:St}{H':Hp}{v:V}{u:Value},Inv (wC CX P w K mg base N Y scope f a0 A outer s H E) [] B H' s'->RelV v u->Q v H'->CE outer P w H s Q u s':=
  λ{B H' v u} J rv q=>⟨v,H',J.os,J.bare,J.base,J.hok,rv,q⟩
 cases fl with
 |ret u=>
  obtain⟨v,B,H',J,rv,q⟩:=F;exact a5 J rv q
 |next=>
  obtain⟨B,H',J,q⟩:=F;exact a5 (v:=V.non) (u:=QK) J rfl q
 |brk=>
  obtain⟨_,_,_,q⟩:=F;exact T4 q
 |cont=>
  obtain⟨_,_,_,q⟩:=F;exact T4 q
section
variable{X:Cx}{x:Str}{p pos:Pos}{e:Expr}{es:List Expr}{t:TA}{id T:String}{r:List V->Hp->VK->Prop}
def tCB(r:List V->Hp->VK->Prop)(t:TA):TE:=λσ H Q=>t σ H λvs H1=>r vs H1 Q
theorem vC(Y:dD X (.builtin id) r)(j:Gl X x)(F:X.mg x=none)(N:RW x=some (.builtin id))(O:PA X (e::es) t)(hn:x≠"__name__":=by decide)(U:(x==("__debug__":Str))=false:=by decide)
  (V:PK (e::es) X.env=(false,eval e X.env)::PK es X.env:=by rfl) (q:(SM pos (PK es X.env)).any (·.1)=false:=by rfl):PE X (.Call (.Name x p) (e::es) [] pos) (tCB r t):=by
 intro pins s σ H Q I h;refine Uu (jr I j F N ?_ hn U);exact PyProof.Rows.callWith_builtin1 (thn (O pos pins s σ H _ I h) λB Z ⟨vs,H1,J,r1,q1⟩=>Y pins Z σ H1 vs B Q J r1 q1) V q
theorem rG(Y:dD X (.type T) r)(j:Gl X x)(F:X.mg x=none)(N:RW x=some (.type T))(O:PA X (e::es) t)(hn:x≠"__name__":=by decide)(U:(x==("__debug__":Str))=false:=by decide)
  (V:PK (e::es) X.env=(false,eval e X.env)::PK es X.env:=by rfl) (q:(SM pos (PK es X.env)).any (·.1)=false:=by rfl):PE X (.Call (.Name x p) (e::es) [] pos) (tCB r t):=by
 intro pins s σ H Q I h;refine Uu (jr I j F N ?_ hn U);exact R_ (thn (O pos pins s σ H _ I h) λB Z ⟨vs,H1,J,r1,q1⟩=>Y pins Z σ H1 vs B Q J r1 q1) V q
end
end L2
namespace HT
open PySem PyProof.Rows
theorem cat_tup{t b:Addr}{J:List Value}(ht:IsTup s.heap t vs.toArray)(U:IsTup s.heap b J.toArray)(N:vs≠[])
  (h1:J=[]->Q (.ref t) s) (h2:J≠[]->Q (.ref s.heap.objs.size) {s with heap:=s.heap.push {cls:=.type "tuple",data:=.seq (vs++J).toArray}})
  (hsz:vs.length+J.length<=Px):wpAny (model prog w) A (RB .Add (.ref t) (.ref b)) Q E s:=by
 obtain⟨⟨cls,O,data,sl⟩,B,Y,n,hd⟩:=id ht;obtain⟨⟨a3,a0,a2,a1⟩,Z,q,I,j⟩:=id U;simp only at Y hd q j;subst Y hd q j;have e:vs.toArray++J.toArray=(vs++J).toArray:=by simp
 by_cases V:J=[]
 .exact Ze ⟨_,B,rfl⟩ ⟨_,Z,rfl⟩ Xo YM V1 Vw (Vp _ _)
   (tuple_addW1 t b vs.toArray J.toArray n I O a0 sl a1 (by simpa using N) (by simp[V])) ⟨B,Z,h1 V⟩
 .refine Ze ⟨_,B,rfl⟩ ⟨_,Z,rfl⟩ Xo YM V1 Vw (Vp _ _)
   (tuple_addW2 t b vs.toArray J.toArray n I O a0 sl a1 (by simpa using N) (by simpa using V) (by rw[List.size_toArray,List.size_toArray];exact hsz)) ⟨B,Z,?_⟩
  rw[e];exact h2 V
def sIx(n d:Nat):Option Int->Nat
 |none=>d
 |some v=>if v<0 then(v+(n:Int)).toNat else min v.toNat n
theorem Ke(n d:Nat)(hd:d<=n)(o:Option Int):sIx n d o<=n:=by
 cases o with
 |none=>exact hd
 |some v=>
  show(if v<0 then(v+(n:Int)).toNat else min v.toNat n)<=n;by_cases N:v<0
  .rw[Pk N];omega
  .rw[Pn N];exact Nat.min_le_right _ _
theorem yN(v:Int)(n d:Nat):(if v<0 then max (v+(n:Int)) 0 else min v (n:Int))=((sIx n d (some v):Nat):Int):=by
 show(if v<0 then max (v+(n:Int)) 0 else min v (n:Int))=(((if v<0 then(v+(n:Int)).toNat else min v.toNat n):Nat):Int);by_cases N:v<0
 .simp only[Pk N];omega
 .simp only[Pn N];omega
theorem adjust_gen(lo hi:Option Int)(n:Nat):Q9 lo hi 1 (n:Int)=(((sIx n 0 lo:Nat):Int),((sIx n n hi:Nat):Int)):=by
 have h1:¬((1:Int)<0):=by omega
 unfold Q9;simp only[h1,Qv];refine Prod.ext ?_ ?_
 .cases lo with
  |none=>rfl
  |some v=>exact yN v n 0
 .cases hi with
  |none=>rfl
  |some v=>exact yN v n n
theorem places_gen(i j:Nat):Q_ (i:Int) (j:Int) 1=j-i:=by
 unfold Q_;have h1:(1:Int)>0:=by omega
 simp only[h1,Qf,Int.ediv_one];split<;>omega
theorem slicePart_{o:Option Int}{Q:Option Int->zc->Prop}(p:UV v o)(h:Q o s):wpAny (model prog w) A (Builtin.Slice.slicePartIndex v) Q E s:=by
 cases p with
 |none=>exact slicePart_none h
 |int i t=>exact slicePart_int h
theorem lM{vl B:Value}{lo hi:Option Int}{Q:Int×Int×Nat->zc->Prop}(F:s.heap.IsSliceOf sl vl B .none)(N:UV vl lo)(Z:UV B hi)
  (h:Q (((sIx n 0 lo:Nat):Int),1,sIx n n hi-sIx n 0 lo) s):wpAny (model prog w) A (TV (.ref sl) (pure (n:Int))) Q E s:=by
 obtain⟨os,J,q,j⟩:=id F;unfold TV Builtin.Slice.sliceFields;refine eH (eH (V2 J j (x:=vl) rfl (eH (V2 J j (x:=B) rfl (eH (V2 J j (x:=.none) rfl (yr ?_)))))));refine eH (slicePart_none ?_);show wpAny _ _ (if((1:Int)==0)=true then _ else _) _ _ s;rw[Pn (by decide)];refine eH (slicePart_ N (eH (slicePart_ Z (eH (yr ?_)))));show wpAny _ _ (match Q9 lo hi 1 (n:Int)with|(lo,hi)=>pure (lo,(1:Int),Q_ lo hi 1)) _ _ s;rw[adjust_gen lo hi n];show wpAny _ _ (pure (((sIx n 0 lo:Nat):Int),(1:Int),Q_ ((sIx n 0 lo:Nat):Int) ((sIx n n hi:Nat):Int) 1)) _ _ s;rw[places_gen];exact yr h
theorem Du(xs:Array Value)(i k:Nat):((Qq k).filterMap λ(m:Nat)=>xs[((i:Int)+(m:Int)*1).toNat]?).toArray=((xs.toList.drop i).take k).toArray:=by
 have e:(λ(m:Nat)=>xs[((i:Int)+(m:Int)*1).toNat]?)=λm=>xs[i+m]?:=by
  funext m;have:((i:Int)+(m:Int)*1).toNat=i+m:=by omega
  rw[this]
 rw[e];have:=pick_run xs i k;rw[List.filterMap_map]at this;have e2:((λx=>xs[x]?)∘λx=>i+x)=λm=>xs[i+m]?:=rfl;rw[e2]at this;rw[this]
theorem getItem_tuple_cut{t:Addr}{vl B:Value}{lo hi:Option Int}(U:IsTup s.heap t items)(F:s.heap.IsSliceOf sl vl B .none)(N:UV vl lo)(Z:UV B hi)
  (V:¬(sIx items.size 0 lo=0/\sIx items.size items.size hi=items.size))
  (h:Q (.ref s.heap.objs.size) {s with heap:=s.heap.push {cls:=.type "tuple",data:=.seq ((items.toList.drop (sIx items.size 0 lo)).take (sIx items.size items.size hi-sIx items.size 0 lo)).toArray}})
  (hsz:items.size<=Px):wpAny (model prog w) A (WD (.ref t) (.ref sl)) Q E s:=by
 have I:sizeOk (.seq ((items.toList.drop (sIx items.size 0 lo)).take (sIx items.size items.size hi-sIx items.size 0 lo)).toArray):=by
  show((items.toList.drop (sIx items.size 0 lo)).take (sIx items.size items.size hi-sIx items.size 0 lo)).toArray.size<=Px;rw[List.size_toArray,Rm,U_,Qh];omega
 have hj:sIx items.size items.size hi<=items.size:=Ke _ _ (Pg _) hi;obtain⟨os,J,a0,j⟩:=id F;have O:s.TypeIs (.ref sl) "slice":=⟨os,J,a0⟩;unfold WD
 try with_reducible refine Rf ?_
 first|refine eH (yr ?_)|skip
 refine eH (ZG U.typeIs (by decide) ?_);refine eH (QW (name:=Zf "__getitem__") U.typeIs Ri
  (Uc Ri U.typeIs YZ ?_ (Zg _ _)))
 show wpAny _ _ (W6 (.ref t) >>=_) _ _ s;refine eH (tupleItemsOf_ U ?_);refine eH (Ud O ?_);rw[Pk (by decide)];refine eH (lM F N Z ?_);have Y:¬((((sIx items.size 0 lo:Nat):Int)==0&&(1:Int)==1&&(sIx items.size items.size hi-sIx items.size 0 lo)==items.size)=true):=by
  intro q;rw[Qo,Qo]at q;have q1:((sIx items.size 0 lo:Nat):Int)=0:=eq_of_beq q.1.1;have q2:sIx items.size items.size hi-sIx items.size 0 lo=items.size:=eq_of_beq q.2;exact V ⟨by omega,by omega⟩
 show wpAny _ _ (if(((sIx items.size 0 lo:Nat):Int)==0&&(1:Int)==1&&(sIx items.size items.size hi-sIx items.size 0 lo)==items.size)=true then _ else _) _ _ s;rw[Pn Y,Du]
 first
  |exact eH (m:=SN _) (QM (yr ⟨_,rfl,yr h⟩) I)
  |exact eH (m:=SN _) (QM (eH (yr (yr ⟨_,rfl,yr h⟩))) I)
  |exact eH (eH (m:=SN _) (QM (yr (yr ⟨_,rfl,yr h⟩)) I))
  |exact eH (eH (m:=SN _) (QM (yr ⟨_,rfl,yr h⟩) I))
end HT
namespace L2
open PySem PySem.Spec PyProof.Rows
abbrev TO:=St->Hp->(Option Int->Hp->Prop)->Prop
def PO(X:Cx)(e:Option Expr)(t:TO):Prop:=
 ∀(pins:List (Addr×Obj))(s:zc)(σ:St)(H:Hp)(Q:Option Int->Hp->Prop),Inv X pins σ H s->t σ H Q->
  wpAny (model X.prog X.w) X.A (evalPart e X.env) (λu s'=>∃o H',Inv X pins σ H' s'/\UV u o/\Q o H') X.xe s
def IW:TO:=λ_ H Q=>Q none H
def NZ(t:TE):TO:=λσ H Q=>t σ H λx H1=>∃i,x= .int i/\Q (some i) H1
section
variable{X:Cx}{e:Expr}{te:TE}{lo hi:Option Expr}{tl th:TO}{pos p2:Pos}
theorem HF:PO X none IW:=by
 intro pins s σ H Q I h;rw[evalPart_none];exact yr ⟨none,H,I,.none,h⟩
theorem HJ(h:PE X e te):PO X (some e) (NZ te):=by
 intro pins s σ H Q I V;rw[evalPart_some];refine thn (h pins s σ H _ I V) λu Z ⟨x,H1,J,Y,q1⟩=>?_;obtain⟨i,rfl,q⟩:=q1;obtain⟨t,rfl⟩:=Y;exact⟨some i,H1,J,.int i t,q⟩
def SlR(X:Cx)(r:V->Option Int->Option Int->Hp->VK->Prop):Prop:=
 ∀(pins:List (Addr×Obj))(s:zc)(σ:St)(H:Hp)(x:V)(v vl B:Value)(lo hi:Option Int)(sl:Addr)(Q:VK),Inv X pins σ H s->RelV x v->s.heap.IsSliceOf sl vl B .none->UV vl lo->UV B hi->r x lo hi H Q->
  ∃T id,YB (.type T) "__getitem__"=pure (some (.builtin id))/\s.TypeIs v T/\wpAny (model X.prog X.w) X.A (WD v (.ref sl)) (EP X pins σ Q) X.xe s
theorem SlR.or{r Z:V->Option Int->Option Int->Hp->VK->Prop}(h:SlR X r)(h':SlR X Z):SlR X (λx lo hi H Q=>r x lo hi H Q∨Z x lo hi H Q):=by
 intro pins s σ H x v vl B lo hi sl Q I rx F N j q;rcases q with q|q
 .exact h pins s σ H x v vl B lo hi sl Q I rx F N j q
 .exact h' pins s σ H x v vl B lo hi sl Q I rx F N j q
def tSl(r:V->Option Int->Option Int->Hp->VK->Prop)(te:TE)(tl th:TO):TE:=λσ H Q=>te σ H λx H1=>tl σ H1 λl H2=>th σ H2 λu j=>r x l u j Q
theorem vV{r:V->Option Int->Option Int->Hp->VK->Prop}(Z:SlR X r)(he:PE X e te)(hl:PO X lo tl)(J:PO X hi th):PE X (.Subscript e (.Slice lo hi none p2) pos) (tSl r te tl th):=by
 intro pins s σ H Q I h;refine Subscript_ (thn (he pins s σ H _ I h) λv s1 ⟨x,H1,I1,Y,q1⟩=>?_);refine wpAny_Slice (thn (hl pins s1 σ H1 _ I1 q1) λvl F ⟨l,H2,N,pl,q2⟩=>thn (J pins F σ H2 _ N q2) λB s3 ⟨u,H3,I3,pu,q3⟩=>?_);rw[evalPart_none];refine yr ?_;have I4:Inv X pins σ H3 {s3 with heap:=s3.heap.push {cls:=.type "slice",data:=.fields #[vl,B,.none]}}:=I3.kept (t':=s3.toks) λb ob q=>gD _ q;obtain⟨T,id,O,U,j⟩:=Z pins {s3 with heap:=s3.heap.push {cls:=.type "slice",data:=.fields #[vl,B,.none]}} σ H3 x v vl B l u s3.heap.objs.size Q I4 Y (Heap.IsSliceOf.new ..) pl pu q3;show wpAny (model X.prog X.w) X.A (subscriptTail e (.Slice lo hi none p2) v (.ref s3.heap.objs.size)) (EP X pins σ Q) X.xe {s3 with heap:=s3.heap.push {cls:=.type "slice",data:=.fields #[vl,B,.none]}};exact tail_any (ops:=[.ref s3.heap.objs.size,v]) U O j (by with_unfolding_all rfl)
def o7(xs:List V)(lo hi:Option Int):List V:=(xs.drop (HT.sIx xs.length 0 lo)).take (HT.sIx xs.length xs.length hi-HT.sIx xs.length 0 lo)
theorem m9(xs:List V)(lo hi:Option Int):(o7 xs lo hi).length<=xs.length:=by
 unfold o7;rw[Rm,U_];omega
def O9(K:Pu):V->Option Int->Option Int->Hp->VK->Prop:=λx lo hi H Q=>∃a xs,x= .ref a/\SqT K H a xs/\
 ¬(HT.sIx xs.length 0 lo=0/\HT.sIx xs.length xs.length hi=xs.length)/\∀p,H p=none->Q (.ref p) (upd H p (.tup (o7 xs lo hi)))
theorem JP:SlR X (O9 X.K):=by
 intro pins s σ H x v vl B lo hi sl Q I rx F N Z h;obtain⟨a,xs,rfl,J,V,q⟩:=h;cases rx;obtain⟨its,r,U,hz⟩:=I.tuple J;have O:its.toArray.size=xs.length:=by rw[List.size_toArray];exact r.length.symm
 refine⟨"tuple",_,Ri.lookup,U.typeIs,?_⟩;refine HT.getItem_tuple_cut U F N Z (by rw[O];exact V) ?_ (by rw[O];exact hz);rw[O];refine⟨.ref s.heap.objs.size,_,I.laid (t':=s.toks) (o:=.tup (o7 xs lo hi)) (λb ob q=>gD _ q) (Pg _) ?_,rfl,q _ (I.hok.fresh (Pg _))⟩;exact⟨RX (m9 xs lo hi) hz,_,(r.drop (HT.sIx xs.length 0 lo)).take (HT.sIx xs.length xs.length hi-HT.sIx xs.length 0 lo),jj.new _ _⟩
def Ml(K:Pu):R2:=λx y H Q=>∃a b xs ys,x= .ref a/\y= .ref b/\SqT K H a xs/\SqT K H b ys/\xs≠[]/\xs.length+ys.length<=Px/\
 (ys=[]->Q (.ref a) H)/\(ys≠[]->∀p,H p=none->Q (.ref p) (upd H p (.tup (xs++ys))))
theorem Vals.nil_iff{xs:List V}{B:List Value}(r:Vals xs B):B=[]↔xs=[]:=by
 cases r with
 |nil=>simp
 |cons _ _=>simp
theorem Il:OpR X (RB .Add) (Ml X.K):=by
 intro pins s σ H x y v u Q I rx B h;obtain⟨a,b,xs,ys,rfl,rfl,O,U,J,hz,q1,q2⟩:=h;cases rx;cases B;obtain⟨its,Y,p1,_⟩:=I.tuple O;obtain⟨N,j,p2,_⟩:=I.tuple U;refine HT.cat_tup p1 p2 (λz=>J (Y.nil_iff.mp z)) (λz=>⟨.ref a,H,I,rfl,q1 (j.nil_iff.mp z)⟩) (λz=>?_) (by rw[←Y.length,←j.length];exact hz);refine⟨.ref s.heap.objs.size,_,I.laid (t':=s.toks) (o:=.tup (xs++ys)) (λb ob q=>gD _ q) (Pg _) ?_,rfl,q2 (λw=>z (j.nil_iff.mpr w)) _ (I.hok.fresh (Pg _))⟩;exact⟨by rw[Qx];exact hz,_,Y.append j,jj.new _ _⟩
end
def ixN(n:Nat)(i:Int):Option Nat:=if 0<=i then(if i<n then some i.toNat else none)else if -(n:Int)<=i then some (i+n).toNat else none
def atI(xs:List α)(i:Int):Option α:=(ixN xs.length i).bind λj=>xs[j]?
variable{i:Int}
theorem zx(h:ixN n i=some j):seqIndex? i n=some j/\j<n/\-(n:Int)<=i/\i<n:=by
 unfold ixN at h;by_cases U:0<=i
 .rw[Pk U]at h
  by_cases h1:i<n
  .rw[Pk h1]at h
   have e:i.toNat=j:=QR h;exact⟨by rw[Z2 U h1,e],by omega,by omega,h1⟩
  .rw[Pn h1]at h;cases h
 .rw[Pn U]at h
  by_cases h1: -(n:Int)<=i
  .rw[Pk h1]at h
   have e:(i+n).toNat=j:=QR h;exact⟨by rw[Zh (by omega) h1,e],by omega,h1,by omega⟩
  .rw[Pn h1]at h;cases h
theorem uO{xs:List α}{v:α}(h:atI xs i=some v):∃j,seqIndex? i xs.length=some j/\xs[j]? =some v/\j<xs.length/\-(xs.length:Int)<=i/\i<xs.length:=by
 unfold atI at h;cases e:ixN xs.length i with
 |none=>rw[e]at h;cases h
 |some j=>
  rw[e]at h;obtain⟨h1,h2,N,V⟩:=zx e;exact⟨j,h1,h,h2,N,V⟩
def uJ(b:Expr):Prop:=∀o i,subscripted b false o i=operate [o,i] (WD o i)
def IxR(X:Cx)(r:R2):Prop:=
 ∀(Y J:Expr)(pins:List (Addr×Obj))(s:zc)(σ:St)(H:Hp)(x y:V)(v u:Value)(Q:VK),Inv X pins σ H s->RelV x v->RelV y u->r x y H Q->
  subscripted J false v u=operate [v,u] (WD v u)->wpAny (model X.prog X.w) X.A (subscriptTail Y J v u) (EP X pins σ Q) X.xe s
def MtR(X:Cx)(id:String)(r:V->List V->Hp->VK->Prop):Prop:=
 ∀(pins:List (Addr×Obj))(s:zc)(σ:St)(H:Hp)(x:V)(xs:List V)(v:Value)(B:List Value)(Q:VK),Inv X pins σ H s->RelV x v->Vals xs B->r x xs H Q->
  wpAny (model X.prog X.w) X.A (call (.builtin id) (v::B)) (EP X pins σ Q) X.xe s
section
variable{X:Cx}{a b:Expr}{ta tb:TE}{pos:Pos}
theorem IxR.or{r Z:R2}(h:IxR X r)(h':IxR X Z):IxR X (λx y H Q=>r x y H Q∨Z x y H Q):=by
 intro Y J pins s σ H x y v u Q I rx B q F;rcases q with q|q
 .exact h Y J pins s σ H x y v u Q I rx B q F
 .exact h' Y J pins s σ H x y v u Q I rx B q F
theorem Jx{r:R2}(Z:IxR X r)(O:PE X a ta)(U:PE X b tb)(F:uJ b):PE X (.Subscript a b pos) (tOp r ta tb):=by
 intro pins s σ H Q I h;exact Subscript_ (Ls O U I h λv u j x y H2 N rx B q=>Z a b pins j σ H2 x y v u Q N rx B q (F _ _))
def N5(K:Pu):R2:=λx y H Q=>∃p xs i v,x= .ref p/\y= .int i/\SqL K H p xs/\atI xs i=some v/\Q v H
def Nv(K:Pu):R2:=λx y H Q=>∃p xs i v,x= .ref p/\y= .int i/\SqT K H p xs/\atI xs i=some v/\Q v H
def Nz:R2:=λx y H Q=>∃z i c,x= .str z/\y= .int i/\z.length<=Px/\atI z.cps.toList i=some c/\Q (.str ⟨#[c]⟩) H
theorem Ht:IxR X (N5 X.K):=by
 intro Y J pins s σ H x y v u Q I rx B h F;obtain⟨p,xs,i,z,rfl,rfl,hq,V,q⟩:=h;cases rx;obtain⟨t,rfl⟩:=B;obtain⟨its,r,pl,hz⟩:=I.list hq;obtain⟨j,h1,h2,N,h4,h5⟩:=uO V;obtain⟨w,ew,O⟩:=r.get h2;have Z:=r.length;have hn:=jZ;have U:EP X pins σ Q w s:=⟨z,H,I,O,q⟩;by_cases h0:0<=i
 .have hj:i.toNat=j:=by
   rw[Z2 h0 h5]at h1;exact QR h1
  exact item_listR pl.isList h0 (by omega) (by rw[hj];simpa using ew) U F
 .have hj:(i+(its.toArray.size:Int)).toNat=j:=by
   rw[Zh (by omega) h4]at h1;rw[List.size_toArray,←Z];exact QR h1
  exact Yh (x:=w) pl.isList.typeIs ZJ.lookup
   (wpAny_getItem_list_neg (Q:=λr s'=>r=w/\EP X pins σ Q r s') pl.isList (by omega) (by rw[List.size_toArray]<;>omega) (by omega) (by rw[hj];simpa using ew) ⟨rfl,U⟩) F
theorem Kd:IxR X (Nv X.K):=by
 intro Y J pins s σ H x y v u Q I rx B h F;obtain⟨p,xs,i,z,rfl,rfl,hq,V,q⟩:=h;cases rx;obtain⟨t,rfl⟩:=B;obtain⟨its,r,pl,hz⟩:=I.tuple hq;obtain⟨j,h1,h2,N,h4,h5⟩:=uO V;obtain⟨w,ew,O⟩:=r.get h2;have Z:=r.length;have hn:=jZ;have U:EP X pins σ Q w s:=⟨z,H,I,O,q⟩;exact Yh (x:=w) pl.typeIs slot_tuple_getitem.lookup
  (getItem_tuple (j:=j) (Q:=λr s'=>r=w/\EP X pins σ Q r s') pl (by omega) (by omega) (by rw[List.size_toArray,←Z];exact h1) (by simpa using ew) ⟨rfl,U⟩) F
theorem Lf:IxR X Nz:=by
 intro Y J pins s σ H x y v u Q I rx B h F;obtain⟨z,i,c,rfl,rfl,hz,V,q⟩:=h;obtain⟨t,rfl⟩:=rx;obtain⟨t',rfl⟩:=B;obtain⟨j,h1,h2,N,U,O⟩:=uO V;have Z:z.cps.toList.length=z.length:=by simp[Str.length]
 rw[Z]at h1 U O;have hn:=jZ;exact tail_any (typeIs_str s z t) slot_str_getitem.lookup (getItem_str (c:=c) (by
  have e1:decide (i< -(2 ^ 63:Int))=false:=QB (by omega);have e2:decide (i>=2 ^ 63)=false:=QB (by omega);rw[e1,e2,Bool.or_false]) (by rw[h1];simpa using h2) ⟨.str ⟨#[c]⟩,H,I.tok _,⟨_,rfl⟩,q⟩) F
def rIx(K:Pu):R2:=λx y H Q=>N5 K x y H Q∨Nv K x y H Q∨Nz x y H Q
theorem J3:IxR X (rIx X.K):=Ht.or (Kd.or Lf)
theorem xT(its:List Value)(n j:Nat)(u:Value):SQ (·.setIfInBounds j u) {cls:=.type "list",data:=.seq its.toArray n}={cls:=.type "list",data:=.seq (its.set j u).toArray n}:=by
 simp[SQ]
theorem Inv.lst{pins:List (Addr×Obj)}{σ:St}{H:Hp}{s:zc}{p:Addr}{xs:List V}(I:Inv X pins σ H s)(h:H p=some (.lst xs)) :
  ∃(its:List Value)(n:Nat),Vals xs its/\s.heap.get? p=some {cls:=.type "list",data:=.seq its.toArray n}/\xs.length<=Px:=by
 obtain⟨z,its,n,r,e⟩:=I.hok p _ h;exact⟨its,n,r,e,z⟩
theorem Inv.lstUpd{pins:List (Addr×Obj)}{σ:St}{H:Hp}{s:zc}{p:Addr}{xs ys:List V}{its its':List Value}{n j:Nat}{f:Obj->Obj}(I:Inv X pins σ H s)(h:H p=some (.lst xs))
  (B:s.heap.get? p=some {cls:=.type "list",data:=.seq its.toArray n}) (O:f {cls:=.type "list",data:=.seq its.toArray n}={cls:=.type "list",data:=.seq its'.toArray j}) (r:Vals ys its') (hz:ys.length<=Px) (t:Nat) :
  Inv X pins σ (upd H p (.lst ys)) {s with heap:=s.heap.update p f,toks:=t}:=by
 have e:(s.heap.update p f).get? p=some {cls:=.type "list",data:=.seq its'.toArray j}:=by
  rw[TJ f B (by rw[O]<;>rfl),O]
 refine I.write (x:=p) (e:=p) (by rw[h];trivial) (.inl rfl) (λb u U q=>(Q0 _ _ (Qn U)).trans q) ⟨_,e⟩ ?_;exact⟨hz,its',j,r,e⟩
def JB:V->V->V->Hp->(Hp->Prop)->Prop:=λo i v H Q=>∃p xs k j,o= .ref p/\i= .int k/\H p=some (.lst xs)/\ixN xs.length k=some j/\Q (upd H p (.lst (xs.set j v)))
theorem set_list:Gu X JB:=by
 intro pins s σ H o i v ov O u Q I ro ri rv h;obtain⟨p,xs,k,j,rfl,rfl,Y,F,q⟩:=h;cases ro;obtain⟨t,rfl⟩:=ri;obtain⟨its,n,r,B,hz⟩:=I.lst Y;obtain⟨h1,h2,N,V⟩:=zx F;have Z:=r.length;have hn:=jZ;have J:Inv X pins σ (upd H p (.lst (xs.set j v))) {s with heap:=s.heap.update p (SQ (·.setIfInBounds j u))}:=
  I.lstUpd Y B (xT its n j u) (r.set rv j) (by rw[List.length_set];exact hz) s.toks
 by_cases U:0<=k
 .have hk:k.toNat=j:=by
   rw[Z2 U V]at h1;exact QR h1
  exact PySem.W.ki_setAt B U (by omega) (by rw[List.size_toArray,←Z];exact V) (by rw[hk];exact⟨_,J,q⟩)
 .have hk:(k+(its.toArray.size:Int)).toNat=j:=by
   rw[Zh (by omega) N]at h1;rw[List.size_toArray,←Z];exact QR h1
  exact PySem.W.ki_setBack B (by omega) (by rw[List.size_toArray,←Z];exact N) (by omega) (by rw[hk];exact⟨_,J,q⟩)
theorem tQ(lo hi:Option Int)(n:Nat):(Ve lo hi none n).1=((HT.sIx n 0 lo:Nat):Int)/\(Ve lo hi none n).2.1=((HT.sIx n n hi:Nat):Int)/\(Ve lo hi none n).2.2=1:=by
 refine⟨?_,?_,rfl⟩
 .cases lo with
  |none=>simp[Ve,HT.sIx]
  |some i=>
   simp only[Ve,HT.sIx,aad,show(1:Int)>0 by decide,Qf];by_cases h:i<0
   .simp only[h,Qf]<;>omega
   .simp only[h,Qv]<;>omega
 .cases hi with
  |none=>simp[Ve,HT.sIx]
  |some i=>
   simp only[Ve,HT.sIx,aad,show(1:Int)>0 by decide,Qf];by_cases h:i<0
   .simp only[h,Qf]<;>omega
   .simp only[h,Qv]<;>omega
theorem qN(its:List Value)(lo hi:Option Int):slicePick its.toArray lo hi none=((its.drop (HT.sIx its.length 0 lo)).take (HT.sIx its.length its.length hi-HT.sIx its.length 0 lo)).toArray:=by
 obtain⟨h1,h2,N⟩:=tQ lo hi its.toArray.size;unfold slicePick;rw[h1,h2,N];simp only[sliceRange_one,pick_run,List.size_toArray]<;>rfl
def Oq(K:Pu):V->Option Int->Option Int->Hp->VK->Prop:=λx lo hi H Q=>∃a xs,x= .ref a/\SqL K H a xs/\∀p,H p=none->Q (.ref p) (upd H p (.lst (o7 xs lo hi)))
theorem Gv:SlR X (Oq X.K):=by
 intro pins s σ H x v vl B lo hi sl Q I rx F N Z h;obtain⟨a,xs,rfl,J,q⟩:=h;cases rx;obtain⟨its,r,U,hz⟩:=I.list J;have O:=r.length;refine⟨"list",_,ZJ.lookup,U.isList.typeIs,?_⟩;refine wpAny_getItem_list_slice U.isList F N Z .none (by simp) ?_ (by rw[List.size_toArray]<;>omega);rw[qN,←O];refine⟨.ref s.heap.objs.size,_,I.laid (t':=s.toks) (o:=.lst (o7 xs lo hi)) (λb ob q=>gD _ q) (Pg _) ?_,rfl,q _ (I.hok.fresh (Pg _))⟩;exact⟨RX (m9 xs lo hi) hz,_,0,(r.drop (HT.sIx xs.length 0 lo)).take (HT.sIx xs.length xs.length hi-HT.sIx xs.length 0 lo),Pz _ rfl⟩
theorem uM:dD X (.builtin "len") (λxs H Q=>∃p ys,xs=[.ref p]/\(SqL X.K H p ys∨SqT X.K H p ys)/\Q (.int ys.length) H):=by
 intro pins s σ H xs B Q I r h;obtain⟨p,ys,rfl,N,q⟩:=h;obtain⟨u,rfl,rx⟩:=vals1 r;cases rx;have hn:=jZ;rcases N with N|N
 .obtain⟨its,r',pl,hz⟩:=I.list N
  have O:=r'.length;exact Calls.call_len_list pl.isList (by simp only[List.size_toArray]<;>omega) ⟨.int ys.length,H,I.tok _,⟨s.toks+1,by rw[List.size_toArray,O]⟩,q⟩
 .obtain⟨its,r',pl,hz⟩:=I.tuple N
  have O:=r'.length;exact len_tuple pl (by simp only[List.size_toArray]<;>omega) ⟨.int ys.length,H,I.tok _,⟨s.toks+1,by rw[List.size_toArray,O]⟩,q⟩
theorem uK:dD X (.builtin "len") (λxs H Q=>∃z,xs=[.str z]/\z.length<=Px/\Q (.int z.length) H):=by
 intro pins s σ H xs B Q I r h;obtain⟨z,rfl,hz,q⟩:=h;obtain⟨u,rfl,t,rfl⟩:=vals1 r;have hn:=jZ;exact len_str (by omega) ⟨.int z.length,H,I.tok _,⟨_,rfl⟩,q⟩
theorem tK:dD X (.type "list") (λxs H Q=>∃p ys,xs=[.ref p]/\(SqL X.K H p ys∨SqT X.K H p ys)/\∀l,H l=none->Q (.ref l) (upd H l (.lst ys))):=by
 intro pins s σ H xs j Q I r h;obtain⟨p,ys,rfl,N,q⟩:=h;obtain⟨u,rfl,rx⟩:=vals1 r;cases rx;have U:∀(its:List Value),Vals ys its->ys.length<=Px->∀(h':Heap)(V:Nat),(∀b o',s.heap.get? b=some o'->h'.get? b=some o')->
   h'.get? s.heap.objs.size=some {cls:=.type "list",dict:=none,data:=.seq its.toArray V,slots:=#[]}->EP X pins σ Q (.ref s.heap.objs.size) {s with heap:=h'}:=λits Z hz h' V kp e=>
  ⟨.ref s.heap.objs.size,_,I.laid (t':=s.toks) kp (Pg _) (show bw X.prog X.w _ h' _ (.lst ys)from⟨hz,its,V,Z,e⟩),rfl,q _ (I.hok.fresh (Pg _))⟩
 rcases N with N|N
 .obtain⟨its,Z,pl,hz⟩:=I.list N
  have O:=Z.length;obtain⟨o,B,Y,n,hd⟩:=pl.isList;exact call_list_seq p (.inl rfl) B Y hd (λh' V kp e=>U its Z hz h' V kp e) (by simp only[List.size_toArray]<;>omega)
 .obtain⟨its,Z,pl,hz⟩:=I.tuple N
  have O:=Z.length;obtain⟨o,B,Y,n,hd⟩:=pl;exact call_list_seq p (.inr rfl) B Y hd (λh' V kp e=>U its Z hz h' V kp e) (by simp only[List.size_toArray]<;>omega)
theorem qQ:dD X (.type "tuple") (λxs H Q=>∃p ys,xs=[.ref p]/\((SqL X.K H p ys/\∀l,H l=none->Q (.ref l) (upd H l (.tup ys)))∨(SqT X.K H p ys/\Q (.ref p) H))):=by
 intro pins s σ H xs B Q I r h;obtain⟨p,ys,rfl,h⟩:=h;obtain⟨u,rfl,rx⟩:=vals1 r;cases rx;rcases h with⟨N,q⟩|⟨N,q⟩
 .obtain⟨its,r',pl,hz⟩:=I.list N
  have O:=r'.length;refine call_tuple_list pl.isList (λh' kp=>?_) (by simp only[List.size_toArray]<;>omega);have J:Inv X pins σ H {s with heap:=h'}:=I.kept (t':=s.toks) kp;have j:Inv X pins σ (upd H h'.objs.size (.tup ys)) {s with heap:=h'.push {cls:=.type "tuple",data:=.seq its.toArray}}:=
   J.laid (t':=s.toks) (λb o e=>gD _ e) (Pg _) (show bw X.prog X.w _ _ _ (.tup ys)from⟨hz,its,r',jj.new _ _⟩)
  exact⟨.ref h'.objs.size,_,j,rfl,q _ (J.hok.fresh (Pg _))⟩
 .obtain⟨its,r',pl,hz⟩:=I.tuple N
  exact call_tuple_same pl ⟨.ref p,H,I,rfl,q⟩
def tyV(K:Pu)(T:String)(x:V)(H:Hp):Prop:=match x with
 |.str _=>T="str"
 |.int _=>T="int"
 |.ref p=>(T="list"/\∃xs,SqL K H p xs)∨(T="tuple"/\∃o,K.lookup p=some o/\o.cls= .type "tuple"/\o.dict=none)∨
  (T="dict"/\((∃kvs,H p=some (.dK kvs))∨∃kvs,H p=some (.dT kvs)))∨(T="set"/\∃S n,H p=some (.set S n))
 |_=>False
theorem JS{pins:List (Addr×Obj)}{σ:St}{H:Hp}{s:zc}{T:String}{x:V}{v:Value}(I:Inv X pins σ H s)(r:RelV x v)(F:tyV X.K T x H) :
  s.TypeIs v T/\∀a,v= .ref a->∃ob,s.heap.get? a=some ob/\ob.dict=none:=by
 cases x with
 |str z=>
  obtain⟨t,rfl⟩:=r;cases (show T="str" from F);exact⟨typeIs_str s z t,λ_ e=>nomatch e⟩
 |int i=>
  obtain⟨t,rfl⟩:=r;cases (show T="int" from F);exact⟨typeIs_int s i t,λ_ e=>nomatch e⟩
 |ref p=>
  cases r;rcases F with⟨rfl,xs,N⟩|⟨rfl,o,J,Y,hd⟩|⟨rfl,J⟩|⟨rfl,S,n,J⟩
  .obtain⟨its,_,pl,_⟩:=I.list N
   refine⟨pl.isList.typeIs,λa e=>?_⟩;cases e;obtain⟨o,n,e,c,hd,_⟩:=pl;exact⟨o,e,hd⟩
  .refine⟨⟨o,I.kIn p o J,Y⟩,λa e=>?_⟩
   cases e;exact⟨o,I.kIn _ o J,hd⟩
  .have z:∃o,s.heap.get? p=some o/\o.ExactDict:=by
    rcases J with⟨kvs,J⟩|⟨kvs,J⟩
    .obtain⟨_,_,_,_,o,_,_,e,ex,_⟩:=I.hok p _ J
     exact⟨o,e,ex⟩
    .obtain⟨_,_,_,_,o,_,_,e,ex,_⟩:=I.hok p _ J
     exact⟨o,e,ex⟩
   obtain⟨o,e,ex⟩:=z;refine⟨⟨o,e,ex.1⟩,λa e2=>?_⟩;cases e2;exact⟨o,e,ex.2.1⟩
  .obtain⟨o,_,_,_,e,ex,_⟩:=I.hok p _ J
   refine⟨⟨o,e,ex.1⟩,λa e2=>?_⟩;cases e2;exact⟨o,e,ex.2.1⟩
 |_=>exact T4 F
def tBM(K:Pu)(T:String)(r:V->List V->Hp->VK->Prop)(to:TE)(t:TA):TE:=λσ H Q=>to σ H λx H1=>tyV K T x H1/\t σ H1 λxs H2=>r x xs H2 Q
variable{o e:Expr}{es:List Expr}{to:TE}{t:TA}{name:Str}{apos cpos:Pos}{T id:String}{r:V->List V->Hp->VK->Prop}
theorem Jj(pa:PlainAttrs T)(slot:Slot T name id)(a2:typeOf (.builtin id)=pure (.type "method_descriptor"))(V:MtR X id r)(B:PE X o to)(O:PA X (e::es) t)
  (U:YQ o name X.env (eval o X.env)=eval o X.env:=by rfl)
  (a1:((SM cpos (PK (e::es) X.env)).all (λx=>!x.1)&&(backToKw cpos (Z3 [] X.env)).all (λx=>x.1.isSome)
   &&decide ((e::es).length+([]:List Yr).length+(if([]:List Yr).isEmpty then 0 else 1)<30))=true:=by rfl)
  (a0:(apos.endLine==cpos.line)=true:=by rfl) (F:PK (e::es) X.env=(false,eval e X.env)::PK es X.env:=by rfl) (q:(SM cpos (PK es X.env)).any (·.1)=false:=by rfl) :
  PE X (.Call (.Attribute o name apos) (e::es) [] cpos) (tBM X.K T r to t):=by
 intro pins s σ H Q I h;refine wpAny_Call_method_late U a1 a0 rfl (thn (B pins s σ H _ I h) λv Z ⟨x,H1,J,Y,ty,q1⟩=>?_);obtain⟨h1,h2⟩:=JS J Y ty;refine⟨T,id,pa,slot,a2,h1,h2,?_⟩;have hA:=O cpos pins Z σ H1 _ J q1;rw[F]at hA⊢;refine Yi (by show(false||(SM cpos (PK es X.env)).any (·.1))=false;rw[q]<;>rfl) (YC ?_);exact thn hA λus s2 ⟨vs,H2,N,j,q2⟩=>V pins s2 σ H2 x vs v us Q N Y j q2
end
def MtM(X:Cx)(id:String)(r:V->List V->Hp->VK->Prop):Prop:=
 ∀(pins:List (Addr×Obj))(s:zc)(σ:St)(H:Hp)(x:V)(xs:List V)(v:Value)(B:List Value)(Q:VK),Inv X pins σ H s->RelV x v->Vals xs B->r x xs H Q->
  wpAny (model X.prog X.w) X.A (call (.builtin id) (v::B)) (EP X pins σ Q) X.xe s
theorem Vals.one:∀{x:V}{B:List Value},Vals [x] B->∃u,B=[u]/\RelV x u
 |_,_,.cons r .nil=>⟨_,rfl,r⟩
variable{xs ys:List V}{X:Cx}{σ:St}{H:Hp}{l:Addr}
theorem Inv.lset{its':List Value}{f:Array Value->Array Value}(I:Inv X pins σ H s)(V:H l=some (.lst xs))
  (e:s.heap.get? l=some {cls:=.type "list",data:=.seq its.toArray n}) (O:f its.toArray=its'.toArray) (N:Vals ys its') (hz:ys.length<=Px) :
  Inv X pins σ (upd H l (.lst ys)) {s with heap:=s.heap.update l (SQ f),toks:=t'}:=by
 have q:=aae e f;rw[O]at q;refine I.write (x:=l) (e:=l) (by rw[V];exact trivial) (.inl rfl) (λj u U J=>(Q0 s.heap (SQ f) (Qn U)).trans J) ⟨_,q⟩ ?_;exact⟨hz,its',_,N,q⟩
theorem Inv.lnew(I:Inv X pins σ H s)(N:Vals ys its)(hz:ys.length<=Px) :
  Inv X pins σ (upd H s.heap.objs.size (.lst ys)) {s with heap:=s.heap.push {cls:=.type "list",data:=.seq its.toArray},toks:=t'}:=
 I.laid (λ_ _ q=>gD _ q) (Pg _) ⟨hz,its,0,N,Pz _ rfl⟩
theorem Inv.fresh(I:Inv X pins σ H s):H s.heap.objs.size=none:=I.hok.fresh (Pg _)
theorem Inv.lstM(I:Inv X pins σ H s)(V:H l=some (.lst xs)):xs.length<=Px/\∃(its:List Value)(n:Nat),Vals xs its/\xs.length=its.length/\s.heap.get? l=some {cls:=.type "list",data:=.seq its.toArray n}:=by
 obtain⟨z,its,n,r,e⟩:=I.hok l _ V;exact⟨z,its,n,r,r.length,e⟩
def yw:V->List V->Hp->VK->Prop:=λx vs H Q=>∃l xs y,x= .ref l/\vs=[y]/\H l=some (.lst xs)/\xs.length<Px/\Q .non (upd H l (.lst (xs++[y])))
theorem Az:MtM X "list.append" yw:=by
 intro pins s σ H x vs v B Q I rx j h;obtain⟨l,xs,y,rfl,rfl,V,hz,q⟩:=h;cases rx;obtain⟨u,rfl,U⟩:=j.one;obtain⟨z,its,n,r,Z,e⟩:=I.lstM V;refine YD Zi ⟨_,e,rfl⟩ Y0 (YF _ _) (ZK l its.toArray n u (by rw[List.size_toArray];omega)) ⟨e,?_⟩;refine⟨.non,_,I.lset (its':=its++[u]) V e (by simp) (r.append (.cons U .nil)) ?_,rfl,q⟩;rw[Qx,Wh];omega
def Mr:R2:=λx y H Q=>∃l b xs zs,x= .ref l/\y= .ref b/\H l=some (.lst xs)/\H b=some (.lst zs)/\xs.length+zs.length<=Px/\∀p,H p=none->Q (.ref p) (upd H p (.lst (xs++zs)))
theorem Kq:OpR X (RB .Add) Mr:=by
 intro pins s σ H x y v u Q I rx B h;obtain⟨l,b,xs,zs,rfl,rfl,V,O,hz,q⟩:=h;cases rx;cases B;obtain⟨z,its,n,r,Z,e⟩:=I.lstM V;obtain⟨J,N,U,j,Y,e2⟩:=I.lstM O;refine PySem.P.add_list e e2 ?_ (by rw[List.size_toArray,List.size_toArray];omega);have F:its.toArray++N.toArray=(its++N).toArray:=by simp
 rw[F];exact⟨.ref _,_,I.lnew (t':=s.toks) (r.append j) (by rw[Qx];omega),rfl,q _ I.fresh⟩
section
variable{κ:Type}[DecidableEq κ]
def kj(kvs:List (κ×V))(k:κ):Option V:=(kvs.find? λI=>decide (I.1=k)).map (·.2)
def putK(kvs:List (κ×V))(k:κ)(v:V):List (κ×V):=
 if(kvs.any λI=>decide (I.1=k))=true then kvs.map (λI=>if I.1=k then(I.1,v)else I)else kvs++[(k,v)]
theorem oR{p:κ×V}{r:List (κ×V)}{k:κ}(e:p.1=k):kj (p::r) k=some p.2:=by simp[kj,TQ,e]
theorem qu{p:κ×V}{r:List (κ×V)}{k:κ}(e:¬p.1=k):kj (p::r) k=kj r k:=by simp[kj,TQ,e]
theorem pR(k:κ):∀kvs:List (κ×V),(kvs.any λI=>decide (I.1=k))=(kj kvs k).isSome
 |[]=>rfl
 |p::r=>by
  rw[YS];by_cases e:p.1=k
  .simp only[oR e,R4 e,Bool.true_or,Option.isSome_some]
  .rw[qu e,QB e,Bool.false_or];exact pR k r
theorem h_(kvs:List (κ×V))(k:κ)(v:V):(putK kvs k v).length<=kvs.length+1:=by
 unfold putK;split
 .rw[Qe];omega
 .rw[Qx,QL,Q6];omega
theorem oN{kvs:List (κ×V)}{k:κ}(v:V)(h:kj kvs k=none):putK kvs k v=kvs++[(k,v)]:=by
 unfold putK;rw[pR,h];exact Pn (by decide)
theorem p_.isSome_eq{o:Option V}{u:Option Value}(r:p_ o u):o.isSome=u.isSome:=by
 cases o with
 |none=>cases u with
  |none=>rfl
  |some _=>exact(show False from r).elim
 |some _=>cases u with
  |none=>exact(show False from r).elim
  |some _=>rfl
theorem KV.val{kvs:List (κ×V)}{vs:List (κ×Value)}(r:KV kvs vs)(k:κ):p_ (kj kvs k) (Xm vs k):=by
 unfold KV at r
 induction r with
 |nil=>exact RN
 |@cons p q ps j h t F=>
  obtain⟨h1,h2⟩:=h;by_cases e:p.1=k
  .have e':q.1=k:=h1.symm.trans e
   have b:Xm (q::j) k=some q.2:=by simp[Xm,TQ,e']
   rw[oR e,b];exact h2
  .have e':¬q.1=k:=λz=>e (h1.trans z)
   have b:Xm (q::j) k=Xm j k:=by simp[Xm,TQ,e']
   rw[qu e,b];exact F
theorem KV.any{kvs:List (κ×V)}{vs:List (κ×Value)}(r:KV kvs vs)(k:κ):(kvs.any λI=>decide (I.1=k))=vs.any λI=>decide (I.1=k):=by
 unfold KV at r
 induction r with
 |nil=>rfl
 |cons h t F=>rw[YS,YS,F,h.1]
theorem KV.repl{kvs:List (κ×V)}{vs:List (κ×Value)}(r:KV kvs vs)(k:κ){y:V}{u:Value}(B:RelV y u) :
  KV (kvs.map λI=>if I.1=k then(I.1,y)else I) (vs.map λI=>if I.1=k then(I.1,u)else I):=by
 unfold KV at r⊢
 induction r with
 |nil=>exact .nil
 |@cons p q ps j h t F=>
  rw[PP,PP];refine .cons ?_ F;obtain⟨h1,h2⟩:=h;by_cases e:p.1=k
  .rw[Pk e,Pk (h1.symm.trans e)];exact⟨h1,B⟩
  .rw[Pn e,Pn (λz=>e (h1.trans z))];exact⟨h1,h2⟩
theorem KV.put{kvs:List (κ×V)}{vs:List (κ×Value)}(r:KV kvs vs)(k:κ){y:V}{u:Value}(B:RelV y u):KV (putK kvs k y) (stored vs k u):=by
 unfold putK stored;rw[r.any k];by_cases e:(vs.any λI=>decide (I.1=k))=true
 .rw[Pk e,Pk e];exact r.repl k B
 .rw[Pn e,Pn e];exact Paired.snoc r ⟨rfl,B⟩
theorem KV.length{kvs:List (κ×V)}{vs:List (κ×Value)}(r:KV kvs vs):kvs.length=vs.length:=W3 r
end
theorem qZ{k:Key}(r:RelV (kV k) u):(bz P w).is k u=true:=by
 cases k with
 |inl i=>obtain⟨t,e⟩:=(show ∃t,u=WW i t from r);subst e;exact v4 P w i t
 |inr x=>obtain⟨t,e⟩:=(show ∃t,u=Wd x t from r);subst e;exact vq P w x t
theorem rn:∀{ks:List Key}{B:List Value},Vals (ks.map kV) B->ItemsAre (bz P w) ks B
 |[],_,r=>by rw[Ru]at r;cases r;exact .nil
 |k::ks,_,r=>by
  rw[PP]at r;cases r with
  |cons h t=>exact .cons (qZ h) (rn t)
noncomputable abbrev KT(H:Hp):List (List Key×V)->List (List Key×Addr×Value)->Prop:=Y9 λp q=>p.1=q.1/\H q.2.1=some (.tup (p.1.map kV))/\RelV p.2 q.2.2
variable{xs:List (List Key×Addr×Value)}{kvs:List (List Key×V)}
theorem KT.val(r:KT H kvs xs)(k:List Key):p_ (kj kvs k) ((atKey xs k).map (·.2)):=by
 induction r with
 |nil=>exact RN
 |@cons p q ps j h t F=>
  obtain⟨h1,_,h2⟩:=h;by_cases e:p.1=k
  .have e':q.1=k:=h1.symm.trans e
   have b:atKey (q::j) k=some q.2:=by simp[atKey,TQ,e']
   rw[oR e,b];exact h2
  .have e':¬q.1=k:=λz=>e (h1.trans z)
   have b:atKey (q::j) k=atKey j k:=by simp[atKey,TQ,e']
   rw[qu e,b];exact F
variable{y:V}
theorem KT.repl(r:KT H kvs xs)(k:List Key)(B:RelV y u) :
  KT H (kvs.map λI=>if I.1=k then(I.1,y)else I) (xs.map (putAt k u)):=by
 induction r with
 |nil=>exact .nil
 |@cons p q ps j h t F=>
  rw[PP,PP];refine .cons ?_ F;obtain⟨h1,h2,N⟩:=h;unfold putAt;by_cases e:p.1=k
  .rw[Pk e,Pk (h1.symm.trans e)];exact⟨h1,h2,B⟩
  .rw[Pn e,Pn (λz=>e (h1.trans z))];exact⟨h1,h2,N⟩
theorem KT.put(r:KT H kvs xs)(k:List Key){b:Addr}(U:H b=some (.tup (k.map kV)))(B:RelV y u) :
  KT H (putK kvs k y) (storedH xs k b u):=by
 have e:(kvs.any λI=>decide (I.1=k))=(atKey xs k).isSome:=by
  rw[pR,(r.val k).isSome_eq,Option.isSome_map]
 unfold putK storedH;rw[e];by_cases q:(atKey xs k).isSome=true
 .rw[Pk q,Pk q];exact r.repl k B
 .rw[Pn q,Pn q];exact Paired.snoc r ⟨rfl,U,B⟩
variable{H':Hp}
theorem KT.keeps(r:KT H kvs xs)(U:∀b ys,H b=some (.tup ys)->H' b=some (.tup ys)):KT H' kvs xs:=
 Paired.mapP r λ_ _ z=>⟨z.1,U _ _ z.2.1,z.2.2⟩
variable{P:Program}
theorem Jk{u:HO}(ok:HOk P w H h)(e:Rd H a u):bw P w H h a u:=e.ok ok
theorem zA{kvs:List (Key×V)}(ok:HOk P w H h)(e:Rd H a (.dK kvs)):kvs.length<=Px/\(a==T3)=false/\∃vs,KV kvs vs/\h.DictOf (bz P w) a vs:=
 show bw P w H h a (.dK kvs)from Jk ok e
theorem Jc{kvs:List (Key×V)}(ok:HOk P w H h)(e:H a=some (.dK kvs)):kvs.length<=Px/\(a==T3)=false/\∃vs,KV kvs vs/\h.DictOf (bz P w) a vs:=zA ok (.inl e)
theorem xj{ks:List Key}(ok:HOk P w H h)(e:H a=some (.tup (ks.map kV))):(XX (bz P w)).is h ks a:=by
 obtain⟨_,its,r,o,h1,h2,n,N⟩:=(show bw P w H h a (.tup (ks.map kV))from ok a _ e);exact⟨o,its.toArray,n,h1,h2,N.1,by simpa using rn r⟩
theorem Ea(ok:HOk P w H h)(e:Rd H a (.dT kvs)):kvs.length<=Px/\(a==T3)=false/\
  ∃xs,KT H kvs xs/\h.DictOfH (XX (bz P w)) a xs:=by
 obtain⟨z,y,xs,r,o,es,ep,h1,h2,N,O,I⟩:=(show bw P w H h a (.dT kvs)from Jk ok e);refine⟨z,y,xs,r,o,es,ep,h1,h2,N,O,λx J=>?_,I⟩;have all:∀{l:List (List Key×V)}{m:List (List Key×Addr×Value)},KT H l m->∀x∈m,(XX (bz P w)).is h x.1 x.2.1:=by
  intro l m q
  induction q with
  |nil=>intro x J;exact nomatch J
  |@cons p q ps j B t F=>
   intro x J;rcases Pj.mp J with e|J
   .subst e
    exact xj ok (by rw[←B.1];exact B.2.1)
   .exact F x J
 exact all r x J
theorem Oo(ok:HOk P w H h)(e:H a=some (.dT kvs)):kvs.length<=Px/\(a==T3)=false/\
 ∃xs,KT H kvs xs/\h.DictOfH (XX (bz P w)) a xs:=Ea ok (.inl e)
def LC(H:Hp)(a:Addr)(y:V)(r:Option V):Prop:=
 (∃kvs k,Rd H a (.dK kvs)/\y=kV k/\r=kj kvs k)∨∃kvs k b,Rd H a (.dT kvs)/\y= .ref b/\H b=some (.tup (k.map kV))/\r=kj kvs k
def BZ(H:Hp)(a:Addr)(y v:V)(H':Hp):Prop:=
 (∃kvs k,H a=some (.dK kvs)/\y=kV k/\kvs.length<Px/\H'=upd H a (.dK (putK kvs k v)))∨
 ∃kvs k b,H a=some (.dT kvs)/\y= .ref b/\H b=some (.tup (k.map kV))/\kvs.length<Px/\H'=upd H a (.dT (putK kvs k v))
variable{v:V}{kvs:List (Key×V)}
theorem BZ.k{k:Key}(e:H a=some (.dK kvs))(Z:kvs.length<Px):BZ H a (kV k) v (upd H a (.dK (putK kvs k v))):=.inl ⟨kvs,k,e,rfl,Z,rfl⟩
theorem Inv.big(I:Inv X pins σ H s):T3<s.heap.objs.size:=by
 have h:Qa<s.heap.objs.size:=(I.mod.glob.keeps I.bk).lt;exact Nat.lt_trans (by decide) h
theorem Be(J:A.units+1<cLine)(I:Inv X pins σ H s)(g:LC H a y (some v))(B:RelV y u)(h:∀U s',Inv X pins σ H s'->RelV v U->Q U s') :
  wpAny (model X.prog X.w) A (WD (.ref a) u) Q E s:=by
 rcases g with⟨kvs,k,e,q,l⟩|⟨kvs,k,b,e,q,N,l⟩
 .subst q
  obtain⟨z,hd,vs,rel,F⟩:=zA I.hok e;obtain⟨U,V,O⟩:=p_.some_of (v:=v) (o:=Xm vs k) (by rw[l];exact rel.val k);exact wpAny_getItem_of (qZ B) F.mapOf V (h U _ (I.tok _) O)
 .subst q
  cases (show u=Qw b from B);obtain⟨z,hd,xs,rel,F⟩:=Ea I.hok e;obtain⟨U,V,O⟩:=p_.some_of (v:=v) (o:=(atKey xs k).map (·.2)) (by rw[l];exact rel.val k);obtain⟨p,Y,j⟩:=Yj.mp V;refine wpAny_getItem_heap (Zj J) (xj I.hok N) F Y ?_;rw[j];exact h U _ (I.tok _) O
theorem uo{ob:HO}(I:Inv X pins σ H s)(mu:Mut (H a))(F:TF a s.heap h')(V:∃q,h'.get? a=some q)(new:bw X.prog X.w (upd H a ob) h' a ob) :
  Inv X pins σ (upd H a ob) {s with heap:=h',toks:=t'}:=
 I.write (x:=a) (e:=a) mu (.inl rfl) (λb q U z=>(F.2 b U).trans z) V new
variable{P:QG}
theorem Ci{vs:List (Key×Value)}(z:kvs.length<=Px)(hd:(a==T3)=false)(rel:KV kvs vs)(O:h'.DictOf (bz P w) a vs) :
 bw P w H' h' a (.dK kvs):=⟨z,hd,vs,rel,O⟩
variable{r:Value}
theorem Bs{Q:Unit->zc->Prop}(J:A.units+1<cLine)(I:Inv X pins σ H s)(g:BZ H a y v H')(B:RelV y u)(rv:RelV v r)(h:∀s',Inv X pins σ H' s'->Q () s') :
  wpAny (model X.prog X.w) A (setItem (.ref a) u r) Q E s:=by
 rcases g with⟨kvs,k,e,ey,l,U⟩|⟨kvs,k,b,e,ey,Y,l,U⟩
 .subst ey U
  obtain⟨z,hd,vs,rel,O⟩:=Jc I.hok e;have hz:vs.length<=Px:=by rw[←rel.length];exact z
  have Z:(putK kvs k v).length<=Px:=by have:=h_ kvs k v;omega
  refine wpAny_setItem_pairs (hsz:=hz) (qZ B) O λh' j F=>h _ ?_;have V:∃q,h'.get? a=some q:=let⟨q,_,_,hq,_⟩:=j;⟨q,hq⟩;exact uo I (by rw[e];exact RN) F V (Ci Z hd (rel.put k rv) j)
 .subst ey U
  cases (show u=Qw b from B);obtain⟨z,hd,xs,rel,O⟩:=Oo I.hok e;have hz:xs.length<=Px:=by rw[←W3 rel];exact z
  have Z:(putK kvs k v).length<=Px:=by have:=h_ kvs k v;omega
  refine wpAny_setItem_heap (hsz:=hz) (Zj J) (xj I.hok Y) O λh' j F=>h _ ?_;obtain⟨q,es,ep,hq,h2,N,h4,_,h5⟩:=j;refine uo I (by rw[e];exact RN) F ⟨q,hq⟩ ⟨Z,hd,_,(rel.put k Y rv).keeps λc ys ec=>?_,q,es,ep,hq,h2,N,h4,h5⟩;rw[aK (zy ec e (λz=>nomatch z))];exact ec
section
variable{X:Cx}{pins:List (Addr×Obj)}{σ:St}{H:Hp}{s:Shared}{a:Addr}{kvs:List (Key×V)}{k:Key}{u:Value}{A:Around}{E:Value->Shared->Prop}
theorem Ny{Q:Value->zc->Prop}(I:Inv X pins σ H s)(e:Rd H a (.dK kvs))(h:∀t s',Inv X pins σ H s'->Q (.int kvs.length t) s'):wpAny (model X.prog X.w) A (call (.builtin "len") [.ref a]) Q E s:=by
 obtain⟨z,hd,vs,rel,O⟩:=zA I.hok e;refine call_len_dict hd O (by rw[←rel.length];rw[WQ]at z;omega) ?_;rw[←rel.length];exact h _ _ (I.tok _)
end
theorem vY{s:zc}{o:Option V}(I:Inv X pins σ H s)(g:LC H a y o):s.TypeIs (.ref a) "dict":=by
 rcases g with⟨kvs,k,e,_,_⟩|⟨kvs,k,b,e,_,_,_⟩
 .obtain⟨_,_,vs,_,dd⟩:=zA I.hok e
  exact dd.typeIs
 .obtain⟨_,_,xs,_,dd⟩:=Ea I.hok e
  exact dd.typeIs
theorem Fo(h:Heap)(U:T3<h.objs.size):bw P w H (h.push {cls:=.type "dict",data:=.dict #[]}) h.objs.size (.dK []):=
 ⟨R0 _,beq_eq_false_iff_ne.mpr (Qn (PN U)),[],.nil,aal h⟩
end L2
namespace Att
open PySem PySem.W PySem.Calls PyProof.Rows
variable{P:Params}
theorem nH:∀(ns:List Int)(vs:List Value),WellAll P h vs (ns.map WData.int)->Zw vs ns:=by
 intro ns
 induction ns with
 |nil=>
  intro vs w;rw[Ru]at w;cases w;exact .nil
 |cons n ns F=>
  intro vs w;rw[PP]at w;cases w with
  |cons a b=>
   cases a;exact .cons _ _ (F _ b)
variable{l:OpenLaw}
theorem Ba(hn:l.most=some n){args:List WData}{F:List Value}
  (j:l.row.toRowW.claim.pre args=true) (Z:WellAll P h F args) :
  ∃a vs ns,F=[Qw a]/\args=[WData.list (ns.map WData.int)]/\h.get? a=some {cls:=.type "list",data:=.seq vs.toArray}/\Zw vs ns/\ns.length<=n:=by
 have a1:WShape.hasAll [] args [.list .int]=true:=(pre_splitW j).1;have Y:l.pre.holds [] {args:=args}=true:=(pre_splitW j).2;obtain⟨d,r,rfl,h1,h2⟩:=hasAllW_cons a1;obtain rfl:=hasAllW_nil h2;obtain⟨xs,rfl,N⟩:=hasW_list h1;obtain⟨ns,rfl⟩:=items_int N;have O:ns.length<=n:=by
  unfold OpenLaw.pre at Y;have V:(WTm.not (.lt (.lit (.int (n:Int))) (.len (.arg 0)))).holds [] {args:=[.list (ns.map .int)]}=true:=by
   have V:=(holds_andW Y).1;rw[hn]at V;exact V
  have I:=condW_of V (w_not (w_lt w_lit (w_len_list (w_arg rfl))));rw[Qe]at I;refine Nat.le_of_not_lt λq=>?_;have q':(n:Int)<((ns.length:Nat):Int):=by omega
  first
   |(rw[R4 q']at I;exact absurd I (by decide))
   |(simp at I;omega)
 cases Z with
 |cons J U=>
  cases U;cases J with
  |list B a0=>exact⟨_,_,ns,rfl,rfl,B,nH ns _ a0,O⟩
theorem Ar(l:OpenLaw)(args:List WData):l.row.toRowW.claim.post args (.bool true) args=true:=
 postW_of (r:=l.row.toRowW) (X:=(true==true))
  (show WShape.has [] (.bool true) .bool=true by first|rfl|decide|simp[WShape.has,WShape.arms,WShape.armsAll])
  (show(WTm.eq .res (.lit (.bool true))).value [] {args:=args,res:=some (.bool true),after:=args}=some (.bool (true==true))from w_eq_bool (w_res rfl) w_lit) rfl
theorem attach_call{q:QG}{a0:List Str}{d:DefRec}
  (hn:l.most=some n) (a4:d.params.defaults=[])
  (call:∀(w:World)(s₀ I:zc)(mg mb:Str->Option Value)(fa:Addr)(o:Obj)(Z cd U:Value)(a:Addr)(vs:List Value)(ns:List Int),
   Ground q a0 [] XP w s₀ mg mb I.heap->YP w I.heap->
   I.heap.get? fa=some o->o.data= .func (docDef d.name d.params d.body d.scope Z cd U)->I.heap.CodeRec cd d.name->mg d.name=some (.ref fa)->
   I.heap.get? a=some {cls:=.type "list",data:=.seq vs.toArray}->Zw vs ns->ns.length<=n->I.gens= #[]->
   T9 (model l.prog w) Xn (.call (.ref fa) ⟨[.ref a],[]⟩) (λr s'=>r= .ok (.ret (.bool true))/\OldK I.heap s'.heap/\s'.os=I.os/\We s'.gens) I) :
  WalkO q a0 XP YP l.row.toRowW d [] (λf vs=>aam f vs):=by
 intro w s₀ I mg mb G Y fa o Z cd U dV kV B hd a5 J F j args a7 as a2 a8 b0 a6 a9;obtain rfl:dV= .none:=Dflts.none J a4;obtain rfl:kV= .none:=Dflts.noKw J;obtain⟨a,vs,ns,rfl,rfl,a3,a1,O⟩:=Ba hn a2 a6;refine enter_call (Vn (call w s₀ I mg mb fa o Z cd U a vs ns G Y B (fd_plain hd) a5 F a3 a1 O j) λr s' hq=>?_);obtain⟨rfl,h2,N,h4⟩:=hq;exact⟨.inl ⟨.bool true,.bool true,[],rfl,λ_=>rfl,.bool true,Ar l _,λ_=>⟨List.Pairwise.nil,λ_ V=>(nomatch V)⟩⟩,h2,N,h4⟩
end Att
namespace L2
open PySem PySem.Spec PyProof.Rows
theorem rA:∀{vs:List Value}{ns:List Int},Zw vs ns->Vals (ns.map V.int) vs
 |_,_,.nil=>.nil
 |_,_,.cons n t h=>.cons ⟨t,rfl⟩ (rA h)
def Only(H:Hp):Prop:=∀b,H b=none∨∃o xs,H b=some (.frz o (.lst xs))
theorem Ga{K:Pu}{mb:Str->Option Value}{CX:CXT}{k:Nat}{fa:Addr}{sp:Sp}{I:zc}
  (KX:K.In I.heap) (N:I.heap.Ns Qa mg) (U:I.heap.Ns builtinsNs mb) (a9:∀x:Str,x≠"__name__"->mb x=RW x) (a6:I.heap.NoLimit) (j:I.gens= #[])
  (O:I.heap.get? a=some {cls:=.type "list",data:=.seq vs.toArray}) (hi:Zw vs ns) (hl:ns.length<=Px) (Z:gA k Xn)
  (F:∀base:Heap,K.In base->base.Ns Qa mg->fK P w K mg base CX k fa fd [x] sp) (a3:∀(s:zc)(u:Value),Yp s fd ⟨[u],[]⟩ [(x,u)])
  (b1:∀H:Hp,Only H->SqL K H a (ns.map V.int)->sp [.ref a] H (λv _=>v= .bl true) λ_ _ _=>False)
  (a8:∀H e s',CX [] H I (λ_ _ _=>False) e s'->False) :
  T9 (model P w) Xn (.call (.ref fa) ⟨[.ref a],[]⟩) (λr s'=>r= .ok (.ret (.bool true))/\OldK I.heap s'.heap/\s'.os=I.os/\We s'.gens) I:=by
 have rv:=rA hi;have a5:=hi.length;have a2:∀H:Hp,Only H->SqL K H a (ns.map V.int)->HOk P w H I.heap->(∀b,H b≠none->b=a)->(H a≠none->K.lookup a=none)->
   T9 (model P w) Xn (.call (.ref fa) ⟨[.ref a],[]⟩) (λr s'=>r= .ok (.ret (.bool true))/\OldK I.heap s'.heap/\s'.os=I.os/\We s'.gens) I:=by
  intro H hO hS hok hA hK;have a0:∀{b:Addr}{o:Obj},I.heap.get? b=some o->H b=none->(tU I.heap H).get? b=some o:=λe n=>CZ e n;have b0:∀{b:Addr}{o:Obj}{es:Array DictEntry}{ep:Nat},I.heap.get? b=some o->o.data= .dict es ep->H b=none:=λ{b o es ep} e d=>by
   cases q:H b with
   |none=>rfl
   |some u=>
    have B:b=a:=hA b (by rw[q];simp);subst B;rw[O]at e;cases e;have d':Data.seq vs.toArray _=Data.dict es ep:=d;cases d'
  have a1:∀{b:Addr}{m:Str->Option Value},I.heap.Ns b m->(tU I.heap H).Ns b m:=λ{b m}⟨o,es,ep,e,d,r⟩=>⟨o,es,ep,a0 e (b0 e d),d,r⟩;have a4:K.In (tU I.heap H):=λb o e=>a0 (KX b o e) (by
   cases q:H b with
   |none=>rfl
   |some u=>
    have B:b=a:=hA b (by rw[q];simp);subst B;rw[hK (by rw[q];simp)]at e;cases e)
  have hM:Mod K mg (tU I.heap H):=⟨a4,a1 N,⟨mb,a1 U,a9⟩,let⟨mc,h1,h2⟩:=a6;⟨mc,a1 h1,h2⟩⟩;have e0:HW P w K mg (tU I.heap H) Xn [] I H:=⟨rfl,hM,λb o e=>HN e,Nat.le_of_eq (Av _ _),trivial,λb U=>absurd (show b∈([]:List Addr)from U) (by simp),hok,.of_eq j⟩;refine Vn ((F _ a4 (a1 N)).run Xn [] I H ⟨[.ref a],[]⟩ [.ref a] [.ref a] _ _ Z e0 (a3 I (.ref a)) (.cons rfl .nil) (b1 H hO hS)) λr s' h=>?_;cases r with
  |error e=>exact(a8 H e s' h).elim
  |ok Y=>
   cases Y with
   |next=>exact T4 h
   |brk=>exact T4 h
   |cont=>exact T4 h
   |ret u=>
    obtain⟨v,H',os,bare,un,a7,r',q⟩:=h;have q':v= .bl true:=q;subst q';obtain rfl:u=Yz true:=r';refine⟨rfl,OldK.of_keep λb o e=>?_,os,bare⟩;cases q:H b with
    |none=>exact un.keep b o e q (by intro z;exact absurd (show b∈([]:List Addr)from z) (by simp)) (by simp)
    |some u=>
     rcases hO b with z|⟨ob,xs,z⟩
     .rw[q]at z;cases z
     .have z2:=un.frzs b ob _ z
      obtain⟨e1,_⟩:=hok b _ z;obtain⟨e2,_⟩:=a7 b _ z2;rw[e]at e1;cases e1;exact e2
 cases J:K.lookup a with
 |some o=>
  have e:=KX a o J;rw[O]at e;cases e;refine a2 (λ_=>none) (λ_=>.inl rfl) (.inr ⟨_,vs.toArray,_,J,rfl,rfl,rfl,by rw[List.size_toArray,a5];exact hl,by simpa using rv⟩) (λb u z=>by have z':(none:Option HO)=some u:=z;cases z') (λb z=>absurd rfl z) λz=>absurd rfl z
 |none=>
  refine a2 (λb=>if b=a then some (.frz {cls:=.type "list",data:=.seq vs.toArray} (.lst (ns.map V.int)))else none) (λb=>?_) (.inl (.inr ⟨{cls:=.type "list",data:=.seq vs.toArray},Pk rfl⟩)) (λb u z=>?_) (λb z=>?_) λ_=>J
  .by_cases U:b=a
   .exact .inr ⟨_,_,Pk U⟩
   .exact .inl (Pn U)
  .by_cases U:b=a
   .have z':=(Pk U).symm.trans z
    cases z';subst U;exact⟨O,by rw[Qe];exact hl,vs,_,rv,O⟩
   .have z':=(Pn U).symm.trans z
    cases z'
  .by_cases U:b=a
   .exact U
   .exact absurd (Pn U) z
theorem walk_of{l:X6}{k:Nat}{q:QG}{d:DefRec}{K:Params->Pu}{CX:World->CXT}{sp:World->Sp}
  (hn:l.most=some n) (a3:n<=Px) (a1:d.params.defaults=[]) (Z:gA k Xn)
  (hY:∀(w:World)(h:Heap),YP w h->(K w.params).In h)
  (F:∀(w:World)(mg:Str->Option Value)(fa:Addr)(h:Heap),(K w.params).In h->h.Ns Qa mg->mg d.name=some (.ref fa)->
   ∃fd:Rj,(∀(s:zc)(u:Value),Yp s fd ⟨[u],[]⟩ [(x,u)])/\
    ∀base:Heap,(K w.params).In base->base.Ns Qa mg->fK l.prog w (K w.params) mg base (CX w) k fa fd [x] (sp w))
  (a5:∀(w:World)(H:Hp)(a:Addr)(ns:List Int),ns.length<=n->Only H->SqL (K w.params) H a (ns.map V.int)->sp w [.ref a] H (λv _=>v= .bl true) λ_ _ _=>False)
  (a4:∀(w:World)(H:Hp)(s:zc)(e:Value)(s':zc),CX w [] H s (λ_ _ _=>False) e s'->False) :
  aaE q J XP YP l.row.toRowW d [] (λf vs=>aam f vs):=by
 refine Att.attach_call hn a1 λw s₀ I mg mb fa o pm cd a7 a vs ns G Y B hd a6 a2 a0 N O j=>?_;have KX:=hY w _ Y;obtain⟨fd,U,hF⟩:=F w mg fa _ KX G.T.g a2;exact Ga KX G.T.g G.T.b G.T.builtins G.T.nolimit j a0 N (RX O a3) Z hF U (λH hO hS=>a5 w H a ns O hO hS) λH e s'=>a4 w H I e s'
def cG(s:Stmt):Arguments:=match s with
 |.FunctionDef _ a _ _ _ _ _ _ _ _=>a
 |_=>{posonlyargs:=[],args:=[],vararg:=none,kwonlyargs:=[],kw_defaults:=[],kwarg:=none,defaults:=[]}
def bH(s:Stmt):List Stmt:=match s with
 |.FunctionDef _ _ b _ _ _ _ _ _ _=>b
 |_=>[]
def aJ(s:Stmt):Scope:=match s with
 |.FunctionDef _ _ _ _ _ _ j _ _ _=>j
 |_=>{kind:=.function,names:=[],isGenerator:=false,isCoroutine:=false}
abbrev CX0:CXT:=λ_ _ _ _ _ _=>False
abbrev E0:XK:=λ_ _ _=>False
variable{X:Cx}
theorem Nh:xX CX0 X E0:=λ_ _ _ _ _ _ _ h=>h.elim
structure Fun(K:PySem.W.Frag)(x qual:Str)(st:Stmt)(f:Addr)(fd:FuncData):Prop where
 ex:∃(oc:Value)(od:Option Addr)(kV doc pm:Value)(an:Option Addr)(cdv ct:Value)(osl:Array (Option Value)),
  fd=Vo x qual (cG st) (bH st) (aJ st) .none kV doc pm an cdv ct/\K.lookup f=some ⟨oc,od,.func fd,osl⟩/\Yq K cdv qual=true
 kp:Wz K (.ref f)=true
section
variable{P:Program}{w:World}{K:PySem.W.Frag}{mg:Str->Option Value}{base:Heap}
theorem Fun.ok{x Y:Str}{st:Stmt}{f:Addr}{fd:Rj}{N ps:List Str}{k:Nat}{sp:Sp}(F:Fun K x Y st f fd)(S:cI N ps (aJ st))(len:∀vs H Q E,sp vs H Q E->vs.length=ps.length)
  (a0:∀(J:Value)(A:Rh)(outer:List Env)(s:zc)(H:Hp)(vs:List V)(Q:VK)(E:XK),gA k (A.deeper (V0 Y (aJ st) s.heap.objs.size f J))->sp vs H Q E->
   ∃t,PSs (wC CX0 P w K mg base N Y (aJ st) f J A outer s H E).nox (bH st) t/\t {nx:=λ_ H'=>Q .non H',rt:=Q} (start N vs) H):fK P w K mg base CX0 (k+1) f fd ps sp:=by
 obtain⟨I,O,kV,U,pm,an,J,ct,a1,rfl,lk,j⟩:=F.ex;refine Ni lk j S len λA outer s H vs Q E Z B=>?_;obtain⟨t,h,q⟩:=a0 J A outer s H vs Q E Z B;exact⟨t,h.nox,q⟩
theorem Fun.binds{x Y:Str}{st:Stmt}{f:Addr}{fd:Rj}{ps:List Str}(F:Fun K x Y st f fd)
  (h:∀(kV U Z:Value)(N:Option Addr)(J ct:Value)(B:List Value),B.length=ps.length->bindArgs (Vo x Y (cG st) (bH st) (aJ st) .none kV U Z N J ct) ⟨B,[]⟩=pure (ps.zip B)):Binds K fd ps []:=by
 obtain⟨I,O,kV,U,Z,N,J,ct,q,rfl,V,j⟩:=F.ex;exact .all (h kV U Z N J ct)
theorem gR{x Y:Str}{st:Stmt}{f:Addr}{I:Value}{O N:Option Addr}{q:Array (Option Value)}{kV U Z J ct:Value}(l:K.lookup f=some ⟨I,O,.func (Vo x Y (cG st) (bH st) (aJ st) .none kV U Z N J ct),q⟩)
 (c:Yq K J Y=true) (k:Wz K (.ref f)=true):Fun K x Y st f (Vo x Y (cG st) (bH st) (aJ st) .none kV U Z N J ct):=⟨⟨I,O,kV,U,Z,N,J,ct,q,rfl,l,c⟩,k⟩
end
theorem pv(i:Nat)(U:X.N[i]? =some x:=by rfl)(q:Vis X.env.scope x:=by first|exact Ue rfl|exact Su (Ue rfl)|exact Su (Su rfl))(hd:(x==("__debug__":Str))=false:=by decide)
 (j:(x==("__classdict__":Str))=false:=by decide):PE X (.Name x pos) (Gs i):=JQ U q hd j
theorem tM{A B:Prop}(h:B):if false=true then A else B:=by
 rw[Pn Rx];exact h
theorem n6{A B:Prop}(h:A):if true=true then A else B:=by
 rw[Pk rfl];exact h
def Same(H H':Hp):Prop:=∀b o,H b=some o->H' b=some o
theorem Same.refl(H:Hp):Same H H:=λ_ _ h=>h
theorem Same.trans{H H1 H2:Hp}(a:Same H H1)(b:Same H1 H2):Same H H2:=λc o h=>b c o (a c o h)
theorem Same.free{H H':Hp}(e:Same H H'){l:Addr}(h:H' l=Option.none):H l=Option.none:=by
 cases q:H l with
 |none=>rfl
 |some o=>
  rw[e l o q]at h;cases h
theorem Bd:dD X (.builtin "len") (λxs H Q=>∃a kvs,xs=[V.ref a]/\H a=some (.dK kvs)/\Q (.int kvs.length) H):=by
 intro pins s σ H xs B Q I r h;obtain⟨a,kvs,rfl,O,q⟩:=h;obtain⟨u,rfl,U⟩:=vals1 r;cases U;exact Ny I (.inl O) λt s' Z=>⟨.int kvs.length,H,Z,⟨t,rfl⟩,q⟩
end L2
set_option maxHeartbeats 4000000
namespace Jb
open PySem PySem.Spec PyProof.Rows L2
structure Cal(P:Program)(w:World)(K:PySem.W.Frag)(mg:Str->Option Value)(base:Heap)(k:Nat)(x:Str)(ps:List Str)(sp:Sp):Prop where
 ex:∃f fd,fK P w K mg base CX0 k f fd ps sp/\mg x=some (.ref f)/\Wz K (.ref f)=true/\Binds K fd ps []
variable{X:Cx}{t:TA}{p:Pos}{k:Nat}
theorem Dy{sp:Sp}(C:Cal X.prog X.w X.K X.mg X.base k x ps sp)(Z:gA k X.A)(j:Gl X x)(O:PA X (e::es) t)
  (B:(x==("__debug__":Str))=false:=by decide) (V:PK (e::es) X.env=(false,eval e X.env)::PK es X.env:=by rfl) (q:(SM pos (PK es X.env)).any (·.1)=false:=by rfl) :
  PE X (.Call (.Name x p) (e::es) [] pos) (Jz sp [] E0 t):=by
 obtain⟨f,fd,F,I,J,U⟩:=C.ex;exact Hw F Z j I J U .nil Nh O B V q
theorem Mj{n:String}(j:Gl X x)(V:X.mg x=none)(N:RW x=some (.type n))(hn:x≠"__name__":=by decide)(hd:(x==("__debug__":Str))=false:=by decide):PE X (.Name x pos) (tC (.ty n)):=
 GK j V N rfl hn hd
def N6(_ j:Int):Prop:=0<j/\j<18446744073709551616
theorem Cv:OpR X (RB .FloorDiv) (rI N6 λi j=>.int (i / j)):=opI λi j _ _ _ _ _ Y q=>by
 have h1:(0:Int)<j:=Y.1;have h2:j<18446744073709551616:=Y.2;have N:j.natAbs<2 ^ 64:=by omega
 have V:j.natAbs≠0:=by omega
 have I:j.natAbs.log2<64:=(Nat.log2_lt V).mpr N;exact floordiv_int (by omega) (by rw[Int.fdiv_eq_ediv_of_nonneg i (by omega)];exact q) (.inl (PyProof.noPylong_of_log2 (by omega)))
variable{b:Expr}
theorem uT:dD X (.builtin "isinstance") (λxs H Q=>∃x n t b,xs=[x,.ty n]/\jh X.K H x t/\Wy X.K t (.type n)=some b/\Q (.bl b) H):=by
 intro pins s σ H xs B Q I r h;obtain⟨x,n,t,b,rfl,F,e,q⟩:=h;obtain⟨u,U,rfl,Y,j⟩:=vals2 r;cases j;exact Bp I Y F e λtk=>⟨.bl b,H,I.tok tk,rfl,q⟩
variable{H:Hp}
theorem Same.new{q:Addr}{o:HO}(h:H q=none):Same H (L2.upd H q o):=λb u e=>by rw[aK (aQ e h)];exact e
theorem xn{l:List α}{f:α->β->Sem (ForInStep β)}(g:β->α->β):∀(q:β),(∀x∈l,∀c,f x c=pure (.yield (g c x)))->forIn l q f=pure (l.foldl g q):=by
 induction l with
 |nil=>intro q _;rfl
 |cons x r F=>
  intro q h;rw[X7,h x Qt q];show(pure (Vk (g q x)) >>=_)=_;rw[pure_bind];exact F (g q x) λy j c=>h y (Qm _ j) c
def jR(env:Env)(j:List (Str×Addr))(y:Str×V8):List (Str×Addr):=if y.2== .free then(y.1,(env.cells.lookup y.1).getD 0)::j else j
def oZ(scope:Scope)(env:Env):List (Str×Addr):=scope.names.foldl (jR env) []
theorem jU(h:∀y∈scope.names,y.2= .free->∃c,env.cells.lookup y.1=some c):closureFor scope env=pure (oZ scope env):=by
 unfold closureFor;dsimp only;rw[xn (jR env) [] λy j c=>?_]
 .rw[pure_bind]
  rfl
 .obtain⟨n,k⟩:=y
  unfold jR;dsimp only;by_cases J:(k==YT)=true
  .rw[Pk J,Pk J]
   obtain⟨a,O⟩:=h (n,k) j (by simpa using J);have O:env.cells.lookup n=some a:=O;unfold cellOf;rw[O];rfl
  .rw[Pn J,Pn J]
theorem qU(R:Str->Addr->Prop):∀(l:List (Str×V8))(acc:List (Str×Addr)),(∀x c,acc.lookup x=some c->R x c)->(∀y∈l,y.2= .free->R y.1 ((env.cells.lookup y.1).getD 0))->
  ∀x c,(l.foldl (jR env) acc).lookup x=some c->R x c
 |[],acc,h,_=>h
 |y::r,acc,h,hy=>by
  refine qU R r (jR env acc y) (λx c e=>?_) λz hz=>hy z (Qm _ hz);unfold jR at e;split at e
  .rename_i hk
   rw[Xp]at e;cases J:(x==y.1)with
   |true=>
    rw[J]at e;have ex:x=y.1:=by simpa using J
    cases e;rw[ex];exact hy y Qt (by simpa using hk)
   |false=>
    rw[J]at e;exact h x c e
  .exact h x c e
theorem mD{env:Env}:∀(l:List (Str×V8))(acc:List (Str×Addr))(x:Str),((∃c,acc.lookup x=some c)∨(x,YT)∈l)->∃c,(l.foldl (jR env) acc).lookup x=some c
 |[],acc,x,h=>by
  rcases h with h|h
  .exact h
  .cases h
 |y::r,acc,x,h=>by
  refine mD r (jR env acc y) x ?_;rcases h with⟨c,h⟩|h
  .left
   unfold jR;split
   .rw[Xp]
    cases J:(x==y.1)with
    |true=>exact⟨_,rfl⟩
    |false=>exact⟨c,h⟩
   .exact⟨c,h⟩
  .rcases Pj.mp h with e|e
   .left
    unfold jR;subst e;rw[Pk (by rfl),Xp,show(x==x)=true by simp];exact⟨_,rfl⟩
   .exact .inr e
def bT(X:Cx)(N':List Str)(scope:Scope)(C:Addr)(U:zc)(j:Hp)(fp:List Addr):Cx:=
 {X with N:=N',s₀:=U,H₀:=j,env:=compEnvC scope (oZ scope X.env) C X.env,outer:=X.stack,stack:=X.stack,ex:=fp,fn:=λ_=>false,pn:=[],xe:=λ_ _=>False}
def fB(cap:List (Option Nat))(σ:L2.St):L2.St:=cap.map λo=>o.bind λj=>(σ[j]?).bind id
structure d8(sc:Scope)(N N':List Str)(scope:Scope)(cap:List (Option Nat)):Prop where
 kind:scope.kind= .function
 nocell:∀y∈scope.names,y.2≠.cell
 nm:∀y∈scope.names,y.2= .local->scope.names.lookup y.1=some .local
 free:∀y∈scope.names,y.2= .free->sc.names.lookup y.1=some .cell∨sc.names.lookup y.1=some .free
 len:cap.length=N'.length
 cap:∀i∈Qq cap.length,∀j∈Qq N.length,cap[i]? =some (some j)->N[j]? =N'[i]?/\∀x∈N'[i]?,scope.names.lookup x=some .free
theorem jC{l:List (Str×α)}{k:α}(h:l.lookup x=some k):(x,k)∈l:=Tp h
theorem kI{k:V8}(J:(relabel scope env).names.lookup x=some k)(j:k= .cell∨k= .free)(B:∀y∈scope.names,y.2≠.cell):(x,YT)∈scope.names:=by
 have h:=jC J;obtain⟨⟨n,q⟩,V,e⟩:=QF.mp h;dsimp only at e;split at e
 .rename_i hc
  cases e;have:q= .free:=by
   have:=(YG.mp (YG.mp hc).1).1;simpa using this
  subst this;exact V
 .cases e
  rcases j with z|z
  .subst z;exact absurd rfl (B _ V)
  .subst z;exact V
variable{σ:L2.St}{cap:List (Option Nat)}
theorem gO(I:Inv X pins σ H s)(O:d8 X.env.scope X.N N' scope cap){c:Addr}(h:(oZ scope X.env).lookup x=some c):X.env.cells.lookup x=some c:=by
 refine qU (λx c=>X.env.cells.lookup x=some c) scope.names [] (λx c e=>by simp at e) (λy j J=>?_) x c h;obtain⟨c,e⟩:=I.ok.has y.1 (O.free y j J);rw[e];rfl
variable{C:Addr}
theorem HR(I:Inv X pins σ H s)(O:d8 X.env.scope X.N N' scope cap)(j:∀b∈fp,iG X pins H b)(B:∀b∈fp,b<s.heap.objs.size)(F:s.heap.objs.size<=C):(bT X N' scope C s H fp).Ok where
 mod:=I.ok.mod
 kind:=O.kind
 glob:=I.ok.glob
 blt:=I.ok.blt
 above:=F
 inj:=λx y c h1 h2=>I.ok.inj x y c (gO I O h1) (gO I O h2)
 has:=λx h=>by
  refine mD scope.names [] x (.inr ?_);rcases h with h|h
  .exact kI h (.inl rfl) O.nocell
  .exact kI h (.inr rfl) O.nocell
 cab:=λx c h _=>by cases h
 hd:=I.ok.hd
 frames:=I.ok.frames
 stk:=.inl rfl
 exf:=λb U=>⟨PN (P0 (B b U) F),λx c e=>(j b U).2.2.2.2.1 x c (gO I O e)⟩
 bs:=I.bs
 bsz:=RX I.ok.bsz I.sz
 noex:=λb o e U=>by
  rcases(j b U).2.2.2.1 with z|z
  .exact I.ok.noex b o e z
  .exact absurd (P0 (Ph (I.ok.bs b o e).1) z) (Rt _)
 exfs:=λb U z=>by
  rcases Pj.mp (I.stkSub b z)with q|q
  .exact(j b U).2.1 q
  .exact(j b U).2.2.1 q
 funs:=I.stack
 frf:=I.stkFree
theorem FT{a0:Heap}{D:Addr}(I:Inv X pins σ H s)(O:d8 X.env.scope X.N N' scope cap)(hf:∀b∈fp,iG X pins H b)(B:∀b∈fp,b<s.heap.objs.size)
  (hC:s.heap.objs.size<=C) (J:s.heap.objs.size<=D) (b3:D≠C) (a1:∀b u,s.heap.get? b=some u->a0.get? b=some u) {m:Str->Option Value} (b0:a0.Ns C m) (b2:a0.get? D=some o) (a9:∀v,o.data≠.cell v) :
  Inv (bT X N' scope C s H fp) [(D,o)] (fB cap σ) H {s with heap:=a0,toks:=tk}where
 ok:=HR I O hf B hC
 os:=rfl
 bare:=I.bare
 base:=Un.kept a1
 loc:=by
  refine⟨m,b0,λi x v e1 e2 e3=>?_⟩;have e1:N'[i]? =some x:=e1;unfold fB at e2;rw[List.getElem?_map]at e2;cases Y:cap[i]? with
  |none=>rw[Y]at e2;cases e2
  |some q=>
   rw[Y]at e2;cases q with
   |none=>cases e2
   |some j=>
    have e2:(σ[j]?).bind id=some v:=QR e2;have a5:σ[j]? =some (some v):=by
     cases z:σ[j]? with
     |none=>rw[z]at e2;cases e2
     |some y=>
      rw[z]at e2;have:y=some v:=e2;rw[this]
    have hi:i<cap.length:=(Mx.mp Y).1;have F:j<X.N.length:=by
     have:=(Mx.mp a5).1;rw[I.len]at this;exact this
    obtain⟨c1,c2⟩:=O.cap i (RL.mpr hi) j (RL.mpr F) Y;have a7:scope.names.lookup x=some .free:=c2 x (by rw[e1];rfl);have hN:X.N[j]? =some x:=c1.trans e1;have a3:=jC a7;have a8:Vis X.env.scope x:=(O.free _ a3 rfl).elim (λz=>.inr (.inl z)) λz=>.inr (.inr z);obtain⟨m0,_,Z⟩:=I.loc;obtain⟨u,r,lk⟩:=Z j x v hN a5 a8;refine⟨u,r,?_⟩;rcases lk with⟨k,_⟩|⟨_,c,ec,a2⟩
    .have k:X.env.scope.names.lookup x=some .local:=k
     rcases O.free _ a3 rfl with z|z
     .rw[k]at z;cases z
     .rw[k]at z;cases z
    .right
     obtain⟨c',a4⟩:=mD (env:=X.env) scope.names [] x (.inr a3);have a6:=gO I O a4;rw[ec]at a6;cases a6;refine⟨?_,c,a4,?_⟩
     .have e3:Vis (relabel scope X.env) x:=e3
      rcases e3 with e3|e3|e3
      .exfalso
       have V:=jC e3;obtain⟨⟨n,q⟩,b1,e⟩:=QF.mp V;dsimp only at e;split at e
       .cases e
       .cases e
        have:=O.nm _ b1 rfl;rw[a7]at this;cases this
      .exact .inl e3
      .exact .inr e3
     .obtain⟨oc,h1,h2⟩:=a2
      exact⟨oc,a1 _ _ h1,h2⟩
 cell:=λx c e=>by
  obtain⟨v,oc,h1,h2⟩:=I.cell x c (gO I O e);exact⟨v,oc,a1 _ _ h1,h2⟩
 free:=I.hok.fresh hC
 freeC:=λx c e=>I.freeC x c (gO I O e)
 pin:=λp hp=>by
  have e:p=(D,o):=by simpa[bT]using hp
  subst e;refine⟨b2,I.hok.fresh J,b3,λz=>?_,a9⟩;obtain⟨b,U,e⟩:=WY.mp z;have hz:D∈X.env.locals::X.fs:=I.stkSub D z;rcases Pj.mp hz with q|q
  .exact absurd (P0 (by rw[q];exact I.lt) J) (Rt _)
  .exact I.nofs J q
 hok:=I.hok.kept a1
 len:=by
  unfold fB;rw[Qe];exact O.len
abbrev NoX:Value->zc->Prop:=λ_ _=>False
variable{R:Result->Shared->Prop}
theorem tX{iter:Expr}{it acc:Value}(I:Nat->zc->Prop)
  (F:∀n s,I n s->wpAny (model prog w) A (Ut it) (λr a0=>match r with
   |none=>R (.ok .next) a0
   |some v=>wpAny (model prog w) A (Wl target it v) (λ_ N=>wpAny (model prog w) A (VR target env v) (λ_ U=>
    wpAny (model prog w) A (forIn ifs true λc r=>if r=true then do let ok ←Y_ c env (eval c env);pure (Vk ok)else pure (Vk r)) (λok B=>
     if ok=true then wpAny (model prog w) A (eval elt env) (λx J=>wpAny (model prog w) A (call (.builtin "list.append") [acc,x]) (λ_ V=>∃m,m<n/\I m V) NoX J) NoX B
     else ∃m,m<n/\I m B) NoX U) NoX N) NoX a0) NoX s)
  (n:Nat) (h:I n s):T9 (model prog w) A (.compLoop (.ListComp elt [⟨target,iter,ifs,0⟩] scope pos) 0 it acc env) R s:=by
 refine codeAny_loop rfl I (λn s q=>?_) n h;show wpAny _ A ((compTurn (.ListComp elt [⟨target,iter,ifs,0⟩] scope pos) 0 it acc env).onRaise (λx=>do noteFrame x env;theTreesLotGoes x)) _ _ s;refine wpAny_noted ?_;rw[compTurn_list];refine eH (W5 (eH (Sq (F n s q) (λr a0 j=>?_) λ_ _ h'=>h'.elim)));cases r with
 |none=>exact yr j
 |some v=>
  refine eH (Sq j (λ_ N Y=>?_) λ_ _ h'=>h'.elim);refine eH (Sq Y (λ_ U Z=>eH (Sq Z (λok B O=>?_) λ_ _ h'=>h'.elim)) λ_ _ h'=>h'.elim);cases ok with
  |false=>exact yr ⟨rfl,O⟩
  |true=>
   exact eH (eH (Sq O (λx J a1=>eH (Sq a1 (λ_ V a2=>yr (yr ⟨rfl,a2⟩)) λ_ _ h'=>h'.elim)) λ_ _ h'=>h'.elim))
def PTs(X:Cx)(ifs:List Expr)(t:TT):Prop:=
 ∀(pins:List (Addr×Obj))(s:zc)(σ:L2.St)(H:Hp)(Q:Bool->Hp->Prop),Inv X pins σ H s->t σ H Q->
  wpAny (model X.prog X.w) X.A (forIn ifs true λc r=>if r=true then do let ok ←Y_ c X.env (eval c X.env);pure (Vk ok)else pure (Vk r)) (TP X pins σ Q) X.xe s
def M8:TT:=λ_ H Q=>Q true H
theorem Hm:PTs X [] M8:=λ_ _ _ H _ I h=>wpAny_tests_nil ⟨H,I,h⟩
theorem Ip{t:TT}(h:PT X c t):PTs X [c] t:=λpins s σ H Q I q=>wpAny_tests_one (h pins s σ H Q I q)
def Kp(σ j:L2.St):Prop:=∀(i:Nat) v,σ[i]? =some (some v)->j[i]? =some (some v)
def Jw(J:It)(H:Hp)(g:TG)(tt:TT)(te:TE)(σ:L2.St)(Q:List V->Hp->Prop):Prop:=
 ∃W:Nat->Nat->List V->Hp->Prop,(∃m,W 0 m [] H)/\∀i m ys H,W i m ys H->
  (J.stop i H/\Q ys H)∨(J.go i H/\ys.length<Px/\∃N:List V->Hp->Prop,(∀I H',N I H'->∃B,B<m/\W (i+1) B I H')/\
   ∀x H',J.yld i H x H'->g x σ H' λσ2 H2=>Kp σ σ2/\tt σ2 H2 λb j=>if b=true then te σ2 j λv q=>N (ys++[v]) q else N ys j)
def yl(cap:List (Option Nat))(wi:TI)(g:TG)(tt:TT)(te:TE):TE:=λσ H Q=>wi σ H λJ H1=>
 Jw J H1 g tt te (fB cap σ) λys H2=>ys.length<=Px/\∀D,H2 D=none->Q (.ref D) (upd H2 D (.lst ys))
section
variable{X:Cx}{elt target iter:Expr}{ifs:List Expr}{scope:Scope}{pos:Pos}{N':List Str}{cap:List (Option Nat)}{wi:TI}{g:TG}{tt:TT}{te:TE}
def lobj(its:List Value)(n:Nat):Obj:={cls:=.type "list",data:=.seq its.toArray n}
theorem oV{pins:List (Addr×Obj)}{σ:L2.St}{H:Hp}{a0:zc}{it:Addr}{fp:List Addr}{tn:Nat->Heap->Prop}{J:It}{Q:List V->Hp->Prop}{RR:Value->Addr->Zd->zc->Prop}{E:Value->zc->Prop}
  (Y:X.calm=true) (O:d8 X.env.scope X.N N' scope cap) (I:Inv X pins σ H a0) (T:Turn X.prog X.w X.K target J fp it tn) (st:tn 0 a0.heap) (f2:∀b∈fp,iG X pins H b)
  (hg:∀C,PG (bT X N' scope C a0 H fp) target g) (ht:∀C,PTs (bT X N' scope C a0 H fp) ifs tt) (he:∀C,PE (bT X N' scope C a0 H fp) elt te) (cw:Jw J H g tt te (fB cap σ) Q)
  (c6:∀(D C:Addr)(s':zc)(H':Hp)(ys:List V)(its:List Value)(n:Nat)(B:L2.St),a0.heap.objs.size<=D->a0.heap.objs.size<=C->D≠C->Inv (bT X N' scope C a0 H fp) [(D,lobj its n)] B H' s'->Vals ys its->Q ys H'->
   RR (.ref D) C (.ok .next) s') :
  wpAny (model X.prog X.w) X.A (Vf []) (λacc b6=>wpAny (model X.prog X.w) X.A (newFunctionEnv scope X.env.globals (oZ scope X.env) [] X.env.qual none .none (some X.env)) (λb1 c1=>
   T9 (model X.prog X.w) X.A (.compStart (.ListComp elt [⟨target,iter,ifs,0⟩] scope pos) 0 (.ref it) acc {b1 with scope:=relabel scope X.env}) (RR acc b1.locals) c1) E b6) E a0:=by
 refine QM (wpAny_newFunctionEnv O.nocell (by intro y j;simp at j) (λa3 a2 a1=>?_) O.kind);dsimp only at a2 a1⊢;generalize b3:a0.heap.push {cls:=.type "list",dict:=none,data:=.seq ([]:List Value).toArray}=H2 at a2 a1⊢;have hC:H2.objs.size=a0.heap.objs.size+1:=by rw[←b3,Rc]
 have a9:a0.heap.objs.size≠H2.objs.size:=by rw[hC];exact PN (V9 _)
 have a4:a0.heap.objs.size<=H2.objs.size:=by rw[hC];exact Z4 _
 have b8:∀b o,a0.heap.get? b=some o->a3.get? b=some o:=λb o e=>a1.extBut b o (by rw[hC];exact PN (TY (Ph e))) (gD _ (b3▸gD _ e));have b7:a3.get? a0.heap.objs.size=some (lobj [] 0):=a1.extBut _ _ a9 (gD _ (b3▸Pz _ rfl));have b0:∀b∈fp,b<a0.heap.objs.size:=λb U=>by
  obtain⟨o,e,_⟩:=T.obj 0 _ st b U;exact Ph e
 have I1:=FT (tk:=a0.toks+([]:List (Str×Value)).length) I O f2 b0 a4 (Pg _) a9 b8 a2 b7 (λv z=>by cases z);have b9:tn 0 a3:=T.keep _ _ _ st λb _ o e=>b8 b o e;obtain⟨W,⟨m0,w0⟩,b5⟩:=cw;generalize hD:a0.heap.objs.size=D at *
 generalize c8:H2.objs.size=C at *
 have a8:∀{H':Hp}{o:Obj},(∀b∈fp,H' b=none)->∀b∈fp,iG (bT X N' scope C a0 H fp) [(D,o)] H' b:=λ{H' o} hn b U=>by
  refine⟨hn b U,PN (P0 (b0 b U) a4),I1.ok.exfs b U,.inl U,(I1.ok.exf b U).2,λp hp=>?_⟩;have e:p=(D,o):=by simpa[bT]using hp
  subst e;exact Sh (b0 b U)
 have b2:T9 (model X.prog X.w) X.A (.compLoop (.ListComp elt [⟨target,iter,ifs,0⟩] scope pos) 0 (.ref it) (.ref D) (compEnvC scope (oZ scope X.env) C X.env)) (RR (.ref D) C) {a0 with heap:=a3,toks:=a0.toks+([]:List (Str×Value)).length}:=by
  refine tX (λn s'=>∃i ys its k H',Inv (bT X N' scope C a0 H fp) [(D,lobj its k)] (fB cap σ) H' s'/\Vals ys its/\tn i s'.heap/\(∀b∈fp,H' b=none)/\W i n ys H') ?_ m0 ⟨0,[],[],0,H,I1,.nil,b9,λb U=>(f2 b U).1,w0⟩;rintro n s3 ⟨i,ys,its,k,H3,I3,rv,c2,c3,w3⟩;rcases b5 i n ys H3 w3 with⟨stop,qn⟩|⟨go,hsz,N,hN,step⟩
  .refine thn (T.done (bT X N' scope C a0 H fp) rfl rfl rfl Y i _ s3 _ H3 NoX I3 (a8 c3) c2 stop) λr s4 ⟨Z,I4⟩=>?_
   subst Z;exact c6 D C s4 H3 ys its k _ (Pg _) a4 a9 I4 rv qn
  .refine thn (T.item (bT X N' scope C a0 H fp) rfl rfl rfl Y i _ s3 _ H3 NoX I3 (a8 c3) c2 go) λr s4 ⟨u,Z,h4⟩=>?_
   subst Z;refine thn h4 λ_ s5 ⟨x,H5,I5,r5,y5,a6,c4⟩=>?_;have c7:=I5.pinned (a8 c4) (T.obj _ _ a6);refine thn (hg C _ s5 _ H5 x u _ c7 r5 (step x H5 y5)) λ_ s6 ⟨a5,H6,I6,b4,q6⟩=>?_;refine thn (ht C _ s6 a5 H6 _ I6 q6) λok s7 ⟨H7,I7,q7⟩=>?_;have a7:∀{s':zc}{H':Hp}{B:L2.St},Inv (bT X N' scope C a0 H fp) ([(D,lobj its k)]++jV fp s5.heap) B H' s'->tn (i+1) s'.heap/\∀b∈fp,H' b=none:=λ{s' H' B} Ix=>by
    refine⟨T.keep _ _ _ a6 λb U o e=>(Ix.pin (b,o) (Pa _ (Pa _ (dZ U e)))).1,λb U=>?_⟩;obtain⟨o,e,d⟩:=T.obj _ _ a6 b U;exact(Ix.pin (b,o) (Pa _ (Pa _ (dZ U e)))).2.1
   have c0:(fB cap σ).length=a5.length:=by rw[I6.len,I1.len]
   cases ok with
   |false=>
    have n7:N ys H7:=by simpa using q7
    obtain⟨m',hm,w7⟩:=hN _ _ n7;exact⟨m',hm,i+1,ys,its,k,H7,I7.unpinned.weak c0 b4,rv,(a7 I7).1,(a7 I7).2,w7⟩
   |true=>
    have q7:te a5 H7 λv H4=>N (ys++[v]) H4:=by simpa using q7
    refine thn (he C _ s7 a5 H7 _ I7 q7) λu8 s8 ⟨v,H8,I8,r8,n8⟩=>?_;obtain⟨eD,nD,_,c5,_⟩:=I8.pin (D,lobj its k) (Pa _ (PL _ Qt));have lv:=rv.length;refine YD Zi ⟨_,eD,rfl⟩ Y0 (YF _ _) (ZK D its.toArray k u8 (by rw[List.size_toArray];omega)) ⟨eD,?_⟩;obtain⟨m',hm,w8⟩:=hN _ _ n8;obtain⟨k',eN⟩:∃k',(s8.heap.update D (SQ (·.push u8))).get? D=some (lobj (its++[u8]) k'):=by
     have q:=aae eD (·.push u8);dsimp only at q;rw[List.push_toArray]at q;exact⟨_,q⟩
    have I9:Inv (bT X N' scope C a0 H fp) (jV fp s5.heap) a5 H8 {s8 with heap:=s8.heap.update D (SQ (·.push u8))}:=by
     refine Inv.turned (it:=D) (t':=s8.toks) (I8.pins_of λp hp=>I8.pin p (Pa _ (Pa _ hp))) (λb o U e=>(Q0 s8.heap (SQ _) (Qn U)).trans e) nD a9 (.inr (by rw[←hD];exact Pg _)) (λx c e z=>?_) (λp hp z=>?_)
     .obtain⟨vc,oc,h1,_⟩:=I.cell x c (gO I O e)
      have hh:=Ph h1;rw[z,hD]at hh;exact Rt _ hh
     .have hp:p∈jV fp s5.heap:=hp
      have hh:=b0 p.1 (sE hp).1;rw[z]at hh;exact Rt _ hh
    refine⟨m',hm,i+1,ys++[v],its++[u8],k',H8,(I9.weak c0 b4).pins_of (λp hp=>?_),rv.append (.cons r8 .nil),?_,λb U=>?_,w8⟩
    .have e:p=(D,lobj (its++[u8]) k'):=PQ.mp hp
     rw[e];exact⟨eN,nD,a9,c5,λv z=>by cases z⟩
    .exact T.keep _ _ _ a6 λb U o e=>(I9.pin (b,o) (Pa _ (dZ U e))).1
    .obtain⟨o,e,d⟩:=T.obj _ _ a6 b U
     exact(I9.pin (b,o) (Pa _ (dZ U e))).2.1
 exact codeAny_compStart_list b2 (T.self _ 0 _ _ _ b9 b2)
theorem zu(hx:X.xe=NoX)(Y:X.calm=true)(O:d8 X.env.scope X.N N' scope cap)(hi:PI X target iter wi)
  (hg:∀C a0 H fp,PG (bT X N' scope C a0 H fp) target g) (ht:∀C a0 H fp,PTs (bT X N' scope C a0 H fp) ifs tt) (V:∀C a0 H fp,PE (bT X N' scope C a0 H fp) elt te)
  (F:∀x,R6 iter X.env x=pure x:=by intro _;rfl):PE X (.ListComp elt [⟨target,iter,ifs,0⟩] scope pos) (yl cap wi g tt te):=by
 intro pins s σ H Q I h;rw[eval_ListComp];refine Xq (use:=none) rfl F (jU λy j hk=>I.ok.has y.1 (O.free y j hk)) O.kind O.nm (thn (hi pins s σ H _ I h) λv Z h1=>thn h1 λa6 s2 h2=>?_);obtain⟨it,fp,tn,J,H2,e,I2,T,a2,f2,cw⟩:=h2;subst e;refine oV (RR:=λacc C=>compPost (model X.prog X.w) X.A X.xe none (EP X pins σ Q) acc C) Y O I2 T a2 f2 (λC=>hg C _ _ _) (λC=>ht C _ _ _) (λC=>V C _ _ _) cw ?_;intro D C s' H' ys its n B hD hC a4 I' rv q;obtain⟨hz,q⟩:=q;obtain⟨m,a1,_⟩:=I'.loc;refine⟨m,a1,λh' sb=>?_⟩;obtain⟨eD,nD,_,a5,_⟩:=I'.pin (D,lobj its n) (Pa _ Qt);have a3:Inv X pins σ (upd H' D (.lst ys)) {s' with heap:=h'}:=by
  refine I2.call' (ch:=fp) I'.os ?_ ?_ I'.bare (λb U=>⟨(f2 b U).2.2.2.1,(f2 b U).2.1,(f2 b U).2.2.2.2.1,(f2 b U).2.2.2.2.2⟩)
  .have ne:∀b o,s2.heap.get? b=some o->b≠C/\b≠D:=λb o e=>⟨PN (P0 (Ph e) hC),PN (P0 (Ph e) hD)⟩
   refine⟨λb o e n U V=>sb.extBut b o (ne b o e).1 (I'.base.keep b o e n U V),λb o e n U V=>?_,λb o e n V=>?_,λb o e V=>?_,λb xs e=>?_,λb o u e=>?_,λb ps e=>?_⟩
   .obtain⟨sl,e1⟩:=I'.base.slot b o e n U V
    exact⟨sl,sb.extBut b _ (ne b o e).1 e1⟩
   .rw[aK (ne b o e).2]
    exact I'.base.free b o e n V
   .obtain⟨o',e1⟩:=I'.base.there b o e V
    exact⟨o',sb.extBut b _ (ne b o e).1 e1⟩
   .have e1:=I'.base.tups b xs e
    rw[aK (aQ e1 nD)];exact e1
   .have e1:=I'.base.frzs b o u e
    rw[aK (aQ e1 nD)];exact e1
   .obtain⟨more,e1⟩:=I'.base.tbls b ps e
    refine⟨more,?_⟩;rw[aK (aQ e1 nD)];exact e1
  .intro b u e
   by_cases U:b=D
   .subst U
    rw[aZ]at e;cases e;exact⟨hz,its,n,rv,sb.extBut _ _ a4 eD⟩
   .rw[aK U]at e
    have nC:∀b u,H' b=some u->b≠C:=λb u e z=>by
     have hf:H' C=none:=I'.free;rw[z,hf]at e;cases e
    refine(I'.hok b u e).stay (λc v Y q=>sb.extBut c v ?_ q) (λc q=>by rw[aK (aQ q nD)];exact q) λc xs q=>by rw[aK (aQ q nD)];exact q
    rcases Y with z|z
    .rw[z]
     exact nC b u e
    .exact nC c _ z
 exact⟨.ref D,_,a3,rfl,q D nD⟩
end
theorem Kz{x:V}{t:Value}(I:Inv X pins σ H s)(rx:RelV x u)(F:jh X.K H x t):∃U,PySem.W.KitX X.K u t U/\U s.heap/\u≠.builtin "__main__.__loader__#opaque":=by
 cases F with
 |non=>cases (show u=QK from rx);exact⟨_,ZC,RN,λz=>nomatch z⟩
 |bl y=>cases (show u=Yz y from rx);exact⟨_,ZD,RN,λz=>nomatch z⟩
 |int i=>obtain⟨t,q⟩:=(show ∃t,u=WW i t from rx);cases q;exact⟨_,aaa,RN,λz=>nomatch z⟩
 |str y=>obtain⟨t,q⟩:=(show ∃t,u=Wd y t from rx);cases q;exact⟨_,aab,RN,λz=>nomatch z⟩
 |flt y=>obtain⟨t,q⟩:=(show ∃t,u=Z1 y t from rx);cases q;exact⟨_,Za,RN,λz=>nomatch z⟩
 |@lst a xs B=>
  cases (show u=Qw a from rx);obtain⟨_,_,n,_,h1⟩:=(show bw X.prog X.w H s.heap a (.lst xs)from I.hok a _ B);exact⟨_,Vy,⟨_,h1,rfl⟩,λz=>nomatch z⟩
 |@frz a ob xs B=>
  cases (show u=Qw a from rx);obtain⟨_,_,_,n,_,h1⟩:=(show bw X.prog X.w H s.heap a (.frz ob (.lst xs))from I.hok a _ B);exact⟨_,Vy,⟨_,h1,rfl⟩,λz=>nomatch z⟩
 |@tup a xs B=>
  cases (show u=Qw a from rx);obtain⟨_,_,_,p⟩:=(show bw X.prog X.w H s.heap a (.tup xs)from I.hok a _ B);obtain⟨o,h1,h2,_⟩:=p;exact⟨_,Zb,⟨o,h1,h2⟩,λz=>nomatch z⟩
 |@dK a kvs B=>
  cases (show u=Qw a from rx);obtain⟨_,_,vs,_,p⟩:=(show bw X.prog X.w H s.heap a (.dK kvs)from I.hok a _ B);obtain⟨o,es,ep,h1,h2,_⟩:=p;exact⟨_,Vz,⟨o,h1,h2.1⟩,λz=>nomatch z⟩
 |@dT a kvs B=>
  cases (show u=Qw a from rx);obtain⟨_,_,xs,_,o,es,ep,h1,h2,_⟩:=(show bw X.prog X.w H s.heap a (.dT kvs)from I.hok a _ B);exact⟨_,Vz,⟨o,h1,h2.1⟩,λz=>nomatch z⟩
 |@ins a C dx fs B j Y hn N hm=>
  cases (show u=Qw a from rx);obtain⟨Z,O,_⟩:=yZ I.hok B;obtain⟨od,J,_⟩:=O.look;exact⟨_,aac (j.get _) j.hd Y hn N hm,J,λz=>nomatch z⟩
theorem zL:∀{J:List String}{B:List Value},Vals (J.map V.ty) B->B=J.map R1
 |[],_,.nil=>rfl
 |t::r,_,.cons h q=>by cases (show _=R1 t from h);rw[zL q];rfl
theorem tW:dD X (.builtin "isinstance") (λxs H Q=>∃x tp J t b,xs=[x,.ref tp]/\H tp=some (.tup (Qc V.ty J))/\jh X.K H x t/\WK X.K t (J.map R1)=some b/\Q (.bl b) H):=by
 intro pins s σ H xs B Q I r h;obtain⟨x,tp,J,t,b,rfl,a0,ty,e,q⟩:=h;obtain⟨u,U,rfl,Y,j⟩:=vals2 r;cases j;obtain⟨Hq,Z,hz,hn⟩:=Kz I Y ty;obtain⟨_,its,F,o,h1,h2,n,N,_⟩:=(show bw X.prog X.w H s.heap tp (.tup (J.map V.ty))from I.hok tp _ a0);rw[zL F]at N;obtain⟨cls,O,data,sl⟩:=o;cases h2;cases N;exact PySem.W.kia_tup Z I.kIn hz h1 e hn λtk=>⟨.bl b,H,I.tok tk,rfl,q⟩
theorem qY:∀(tk:Nat)(l:List Str),Vals (l.map V.str) (strsFrom tk l)
 |_,[]=>.nil
 |tk,x::r=>.cons ⟨_,rfl⟩ (qY (tk+1) r)
def JD:V->List V->Hp->VK->Prop:=λx vs H Q=>∃(a b:Str)(l:List Str),x= .str a/\vs=[.str b]/\(decide (a.length<b.length)||decide (Vh a<Vh b))=false/\(b.length==0)=false/\
 (Tj a b 0 a.length (a.length+1)).isEmpty=false/\a.length<=Px/\Vq a (Tj a b 0 a.length (a.length+1)) b.length=l/\l.length<=Px/\
 ∀p,H p=none->Q (.ref p) (upd H p (.lst (l.map V.str)))
theorem Gj:MtR X "str.split" JD:=by
 intro pins s σ H x vs v B Q I rx U h;obtain⟨a,b,l,rfl,rfl,N,Y,O,J,rfl,j,q⟩:=h;obtain⟨t,rfl⟩:=rx;obtain⟨u,rfl,t',rfl⟩:=U.one;refine YD F.slot_str_split (typeIs_str s a t) F.entry_str_split (F.args_str_split_2 _ _) (meets_str_split_sep a b t t' N Y O J j) ?_;exact⟨.ref s.heap.objs.size,_,I.lnew (qY _ _) (by rw[Qe];exact j),rfl,q _ I.fresh⟩
inductive Dt where
 |non|bl (b:Bool)|int (i:Int)|str (x:Str)|lst (ds:List Dt)|tup (ds:List Dt)
mutual
noncomputable def eqD:Dt->Dt->Bool
 |.non,.non=>true
 |.bl a,.bl b=>a==b
 |.int a,.int b=>a==b
 |.bl a,.int b=>(if a then 1 else 0)==b
 |.int a,.bl b=>a==(if b then 1 else 0)
 |.str a,.str b=>a==b
 |.lst a,.lst b=>eqL a b
 |.tup a,.tup b=>eqL a b
 |_,_=>false
noncomputable def eqL:List Dt->List Dt->Bool
 |[],[]=>true
 |a::r,b::q=>eqD a b&&eqL r q
 |_,_=>false
end
mutual
noncomputable def Brs(K:Pu)(H:Hp):Dt->V->Prop
 |.non,v=>v= .non
 |.bl b,v=>v= .bl b
 |.int i,v=>v= .int i
 |.str x,v=>v= .str x
 |.lst ds,v=>∃a xs,v= .ref a/\SqL K H a xs/\gB K H ds xs
 |.tup ds,v=>∃a xs,v= .ref a/\SqT K H a xs/\gB K H ds xs
noncomputable def gB(K:Pu)(H:Hp):List Dt->List V->Prop
 |[],xs=>xs=[]
 |d::r,xs=>∃x ys,xs=x::ys/\Brs K H d x/\gB K H r ys
end
mutual
theorem vo:∀d:Dt,eqD d d=true
 |.non=>by simp[eqD]
 |.bl _=>by simp[eqD]
 |.int _=>by simp[eqD]
 |.str _=>by simp[eqD]
 |.lst ds=>by simp[eqD,pN ds]
 |.tup ds=>by simp[eqD,pN ds]
theorem pN:∀ds:List Dt,eqL ds ds=true
 |[]=>by simp[eqL]
 |d::r=>by simp[eqL,vo d,pN r]
end
theorem gB.length{K:Pu}:∀{ds:List Dt}{xs:List V},gB K H ds xs->ds.length=xs.length
 |[],xs,h=>by
  have h:xs=[]:=by simpa[gB]using h
  rw[h];rfl
 |d::r,xs,h=>by
  obtain⟨x,ys,rfl,_,h⟩:=(by simpa[gB]using h:∃x ys,xs=x::ys/\Brs K H d x/\gB K H r ys);simp[gB.length h]
theorem tL:∀{ds es:List Dt},ds.length≠es.length->eqL ds es=false
 |[],[],h=>absurd rfl h
 |[],_::_,_=>by simp[eqL]
 |_::_,[],_=>by simp[eqL]
 |d::r,e::q,h=>by
  have:r.length≠q.length:=by simpa using h
  simp[eqL,tL this]
def eqJ(ds es:List Dt)(j:Nat):Bool:=eqD (ds.getD j .non) (es.getD j .non)
theorem uL:∀{ds es:List Dt},ds.length=es.length->(Qq ds.length).all (eqJ ds es)=eqL ds es
 |[],[],_=>by simp[eqL]
 |[],_::_,h=>by simp at h
 |_::_,[],h=>by simp at h
 |d::r,e::q,h=>by
  have h':r.length=q.length:=by simpa using h
  have F:=uL h';rw[QL,V3,W7,Zk,eqL];congr 1
theorem nP{vl B vs:Value}{lo hi st:Option Int}{Q:Int×Int×Nat->zc->Prop}(F:s.heap.IsSliceOf sl vl B vs)(N:UV vl lo)(Z:UV B hi)(ps:UV vs st)(U:st.getD 1≠0)
  (h:Q ((Q9 lo hi (st.getD 1) (n:Int)).1,st.getD 1,Q_ (Q9 lo hi (st.getD 1) (n:Int)).1 (Q9 lo hi (st.getD 1) (n:Int)).2 (st.getD 1)) s) :
  wpAny (model prog w) A (TV (.ref sl) (pure (n:Int))) Q E s:=by
 obtain⟨os,J,q,j⟩:=id F;unfold TV;refine eH (eH (V2 J j (x:=vl) rfl (eH (V2 J j (x:=B) rfl (eH (V2 J j (x:=vs) rfl (yr ?_)))))));refine eH (HT.slicePart_ ps ?_);have h1:(st.getD 1==0)=false:=by simpa using U
 simp only[h1,PJ,Qv,pure_bind];exact eH (HT.slicePart_ N (eH (HT.slicePart_ Z (yr h))))
def m5(xs:List α)(l st:Int)(k:Nat):List α:=(Qq k).filterMap λ(m:Nat)=>xs[(l+(m:Int)*st).toNat]?
theorem lU{t:Addr}{items:List Value}{vl vu vs:Value}{lo hi st:Option Int}(U:IsTup s.heap t items.toArray)(F:s.heap.IsSliceOf sl vl vu vs)(N:UV vl lo)(Z:UV vu hi)(ps:UV vs st)(h0:st.getD 1≠0)
  {l h':Int} (B:Q9 lo hi (st.getD 1) (items.length:Int)=(l,h'))  (ek:Q_ l h' (st.getD 1)=k)
  (V:(l=0/\st.getD 1=1/\k=items.length)->Q (.ref t) s)
  (hn:¬(l=0/\st.getD 1=1/\k=items.length)->Q (.ref s.heap.objs.size) {s with heap:=s.heap.push {cls:=.type "tuple",data:=.seq (m5 items l (st.getD 1) k).toArray}})
  (hsz:(m5 items l (st.getD 1) k).length<=Px):wpAny (model prog w) A (WD (.ref t) (.ref sl)) Q E s:=by
 have I:sizeOk (.seq (m5 items l (st.getD 1) k).toArray):=by
  show(m5 items l (st.getD 1) k).toArray.size<=Px;rw[List.size_toArray];exact hsz
 obtain⟨os,J,q,j⟩:=id F;have O:s.TypeIs (.ref sl) "slice":=⟨os,J,q⟩;unfold WD
 try with_reducible refine Rf ?_
 first|refine eH (yr ?_)|skip
 refine eH (ZG U.typeIs (by decide) ?_);refine eH (QW (name:=Zf "__getitem__") U.typeIs Ri
  (Uc Ri U.typeIs YZ ?_ (Zg _ _)))
 show wpAny _ _ (W6 (.ref t) >>=_) _ _ s;refine eH (tupleItemsOf_ U ?_);refine eH (Ud O ?_);rw[Pk (by decide)];rw[List.size_toArray];refine eH (nP F N Z ps h0 ?_);rw[B,ek];dsimp only;by_cases Y:(l=0/\st.getD 1=1/\k=items.length)
 .rw[Pk (by simp[Y])]
  refine eH ?_;unfold Builtin.Tuple.tupleIsExact;refine eH (Ud U.typeIs (yr ?_));rw[Pk (by decide)];exact eH (Rz (yr ⟨_,rfl,yr (V Y)⟩))
 .rw[Pn (by simpa using Y)]
  have e:(List.filterMap (λ(k:Nat)=>items.toArray[(l+(k:Int)*st.getD 1).toNat]?) (Qq k)).toArray=(m5 items l (st.getD 1) k).toArray:=by
   unfold m5;simp
  rw[e];exact eH (m:=SN _) (QM (yr ⟨_,rfl,yr (hn Y)⟩) I)
theorem Ff(xs:List α)(l st:Int)(k:Nat):(m5 xs l st k).length<=k:=by
 unfold m5;have:=List.length_filterMap_le (λ(m:Nat)=>xs[(l+(m:Int)*st).toNat]?) (Qq k);rw[Xf]at this;exact this
section
variable{X:Cx}{e:Expr}{te:TE}{p2 pos:Pos}
def Nb(K:Pu):V->Option Int->Option Int->Hp->VK->Prop:=λx lo hi H Q=>∃a xs,x= .ref a/\SqT K H a xs/\(o7 xs lo hi=xs->Q (.ref a) H)/\∀p,H p=none->Q (.ref p) (upd H p (.tup (o7 xs lo hi)))
theorem K3:SlR X (Nb X.K):=by
 intro pins s σ H x v vl B lo hi sl Q I rx F N Z h;obtain⟨a,xs,rfl,J,q1,q2⟩:=h;by_cases V:(HT.sIx xs.length 0 lo=0/\HT.sIx xs.length xs.length hi=xs.length)
 .have rx0:=rx
  cases rx;obtain⟨its,r,U,hz⟩:=I.tuple J;have O:=r.length;refine⟨"tuple",_,Ri.lookup,U.typeIs,?_⟩;have e1:Q9 lo hi ((none:Option Int).getD 1) (its.length:Int)=(((0:Nat):Int),((xs.length:Nat):Int)):=by
   have e1:=HT.adjust_gen lo hi its.length;rw[←O,V.1,V.2]at e1;rw[←O];exact e1
  refine lU (items:=its) (st:=none) U F N Z .none (by decide) e1 rfl (λ_=>?_) (λY=>?_) ?_
  .refine⟨.ref a,H,I,rfl,q1 ?_⟩
   unfold o7;rw[V.1,V.2];simp
  .refine absurd ⟨rfl,rfl,?_⟩ Y
   show Q_ ((0:Nat):Int) ((xs.length:Nat):Int) 1=its.length;rw[HT.places_gen];omega
  .refine RX (Ff _ _ _ _) ?_
   show Q_ ((0:Nat):Int) ((xs.length:Nat):Int) 1<=Px;rw[HT.places_gen];omega
 .exact JP pins s σ H _ v vl B lo hi sl Q I rx F N Z ⟨a,xs,rfl,J,V,q2⟩
def Fe(K:Pu):R2:=λx y H Q=>∃a b xs ys,x= .ref a/\y= .ref b/\SqT K H a xs/\SqT K H b ys/\xs.length+ys.length<=Px/\
 (xs=[]->Q (.ref b) H)/\(xs≠[]->ys=[]->Q (.ref a) H)/\(xs≠[]->ys≠[]->∀p,H p=none->Q (.ref p) (upd H p (.tup (xs++ys))))
theorem Cd:OpR X (RB .Add) (Fe X.K):=by
 intro pins s σ H x y v u Q I rx ry h;obtain⟨a,b,xs,ys,rfl,rfl,O,U,hz,q0,q1,q2⟩:=h;by_cases J:xs=[]
 .cases rx
  cases ry;obtain⟨its,r1,p1,_⟩:=I.tuple O;obtain⟨N,j,p2,_⟩:=I.tuple U;obtain⟨⟨cls,dd,data,sl⟩,B,Y,n,hd⟩:=id p1;obtain⟨⟨a3,a1,a2,V⟩,Z,q,n2,a0⟩:=id p2;simp only at Y hd q a0;subst Y hd q a0;exact Ze ⟨_,B,rfl⟩ ⟨_,Z,rfl⟩ Xo YM V1 Vw (Vp _ _)
   (tuple_addW0 a b its.toArray N.toArray n n2 dd a1 sl V (by rw[r1.nil_iff.mpr J];rfl)) ⟨B,Z,⟨.ref b,H,I,rfl,q0 J⟩⟩
 .exact Il pins s σ H _ _ v u Q I rx ry ⟨a,b,xs,ys,rfl,rfl,O,U,J,hz,q1 J,q2 J⟩
end
theorem lz{p:Addr}{o:HO}(I:Inv X pins σ H s)(O:∀b∈fp,iG X pins H b)(keep:∀b u,b∉fp->s.heap.get? b=some u->h'.get? b=some u)(B:s.heap.objs.size<=p)
  (new:bw X.prog X.w (upd H p o) h' p o):Inv X pins σ (upd H p o) {s with heap:=h',toks:=t'}:=by
 have hn:H p=none:=I.hok.fresh B;have j:∀b u,H b=some u->b∉fp:=λb u e U=>by rw[(O b U).1]at e;cases e
 have J:∀b u,s.heap.get? b=some u->b≠p:=λb u e=>PN (P0 (Ph e) B);refine I.step (g':=s.gens) (d':=s.drawn) (ch:=fp) (λb U=>⟨(O b U).2.2.2.1,(O b U).2.1,(O b U).2.2.2.2.1,(O b U).2.2.2.2.2⟩) (λb u _ _ Y e _=>keep b u Y e) (λb u _ _ Y e _=>⟨u.slots,keep b u Y e⟩)
  (λb u _ e n=>by rw[aK (J b u e)];exact n) (λb u Y e=>⟨u,keep b u Y e⟩) (λb xs e=>by rw[aK (aQ e hn)];exact e) (λb ob u e=>by rw[aK (aQ e hn)];exact e)
  (λb ps e=>⟨#[],by rw[aK (aQ e hn),e];simp⟩) (λm V=>?_) (λb u e=>?_) I.bare
 .obtain⟨ob,es,ep,ho,r⟩:=V
  exact⟨ob,es,ep,keep _ ob (λz=>(O _ z).2.1 rfl) ho,r⟩
 .by_cases U:b=p
  .subst U
   rw[aZ]at e;cases e;exact new
  .rw[aK U]at e
   refine(I.hok b u e).stay (λc v Y q=>keep c v ?_ q) (λc q=>by rw[aK (aQ q hn)];exact q) λc xs q=>by rw[aK (aQ q hn)];exact q
   rcases Y with z|z
   .rw[z]
    exact j b u e
   .exact j c _ z
theorem gJ(I:Inv X pins σ H s)(O:∀b∈fp,iG X pins H b)(keep:∀b u,b∉fp->s.heap.get? b=some u->h'.get? b=some u):Inv X pins σ H {s with heap:=h',toks:=t'}:=by
 have j:∀b u,H b=some u->b∉fp:=λb u e U=>by rw[(O b U).1]at e;cases e
 refine I.step (g':=s.gens) (d':=s.drawn) (ch:=fp) (λb U=>⟨(O b U).2.2.2.1,(O b U).2.1,(O b U).2.2.2.2.1,(O b U).2.2.2.2.2⟩) (λb u _ _ Y e _=>keep b u Y e) (λb u _ _ Y e _=>⟨u.slots,keep b u Y e⟩)
  (λb u _ e n=>n) (λb u Y e=>⟨u,keep b u Y e⟩) (λb xs e=>e) (λb ob u e=>e) (λb ps e=>⟨#[],by rw[e];simp⟩) (λm V=>?_) (λb u e=>?_) I.bare
 .obtain⟨ob,es,ep,ho,r⟩:=V
  exact⟨ob,es,ep,keep _ ob (λz=>(O _ z).2.1 rfl) ho,r⟩
 .refine(I.hok b u e).stay (λc v Y q=>keep c v ?_ q) (λc q=>q) λc xs q=>q
  rcases Y with z|z
  .rw[z]
   exact j b u e
  .exact j c _ z
def Ite(K:Pu)(a:Addr):It:=
 ⟨λi H=>∃xs x,SqL K H a xs/\xs[i]? =some x,λi H x H'=>∃p v,H p=none/\x= .ref p/\(∀xs,SqL K H a xs->xs[i]? =some v)/\H'=upd H p (.tup [.int i,v]),λi H=>∃xs,SqL K H a xs/\xs.length<=i⟩
theorem Ai{K:Pu}{x1}(a e it:Addr)(a5:e≠it) :
  Turn P w K (.Tuple elts x1 pos) (Ite K a) [e,it] e (λi h=>(∃a0,IsEnum h e it (i:Int) a0)/\h.IsListIter it a i)where
 mem:=by simp
 obj:=λi h st b U=>by
  obtain⟨⟨a0,V⟩,o,B,c,d⟩:=st;rcases Pj.mp U with z|z
  .subst z
   exact⟨_,V,λv z=>by cases z⟩
  .have z:b=it:=by simpa using z
   subst z;exact⟨o,B,λv z=>by rw[d]at z;cases z⟩
 keep:=λi h h' st k=>by
  obtain⟨⟨a0,V⟩,a1⟩:=st;exact⟨⟨a0,k e (by simp) _ V⟩,a1.at λo q=>k it (by simp) o q⟩
 item:=by
  intro X hP hw hK Y i pins s σ H E I O st hg;subst hP hw hK;obtain⟨xs,x,N,J⟩:=hg;obtain⟨its,F,p,hz⟩:=I.list N;obtain⟨u,hu,ru⟩:=F.get J;obtain⟨⟨a0,V⟩,a1⟩:=st;refine wpAny_pyNext_enum_item V a1 p.isList (x:=u) (by simpa using hu) a5 λh1 a7 a3 a6 b1 k1=>?_;refine⟨.ref s.heap.objs.size,rfl,W8 a7 λh2 a8 a2=>?_⟩;have a9:e<s.heap.objs.size:=Ph V;have a4:s.heap.objs.size≠e:=Sh a9;have b0:h2.get? s.heap.objs.size=some {cls:=.type "tuple",data:=.seq #[.int i s.toks,u]}:=a2.extBut _ _ a4 a6;have I2:Inv X pins σ (upd H s.heap.objs.size (.tup [.int i,x])) {s with heap:=h2,toks:=s.toks+1}:=by
   refine lz (fp:=[e,it]) (t':=s.toks+1) I O (λb o U q=>?_) (Pg _) ?_
   .have n1:b≠e:=λz=>U (by simp[z])
    have n2:b≠it:=λz=>U (by simp[z]);exact a2.extBut b o n1 (k1 b o n1 n2 q)
   .exact⟨by show 2<=Px;decide,[.int i s.toks,u],.cons ⟨_,rfl⟩ (.cons ru .nil),_,b0,rfl,_,rfl,rfl⟩
  refine⟨.ref s.heap.objs.size,upd H s.heap.objs.size (.tup [.int i,x]),I2,rfl,⟨_,x,I.hok.fresh (Pg _),rfl,λys j=>by rw[I.list_inj j N];exact J,rfl⟩,?_,λb U=>?_⟩
  .refine⟨⟨u,?_⟩,a3.extBut a2.extBut (Qn a5)⟩
   have e1:(((i+1:Nat)):Int)=(i:Int)+1:=by omega
   rw[e1];exact a8
  .rw[aK]
   .exact(O b U).1
   .intro z
    rw[z]at U;rcases Pj.mp U with q|q
    .exact a4 q
    .have q:s.heap.objs.size=it:=by simpa using q
     obtain⟨o,B,_⟩:=a1;exact absurd (Ph B) (by rw[q];exact Rt _)
 done:=by
  intro X hP hw hK Y i pins s σ H E I O st hg;subst hP hw hK;obtain⟨xs,N,J⟩:=hg;obtain⟨its,F,p,hz⟩:=I.list N;obtain⟨⟨a0,V⟩,a1⟩:=st;have Z:=F.length;refine wpAny_pyNext_enum_end (I.ok.hd Y) V a1 p.isList (by simp;omega) λh1 eb=>⟨rfl,?_⟩;exact gJ (fp:=[e,it]) (t':=s.toks) I O λb o U q=>eb b o (λz=>U (by simp[z])) q
 self:=λA i s Q E st h=>by
  obtain⟨⟨a0,V⟩,_⟩:=st;exact VD V h
end Jb
namespace PySem
theorem F.first_AttributeError:((Manifest.find? "AttributeError").elim false λt=>t.mro.contains "StopIteration"||t.mro.contains "SystemExit")=false:=by decide +kernel
theorem F.sub_AttributeError:isSubtype (.type "AttributeError") (.type "AttributeError")=pure true:=by rw[Vu];kernel_rfl
section
variable{prog:Program}{w:World}{A:Around}{E:Value->Shared->Prop}
theorem nU{α:Type}{o:Value}{name Z:Str}{Q:α->zc->Prop}{h:Heap}{g:Array Z7}{d:Drawn}{t:Nat}{os:OsState}(I:A.handled=none)(hm:Z.length<=Px)
  (N:∀h' tk e,(∀b u,h.get? b=some u->h'.get? b=some u)->(∃U,h'.get? e=some U/\U.cls= .type "AttributeError")->E (.ref e) ⟨h',g,d,tk,os⟩):wpAny (model prog w) A (raiseAttrError o name Z:Sem α) Q E ⟨h,g,d,t,os⟩:=by
 unfold raiseAttrError;refine eH (wpAny_mkStr (eH ?_) hm);unfold newExc newTuple;refine eH (QM ?_);refine eH (m:=UW _ _) (Uz (a:=QK) (by simp only[UW,F.first_AttributeError];rfl) ?_);refine QM ?_;refine eH (wpAny_mkText (eH ?_));dsimp only;generalize a0:h.push {cls:=.type "tuple",dict:=none,data:=.seq [Wd Z t].toArray}=H1;generalize J:({cls:=.type "AttributeError",dict:=none,data:=.fields (#[.ref h.objs.size,.none,.none,.none,.bool false,.none]++ownMembersOf (.type "AttributeError") [Wd Z t])}:Obj)=ob;have V:(H1.push ob).get? H1.objs.size=some ob:=Pz _ (by subst J;rfl);have O:(⟨H1.push ob,g,d,t+1+1,os⟩:zc).TypeIs (.ref H1.objs.size) "AttributeError":=⟨_,V,by subst J;rfl⟩;have f1:=F.sub_AttributeError;have q:∀b u,h.get? b=some u->(H1.push ob).get? b=some u:=λb u e=>gD _ (a0▸gD _ e);have Y:ob.cls= .type "AttributeError":=by subst J;rfl
 obtain⟨vs,j,a1,a2⟩:∃vs,ob.data= .fields vs/\vs[6]? =some unsetMember/\vs[7]? =some unsetMember:=by subst J;exact⟨_,rfl,rfl,rfl⟩
 unfold noteAttr;dsimp only;refine eH ?_;unfold lacksNameAndObj;refine eH (Ss O f1 ?_);simp only[Tg,PJ,Qv];refine eH (Wm V ?_);rw[j];dsimp only;rw[a1,a2];show wpAny (model prog w) A (pure true) _ _ _;refine yr ?_;rw[Pk rfl];refine eH (Rz (eH (Ud O ?_)));dsimp only;unfold layMembers;refine eH (Wm V ?_);rw[j];dsimp only;refine wpAny_update V ?_;unfold raiseNew;refine eH (W9 ?_);rw[I];dsimp only;have B:h.objs.size<H1.objs.size:=by rw[←a0,Rc];exact V9 _
 refine V4 (N _ _ _ (λb u e=>?_) ⟨_,TJ _ V (Ys (W0 j _)),(ZL ..).trans Y⟩);exact(Q0 (H1.push ob) _ (Qn (PN (Nat.lt_trans (Ph e) B)))).trans (q b u e)
theorem F.lk_list_keys:YB (.type "list") "keys"=pure none:=by rw[Wo,U0];kernel_rfl
theorem F.lk_list_getattr:YB (.type "list") "__getattr__"=pure none:=by rw[Wo,U0];kernel_rfl
variable{h:Heap}{g:Array GenState}{d:Drawn}{t:Nat}{os:OsState}{a:Addr}{items:Array Value}{n:Nat}
def w5(E:Value->zc->Prop)(h:Heap)(g:Array Z7)(d:Drawn)(os:OsState):Prop:=∀h' tk e,(∀b u,h.get? b=some u->h'.get? b=some u)->(∃U,h'.get? e=some U/\U.cls= .type "AttributeError")->E (.ref e) ⟨h',g,d,tk,os⟩
theorem nJ{tk:Tok}{Q:Fin->zc->Prop}(I:A.handled=none)(J:h.get? a=some {cls:=.type "list",data:=.seq items n})(N:w5 E h g d os) :
  wpAny (model prog w) A (Builtin.«object.__getattribute__» ⟨[.ref a,.str "keys" tk],[]⟩) Q E ⟨h,g,d,t,os⟩:=by
 have O:(⟨h,g,d,t,os⟩:zc).TypeIs (.ref a) "list":=⟨_,J,rfl⟩;have Z:=F.lk_list_keys
 repeat(any_goals(first|assumption|wp_step))
 exact nU I (by decide +kernel) N
theorem qe{tk:Tok}{R:Zd->zc->Prop}(I:A.handled=none)(J:h.get? a=some {cls:=.type "list",data:=.seq items n})(N:w5 (λe s=>R (.error e) s) h g d os) :
  T9 (model prog w) A (.call (.builtin "list.__getattribute__") ⟨[.ref a,.str "keys" tk],[]⟩) R ⟨h,g,d,t,os⟩:=
 Ra Ug.plain F.entry_list_ga (Ug.check _ _ _ _ _ _ _ _ (show(⟨h,g,d,t,os⟩:zc).TypeIs (.ref a) "list" from⟨_,J,rfl⟩) (F.args_list_getattribute_2 _ _) (nJ I J N))
theorem uI{tk:Tok}{Q:Value->zc->Prop}(I:A.handled=none)(J:h.get? a=some {cls:=.type "list",data:=.seq items n})(N:w5 E h g d os):wpAny (model prog w) A (getAttrBy (.ref a) (.str "keys" tk) false) Q E ⟨h,g,d,t,os⟩:=by
 have O:(⟨h,g,d,t,os⟩:zc).TypeIs (.ref a) "list":=⟨_,J,rfl⟩;have j:=Ug.lookup;have f3:=Ug.bind (.ref a)
 repeat(any_goals(first|assumption|wp_step))
 refine qe I J λh' Y e q V=>?_;obtain⟨U,a0,B⟩:=id V;have Z:(⟨h',g,d,Y,os⟩:zc).TypeIs (.ref e) "AttributeError":=⟨U,a0,B⟩;dsimp only;unfold getattributeRaised;refine eH (Ss Z F.sub_AttributeError ?_);rw[Pk rfl];refine eH (Uz (show hookBehind (.type "list") none=pure none from F.lk_list_getattr) ?_);show wpAny (model prog w) A (YH (.ref a) (.str "keys" tk) (.ref e) false false) Q E ⟨h',g,d,Y,os⟩;unfold YH;dsimp only;rw[Pk (show(!false)=true from rfl)]
 first|exact V4 (N h' Y e q V)|exact eH (V4 (N h' Y e q V))
theorem o6{Q:Option Value->zc->Prop}(I:A.handled=none)(J:h.get? a=some {cls:=.type "list",data:=.seq items n})
  (N:∀h' tk,(∀b u,h.get? b=some u->h'.get? b=some u)->Q none ⟨h',g,d,tk,os⟩):wpAny (model prog w) A (getAttr? (.ref a) "keys") Q E ⟨h,g,d,t,os⟩:=by
 unfold getAttr? getAttrBy?;refine eH (wpAny_mkText (eH (TX (uI I J λh' Y e q V=>?_))));obtain⟨U,j,B⟩:=id V;have Z:(⟨h',g,d,Y,os⟩:zc).TypeIs (.ref e) "AttributeError":=⟨U,j,B⟩;dsimp only;refine eH (Ss Z F.sub_AttributeError ?_);rw[Pk rfl];exact yr (N h' Y q)
end
namespace F
theorem entry_dict_update_loop:YJ table "dict.update.loop"=some Builtin.«dict.update.loop»:=entryFor_of_tree (by kernel_rfl)
theorem plain_dict_update_loop:plainId "dict.update.loop"=true:=by decide +kernel
end F
end PySem
namespace Jb
open PySem PySem.Spec PyProof.Rows L2
def putAll(kvs:List (Key×V))(prs:List (Key×V)):List (Key×V):=prs.foldl (λacc I=>putK acc I.1 I.2) kvs
variable{X:Cx}{σ:L2.St}
theorem Aj{D l:Addr}{xs:List V}{prs:List (Key×V)}(hh:A.handled=none)(a5:prs.length=xs.length):∀(m i:Nat)(kvs:List (Key×V))(H:Hp)(s:zc),xs.length-i=m->i<=xs.length->
  Inv X pins σ H s->H D=some (.dK kvs)->SqL X.K H l xs->iG X pins H it->s.heap.IsListIter it l i->(∀(j:Nat)(k:Key)(v:V),prs[j]? =some (k,v)->∃p:Addr,xs[j]? =some (V.ref p)/\H p=some (.tup [kV k,v]))->kvs.length+m<=100000->
  (∀s',Inv X pins σ (upd H D (.dK (putAll kvs (prs.drop i)))) s'->R (.ok (.ret .none)) s')->T9 (model X.prog X.w) A (.builtin "dict.update.loop" ⟨[.ref D,.ref it,Q7 i,.none],[]⟩) R s:=by
 intro m
 induction m with
 |zero=>
  intro i kvs H s hm hi I hD N O a0 Y hz k;have e:i=xs.length:=by omega
  subst e;obtain⟨its,rv,p,_⟩:=I.list N;have Z:=rv.length;refine RP F.entry_dict_update_loop ?_;rw[Rk F.plain_dict_update_loop _];unfold Builtin.«dict.update.loop»;dsimp only;refine eH (Wg (show A.in1.handled=none from hh) a0 p.isList (by simp;omega) λh' eb=>?_);dsimp only;have I1:Inv X pins σ H {s with heap:=h'}:=gJ (fp:=[it]) (t':=s.toks) I (λb U=>by rw[PQ.mp U];exact O) λb o U q=>eb b o (λz=>U (by simp[z])) q;have e1:prs.drop xs.length=[]:=by rw[←a5,Uh]
  have k1:=k _ (by
   rw[e1];show Inv X pins σ (upd H D (.dK kvs)) {s with heap:=h'};have:upd H D (.dK kvs)=H:=by
    funext b;unfold upd;split
    .rename_i z
     rw[z,hD]
    .rfl
   rw[this];exact I1)
  show wpAny (model X.prog X.w) A.in1 (Builtin.Dict.addKeywords D [] >>=λ_=>ret .none) _ _ _;exact eH (yr (yr k1))
 |succ m ih=>
  intro i kvs H s hm hi I hD N O a0 Y hz k;have B:i<xs.length:=by omega
  obtain⟨its,rv,p,_⟩:=I.list N;have Z:=rv.length;have a4:i<prs.length:=by omega
  obtain⟨t,ht,hT⟩:=Y i prs[i].1 prs[i].2 (by rw[Py a4]);obtain⟨u,J,ru⟩:=rv.get ht;cases ru;refine RP F.entry_dict_update_loop ?_;rw[Rk F.plain_dict_update_loop _];unfold Builtin.«dict.update.loop»;dsimp only;refine eH (VV a0 p.isList (x:=.ref t) (by simpa using J) λh1 a3 a8=>?_);dsimp only;have I1:Inv X pins σ H {s with heap:=h1}:=gJ (fp:=[it]) (t':=s.toks) I (λb U=>by rw[PQ.mp U];exact O) λb o U q=>(a8.2 b (λz=>U (by simp[z]))).trans q;obtain⟨_,b3,rj,oj,ej,cj,nj,dj,_⟩:=(show bw X.prog X.w H h1 t (.tup [kV prs[i].1,prs[i].2])from I1.hok t _ hT);obtain⟨ku,vu,rfl,rk,b1⟩:=vals2 rj;have b0:(({s with heap:=h1}:zc)).TypeIs (.ref t) "tuple":=⟨oj,ej,cj⟩;refine eH (Rf (eH (wpAny_tryCatch ?_)));unfold Builtin.Dict.pairItems;refine eH (Ud b0 ?_);rw[Pk (by decide)];refine eH (T_ ej dj (yr ?_));show wpAny (model X.prog X.w) A.in1 (Tt [ku,vu] (dictSet D ku vu)) _ _ _;obtain⟨z,hd,vs,rel,dd⟩:=Jc I1.hok hD;have a9:vs.length<=Px:=by rw[←rel.length];exact z
  have b5:200000<=Px:=by decide
  have b2:(putK kvs prs[i].1 prs[i].2).length<=Px:=by have:=h_ kvs prs[i].1 prs[i].2;omega
  refine Rf (wpAny_dictSet_pairs (hsz:=a9) (qZ rk) dd λh2 a2 a1=>?_);have I2:Inv X pins σ (upd H D (.dK (putK kvs prs[i].1 prs[i].2))) {s with heap:=h2,toks:=s.toks+1}:=by
   have he:∃q,h2.get? D=some q:=let⟨q,_,_,N,_⟩:=a2;⟨q,N⟩;exact uo (s:=({s with heap:=h1}:zc)) (t':=s.toks+1) I1 (by rw[hD];exact RN) a1 he (Ci b2 hd (rel.put prs[i].1 b1) a2)
  have a7:∀p ys,H p=some (.tup ys)->p≠D:=λp ys e=>zy e hD (by intro z;cases z);have a6:it≠D:=λz=>by have:=O.1;rw[z,hD]at this;cases this
  show wpAny (model X.prog X.w) A.in1 (again (.builtin "dict.update.loop" ⟨[.ref D,.ref it,Q7 ((i:Int)+1),.none],[]⟩)) _ _ _;refine yr ⟨Th F.plain_dict_update_loop _,?_⟩;have ei:((i:Int)+1)=((i+1:Nat):Int):=by omega
  rw[ei];have b4:=h_ kvs prs[i].1 prs[i].2;refine ih (i+1) (putK kvs prs[i].1 prs[i].2) _ _ (by omega) B I2 aZ ?_ ?_ (a3.extBut a1.extBut a6) ?_ (by omega) (λs' I'=>k s' ?_)
  .rcases N with(N|⟨o,N⟩)|N
   .exact .inl (.inl (by rw[aK (zy N hD (by intro z;cases z))];exact N))
   .exact .inl (.inr ⟨o,by rw[aK (zy N hD (by intro z;cases z))];exact N⟩)
   .exact .inr N
  .exact⟨by rw[aK a6];exact O.1,O.2⟩
  .intro j kk vv e
   obtain⟨p,h1,h2⟩:=Y j kk vv e;exact⟨p,h1,by rw[aK (a7 p _ h2)];exact h2⟩
  .rw[zN]at I'
   rw[QX a4];exact I'
theorem nM(Y:X.calm=true):dD X (.type "dict") (λxs H Q=>∃l ys prs,xs=[.ref l]/\H l=some (.lst ys)/\Uy prs=Uy ys/\Uy prs<=50000/\
  (∀(j:Nat)(k:Key)(v:V),prs[j]? =some (k,v)->∃p:Addr,ys[j]? =some (V.ref p)/\H p=some (.tup [kV k,v]))/\∀D,H D=none->Q (.ref D) (upd H D (.dK (putAll [] prs)))):=by
 intro pins s σ H xs B Q I r h;obtain⟨l,ys,prs,rfl,Z,O,hsz,hp,q⟩:=h;obtain⟨u,rfl,U⟩:=vals1 r;cases U;have hh:X.A.handled=none:=I.ok.hd Y;refine callType_codes (Q₁:=λobj a2=>obj= .ref s.heap.objs.size/\a2={s with heap:=s.heap.push {cls:=.type "dict",data:=.dict #[]}}) F.kt_called_dict (F.kt_typeCall_dict_1 _) F.entry_dict_init (kt_code_dict_new _ ⟨rfl,rfl⟩) ?_;rintro obj a2 ⟨rfl,rfl⟩;have a3:H s.heap.objs.size=none:=I.fresh;have J:Inv X pins σ (upd H s.heap.objs.size (.dK [])) {s with heap:=s.heap.push {cls:=.type "dict",data:=.dict #[]}}:=I.laid (t':=s.toks) (λ_ _ z=>gD _ z) (Pg _) (Fo s.heap I.big);have a1:(s.heap.push {cls:=.type "dict",data:=.dict #[]}).DictOf (bz X.prog X.w) s.heap.objs.size []:=aal s.heap;have nl:l≠s.heap.objs.size:=aQ Z a3;have a4:(upd H s.heap.objs.size (.dK [])) l=some (.lst ys):=by rw[aK nl];exact Z
 obtain⟨_,its,n,rv,el⟩:=(show bw X.prog X.w _ _ l (.lst ys)from J.hok l _ a4);have a7:({s with heap:=s.heap.push {cls:=.type "dict",data:=.dict #[]}}:zc).TypeIs (.ref l) "list":=⟨_,el,rfl⟩;refine⟨a1.typeIs,F.args_dict_init_2 _ _,?_⟩;unfold Builtin.«dict.__init__»;refine eH ?_;unfold Builtin.Dict.selfAndRest;refine eH (wpAny_notOrdered_dict a1.typeIs ?_);show wpAny _ _ (pure (s.heap.objs.size,[Qw l])) _ _ _;refine yr ?_;show wpAny _ _ (XQ "dict.__init__" s.heap.objs.size (.ref l) [] .none) _ _ _;unfold XQ;refine eH (Ud a7 ?_);rw[Pk (by decide)];refine eH (o6 (show X.A.in1.in1.handled=none from hh) el λh2 a0 a5=>?_);rw[Pk (by rfl)];have N:Inv X pins σ (upd H s.heap.objs.size (.dK [])) {s with heap:=h2,toks:=a0}:=J.kept (t':=a0) a5;obtain⟨a8,a9,p2,_⟩:=N.list (SqL.of a4);refine eH (Rz (eH (VF p2.isList ?_)));have I3:Inv X pins σ (upd H s.heap.objs.size (.dK [])) {s with heap:=h2.push {cls:=.type "list_iterator",data:=.fields #[.ref l,.int 0 0]},toks:=a0}:=N.kept (t':=a0) λb o e=>gD _ e;have a6:iG X pins (upd H s.heap.objs.size (.dK [])) h2.objs.size:=N.fpOk (Pg _) (N.hok.fresh (Pg _));refine yr ⟨Th F.plain_dict_update_loop _,?_⟩;refine Aj (A:=X.A.in1) (l:=l) (xs:=ys) (prs:=prs) hh O ys.length 0 [] _ _ rfl (R0 _) I3 aZ (SqL.of a4) a6 ⟨_,Pz _ rfl,rfl,rfl⟩ ?_ (by simp;omega) λs' I'=>?_
 .intro j k v e
  obtain⟨p,h1,h2⟩:=hp j k v e;exact⟨p,h1,by rw[aK (aQ h2 a3)];exact h2⟩
 .rw[zN,Sv]at I'
  exact⟨rfl,.ref _,_,I',rfl,q _ a3⟩
theorem BL{B:L2.St}{H2 H':Hp}{F:zc}{D C:Addr}{ob:HO}(N:Inv X pins σ H2 F)(j:∀b∈fp,iG X pins H2 b)
  (J:F.heap.objs.size<=D) (I:F.heap.objs.size<=C) (a0:D≠C) (Z:Inv (bT X N' scope C F H2 fp) [(D,o)] B H' s') (new:∀h',h'.get? D=some o->bw X.prog X.w (upd H' D ob) h' D ob)
  (h':Heap) (sb:TF C s'.heap h'):Inv X pins σ (upd H' D ob) {s' with heap:=h'}:=by
 obtain⟨eD,nD,_,a1,_⟩:=Z.pin (D,o) (Pa _ Qt);refine N.call' (ch:=fp) Z.os ?_ ?_ Z.bare (λb U=>⟨(j b U).2.2.2.1,(j b U).2.1,(j b U).2.2.2.2.1,(j b U).2.2.2.2.2⟩)
 .have ne:∀b o,F.heap.get? b=some o->b≠C/\b≠D:=λb o e=>⟨PN (P0 (Ph e) I),PN (P0 (Ph e) J)⟩
  refine⟨λb o e n U V=>sb.extBut b o (ne b o e).1 (Z.base.keep b o e n U V),λb o e n U V=>?_,λb o e n V=>?_,λb o e V=>?_,λb xs e=>?_,λb o u e=>?_,λb ps e=>?_⟩
  .obtain⟨sl,e1⟩:=Z.base.slot b o e n U V
   exact⟨sl,sb.extBut b _ (ne b o e).1 e1⟩
  .rw[aK (ne b o e).2]
   exact Z.base.free b o e n V
  .obtain⟨o',e1⟩:=Z.base.there b o e V
   exact⟨o',sb.extBut b _ (ne b o e).1 e1⟩
  .have e1:=Z.base.tups b xs e
   rw[aK (aQ e1 nD)];exact e1
  .have e1:=Z.base.frzs b o u e
   rw[aK (aQ e1 nD)];exact e1
  .obtain⟨more,e1⟩:=Z.base.tbls b ps e
   refine⟨more,?_⟩;rw[aK (aQ e1 nD)];exact e1
 .intro b u e
  by_cases U:b=D
  .subst U
   rw[aZ]at e;cases e;exact new h' (sb.extBut _ _ a0 eD)
  .rw[aK U]at e
   have nC:∀b u,H' b=some u->b≠C:=λb u e z=>by
    have O:H' C=none:=Z.free;rw[z,O]at e;cases e
   refine(Z.hok b u e).stay (λc v Y q=>sb.extBut c v ?_ q) (λc q=>by rw[aK (aQ q nD)];exact q) λc xs q=>by rw[aK (aQ q nD)];exact q
   rcases Y with z|z
   .rw[z]
    exact nC b u e
   .exact nC c _ z
section
variable{X:Cx}{elt kx vx target iter:Expr}{ifs:List Expr}{scope:Scope}{pos pos' pos2:Pos}{N':List Str}{cap:List (Option Nat)}{wi:TI}{g:TG}{tt:TT}{te tk tv:TE}
theorem Iz{pins:List (Addr×Obj)}{σ B:L2.St}{H2 H':Hp}{F s':zc}{fp:List Addr}{D C:Addr}{o:Obj}{ob:HO}{i:Nat}{x:Str}{Dn:Ends}(I2:Inv X pins σ H2 F)(j:∀b∈fp,iG X pins H2 b)
  (hD:F.heap.objs.size<=D) (I:F.heap.objs.size<=C) (Y:D≠C) (Z:Inv (bT X N' scope C F H2 fp) [(D,o)] B H' s') (new:∀h',h'.get? D=some o->bw X.prog X.w (upd H' D ob) h' D ob)
  (hN:X.N.Nodup) (hi:X.N[i]? =some x) (J:Loc X.env.scope x) (O:X.fn x=true∨X.env.scope.names.lookup x=some .local) (q:Dn.nx (σ.set i (some (.ref D))) (upd H' D ob)) :
  wpAny (model X.prog X.w) X.A (assignAll (.ref D) ((Rg [.Name x pos'] X.env).map (·.2))) (λ_ a0=>∃m,a0.heap.Ns C m/\∀h',TF C a0.heap h'->SP X pins Dn .next {a0 with heap:=h'}) X.xe s':=by
 have I3:Inv X pins σ (upd H' D ob) s':=BL I2 j hD I Y Z new s'.heap ⟨rfl,λ_ _=>rfl⟩;obtain⟨m,a1,_⟩:=Z.loc;obtain⟨a5,nD,_,a4,_⟩:=Z.pin (D,o) (Pa _ Qt);have a1:s'.heap.Ns C m:=a1;have a2:upd H' D ob C=none:=by
  rw[aK (Qn Y)];exact Z.free
 obtain⟨f0,V,a3,f3,f4,f5⟩:=I2.fpOk I (I2.hok.fresh I);have fC:iG X pins (upd H' D ob) C:=⟨a2,V,a3,f3,f4,f5⟩;obtain⟨oC,es,ep,gC,dC,k1,k2⟩:=a1;have I4:=I3.pinned (fp:=[C]) (λb U=>by rw[PQ.mp U];exact fC) λb U=>⟨oC,by rw[PQ.mp U];exact gC,λv z=>by rw[dC]at z;cases z⟩;have ea:assignAll (.ref D) ((Rg [.Name x pos'] X.env).map (·.2))=VR (.Name x pos') X.env (.ref D):=by
  unfold assignAll;simp[Rg]
 rw[ea];refine Zy (jq I4 hN hi J (v:=.ref D) rfl (λa0 I5=>⟨m,?_,λh' sb=>?_⟩) O)
 .exact⟨oC,es,ep,(I5.pin (C,oC) (Pa _ (Pa _ (dZ (PQ.mpr rfl) gC)))).1,dC,k1,k2⟩
 .exact⟨_,_,I5.unpinned.turned (t':=a0.toks) (λb o U e=>sb.extBut b o U e) a2 V f3 f4 f5,q⟩
theorem Hx{i:Nat}{x:Str}(hx:X.xe=NoX)(Y:X.calm=true)(hN:X.N.Nodup)(hi:X.N[i]? =some x)(hl:Loc X.env.scope x)(O:d8 X.env.scope X.N N' scope cap)(a0:PI X target iter wi)
  (hg:∀C U H fp,PG (bT X N' scope C U H fp) target g) (ht:∀C U H fp,PTs (bT X N' scope C U H fp) ifs tt) (V:∀C U H fp,PE (bT X N' scope C U H fp) elt te)
  (hw:Wf (.ListComp elt [⟨target,iter,ifs,0⟩] scope pos) (some (.Name x pos')) pos2.line X.env=pure true:=by rfl) (F:∀x,R6 iter X.env x=pure x:=by intro _;rfl)
  (hf:X.fn x=true∨X.env.scope.names.lookup x=some .local:=by first|exact .inl rfl|exact .inr rfl|assumption):PS X (.Assign [.Name x pos'] (.ListComp elt [⟨target,iter,ifs,0⟩] scope pos) pos2) (GZ (yl cap wi g tt te) (rD i)):=by
 intro pins s σ H Dn I h;rw[exec_Assign_arm];refine eH (W5 ?_);rw[show Vb [.Name x pos'] (.ListComp elt [⟨target,iter,ifs,0⟩] scope pos) pos2.line X.env=pure true from hw];refine eH (yr ?_);rw[Pk rfl,arm_evalThenUse_ListComp];refine eH (eH (Xq (use:=some _) rfl F (jU λy j hk=>I.ok.has y.1 (O.free y j hk)) O.kind O.nm (thn (a0 pins s σ H _ I h) λv Z h1=>thn h1 λa3 s2 h2=>?_)));obtain⟨it,fp,tn,J,H2,e,I2,T,a1,f2,cw⟩:=h2;subst e;refine oV (RR:=λacc C=>compPost (model X.prog X.w) X.A X.xe (some _) _ acc C) Y O I2 T a1 f2 (λC=>hg C _ _ _) (λC=>ht C _ _ _) (λC=>V C _ _ _) cw ?_;intro D C s' H' ys its n B hD hC a2 I' rv q;obtain⟨hz,q⟩:=q;have nD:=(I'.pin (D,lobj its n) (Pa _ Qt)).2.1;refine thn (Iz (ob:=.lst ys) (Dn:=Dn) (pos':=pos') I2 f2 hD hC a2 I' (λh' e=>⟨hz,its,n,rv,e⟩) hN hi hl hf (q D nD)) λ_ a4 ⟨m,h1,h2⟩=>⟨m,h1,λh' sb=>yr (yr (h2 h' sb))⟩
end
end Jb
namespace PySem
open PySem.Builtin PySem.Builtin.SmallTypes
def ug(id:String):Builtin:=λargs=>do
 let x ←slotArgs "__next__" 0 args
 match x with
 |(self,snd)=>do
  let seq ←field self 0
  let j:Unit->Sem Zm:=λ_=>do
   let y ←field self 1
   match y with
   |WW i tok=>do
    let z ←X8 seq
    match z with
    |some xs=>
     match xs[i.toNat]? with
     |some v=>do
      setField self 1 (Q7 (i+1))
      ret v
     |none=>do
      rule (toString id++toString ".end")
      setField self 0 QK
      W_
    |_=>WR (toString "internal:"++toString id)
   |_=>WR (toString "internal:"++toString id)
  if(seq==QK)=true then do
   rule (toString id++toString ".ended")
   let r ←W_
   j r
  else j ()
theorem mU:Builtin.«tuple_iterator.__next__»=ug "tuple_iterator.__next__":=rfl
section
variable{prog:Program}{w:World}{A:Around}{E:Value->Shared->Prop}{it t:Addr}{i:Nat}{items:Array Value}{h:Heap}{g:Array GenState}{d:Drawn}{tk:Nat}{os:OsState}
theorem du{x:Value}{Q:Value->zc->Prop}(st:h.IsTupleIter it t i)(p:h.IsTuple t items)(J:items[i]? =some x)
  (j:∀h',h'.IsTupleIter it t (i+1)->TF it h h'->Q x ⟨h',g,d,tk,os⟩):wpAny (model prog w) A (T5 (.ref it)) Q E ⟨h,g,d,tk,os⟩:=by
 have O:(⟨h,g,d,tk,os⟩:zc).TypeIs (.ref it) "tuple_iterator":=st.typeIs;unfold T5;refine eH (QW O RD ?_);obtain⟨o,B,Y,hd⟩:=st;obtain⟨Z,h1,h2,n,N⟩:=p
 repeat(any_goals(first|assumption|wp_step))
 refine Ra RD.plain W2 (RD.check _ _ _ _ _ _ _ _ O (WL _) ?_);rw[mU];unfold ug
 repeat(any_goals(first|assumption|wp_step))
 rw[hd];refine yr (yr ?_);show wpAny _ _ (if(Qw t==QK)=true then _ else _) _ _ _;rw[show(Qw t==QK)=false from rfl,Pn Rx]
 repeat(any_goals(first|assumption|wp_step))
 rw[hd];refine yr (yr ?_);show wpAny _ _ (X8 (Qw t) >>=_) _ _ _;refine eH (T_ h1 N ?_);dsimp only;have hi:(i:Int).toNat=i:=R7 i;rw[hi,J];dsimp only;refine eH (wpAny_setField B hd (by show 1<2;decide) ?_);refine yr ?_;dsimp only;refine yr (j _ ?_ ⟨aaf ..,λb U=>Q0 h _ (Qn U)⟩);refine⟨_,TJ _ B (Ys (W0 hd _)),(ZL ..).trans Y,?_⟩;rw[W0 hd];have e1:(((i+1:Nat)):Int)=(i:Int)+1:=by omega
 rw[e1];rfl
theorem Gk{α:Type}{Q:α->zc->Prop}(I:A.handled=none)
  (N:∀h' e,(∀b o,h.get? b=some o->h'.get? b=some o)->(∃o,h'.get? e=some o/\o.cls= .type "StopIteration")->E (.ref e) ⟨h',g,d,tk,os⟩):wpAny (model prog w) A (W_:Sem α) Q E ⟨h,g,d,tk,os⟩:=by
 unfold W_
 repeat(any_goals(first|assumption|wp_step))
 unfold raiseNew;refine eH (W9 ?_);rw[I];dsimp only;exact V4 (N _ _ (λb o e=>gD _ (gD _ e)) ⟨_,Pz _ rfl,rfl⟩)
theorem iu{Q:Value->zc->Prop}(I:A.handled=none)(st:h.IsTupleIter it t i)(p:h.IsTuple t items)(J:items[i]? =none)
  (hq:∀h' e,Heap.ExtBut it h h'->(∃o,h'.get? e=some o/\o.cls= .type "StopIteration")->E (.ref e) ⟨h',g,d,tk,os⟩):wpAny (model prog w) A (T5 (.ref it)) Q E ⟨h,g,d,tk,os⟩:=by
 have O:(⟨h,g,d,tk,os⟩:zc).TypeIs (.ref it) "tuple_iterator":=st.typeIs;unfold T5;refine eH (QW O RD ?_);obtain⟨o,B,Y,hd⟩:=st;obtain⟨Z,h1,h2,n,N⟩:=p
 repeat(any_goals(first|assumption|wp_step))
 refine Ra RD.plain W2 (RD.check _ _ _ _ _ _ _ _ O (WL _) ?_);rw[mU];unfold ug
 repeat(any_goals(first|assumption|wp_step))
 rw[hd];refine yr (yr ?_);show wpAny _ _ (if(Qw t==QK)=true then _ else _) _ _ _;rw[show(Qw t==QK)=false from rfl,Pn Rx]
 repeat(any_goals(first|assumption|wp_step))
 rw[hd];refine yr (yr ?_);show wpAny _ _ (X8 (Qw t) >>=_) _ _ _;refine eH (T_ h1 N ?_);dsimp only;have hi:(i:Int).toNat=i:=R7 i;rw[hi,J];dsimp only;refine eH (Rz ?_);refine eH (wpAny_setField B hd (by show 0<2;decide) ?_);refine Gk (show A.in1.handled=none from I) λh' e q V=>?_;exact hq h' e (λb ob U j=>q b ob ((Q0 h _ (Qn U)).trans j)) V
theorem Draws.tuple(I:A.handled=none)(it t:Addr)(N:t≠it)(items:Array Value):Draws prog w A it [it,t] items.size (λi v=>items[i]? =some v) λi h=>h.IsTupleIter it t i/\h.IsTuple t items where
 live:=λi h st=>let⟨o,ho,_⟩:=st.1;⟨o,ho⟩
 frame:=λi h h' st k=>⟨st.1.at λo e=>k it (by simp) o e,let⟨o,h1,h2⟩:=st.2;⟨o,k t (by simp) o h1,h2⟩⟩
 item:=λi s Q E hi st k=>by
  obtain⟨h,g,d,tk,os⟩:=s;refine du st.1 st.2 (x:=items[i]) (by simp[hi]) λh' B U=>k _ h' tk (by simp[hi]) ⟨B,?_⟩ U;obtain⟨o,h1,h2⟩:=st.2;exact⟨o,(U.2 t N).trans h1,h2⟩
 done:=λs Q E st k=>by
  obtain⟨h,g,d,tk,os⟩:=s;exact iu I st.1 st.2 (by simp) λh' e Y V=>k h' e Y V
theorem Draws.tupleEnd(I:A.handled=none)(it t:Addr)(i:Nat)(items:Array Value)(J:items[i]? =none):Draws prog w A it [it,t] i (λ_ _=>False) λj h=>j=i/\h.IsTupleIter it t i/\h.IsTuple t items where
 live:=λj h st=>let⟨o,ho,_⟩:=st.2.1;⟨o,ho⟩
 frame:=λj h h' st k=>⟨st.1,st.2.1.at λo e=>k it (by simp) o e,let⟨o,h1,h2⟩:=st.2.2;⟨o,k t (by simp) o h1,h2⟩⟩
 item:=λj s Q E F st k=>absurd st.1 (PN F)
 done:=λs Q E st k=>by
  obtain⟨h,g,d,tk,os⟩:=s;exact iu I st.2.1 st.2.2 J λh' e Y V=>k h' e Y V
theorem pM{Q:Zm->zc->Prop}(Y:h.IsTuple t items)
  (N:Q (.done (.ret (.ref (h.objs.size+1)))) ⟨(h.push {cls:=.type "tuple_iterator",data:=.fields #[.ref t,.int 0 0]}).push {cls:=.type "enumerate",data:=.fields #[.none,.bool false,.ref h.objs.size,Q7 0,.none,.none]},g,d,tk,os⟩) :
  wpAny (model prog w) A (Builtin.«enumerate.__new__» ⟨[.type "enumerate",.ref t],[]⟩) Q E ⟨h,g,d,tk,os⟩:=by
 have V:=sub_enumerate
 repeat(any_goals(first|assumption|wp_step))
 refine wpAny_stack λst _ _ _=>?_;refine yr ?_;have q:wpAny (model prog w) A (do let it ←Yn (.ref t);let r ←aaw (R1 "enumerate") (Zx++[it,Q7 0,QK,QK]);ret r) Q E ⟨h,g,d,tk,os⟩:=by
  refine eH (wpAny_pyIter_tuple Y ?_)
  repeat(any_goals(first|assumption|wp_step))
  rw[Rc];exact N
 dsimp only;split
 .split
  .refine eH (Uz (a:=(Qw t,none)) (by rfl) ?_)
   exact q
  .refine eH (Uz (a:=(Qw t,none)) (by rfl) ?_)
   exact q
 .rw[Pn (by decide)]
  refine eH (Uz (a:=(Qw t,none)) (by rfl) ?_);exact q
theorem jz{Q:Value->zc->Prop}(Y:h.IsTuple t items)
  (N:∀h',IsEnum h' (h.objs.size+1) h.objs.size 0 .none->h'.IsTupleIter h.objs.size t 0->h'.objs.size=h.objs.size+2->(∀b o,h.get? b=some o->h'.get? b=some o)->Q (.ref (h.objs.size+1)) ⟨h',g,d,tk,os⟩) :
  wpAny (model prog w) A (call (.type "enumerate") [.ref t]) Q E ⟨h,g,d,tk,os⟩:=by
 have e1:((h.push {cls:=.type "tuple_iterator",data:=.fields #[.ref t,.int 0 0]}).push {cls:=.type "enumerate",data:=.fields #[.none,.bool false,.ref h.objs.size,Q7 0,.none,.none]}).get? (h.objs.size+1)=some {cls:=.type "enumerate",data:=.fields #[.none,.bool false,.ref h.objs.size,Q7 0,.none,.none]}:=by
  rw[←Rc h {cls:=.type "tuple_iterator",data:=.fields #[.ref t,.int 0 0]}];exact Pz _ rfl
 refine callType_newIn F.called_enumerate (by decide) (F.typeCall_enumerate_1 _) (F.newCall_enumerate_1 _) (λobj=>F.args_object_init_2 _ _) F.entry_enumerate_new (S:=λZ R s'=>s'=⟨h,g,d,tk,os⟩/\R (.ok (.ret (.ref (h.objs.size+1)))) ⟨(h.push {cls:=.type "tuple_iterator",data:=.fields #[.ref t,.int 0 0]}).push {cls:=.type "enumerate",data:=.fields #[.none,.bool false,.ref h.objs.size,Q7 0,.none,.none]},g,d,tk,os⟩) ?_ ⟨rfl,⟨⟨_,e1,rfl⟩,N _ e1 ⟨_,gD _ (Pz _ rfl),rfl,rfl⟩ (by rw[Rc,Rc]) λb o e=>gD _ (gD _ e)⟩⟩;rintro Z R s' ⟨rfl,U⟩;exact pM Y U
end
end PySem
namespace Jb
open PySem PySem.Spec PyProof.Rows L2
def Ng(K:Pu)(a:Addr):It:=
 ⟨λi H=>∃xs x,SqT K H a xs/\xs[i]? =some x,λi H x H'=>∃p v,H p=none/\x= .ref p/\(∀xs,SqT K H a xs->xs[i]? =some v)/\H'=upd H p (.tup [.int i,v]),λi H=>∃xs,SqT K H a xs/\xs.length<=i⟩
theorem xg{K:Pu}{x1}(a e it:Addr)(a3:e≠it)(a8:e≠a)(a7:it≠a) :
  Turn P w K (.Tuple elts x1 pos) (Ng K a) [e,it] e (λi h=>(∃a0,IsEnum h e it (i:Int) a0)/\h.IsTupleIter it a i)where
 mem:=by simp
 obj:=λi h st b U=>by
  obtain⟨⟨a0,V⟩,o,B,c,d⟩:=st;rcases Pj.mp U with z|z
  .subst z
   exact⟨_,V,λv z=>by cases z⟩
  .have z:b=it:=by simpa using z
   subst z;exact⟨o,B,λv z=>by rw[d]at z;cases z⟩
 keep:=λi h h' st k=>by
  obtain⟨⟨a0,V⟩,a1⟩:=st;exact⟨⟨a0,k e (by simp) _ V⟩,a1.at λo q=>k it (by simp) o q⟩
 item:=by
  intro X hP hw hK Y i pins s σ H E I O st hg;subst hP hw hK;obtain⟨xs,x,N,J⟩:=hg;obtain⟨its,F,p,hz⟩:=I.tuple N;obtain⟨u,hu,ru⟩:=F.get J;obtain⟨⟨a0,V⟩,a1⟩:=st;have b0:i<its.toArray.size:=by simp;exact(Mx.mp hu).1
  have p':s.heap.IsTuple a its.toArray:=p;refine wpAny_pyNext_enum_itemD (Draws.tuple (show X.A.in1.handled=none from I.ok.hd Y) it a (Qn a7) its.toArray) V ⟨a1,p'⟩ b0 a3 (λz=>by rcases Pj.mp z with q|q;exact a3 q;exact a8 (PQ.mp q)) λy h1 tk j a9 a4 a6 b4 k1=>?_;have ey:y=u:=by
   have:its[i]? =some y:=by simpa using j
   rw[hu]at this;exact(QR this).symm
  subst ey;refine⟨.ref s.heap.objs.size,rfl,W8 a9 λh2 b1 a2=>?_⟩;have b2:e<s.heap.objs.size:=Ph V;have a5:s.heap.objs.size≠e:=Sh b2;have b3:h2.get? s.heap.objs.size=some {cls:=.type "tuple",data:=.seq #[.int i tk,y]}:=a2.extBut _ _ a5 a6;have I2:Inv X pins σ (upd H s.heap.objs.size (.tup [.int i,x])) {s with heap:=h2,toks:=tk+1}:=by
   refine lz (fp:=[e,it]) (t':=tk+1) I O (λb o U q=>?_) (Pg _) ?_
   .have n1:b≠e:=λz=>U (by simp[z])
    have n2:b≠it:=λz=>U (by simp[z]);exact a2.extBut b o n1 (k1 b o n1 n2 q)
   .exact⟨by show 2<=Px;decide,[.int i tk,y],.cons ⟨_,rfl⟩ (.cons ru .nil),_,b3,rfl,_,rfl,rfl⟩
  refine⟨.ref s.heap.objs.size,upd H s.heap.objs.size (.tup [.int i,x]),I2,rfl,⟨_,x,I.hok.fresh (Pg _),rfl,λys j=>by rw[I.tuple_inj j N];exact J,rfl⟩,?_,λb U=>?_⟩
  .refine⟨⟨y,?_⟩,a4.1.extBut a2.extBut (Qn a3)⟩
   have e1:(((i+1:Nat)):Int)=(i:Int)+1:=by omega
   rw[e1];exact b1
  .rw[aK]
   .exact(O b U).1
   .intro z
    rw[z]at U;rcases Pj.mp U with q|q
    .exact a5 q
    .have q:s.heap.objs.size=it:=by simpa using q
     obtain⟨o,B,_⟩:=a1;exact absurd (Ph B) (by rw[q];exact Rt _)
 done:=by
  intro X hP hw hK Y i pins s σ H E I O st hg;subst hP hw hK;obtain⟨xs,N,J⟩:=hg;obtain⟨its,F,p,hz⟩:=I.tuple N;obtain⟨⟨a0,V⟩,a1⟩:=st;have Z:=F.length;have p':s.heap.IsTuple a its.toArray:=p;refine wpAny_pyNext_enum_endD (Draws.tupleEnd (show X.A.in1.handled=none from I.ok.hd Y) it a i its.toArray (by simp;omega)) V ⟨rfl,a1,p'⟩ λh1 eb=>⟨rfl,?_⟩;exact gJ (fp:=[e,it]) (t':=s.toks) I O λb o U q=>eb b o (λz=>U (by simp[z])) q
 self:=λA i s Q E st h=>by
  obtain⟨⟨a0,V⟩,_⟩:=st;exact VD V h
def CV(K:Pu)(ta:TA):TI:=λσ H R=>ta σ H λvs H1=>∃a,vs=[.ref a]/\(((∃xs,SqL K H1 a xs)/\R (Ite K a) H1)∨((∃xs,SqT K H1 a xs)/\R (Ng K a) H1))
variable{X:Cx}{p:Pos}
theorem BV{a:Expr}{ta:TA}{x1}(j:Gl X "enumerate")(hm:X.mg "enumerate"=none)(O:PA X [a] ta)(F:PK [a] X.env=[(false,eval a X.env)]:=by rfl):PI X (.Tuple elts x1 tpos) (.Call (.Name "enumerate" p) [a] [] pos) (CV X.K ta):=by
 intro pins s σ H R I h;refine Call_ (jr I j hm boot_enumerate (R_ (thn (O pos pins s σ H _ I h) λB Z ⟨vs,H1,J,r1,q1⟩=>?_) F rfl));obtain⟨l,e,q⟩:=q1;subst e;obtain⟨u,rfl,ru⟩:=vals1 r1;cases ru;have a4:∀b∈[Z.heap.objs.size+1,Z.heap.objs.size],iG X pins H1 b:=λb U=>by
  have a2:Z.heap.objs.size<=b:=by
   rcases Pj.mp U with z|z
   .rw[z];exact Z4 _
   .have z:b=Z.heap.objs.size:=by simpa using z
    rw[z];exact Pg _
  exact J.fpOk a2 (J.hok.fresh a2)
 rcases q with⟨⟨xs,N⟩,q⟩|⟨⟨xs,N⟩,q⟩
 .obtain⟨its,rv,pl,hz⟩:=J.list N
  refine call_enumerate_list pl.isList λh1 V a0 hsz k1=>?_;have I2:Inv X pins σ H1 {Z with heap:=h1}:=J.kept (t':=Z.toks) k1;refine VD V ?_;exact⟨Z.heap.objs.size+1,[Z.heap.objs.size+1,Z.heap.objs.size],_,_,H1,rfl,I2,Ai l _ _ (aag _),⟨⟨_,V⟩,a0⟩,a4,q⟩
 .obtain⟨its,rv,pl,hz⟩:=J.tuple N
  have a1:Z.heap.IsTuple l its.toArray:=pl;have a3:l<Z.heap.objs.size:=let⟨_,h1,_⟩:=a1;Ph h1;obtain⟨Y,g,d,tk,os⟩:=Z;refine jz a1 λh1 V a0 hsz k1=>?_;have I2:Inv X pins σ H1 {heap:=h1,gens:=g,drawn:=d,toks:=tk,os:=os}:=J.kept (t':=tk) k1;refine VD V ?_;exact⟨Y.objs.size+1,[Y.objs.size+1,Y.objs.size],_,_,H1,rfl,I2,xg l _ _ (aag _) (Sh (TY a3)) (Sh a3),⟨⟨_,V⟩,a0⟩,a4,q⟩
def JW(K:Pu)(te:TE):TI:=λσ H R=>te σ H λx H1=>∃a,x= .ref a/\(((∃xs,SqL K H1 a xs)/\R (Itl K a) H1)∨((∃xs,SqT K H1 a xs)/\R (Itt K a) H1))
variable{te:TE}
theorem CQ(B:PE X e te):PI X tg e (JW X.K te):=by
 intro pins s σ H R I h;refine thn (B pins s σ H _ I h) λv Z ⟨x,H1,J,Y,q1⟩=>?_;obtain⟨a,ex,q⟩:=q1;subst ex;cases Y;have j:∀b∈[Z.heap.objs.size],iG X pins H1 b:=λb U=>by
  rw[PQ.mp U];exact J.fpOk (Pg _) (J.hok.fresh (Pg _))
 rcases q with⟨⟨xs,N⟩,q⟩|⟨⟨xs,N⟩,q⟩
 .obtain⟨its,rv,p,hz⟩:=J.list N
  refine VF p.isList ?_;exact⟨Z.heap.objs.size,[Z.heap.objs.size],_,_,H1,rfl,J.kept (t':=Z.toks) λb o e=>gD _ e,Am a _,⟨_,Pz _ rfl,rfl,rfl⟩,j,q⟩
 .obtain⟨its,rv,p,hz⟩:=J.tuple N
  refine wpAny_pyIter_tuple (show Z.heap.IsTuple a its.toArray from p) ?_;exact⟨Z.heap.objs.size,[Z.heap.objs.size],_,_,H1,rfl,J.kept (t':=Z.toks) λb o e=>gD _ e,wX a _,⟨_,Pz _ rfl,rfl,rfl⟩,j,q⟩
inductive Mk where
 |own|frz|brw|bro|scr
 deriving DecidableEq
inductive D where
 |non|bl (b:Bool)|int (i:Int)|str (x:Str)|ty (n:String)
 |tup (ds:List D)
 |lst (m:Mk) (ds:List D)
 |dct (m:Mk) (ks:List Key) (ds:List D)
 |ins (m:Mk) (c:Str) (fs:List Str) (ds:List D)
structure Gc where
 K:Pu
 mg:Str->Option Value
structure Wn where
 n:Addr->Prop
 s:Addr->Prop
 o:Addr->Prop
def Wn.free(W:Wn)(a:Addr):Prop:=¬W.n a/\¬W.s a/\¬W.o a
def KO(K:Pu)(a:Addr)(o:HO):Prop:=∃xs,o= .lst xs/\∃(ob:Obj)(its:Array Value)(n:Nat),K.lookup a=some ob/\ob.cls= .type "list"/\ob.dict=none/\ob.data= .seq its n/\its.size<=Px/\Vals xs its.toList
def bN(j:Addr->HO->Prop)(H:Hp)(W:Wn)(a:Addr)(o:HO):Mk->List Addr->List Addr->Prop
 |.own,L,M=>H a=some o/\L=a::M
 |.frz,L,M=>H a=some o/\W.free a/\M=[]/\L=[]
 |.brw,L,M=>H a=some o/\W.s a/\M=[]/\L=[]
 |.bro,L,M=>H a=some o/\M=[]/\L=[]
 |.scr,L,M=>((Rd H a o/\W.free a)∨j a o)/\M=[]/\L=[]
variable{j:Addr->HO->Prop}{H:Hp}{W:Wn}{o:HO}{m:Mk}
theorem bN.sub(h:bN j H W a o m L M):RG M L:=by
 cases m with
 |own=>rw[h.2];exact List.sublist_cons_self a M
 |frz=>rw[h.2.2.1];exact V_ L
 |brw=>rw[h.2.2.1];exact V_ L
 |bro=>rw[h.2.1];exact V_ L
 |scr=>rw[h.2.1];exact V_ L
theorem bN.rx(h:bN j H W a o m L M):Rd H a o∨j a o:=by
 cases m with
 |own=>exact .inl (.inl h.1)
 |frz=>exact .inl (.inl h.1)
 |brw=>exact .inl (.inl h.1)
 |bro=>exact .inl (.inl h.1)
 |scr=>exact h.1.imp (λz=>z.1) id
variable{xs:List V}
theorem bN.sq{K:Pu}(h:bN (KO K) H W a (.lst xs) m L M):SqL K H a xs:=by
 rcases h.rx with z|⟨ys,e,z⟩
 .exact .inl z
 .cases e
  exact .inr z
variable{kvs:List (Key×V)}
theorem bN.rdD{K:Pu}(h:bN (KO K) H W a (.dK kvs) m L M):Rd H a (.dK kvs):=by
 rcases h.rx with z|⟨ys,e,z⟩
 .exact z
 .cases e
theorem bN.at(h:bN j H W a o m L M)(V:m≠.scr):H a=some o:=by
 cases m with
 |own=>exact h.1
 |frz=>exact h.1
 |brw=>exact h.1
 |bro=>exact h.1
 |scr=>exact absurd rfl V
mutual
noncomputable def Rep(G:Gc)(H:Hp)(W:Wn):D->V->List Addr->Prop
 |.non,v,L=>v= .non/\L=[]
 |.bl b,v,L=>v= .bl b/\L=[]
 |.int i,v,L=>v= .int i/\L=[]
 |.str x,v,L=>v= .str x/\L=[]
 |.ty n,v,L=>v= .ty n/\L=[]
 |.tup ds,v,L=>∃a xs,v= .ref a/\H a=some (.tup xs)/\aF G H W ds xs L
 |.lst m ds,v,L=>∃a xs M,v= .ref a/\aF G H W ds xs M/\bN (KO G.K) H W a (.lst xs) m L M
 |.dct m ks ds,v,L=>∃a kvs M,v= .ref a/\(Qc (·.1) kvs=ks/\ks.Nodup)/\aF G H W ds (Qc (·.2) kvs) M/\bN (KO G.K) H W a (.dK kvs) m L M
 |.ins m c fs ds,v,L=>∃a C dx kvs M,v= .ref a/\G.mg c=some (.ref C)/\Qc (·.1) kvs=fs/\aF G H W ds (Qc (·.2) kvs) M/\bN (KO G.K) H W a (.ins C dx kvs) m L M
noncomputable def aF(G:Gc)(H:Hp)(W:Wn):List D->List V->List Addr->Prop
 |[],xs,L=>xs=[]/\L=[]
 |d::r,xs,L=>∃x ys M M',xs=x::ys/\L=M++M'/\Rep G H W d x M/\aF G H W r ys M'
end
variable{G:Gc}
theorem aF.nil:aF G H W [] [] []:=by simp[aF]
theorem aF.cons{d:D}{r:List D}{x:V}{ys:List V}{M M':List Addr}(h:Rep G H W d x M)(t:aF G H W r ys M'):aF G H W (d::r) (x::ys) (M++M'):=by
 rw[aF];exact⟨x,ys,M,M',rfl,rfl,h,t⟩
variable{d:D}
theorem aF.one{x:V}(h:Rep G H W d x M):aF G H W [d] [x] M:=by
 have:=aF.cons h aF.nil;rwa[Ql]at this
theorem aF.inv{r:List D}(h:aF G H W (d::r) xs L):∃x ys M M',xs=x::ys/\L=M++M'/\Rep G H W d x M/\aF G H W r ys M':=by
 rw[aF]at h;exact h
theorem aF.inv0(h:aF G H W [] xs L):xs=[]/\L=[]:=by
 rw[aF]at h;exact h
theorem aF.length:∀{ds:List D}{xs:List V}{L:List Addr},aF G H W ds xs L->ds.length=xs.length
 |[],xs,L,h=>by rw[h.inv0.1];rfl
 |d::r,xs,L,h=>by
  obtain⟨x,ys,M,M',rfl,_,_,h⟩:=h.inv;simp[aF.length h]
theorem aF.append:∀{ds es:List D}{xs ys:List V}{L M:List Addr},aF G H W ds xs L->aF G H W es ys M->aF G H W (ds++es) (xs++ys) (L++M)
 |[],es,xs,ys,L,M,h,h'=>by obtain⟨rfl,rfl⟩:=h.inv0;exact h'
 |d::r,es,xs,ys,L,M,h,h'=>by
  obtain⟨x,zs,A,B,rfl,rfl,h1,h2⟩:=h.inv;rw[Qi];exact .cons h1 (aF.append h2 h')
theorem aF.split:∀{ds es:List D}{xs:List V}{L:List Addr},aF G H W (ds++es) xs L->∃ys zs A B,xs=ys++zs/\L=A++B/\aF G H W ds ys A/\aF G H W es zs B
 |[],es,xs,L,h=>⟨[],xs,[],L,rfl,rfl,.nil,h⟩
 |d::r,es,xs,L,h=>by
  obtain⟨x,zs,A,B,rfl,rfl,h1,h2⟩:=aF.inv (r:=r++es) h;obtain⟨ys,J,Z,j,rfl,rfl,N,q⟩:=aF.split h2;exact⟨x::ys,J,A++Z,j,rfl,by rw[Qi],.cons h1 N,q⟩
variable{ds:List D}
theorem aF.at{j:Nat}(h:aF G H W ds xs L)(e:ds[j]? =some d) :
  ∃A B x ys zs I M O,ds=A++d::B/\A.length=j/\xs=ys++x::zs/\ys.length=j/\L=I++(M++O)/\aF G H W A ys I/\Rep G H W d x M/\aF G H W B zs O:=by
 have F:j<ds.length:=(Mx.mp e).1;have hd:ds=ds.take j++d::ds.drop (j+1):=by
  have:ds[j]=d:=(Mx.mp e).2;rw[←this,Tv,Qj]
 rw[hd]at h;obtain⟨ys,zs,A,B,rfl,rfl,h1,h2⟩:=aF.split h;obtain⟨x,J,M,M',rfl,rfl,N,q⟩:=h2.inv;have Z:(ds.take j).length=j:=by rw[Rm];omega
 exact⟨_,_,x,ys,J,A,M,M',hd,Z,rfl,by rw[←h1.length];exact Z,rfl,h1,N,q⟩
theorem aF.get{j:Nat}(h:aF G H W ds xs L)(e:ds[j]? =some d):∃x M,xs[j]? =some x/\Rep G H W d x M/\RG M L:=by
 obtain⟨A,B,x,ys,zs,I,M,O,_,_,rfl,Z,rfl,_,h,_⟩:=h.at e;exact⟨x,M,by rw[Qz (by omega),Z,Wq];rfl,h,(Vr M O).trans (RQ I _)⟩
def muO:HO->Bool
 |.lst _=>true
 |.dK _=>true
 |.ins _ _ _=>true
 |_=>false
def Mu(H:Hp)(a:Addr):Prop:=∃o,H a=some o/\muO o=true
mutual
noncomputable def aA:D->Bool
 |.tup ds=>aB ds
 |.lst m ds=>m != .brw&&aB ds
 |.dct m _ ds=>m != .brw&&aB ds
 |.ins m _ _ ds=>m != .brw&&aB ds
 |_=>true
noncomputable def aB:List D->Bool
 |[]=>true
 |d::r=>aA d&&aB r
end
mutual
noncomputable def az:D->Bool
 |.tup ds=>aD ds
 |.lst m ds=>m != .bro&&aD ds
 |.dct m _ ds=>m != .bro&&aD ds
 |.ins m _ _ ds=>m != .bro&&aD ds
 |_=>true
noncomputable def aD:List D->Bool
 |[]=>true
 |d::r=>az d&&aD r
end
def clean(d:D):Bool:=aA d&&az d
structure Evo(H H':Hp)(W W':Wn):Prop where
 k:∀b u,H b=some u->W.free b->H' b=some u/\W'.free b
 t:∀b xs,H b=some (.tup xs)->H' b=some (.tup xs)
def BR(H H':Hp)(W W':Wn):Prop:=∀b u,H b=some u->W.s b->H' b=some u/\W'.s b
variable{H':Hp}{W':Wn}
theorem Evo.rd(e:Evo H H' W W')(h:Rd H a o)(f:W.free a):Rd H' a o/\W'.free a:=by
 rcases h with h|⟨u,h⟩
 .exact⟨.inl (e.k a _ h f).1,(e.k a _ h f).2⟩
 .exact⟨.inr ⟨u,(e.k a _ h f).1⟩,(e.k a _ h f).2⟩
theorem bN.mono(e:Evo H H' W W')(h:bN j H W a o m L M)(U:m≠.brw∨BR H H' W W')(B:m≠.bro∨Same H H')(N:∀c∈L,∀u,H c=some u->H' c=some u):bN j H' W' a o m L M:=by
 cases m with
 |own=>exact⟨N a (by rw[h.2];simp) o h.1,h.2⟩
 |frz=>exact⟨(e.k a o h.1 h.2.1).1,(e.k a o h.1 h.2.1).2,h.2.2⟩
 |brw=>
  have q:=(U.resolve_left λz=>z rfl) a o h.1 h.2.1;exact⟨q.1,q.2,h.2.2⟩
 |bro=>exact⟨(B.resolve_left λz=>z rfl) a o h.1,h.2⟩
 |scr=>exact⟨h.1.imp (λz=>e.rd z.1 z.2) id,h.2⟩
theorem Same.rd(s:Same H H')(h:Rd H a o):Rd H' a o:=h.imp (s _ _) λ⟨u,z⟩=>⟨u,s _ _ z⟩
mutual
theorem Rep.mono(e:Evo H H' W W'):∀{d:D}{v:V}{L:List Addr},Rep G H W d v L->(aA d=true∨BR H H' W W')->(az d=true∨Same H H')->(∀c∈L,∀u,H c=some u->H' c=some u)->Rep G H' W' d v L
 |.non,v,L,h,_,_,_=>by rw[Rep]at h⊢;exact h
 |.bl _,v,L,h,_,_,_=>by rw[Rep]at h⊢;exact h
 |.int _,v,L,h,_,_,_=>by rw[Rep]at h⊢;exact h
 |.str _,v,L,h,_,_,_=>by rw[Rep]at h⊢;exact h
 |.ty _,v,L,h,_,_,_=>by rw[Rep]at h⊢;exact h
 |.tup ds,v,L,h,b,o,hl=>by
  rw[Rep]at h⊢;obtain⟨a,xs,rfl,U,Z⟩:=h;exact⟨a,xs,rfl,e.t a xs U,aF.mono e Z (by simpa[aA]using b) (by simpa[az]using o) hl⟩
 |.lst m ds,v,L,h,b,o,hl=>by
  rw[Rep]at h⊢;obtain⟨a,xs,M,rfl,Z,F⟩:=h;exact⟨a,xs,M,rfl,aF.mono e Z (b.imp (λz=>by simp[aA]at z;exact z.2) id) (o.imp (λz=>by simp[az]at z;exact z.2) id) λc Y=>hl c (F.sub.subset Y),F.mono e (b.imp (λz=>by simp[aA]at z;exact z.1) id) (o.imp (λz=>by simp[az]at z;exact z.1) id) hl⟩
 |.dct m ks ds,v,L,h,b,o,hl=>by
  rw[Rep]at h⊢;obtain⟨a,xs,M,rfl,J,Z,F⟩:=h;exact⟨a,xs,M,rfl,J,aF.mono e Z (b.imp (λz=>by simp[aA]at z;exact z.2) id) (o.imp (λz=>by simp[az]at z;exact z.2) id) λc Y=>hl c (F.sub.subset Y),F.mono e (b.imp (λz=>by simp[aA]at z;exact z.1) id) (o.imp (λz=>by simp[az]at z;exact z.1) id) hl⟩
 |.ins m c fs ds,v,L,h,b,o,hl=>by
  rw[Rep]at h⊢;obtain⟨a,C,dx,xs,M,rfl,I,J,Z,F⟩:=h;exact⟨a,C,dx,xs,M,rfl,I,J,aF.mono e Z (b.imp (λz=>by simp[aA]at z;exact z.2) id) (o.imp (λz=>by simp[az]at z;exact z.2) id) λc Y=>hl c (F.sub.subset Y),F.mono e (b.imp (λz=>by simp[aA]at z;exact z.1) id) (o.imp (λz=>by simp[az]at z;exact z.1) id) hl⟩
theorem aF.mono(e:Evo H H' W W'):∀{ds:List D}{vs:List V}{L:List Addr},aF G H W ds vs L->(aB ds=true∨BR H H' W W')->(aD ds=true∨Same H H')->(∀c∈L,∀u,H c=some u->H' c=some u)->aF G H' W' ds vs L
 |[],vs,L,h,_,_,_=>by rw[aF]at h⊢;exact h
 |d::r,vs,L,h,b,o,hl=>by
  obtain⟨x,ys,M,M',rfl,rfl,h1,h2⟩:=h.inv;exact .cons (Rep.mono e h1 (b.imp (λz=>by simp[aB]at z;exact z.1) id) (o.imp (λz=>by simp[aD]at z;exact z.1) id) λb U=>hl b (PL _ U))
   (aF.mono e h2 (b.imp (λz=>by simp[aB]at z;exact z.2) id) (o.imp (λz=>by simp[aD]at z;exact z.2) id) λb U=>hl b (Pa _ U))
end
structure Up(H H':Hp)(W W':Wn):Prop where
 s:Same H H'
 f:∀b u,H b=some u->W.free b->W'.free b
 n:∀b u,H b=some u->W.s b->W'.s b
theorem Up.evo(u:Up H H' W W'):Evo H H' W W':=⟨λb o h f=>⟨u.s b o h,u.f b o h f⟩,λb xs h=>u.s b _ h⟩
theorem Up.evoN(u:Up H H' W W'):BR H H' W W':=λb o h f=>⟨u.s b o h,u.n b o h f⟩
theorem Up.refl:Up H H W W:=⟨Same.refl H,λ_ _ _ f=>f,λ_ _ _ f=>f⟩
variable{H2:Hp}
theorem Up.trans{B:Wn}(a:Up H H' W W')(b:Up H' H2 W' B):Up H H2 W B:=⟨a.s.trans b.s,λc u h f=>b.f c u (a.s c u h) (a.f c u h f),λc u h f=>b.n c u (a.s c u h) (a.n c u h f)⟩
variable{v:V}
theorem Rep.up(h:Rep G H W d v L)(u:Up H H' W W'):Rep G H' W' d v L:=h.mono u.evo (.inr u.evoN) (.inr u.s) λc _ o e=>u.s c o e
theorem aF.up{d:List D}{v:List V}(h:aF G H W d v L)(u:Up H H' W W'):aF G H' W' d v L:=h.mono u.evo (.inr u.evoN) (.inr u.s) λc _ o e=>u.s c o e
def Wn.add(W:Wn)(L:List Addr):Wn:=⟨λa=>a∈L∨W.n a,W.s,W.o⟩
theorem Up.add(s:Same H H')(N:∀a∈L,H a=none):Up H H' W (W.add L):=⟨s,λb u h f=>⟨λz=>z.elim (λz=>by rw[N b z]at h;cases h) f.1,f.2⟩,λb u h f=>f⟩
theorem Up.same(s:Same H H'):Up H H' W W:=⟨s,λ_ _ _ f=>f,λ_ _ _ f=>f⟩
def mkV(ob:Bool):Mk->Mk
 |.own=>if ob then .bro else .brw
 |m=>m
def mkF:Mk->Mk
 |.scr=>.scr
 |_=>.frz
mutual
noncomputable def view(ob:Bool):D->D
 |.tup ds=>.tup (gf ob ds)
 |.lst m ds=>.lst (mkV ob m) (gf ob ds)
 |.dct m ks ds=>.dct (mkV ob m) ks (gf ob ds)
 |.ins m c fs ds=>.ins (mkV ob m) c fs (gf ob ds)
 |d=>d
noncomputable def gf(ob:Bool):List D->List D
 |[]=>[]
 |d::r=>view ob d::gf ob r
end
mutual
noncomputable def fz:D->D
 |.tup ds=>.tup (fzL ds)
 |.lst m ds=>.lst (mkF m) (fzL ds)
 |.dct m ks ds=>.dct (mkF m) ks (fzL ds)
 |.ins m c fs ds=>.ins (mkF m) c fs (fzL ds)
 |d=>d
noncomputable def fzL:List D->List D
 |[]=>[]
 |d::r=>fz d::fzL r
end
theorem dH(ob:Bool):∀ds:List D,gf ob ds=ds.map (view ob)
 |[]=>rfl
 |d::r=>by rw[gf,dH ob r];rfl
theorem gF:∀ds:List D,fzL ds=ds.map fz
 |[]=>rfl
 |d::r=>by rw[fzL,gF r];rfl
theorem bN.view{ob:Bool}(hn:ob=false->∀c∈L,W.s c)(h:bN j H W a o m L M):bN j H W a o (mkV ob m) [] []:=by
 cases m with
 |own=>
  cases ob with
  |false=>exact⟨h.1,hn rfl a (by rw[h.2];simp),rfl,rfl⟩
  |true=>exact⟨h.1,rfl,rfl⟩
 |frz=>exact⟨h.1,h.2.1,rfl,rfl⟩
 |brw=>exact⟨h.1,h.2.1,rfl,rfl⟩
 |bro=>exact⟨h.1,rfl,rfl⟩
 |scr=>exact⟨h.1,rfl,rfl⟩
mutual
theorem Rep.view{ob:Bool}:∀{d:D}{v:V}{L:List Addr},Rep G H W d v L->(ob=false->∀c∈L,W.s c)->Rep G H W (view ob d) v []
 |.non,v,L,h,_=>by rw[Rep]at h;simp[Jb.view,Rep,h]
 |.bl _,v,L,h,_=>by rw[Rep]at h;simp[Jb.view,Rep,h]
 |.int _,v,L,h,_=>by rw[Rep]at h;simp[Jb.view,Rep,h]
 |.str _,v,L,h,_=>by rw[Rep]at h;simp[Jb.view,Rep,h]
 |.ty _,v,L,h,_=>by rw[Rep]at h;simp[Jb.view,Rep,h]
 |.tup ds,v,L,h,hn=>by
  rw[Rep]at h;rw[Jb.view,Rep];obtain⟨a,xs,rfl,U,Z⟩:=h;exact⟨a,xs,rfl,U,aF.view Z hn⟩
 |.lst m ds,v,L,h,hn=>by
  rw[Rep]at h;rw[Jb.view,Rep];obtain⟨a,xs,M,rfl,Z,F⟩:=h;exact⟨a,xs,[],rfl,aF.view Z λz c Y=>hn z c (F.sub.subset Y),F.view hn⟩
 |.dct m ks ds,v,L,h,hn=>by
  rw[Rep]at h;rw[Jb.view,Rep];obtain⟨a,xs,M,rfl,J,Z,F⟩:=h;exact⟨a,xs,[],rfl,J,aF.view Z λz c Y=>hn z c (F.sub.subset Y),F.view hn⟩
 |.ins m c fs ds,v,L,h,hn=>by
  rw[Rep]at h;rw[Jb.view,Rep];obtain⟨a,C,dx,xs,M,rfl,I,J,Z,F⟩:=h;exact⟨a,C,dx,xs,[],rfl,I,J,aF.view Z λz c Y=>hn z c (F.sub.subset Y),F.view hn⟩
theorem aF.view{ob:Bool}:∀{ds:List D}{vs:List V}{L:List Addr},aF G H W ds vs L->(ob=false->∀c∈L,W.s c)->aF G H W (gf ob ds) vs []
 |[],vs,L,h,_=>by obtain⟨rfl,_⟩:=h.inv0;rw[gf];exact .nil
 |d::r,vs,L,h,hn=>by
  obtain⟨x,ys,M,M',rfl,rfl,h1,h2⟩:=h.inv;rw[gf];exact .cons (M:=[]) (M':=[]) (Rep.view h1 λz c Y=>hn z c (PL _ Y)) (aF.view h2 λz c Y=>hn z c (Pa _ Y))
end
structure Les(H:Hp)(W W':Wn)(L:List Addr):Prop where
 f:∀a,W.free a->W'.free a
 l:∀a∈L,W'.free a
theorem Les.sub(h:Les H W W' L)(s:∀a∈M,a∈L):Les H W W' M:=⟨h.f,λa O=>h.l a (s a O)⟩
def jL(W:Wn):Prop:=∀a,W.free a
theorem bN.fz(F:Les H W W' L)(hn:(m≠.brw/\m≠.bro)∨jL W')(h:bN j H W a o m L M):bN j H W' a o (mkF m) [] []:=by
 cases m with
 |own=>exact⟨h.1,F.l a (by rw[h.2];simp),rfl,rfl⟩
 |frz=>exact⟨h.1,F.f a h.2.1,rfl,rfl⟩
 |brw=>exact⟨h.1,hn.elim (λz=>absurd rfl z.1) λz=>z a,rfl,rfl⟩
 |bro=>exact⟨h.1,hn.elim (λz=>absurd rfl z.2) λz=>z a,rfl,rfl⟩
 |scr=>exact⟨h.1.imp (λz=>⟨z.1,F.f a z.2⟩) id,rfl,rfl⟩
mutual
theorem Rep.fz:∀{d:D}{v:V}{L:List Addr},Rep G H W d v L->Les H W W' L->(clean d=true∨jL W')->Rep G H W' (fz d) v []
 |.non,v,L,h,_,_=>by rw[Rep]at h;simp[Jb.fz,Rep,h]
 |.bl _,v,L,h,_,_=>by rw[Rep]at h;simp[Jb.fz,Rep,h]
 |.int _,v,L,h,_,_=>by rw[Rep]at h;simp[Jb.fz,Rep,h]
 |.str _,v,L,h,_,_=>by rw[Rep]at h;simp[Jb.fz,Rep,h]
 |.ty _,v,L,h,_,_=>by rw[Rep]at h;simp[Jb.fz,Rep,h]
 |.tup ds,v,L,h,F,c=>by
  rw[Rep]at h;rw[Jb.fz,Rep];obtain⟨a,xs,rfl,U,Z⟩:=h;exact⟨a,xs,rfl,U,aF.fz Z F (c.imp (λz=>by simpa[clean,aA,az]using z) id)⟩
 |.lst m ds,v,L,h,he,c=>by
  rw[Rep]at h;rw[Jb.fz,Rep];obtain⟨a,xs,M,rfl,Z,F⟩:=h;exact⟨a,xs,[],rfl,aF.fz Z (he.sub λc Y=>F.sub.subset Y) (c.imp (λz=>by simp[clean,aA,az]at z;exact⟨z.1.2,z.2.2⟩) id),F.fz he (c.imp (λz=>by simp[clean,aA,az]at z;exact⟨z.1.1,z.2.1⟩) id)⟩
 |.dct m ks ds,v,L,h,he,c=>by
  rw[Rep]at h;rw[Jb.fz,Rep];obtain⟨a,xs,M,rfl,J,Z,F⟩:=h;exact⟨a,xs,[],rfl,J,aF.fz Z (he.sub λc Y=>F.sub.subset Y) (c.imp (λz=>by simp[clean,aA,az]at z;exact⟨z.1.2,z.2.2⟩) id),F.fz he (c.imp (λz=>by simp[clean,aA,az]at z;exact⟨z.1.1,z.2.1⟩) id)⟩
 |.ins m c' fs ds,v,L,h,he,c=>by
  rw[Rep]at h;rw[Jb.fz,Rep];obtain⟨a,C,dx,xs,M,rfl,I,J,Z,F⟩:=h;exact⟨a,C,dx,xs,[],rfl,I,J,aF.fz Z (he.sub λc Y=>F.sub.subset Y) (c.imp (λz=>by simp[clean,aA,az]at z;exact⟨z.1.2,z.2.2⟩) id),F.fz he (c.imp (λz=>by simp[clean,aA,az]at z;exact⟨z.1.1,z.2.1⟩) id)⟩
theorem aF.fz:∀{ds:List D}{vs:List V}{L:List Addr},aF G H W ds vs L->Les H W W' L->((aB ds=true/\aD ds=true)∨jL W')->aF G H W' (fzL ds) vs []
 |[],vs,L,h,_,_=>by obtain⟨rfl,_⟩:=h.inv0;rw[fzL];exact .nil
 |d::r,vs,L,h,he,c=>by
  obtain⟨x,ys,M,M',rfl,rfl,h1,h2⟩:=h.inv;rw[fzL];exact .cons (M:=[]) (M':=[]) (Rep.fz h1 (he.sub λc Y=>PL _ Y) (c.imp (λz=>by simp[clean,aB,aD]at z⊢;exact⟨z.1.1,z.2.1⟩) id))
   (aF.fz h2 (he.sub λc Y=>Pa _ Y) (c.imp (λz=>by simp[clean,aB,aD]at z⊢;exact⟨z.1.2,z.2.2⟩) id))
end
mutual
theorem vW:∀d:D,aA (Jb.fz d)=true
 |.non=>rfl|.bl _=>rfl|.int _=>rfl|.str _=>rfl|.ty _=>rfl
 |.tup ds=>by simp[Jb.fz,aA,eF ds]
 |.lst m ds=>by cases m<;>simp[Jb.fz,aA,eF ds,mkF]
 |.dct m _ ds=>by cases m<;>simp[Jb.fz,aA,eF ds,mkF]
 |.ins m _ _ ds=>by cases m<;>simp[Jb.fz,aA,eF ds,mkF]
theorem eF:∀ds:List D,aB (fzL ds)=true
 |[]=>rfl
 |d::r=>by simp[fzL,aB,vW d,eF r]
end
mutual
theorem vH:∀d:D,az (Jb.fz d)=true
 |.non=>rfl|.bl _=>rfl|.int _=>rfl|.str _=>rfl|.ty _=>rfl
 |.tup ds=>by simp[Jb.fz,az,eG ds]
 |.lst m ds=>by cases m<;>simp[Jb.fz,az,eG ds,mkF]
 |.dct m _ ds=>by cases m<;>simp[Jb.fz,az,eG ds,mkF]
 |.ins m _ _ ds=>by cases m<;>simp[Jb.fz,az,eG ds,mkF]
theorem eG:∀ds:List D,aD (fzL ds)=true
 |[]=>rfl
 |d::r=>by simp[fzL,aD,vH d,eG r]
end
theorem Eb(d:D):clean (Jb.fz d)=true:=by simp[clean,vW,vH]
mutual
theorem Rep.dom:∀{d:D}{v:V}{L:List Addr},Rep G H W d v L->∀a∈L,Mu H a
 |.non,v,L,h=>by rw[Rep]at h;rw[h.2];simp
 |.bl _,v,L,h=>by rw[Rep]at h;rw[h.2];simp
 |.int _,v,L,h=>by rw[Rep]at h;rw[h.2];simp
 |.str _,v,L,h=>by rw[Rep]at h;rw[h.2];simp
 |.ty _,v,L,h=>by rw[Rep]at h;rw[h.2];simp
 |.tup ds,v,L,h=>by
  rw[Rep]at h;obtain⟨a,xs,rfl,j,Z⟩:=h;exact aF.dom Z
 |.lst m ds,v,L,h=>by
  rw[Rep]at h;obtain⟨a,xs,M,rfl,Z,F⟩:=h;intro b U;cases m with
  |own=>
   rw[F.2]at U;rcases Pj.mp U with z|z
   .rw[z];exact⟨_,F.1,rfl⟩
   .exact aF.dom Z b z
  |frz=>rw[F.2.2.2]at U;cases U
  |brw=>rw[F.2.2.2]at U;cases U
  |bro=>rw[F.2.2]at U;cases U
  |scr=>rw[F.2.2]at U;cases U
 |.dct m ks ds,v,L,h=>by
  rw[Rep]at h;obtain⟨a,xs,M,rfl,J,Z,F⟩:=h;intro b U;cases m with
  |own=>
   rw[F.2]at U;rcases Pj.mp U with z|z
   .rw[z];exact⟨_,F.1,rfl⟩
   .exact aF.dom Z b z
  |frz=>rw[F.2.2.2]at U;cases U
  |brw=>rw[F.2.2.2]at U;cases U
  |bro=>rw[F.2.2]at U;cases U
  |scr=>rw[F.2.2]at U;cases U
 |.ins m c fs ds,v,L,h=>by
  rw[Rep]at h;obtain⟨a,C,dx,xs,M,rfl,I,J,Z,F⟩:=h;intro b U;cases m with
  |own=>
   rw[F.2]at U;rcases Pj.mp U with z|z
   .rw[z];exact⟨_,F.1,rfl⟩
   .exact aF.dom Z b z
  |frz=>rw[F.2.2.2]at U;cases U
  |brw=>rw[F.2.2.2]at U;cases U
  |bro=>rw[F.2.2]at U;cases U
  |scr=>rw[F.2.2]at U;cases U
theorem aF.dom:∀{ds:List D}{vs:List V}{L:List Addr},aF G H W ds vs L->∀a∈L,Mu H a
 |[],vs,L,h=>by rw[h.inv0.2];simp
 |d::r,vs,L,h=>by
  obtain⟨x,ys,M,M',rfl,rfl,h1,h2⟩:=h.inv;intro a O;rcases Mz.mp O with z|z
  .exact Rep.dom h1 a z
  .exact aF.dom h2 a z
end
abbrev En:=List (Option D)
abbrev Ad:=Nat->List Addr
def Rel(G:Gc)(H:Hp)(W:Wn)(ob:Nat->Bool)(ρ:En)(σ:L2.St):Prop:=∀(i:Nat)(d:D),ρ[i]? =some (some d)->∃v L,σ[i]? =some (some v)/\Rep G H W d v L/\(ob i=false->∀c∈L,W.s c)
def WOk(H:Hp)(W:Wn):Prop:=∀a,W.n a∨W.s a∨W.o a->Mu H a
variable{ρ:En}{σ:L2.St}
theorem Rel.up(r:Rel G H W ob ρ σ)(u:Up H H' W W'):Rel G H' W' ob ρ σ:=λi d e=>let⟨v,L,h1,h2,h3⟩:=r i d e;⟨v,L,h1,h2.up u,λz c Y=>let⟨o,ho,_⟩:=h2.dom c Y;u.n c o ho (h3 z c Y)⟩
theorem WOk.add(h:WOk H W)(s:Same H H')(N:∀a∈L,Mu H' a):WOk H' (W.add L):=λa O=>by
 rcases O with(z|z)|z
 .exact N a z
 .obtain⟨o,h1,h2⟩:=h a (.inl z);exact⟨o,s a o h1,h2⟩
 .obtain⟨o,h1,h2⟩:=h a (.inr z);exact⟨o,s a o h1,h2⟩
def wn(ob:Nat->Bool)(S:Ad)(Fr:Addr->Prop):Wn:=⟨Fr,λa=>∃i,ob i=false/\a∈S i,λa=>∃i,ob i=true/\a∈S i⟩
def inS(S:Ad)(a:Addr):Prop:=∃i,a∈S i
def inO(ob:Nat->Bool)(S:Ad)(a:Addr):Prop:=∃i,ob i=true/\a∈S i
def plus(M:List Addr)(Fr:Addr->Prop):Addr->Prop:=λa=>a∈M∨Fr a
structure Sta(G:Gc)(H:Hp)(ob:Nat->Bool)(ρ:En)(σ:L2.St)(S:Ad)(Fr:Addr->Prop):Prop where
 len:ρ.length=σ.length
 sl:∀(i:Nat)(d:D),ρ[i]? =some (some d)->∃v,σ[i]? =some (some v)/\Rep G H (wn ob S Fr) d v (S i)/\clean d=true
 em:∀i,(∀d,ρ[i]?≠some (some d))->S i=[]
 nd:∀i,(S i).Nodup
 dj:∀i j a,a∈S i->a∈S j->i=j
 fdj:∀i a,Fr a->a∉S i
 fdm:∀a,Fr a->Mu H a
section
variable{G:Gc}{H H':Hp}{ob:Nat->Bool}{ρ:En}{σ:L2.St}{S S':Ad}{Fr Fr':Addr->Prop}
theorem Sta.mu(s:Sta G H ob ρ σ S Fr){i:Nat}{a:Addr}(h:a∈S i):Mu H a:=by
 by_cases e:∃d,ρ[i]? =some (some d)
 .obtain⟨d,e⟩:=e
  obtain⟨v,_,r,_⟩:=s.sl i d e;exact r.dom a h
 .rw[s.em i λd z=>e ⟨d,z⟩]at h
  cases h
theorem Sta.wok(s:Sta G H ob ρ σ S Fr):WOk H (wn ob S Fr):=λa O=>by
 rcases O with z|⟨i,_,z⟩|⟨i,_,z⟩
 .exact s.fdm a z
 .exact s.mu z
 .exact s.mu z
theorem Sta.rel(s:Sta G H ob ρ σ S Fr):Rel G H (wn ob S Fr) ob ρ σ:=λi d e=>by
 obtain⟨v,h1,h2,_⟩:=s.sl i d e;exact⟨v,S i,h1,h2,λz c Y=>⟨i,z,Y⟩⟩
theorem Sta.grow(s:Sta G H ob ρ σ S Fr)(F:Same H H')(h1:∀a,Fr' a->Fr a∨(H a=none/\Mu H' a)):Sta G H' ob ρ σ S Fr' where
 len:=s.len
 sl:=λi d e=>by
  obtain⟨v,q1,q2,j⟩:=s.sl i d e;have Y:aA d=true/\az d=true:=by simpa[clean]using j
  have J:Evo H H' (wn ob S Fr) (wn ob S Fr'):=⟨λb u h f=>⟨F b u h,⟨λz=>(h1 b z).elim f.1 (λz=>by rw[z.1]at h;cases h),f.2⟩⟩,λb xs h=>F b _ h⟩;exact⟨v,q1,q2.mono J (.inl Y.1) (.inl Y.2) λc _ u e=>F c u e,j⟩
 em:=s.em
 nd:=s.nd
 dj:=s.dj
 fdj:=λi a h z=>by
  rcases h1 a h with q|q
  .exact s.fdj i a q z
  .obtain⟨o,ho,_⟩:=s.mu z
   rw[q.1]at ho;cases ho
 fdm:=λa h=>by
  rcases h1 a h with q|q
  .obtain⟨o,ho,hm⟩:=s.fdm a q
   exact⟨o,F a o ho,hm⟩
  .exact q.2
theorem Sta.lessF(s:Sta G H ob ρ σ S Fr)(h1:∀a,Fr' a->Fr a):Sta G H ob ρ σ S Fr':=s.grow (Same.refl H) λa h=>.inl (h1 a h)
end
def RfE(G:Gc)(ob:Nat->Bool)(t:TE)(f:En->Option D):Prop:=∀(ρ:En)(d:D),f ρ=some d->∀(σ:L2.St)(H:Hp)(W:Wn),Rel G H W ob ρ σ->WOk H W->∀Q:VK,
 (∀v H' L,Same H H'->Rep G H' (W.add L) d v L->(∀a∈L,H a=none)->L.Nodup->Q v H')->t σ H Q
def RfT(G:Gc)(ob:Nat->Bool)(t:TT)(f:En->Option Bool):Prop:=∀(ρ:En)(b:Bool),f ρ=some b->∀(σ:L2.St)(H:Hp)(W:Wn),Rel G H W ob ρ σ->WOk H W->∀Q:Bool->Hp->Prop,
 (∀H',Same H H'->Q b H')->t σ H Q
def RfA(G:Gc)(ob:Nat->Bool)(t:TA)(f:En->Option (List D)):Prop:=∀(ρ:En)(ds:List D),f ρ=some ds->∀(σ:L2.St)(H:Hp)(W:Wn),Rel G H W ob ρ σ->WOk H W->∀Q:List V->Hp->Prop,
 (∀vs H' L,Same H H'->aF G H' (W.add L) ds vs L->(∀a∈L,H a=none)->L.Nodup->Q vs H')->t σ H Q
structure Eff(ob:Nat->Bool)(H H':Hp)(S S':Ad)(M:List Addr):Prop where
 kp:∀b u,H b=some u->¬inO ob S b->H' b=some u
 sn:∀i,ob i=false->S' i=S i
 gr:∀i a,ob i=true->a∈S' i->inO ob S a∨H a=none
 fm:∀a∈M,inO ob S a∨H a=none
def iz(G:Gc)(ob:Nat->Bool)(t:TE)(f:En->Option (D×En)):Prop:=∀(ρ:En)(d:D)(I:En),f ρ=some (d,I)->∀(σ:L2.St)(H:Hp)(S:Ad)(Fr:Addr->Prop),Sta G H ob ρ σ S Fr->∀Q:VK,
 (∀v H' M S',Sta G H' ob I σ S' (plus M Fr)->Rep G H' (wn ob S' (plus M Fr)) d v M->M.Nodup->Eff ob H H' S S' M->Q v H')->t σ H Q
def wR(G:Gc)(ob:Nat->Bool)(t:TT)(f:En->Option (Bool×En)):Prop:=∀(ρ:En)(b:Bool)(I:En),f ρ=some (b,I)->∀(σ:L2.St)(H:Hp)(S:Ad)(Fr:Addr->Prop),Sta G H ob ρ σ S Fr->∀Q:Bool->Hp->Prop,
 (∀H' S',Sta G H' ob I σ S' Fr->Eff ob H H' S S' []->Q b H')->t σ H Q
def xq(G:Gc)(ob:Nat->Bool)(t:TA)(f:En->Option (List D×En)):Prop:=∀(ρ:En)(ds:List D)(I:En),f ρ=some (ds,I)->∀(σ:L2.St)(H:Hp)(S:Ad)(Fr:Addr->Prop),Sta G H ob ρ σ S Fr->∀Q:List V->Hp->Prop,
 (∀vs H' M S',Sta G H' ob I σ S' (plus M Fr)->aF G H' (wn ob S' (plus M Fr)) ds vs M->M.Nodup->Eff ob H H' S S' M->Q vs H')->t σ H Q
inductive Fl where
 |nx (ρ:En)|ret (d:D) (ρ:En)|brk (ρ:En)|cnt (ρ:En)
def xG(P:Nat->Bool)(σ B:L2.St):Prop:=∀i,P i=true->B[i]? =σ[i]?
variable{P:Nat->Bool}
theorem xG.refl:xG P σ σ:=λ_ _=>rfl
theorem xG.trans{U σ2:L2.St}(a:xG P σ U)(b:xG P U σ2):xG P σ σ2:=λi h=>(b i h).trans (a i h)
structure Mv(P:Nat->Bool)(H H':Hp)(σ σ':L2.St)(S S':Ad)(M:List Addr):Prop where
 kp:∀b u,H b=some u->¬inS S b->b∉M->H' b=some u
 gr:∀i a,a∈S' i->inS S a∨a∈M∨H a=none
 pr:xG P σ σ'
variable{S:Ad}
theorem Mv.trans{H1:Hp}{U σ2:L2.St}{S1 S2:Ad}(a:Mv P H H1 σ U S S1 M)(b:Mv P H1 H2 U σ2 S1 S2 []):Mv P H H2 σ σ2 S S2 M where
 kp:=λc u h n m=>b.kp c u (a.kp c u h n m) (λ⟨i,z⟩=>(a.gr i c z).elim n λz=>z.elim m λe=>by rw[h]at e;cases e) (by simp)
 gr:=λi c z=>by
  rcases b.gr i c z with⟨j,q⟩|q|q
  .exact a.gr j c q
  .cases q
  .by_cases h:inS S c
   .exact .inl h
   .by_cases hm:c∈M
    .exact .inr (.inl hm)
    .refine .inr (.inr ?_)
     cases e:H c with
     |none=>rfl
     |some u=>rw[a.kp c u e h hm]at q;cases q
 pr:=a.pr.trans b.pr
theorem Eff.mv{S':Ad}(e:Eff ob H H' S S' M):Mv P H H' σ σ S S' []where
 kp:=λb u h n _=>e.kp b u h λ⟨i,_,z⟩=>n ⟨i,z⟩
 gr:=λi a z=>by
  cases h:ob i with
  |false=>rw[e.sn i h]at z;exact .inl ⟨i,z⟩
  |true=>exact(e.gr i a h z).imp (λ⟨j,_,q⟩=>⟨j,q⟩) .inr
 pr:=.refl
def Aft(G:Gc)(ob P:Nat->Bool)(H:Hp)(σ:L2.St)(S:Ad)(Fr:Addr->Prop)(E:Ends):Fl->Prop
 |.nx I=>∀B H' S',Sta G H' ob I B S' Fr->Mv P H H' σ B S S' []->E.nx B H'
 |.brk I=>∀B H' S',Sta G H' ob I B S' Fr->Mv P H H' σ B S S' []->E.bk B H'
 |.cnt I=>∀B H' S',Sta G H' ob I B S' Fr->Mv P H H' σ B S S' []->E.ct B H'
 |.ret d I=>∀v B H' M S',Sta G H' ob I B S' (plus M Fr)->Rep G H' (wn ob S' (plus M Fr)) d v M->clean d=true->M.Nodup->(∀a∈M,inS S a∨H a=none)->Mv P H H' σ B S S' []->E.rt v H'
def RfS(G:Gc)(ob P:Nat->Bool)(t:TS)(f:En->Option Fl):Prop:=∀(ρ:En)(r:Fl),f ρ=some r->∀(σ:L2.St)(H:Hp)(S:Ad)(Fr:Addr->Prop),Sta G H ob ρ σ S Fr->∀E:Ends,Aft G ob P H σ S Fr E r->t E σ H
def RfG(G:Gc)(ob P:Nat->Bool)(g:TG)(f:D->En->Option En):Prop:=∀(d:D)(ρ I:En),f d ρ=some I->∀(v:V)(σ:L2.St)(H:Hp)(S:Ad)(M:List Addr)(Fr:Addr->Prop),Sta G H ob ρ σ S (plus M Fr)->Rep G H (wn ob S (plus M Fr)) d v M->M.Nodup->(∀a∈M,¬Fr a)->
 ∀Q:L2.St->Hp->Prop,(∀B H' S',Sta G H' ob I B S' Fr->Mv P H H' σ B S S' M->Q B H')->g v σ H Q
def O_(G:Gc)(ob P:Nat->Bool)(g:TGs)(f:List D->En->Option En):Prop:=∀(ds:List D)(ρ I:En),f ds ρ=some I->∀(vs:List V)(σ:L2.St)(H:Hp)(S:Ad)(M:List Addr)(Fr:Addr->Prop),Sta G H ob ρ σ S (plus M Fr)->aF G H (wn ob S (plus M Fr)) ds vs M->M.Nodup->(∀a∈M,¬Fr a)->
 ∀Q:L2.St->Hp->Prop,(∀B H' S',Sta G H' ob I B S' Fr->Mv P H H' σ B S S' M->Q B H')->g vs σ H Q
structure PV{ι:Type}(X:ι->Cx)(G:Gc)(ob:Nat->Bool)(e:Expr)(f:En->Option D):Prop where
 mk::(ex:∃t,(∀c,PE (X c) e t)/\RfE G ob t f)
structure PVT{ι:Type}(X:ι->Cx)(G:Gc)(ob:Nat->Bool)(e:Expr)(f:En->Option Bool):Prop where
 mk::(ex:∃t,(∀c,PT (X c) e t)/\RfT G ob t f)
structure PVW{ι:Type}(X:ι->Cx)(G:Gc)(ob:Nat->Bool)(e:Expr)(f:En->Option Bool):Prop where
 mk::(ex:∃t,(∀c,PW (X c) e t)/\RfT G ob t f)
structure PVA{ι:Type}(X:ι->Cx)(G:Gc)(ob:Nat->Bool)(es:List Expr)(f:En->Option (List D)):Prop where
 mk::(ex:∃t,(∀c,PA (X c) es t)/\RfA G ob t f)
structure PVe{ι:Type}(X:ι->Cx)(G:Gc)(ob:Nat->Bool)(e:Expr)(f:En->Option (D×En)):Prop where
 mk::(ex:∃t,(∀c,PE (X c) e t)/\iz G ob t f)
structure Aw{ι:Type}(X:ι->Cx)(G:Gc)(ob:Nat->Bool)(e:Expr)(f:En->Option (Bool×En)):Prop where
 mk::(ex:∃t,(∀c,PT (X c) e t)/\wR G ob t f)
structure Ib{ι:Type}(X:ι->Cx)(G:Gc)(ob:Nat->Bool)(e:Expr)(f:En->Option (Bool×En)):Prop where
 mk::(ex:∃t,(∀c,PW (X c) e t)/\wR G ob t f)
structure qO{ι:Type}(X:ι->Cx)(G:Gc)(ob:Nat->Bool)(es:List Expr)(f:En->Option (List D×En)):Prop where
 mk::(ex:∃t,(∀c,PA (X c) es t)/\xq G ob t f)
structure PVS{ι:Type}(X:ι->Cx)(G:Gc)(ob P:Nat->Bool)(st:Stmt)(f:En->Option Fl):Prop where
 mk::(ex:∃t,(∀c,PS (X c) st t)/\RfS G ob P t f)
structure nW{ι:Type}(X:ι->Cx)(G:Gc)(ob P:Nat->Bool)(st:List Stmt)(f:En->Option Fl):Prop where
 mk::(ex:∃t,(∀c,PSs (X c) st t)/\RfS G ob P t f)
structure PVG{ι:Type}(X:ι->Cx)(G:Gc)(ob P:Nat->Bool)(tg:Expr)(f:D->En->Option En):Prop where
 mk::(ex:∃t,(∀c,PG (X c) tg t)/\RfG G ob P t f)
theorem cX(h1:L.Nodup)(h2:M.Nodup)(N:∀a∈L,a∉M):(L++M).Nodup:=Qg.mpr ⟨h1,h2,λa O b U e=>N a O (e▸U)⟩
def Wn.drop(W:Wn)(L:List Addr):Wn:=⟨λa=>W.n a/\a∉L,W.s,W.o⟩
def Wn.tmp(W:Wn)(a:Addr):Prop:=W.n a/\¬W.s a/\¬W.o a
theorem WOk.tmp(w:WOk H W)(fr:∀a∈L,H a=none):∀a∈L,(W.add L).tmp a:=λa O=>by
 refine⟨.inl O,λz=>?_,λz=>?_⟩
 .obtain⟨o,ho,_⟩:=w a (.inr (.inl z));rw[fr a O]at ho;cases ho
 .obtain⟨o,ho,_⟩:=w a (.inr (.inr z));rw[fr a O]at ho;cases ho
def Done(G:Gc)(H:Hp)(W:Wn)(j:List Addr)(d:D)(Q:VK):Prop:=∀v H' L,Same H H'->Rep G H' ((W.drop j).add L) d v L->(∀a∈L,a∈j∨H a=none)->L.Nodup->Q v H'
def OpV(G:Gc)(r:R2)(g:D->D->Option D):Prop:=∀(dx N d:D),g dx N=some d->∀(x y:V)(H:Hp)(W:Wn)(I F:List Addr),Rep G H W dx x I->Rep G H W N y F->(I++F).Nodup->(∀a∈I++F,W.tmp a)->WOk H W->∀Q:VK,Done G H W (I++F) d Q->r x y H Q
def UnV(G:Gc)(r:V->Hp->VK->Prop)(g:D->Option D):Prop:=∀(dx d:D),g dx=some d->∀(x:V)(H:Hp)(W:Wn)(I:List Addr),Rep G H W dx x I->I.Nodup->(∀a∈I,W.tmp a)->WOk H W->∀Q:VK,Done G H W I d Q->r x H Q
def CaV(G:Gc)(r:List V->Hp->VK->Prop)(g:List D->Option D):Prop:=∀(ds:List D)(d:D),g ds=some d->∀(xs:List V)(H:Hp)(W:Wn)(j:List Addr),aF G H W ds xs j->j.Nodup->(∀a∈j,W.tmp a)->WOk H W->∀Q:VK,Done G H W j d Q->r xs H Q
def MtV(G:Gc)(r:V->List V->Hp->VK->Prop)(g:D->List D->Option D):Prop:=∀(dx:D)(ds:List D)(d:D),g dx ds=some d->∀(x:V)(xs:List V)(H:Hp)(W:Wn)(I j:List Addr),Rep G H W dx x I->aF G H W ds xs j->(I++j).Nodup->(∀a∈I++j,W.tmp a)->WOk H W->∀Q:VK,Done G H W (I++j) d Q->r x xs H Q
theorem WOk.new(w:WOk H W)(fr:∀a∈L,H a=none)(h:W.n a):a∉L:=λz=>by
 obtain⟨o,B,_⟩:=w a (.inl h);rw[fr a z]at B;cases B
variable{Q:VK}
theorem Done.scal{j:List Addr}(h:Done G H W j d Q)(r:∀W,Rep G H W d v []):Q v H:=h v H [] (Same.refl H) (r _) (by simp) List.nodup_nil
theorem _root_.L2.Same.none'(s:Same H H')(h:H' a=none):H a=none:=Same.free s h
variable{ta tb:TE}{fa fb:En->Option D}{R:V->V->Hp->Prop}
theorem RfE.two(O:RfE G ob ta fa)(U:RfE G ob tb fb){dx N:D}(e1:fa ρ=some dx)(e2:fb ρ=some N)(r:Rel G H W ob ρ σ)(w:WOk H W)
  (h:∀x y H' L M,Same H H'->Rep G H' (W.add (L++M)) dx x L->Rep G H' (W.add (L++M)) N y M->(∀a∈L++M,H a=none)->(L++M).Nodup->WOk H' (W.add (L++M))->R x y H'):ta σ H λx H1=>tb σ H1 λy H2=>R x y H2:=by
 refine O ρ dx e1 σ H W r w _ λx H1 L Z rx fx nx=>?_;have u1:Up H H1 W (W.add L):=.add Z fx;have J:WOk H1 (W.add L):=w.add Z rx.dom;refine U ρ N e2 σ H1 (W.add L) (r.up u1) J _ λy H2 M F ry Y q=>?_;have I:∀a∈L,a∉M:=λa h1 h2=>by
  obtain⟨o,B,_⟩:=rx.dom a h1;rw[Y a h2]at B;cases B
 have eW:∀a,((W.add L).add M).n a↔(W.add (L++M)).n a:=λa=>by
  show(a∈M∨a∈L∨W.n a)↔(a∈L++M∨W.n a);rw[Mz];constructor
  .rintro(z|z|z)
   .exact .inl (.inr z)
   .exact .inl (.inl z)
   .exact .inr z
  .rintro((z|z)|z)
   .exact .inr (.inl z)
   .exact .inl z
   .exact .inr (.inr z)
 have a0:(W.add L).add M=W.add (L++M):=by
  show Wn.mk _ _ _=Wn.mk _ _ _;congr 1;funext a;exact propext (eW a)
 have j:Up H1 H2 (W.add L) (W.add (L++M)):=by rw[←a0];exact .add F Y
 rw[a0]at ry;refine h x y H2 L M (Z.trans F) (rx.up j) ry (λa O=>?_) (cX nx q I) ?_
 .rcases Mz.mp O with z|z
  .exact fx a z
  .exact Z.none' (Y a z)
 .rw[←a0]
  exact J.add F ry.dom
def aC(b:Bool)(i:Nat):En->Option D:=λρ=>match ρ[i]? with
 |some (some d)=>some (view b d)
 |_=>none
def eC(d:D):En->Option D:=λ_=>some d
theorem rB(W:Wn):W.add []=W:=by
 cases W;simp[Wn.add]
theorem J9:RfE G ob (Gs i) (aC (ob i) i):=λρ d e σ H W r w Q q=>by
 unfold aC at e;split at e
 .rename_i d0 e0
  cases e;obtain⟨v,L,h1,h2,N⟩:=r i d0 e0;refine⟨v,h1,q v H [] (Same.refl H) ?_ (by simp) List.nodup_nil⟩;rw[rB];exact h2.view N
 .cases e
variable{X:ι->Cx}
theorem ao(b:Bool)(i:Nat)(U:ob i=b:=by rfl)(q:∀c,(X c).N[i]? =some x:=by intro _;rfl)(B:∀c,Vis (X c).env.scope x:=by intro _;first|exact Ue rfl|exact Su (Ue rfl)|exact Su (Su rfl))(hd:(x==("__debug__":Str))=false:=by decide)(j:(x==("__classdict__":Str))=false:=by decide):PV X G ob (.Name x pos) (aC b i):=⟨_,λc=>pv i (q c) (B c) hd j,by rw[←U];exact J9⟩
theorem Fx(h:∀H W,Rep G H W d v []):RfE G ob (tC v) (eC d):=λρ d' e σ H W r w Q q=>by
 cases e;exact q v H [] (Same.refl H) (h _ _) (by simp) List.nodup_nil
theorem au{i j pos}:PV X G ob (.Constant (.int i) j pos) (eC (.int i)):=⟨_,λc=>J5,Fx λ_ _=>by simp[Rep]⟩
theorem zK{b j pos}:PV X G ob (.Constant (.bool b) j pos) (eC (.bl b)):=⟨_,λc=>MK,Fx λ_ _=>by simp[Rep]⟩
theorem JL{j pos}:PV X G ob (.Constant .none j pos) (eC .non):=⟨_,λc=>J_,Fx λ_ _=>by simp[Rep]⟩
theorem Dm{x j pos}:PV X G ob (.Constant (.str x) j pos) (eC (.str x)):=⟨_,λc=>K7,Fx λ_ _=>by simp[Rep]⟩
theorem i_{n:String}(j:∀c,Gl (X c) x)(V:∀c,(X c).mg x=none)(N:RW x=some (.type n))(hn:x≠"__name__":=by decide)(hd:(x==("__debug__":Str))=false:=by decide):PV X G ob (.Name x pos) (eC (.ty n)):=⟨_,λc=>Mj (j c) (V c) N hn hd,Fx λ_ _=>by simp[Rep]⟩
structure OpB{ι:Type}(X:ι->Cx)(G:Gc)(f:Value->Value->Sem Value)(g:D->D->Option D):Prop where
 ex:∃r,(∀c,OpR (X c) f r)/\OpV G r g
structure UnB{ι:Type}(X:ι->Cx)(G:Gc)(f:Value->Sem Value)(g:D->Option D):Prop where
 ex:∃r,(∀c,UnR (X c) f r)/\UnV G r g
structure IxB{ι:Type}(X:ι->Cx)(G:Gc)(g:D->D->Option D):Prop where
 ex:∃r,(∀c,IxR (X c) r)/\OpV G r g
structure CaB{ι:Type}(X:ι->Cx)(G:Gc)(f:Value)(g:List D->Option D):Prop where
 ex:∃r,(∀c,dD (X c) f r)/\CaV G r g
structure MtB{ι:Type}(X:ι->Cx)(G:Gc)(T id:String)(g:D->List D->Option D):Prop where
 ex:∃r,(∀c,MtR (X c) id r)/\MtV G r g/\∀dx ds d,g dx ds=some d->∀(x:V)(H:Hp)(W:Wn)(Lx:List Addr),Rep G H W dx x Lx->tyV G.K T x H
def e2(g:D->D->Option D)(fa fb:En->Option D):En->Option D:=λρ=>(fa ρ).bind λx=>(fb ρ).bind λy=>g x y
def e1(g:D->Option D)(fa:En->Option D):En->Option D:=λρ=>(fa ρ).bind g
variable{g:D->D->Option D}
theorem yV{r:R2}(B:OpV G r g)(O:RfE G ob ta fa)(U:RfE G ob tb fb):RfE G ob (tOp r ta tb) (e2 g fa fb):=λρ d e σ H W J w Q q=>by
 unfold e2 at e;cases h1:fa ρ with
 |none=>rw[h1]at e;cases e
 |some dx=>
  rw[h1]at e;cases h2:fb ρ with
  |none=>simp[h2]at e
  |some N=>
   have e:g dx N=some d:=by simpa[h2]using e
   refine RfE.two O U h1 h2 J w λx y H' L M s rx V fr nd Y=>?_;refine B dx N d e x y H' _ L M rx V nd (w.tmp fr) Y Q λv H2 L2 F j Z I=>?_;refine q v H2 L2 (s.trans F) ?_ (λa O=>(Z a O).elim (fr a) λz=>s.none' z) I;exact j.up ⟨Same.refl _,λb u U f=>⟨λz=>z.elim (λz=>f.1 (.inl z)) λz=>f.1 (.inr ⟨.inr z,WOk.new w fr z⟩),f.2⟩,λ_ _ _ f=>f⟩
theorem M6{r:V->Hp->VK->Prop}{g:D->Option D}(B:UnV G r g)(O:RfE G ob ta fa):RfE G ob (tUn r ta) (e1 g fa):=λρ d e σ H W J w Q q=>by
 unfold e1 at e;cases h1:fa ρ with
 |none=>rw[h1]at e;cases e
 |some dx=>
  rw[h1]at e;have e:g dx=some d:=by simpa using e
  refine O ρ dx h1 σ H W J w _ λx H' L s rx fr nd=>?_;refine B dx d e x H' _ L rx nd (w.tmp fr) (w.add s rx.dom) Q λv H2 L2 F j N I=>?_;refine q v H2 L2 (s.trans F) ?_ (λa O=>(N a O).elim (fr a) λz=>s.none' z) I;exact j.up ⟨Same.refl _,λb u U f=>⟨λz=>z.elim (λz=>f.1 (.inl z)) λz=>f.1 (.inr ⟨.inr z,WOk.new w fr z⟩),f.2⟩,λ_ _ _ f=>f⟩
def aG:En->Option (List D):=λ_=>some []
def ak(fa:En->Option D)(fr:En->Option (List D)):En->Option (List D):=λρ=>(fa ρ).bind λx=>(fr ρ).bind λxs=>some (x::xs)
theorem Lk:RfA G ob Mt aG:=λρ ds e σ H W J w Q q=>by
 cases e;exact q [] H [] (Same.refl H) .nil (by simp) List.nodup_nil
variable{t:TA}
theorem Iw{fr:En->Option (List D)}(O:RfE G ob ta fa)(Z:RfA G ob t fr):RfA G ob (Gn ta t) (ak fa fr):=λρ ds e σ H W J w Q q=>by
 unfold ak at e;cases h1:fa ρ with
 |none=>rw[h1]at e;cases e
 |some dx=>
  rw[h1]at e;cases h2:fr ρ with
  |none=>simp[h2]at e
  |some es=>
   have e:dx::es=ds:=by simpa[h2]using e
   subst e;refine O ρ dx h1 σ H W J w _ λx H1 L s1 rx V nx=>?_;have N:Up H H1 W (W.add L):=.add s1 V;have w1:WOk H1 (W.add L):=w.add s1 rx.dom;refine Z ρ es h2 σ H1 (W.add L) (J.up N) w1 _ λys H2 M F ry Y ny=>?_;have I:∀a∈L,a∉M:=λa h1 h2=>by
    obtain⟨o,B,_⟩:=rx.dom a h1;rw[Y a h2]at B;cases B
   have j:Up H1 H2 (W.add L) (W.add (L++M)):=⟨F,λb u U f=>⟨λz=>z.elim (λz=>(Mz.mp z).elim (λz=>f.1 (.inl z)) λz=>by rw[Y b z]at U;cases U) λz=>f.1 (.inr z),f.2⟩,λ_ _ _ f=>f⟩;refine q (x::ys) H2 (L++M) (s1.trans F) (.cons (rx.up j) (ry.up ⟨Same.refl _,λb u U f=>⟨λz=>?_,f.2⟩,λ_ _ _ f=>f⟩)) (λa O=>?_) (cX nx ny I)
   .rcases z with z|z
    .exact(Mz.mp z).elim (λz=>f.1 (.inr (.inl z))) λz=>f.1 (.inl z)
    .exact f.1 (.inr (.inr z))
   .rcases Mz.mp O with z|z
    .exact V a z
    .exact s1.none' (Y a z)
variable{r:List V->Hp->VK->Prop}{f:En->Option (List D)}
theorem rC{g:List D->Option D}(B:CaV G r g)(h:RfA G ob t f):RfE G ob (λσ H Q=>t σ H λvs H1=>r vs H1 Q) (λρ=>(f ρ).bind g):=λρ d e σ H W J w Q q=>by
 cases h1:f ρ with
 |none=>simp[h1]at e
 |some ds=>
  have e:g ds=some d:=by simpa[h1]using e
  refine h ρ ds h1 σ H W J w _ λxs H' L s rx fr nd=>?_;refine B ds d e xs H' _ L rx nd (w.tmp fr) (w.add s rx.dom) Q λv H2 L2 F j N I=>?_;refine q v H2 L2 (s.trans F) ?_ (λa O=>(N a O).elim (fr a) λz=>s.none' z) I;exact j.up ⟨Same.refl _,λb u U f=>⟨λz=>z.elim (λz=>f.1 (.inl z)) λz=>f.1 (.inr ⟨.inr z,WOk.new w fr z⟩),f.2⟩,λ_ _ _ f=>f⟩
def eAp(g:List D->Option D)(f:En->Option (List D)):En->Option D:=λρ=>(f ρ).bind g
theorem M9{r:V->List V->Hp->VK->Prop}{g:D->List D->Option D}{to:TE}{fo:En->Option D}(B:MtV G r g)(a0:∀dx ds d,g dx ds=some d->∀(x:V)(H:Hp)(W:Wn)(I:List Addr),Rep G H W dx x I->tyV G.K T x H)
  (h0:RfE G ob to fo) (h:RfA G ob t f):RfE G ob (tBM G.K T r to t) (λρ=>(fo ρ).bind λx=>(f ρ).bind λds=>g x ds):=λρ d e σ H W J w Q q=>by
 cases h1:fo ρ with
 |none=>simp[h1]at e
 |some dx=>
  cases h2:f ρ with
  |none=>simp[h1,h2]at e
  |some ds=>
   have e:g dx ds=some d:=by simpa[h1,h2]using e
   refine h0 ρ dx h1 σ H W J w _ λx H1 L Z rx fx nx=>⟨a0 dx ds d e x H1 _ L rx,?_⟩;have N:Up H H1 W (W.add L):=.add Z fx;have w1:WOk H1 (W.add L):=w.add Z rx.dom;refine h ρ ds h2 σ H1 (W.add L) (J.up N) w1 _ λys H2 M F ry fy ny=>?_;have a1:∀a∈L,a∉M:=λa h1 h2=>by
    obtain⟨o,B,_⟩:=rx.dom a h1;rw[fy a h2]at B;cases B
   have u2:Up H1 H2 (W.add L) (W.add (L++M)):=⟨F,λb u U f=>⟨λz=>z.elim (λz=>(Mz.mp z).elim (λz=>f.1 (.inl z)) λz=>by rw[fy b z]at U;cases U) λz=>f.1 (.inr z),f.2⟩,λ_ _ _ f=>f⟩;have u3:Up H2 H2 ((W.add L).add M) (W.add (L++M)):=⟨Same.refl _,λb u U f=>⟨λz=>by
    rcases z with z|z
    .exact(Mz.mp z).elim (λz=>f.1 (.inr (.inl z))) λz=>f.1 (.inl z)
    .exact f.1 (.inr (.inr z)),f.2⟩,λ_ _ _ f=>f⟩
   have w2:WOk H2 (W.add (L++M)):=w.add (Z.trans F) λa O=>(Mz.mp O).elim (λz=>let⟨o,h,m⟩:=rx.dom a z;⟨o,F a o h,m⟩) (ry.dom a);refine B dx ds d e x ys H2 (W.add (L++M)) L M (rx.up u2) (ry.up u3) (cX nx ny a1) (w.tmp λa O=>(Mz.mp O).elim (fx a) λz=>Z.none' (fy a z)) w2 Q λv j L3 Y r3 f3 n3=>?_;refine q v j L3 ((Z.trans F).trans Y) ?_ (λa O=>(f3 a O).elim (λz=>?_) λz=>(Z.trans F).none' z) n3
   .exact r3.up ⟨Same.refl _,λb u U f=>⟨λz=>z.elim (λz=>f.1 (.inl z)) λz=>f.1 (.inr ⟨.inr z,WOk.new w (λa O=>(Mz.mp O).elim (fx a) λz=>Z.none' (fy a z)) z⟩),f.2⟩,λ_ _ _ f=>f⟩
   .rcases Mz.mp z with z|z
    .exact fx a z
    .exact Z.none' (fy a z)
variable{a b:Expr}
theorem bA{op:Operator}(o:OpB X G (RB op) g)(O:PV X G ob a fa)(U:PV X G ob b fb):PV X G ob (.BinOp a op b pos) (e2 g fa fb):=let⟨r,o1,o2⟩:=o.ex;let⟨t,a1,a2⟩:=O.ex;let⟨u,b1,b2⟩:=U.ex;⟨_,λc=>Ju (o1 c) (a1 c) (b1 c),yV o2 a2 b2⟩
theorem j7(o:OpB X G (Q3 op) g)(O:PV X G ob a fa)(U:PV X G ob b fb)(V:V6 op b=false:=by with_unfolding_all rfl):PV X G ob (.Compare a [op] [b] pos) (e2 g fa fb):=let⟨r,o1,o2⟩:=o.ex;let⟨t,a1,a2⟩:=O.ex;let⟨u,b1,b2⟩:=U.ex;⟨_,λc=>Hy (o1 c) (a1 c) (b1 c) V,yV o2 a2 b2⟩
theorem I_{op:UnaryOp}{g:D->Option D}(o:UnB X G (unaryOp op) g)(O:PV X G ob a fa):PV X G ob (.UnaryOp op a pos) (e1 g fa):=let⟨r,o1,o2⟩:=o.ex;let⟨t,a1,a2⟩:=O.ex;⟨_,λc=>NB (o1 c) (a1 c),M6 o2 a2⟩
theorem dM(o:IxB X G g)(O:PV X G ob a fa)(U:PV X G ob b fb)(F:uJ b:=by exact λ_ _=>rfl):PV X G ob (.Subscript a b pos) (e2 g fa fb):=let⟨r,o1,o2⟩:=o.ex;let⟨t,a1,a2⟩:=O.ex;let⟨u,b1,b2⟩:=U.ex;⟨_,λc=>Jx (o1 c) (a1 c) (b1 c) F,yV o2 a2 b2⟩
theorem aj:PVA X G ob [] aG:=⟨_,λc=>K4,Lk⟩
theorem aa{f:En->Option D}{fr:En->Option (List D)}(O:PV X G ob e f)(Z:PVA X G ob es fr)(F:∀c,PK (e::es) (X c).env=(false,eval e (X c).env)::PK es (X c).env:=by intro _;rfl):PVA X G ob (e::es) (ak f fr):=let⟨t,a1,a2⟩:=O.ex;let⟨u,b1,b2⟩:=Z.ex;⟨_,λc=>tG (a1 c) (b1 c) (F c),Iw a2 b2⟩
variable{g:List D->Option D}
theorem aV{id:String}(o:CaB X G (.builtin id) g)(j:∀c,Gl (X c) x)(B:∀c,(X c).mg x=none)(N:RW x=some (.builtin id))(O:PVA X G ob (e::es) f)(hn:x≠"__name__":=by decide)(U:(x==("__debug__":Str))=false:=by decide)(V:∀c,PK (e::es) (X c).env=(false,eval e (X c).env)::PK es (X c).env:=by intro _;rfl)(q:∀c,(SM pos (PK es (X c).env)).any (·.1)=false:=by intro _;rfl):PV X G ob (.Call (.Name x p) (e::es) [] pos) (eAp g f):=let⟨r,o1,o2⟩:=o.ex;let⟨t,a1,a2⟩:=O.ex;⟨_,λc=>vC (o1 c) (j c) (B c) N (a1 c) hn U (V c) (q c),rC o2 a2⟩
theorem lW(o:CaB X G (.type T) g)(j:∀c,Gl (X c) x)(B:∀c,(X c).mg x=none)(N:RW x=some (.type T))(O:PVA X G ob (e::es) f)(hn:x≠"__name__":=by decide)(U:(x==("__debug__":Str))=false:=by decide)(V:∀c,PK (e::es) (X c).env=(false,eval e (X c).env)::PK es (X c).env:=by intro _;rfl)(q:∀c,(SM pos (PK es (X c).env)).any (·.1)=false:=by intro _;rfl):PV X G ob (.Call (.Name x p) (e::es) [] pos) (eAp g f):=let⟨r,o1,o2⟩:=o.ex;let⟨t,a1,a2⟩:=O.ex;⟨_,λc=>rG (o1 c) (j c) (B c) N (a1 c) hn U (V c) (q c),rC o2 a2⟩
def eU(ds:List D):Option D:=if ds.length<=1000 then some (.tup ds)else none
def bu(ds:List D):Option D:=if ds.length<=1000 then some (.lst .own ds)else none
theorem vK(h:n<=1000):n<=Px:=RX h (by decide)
theorem yG:CaV G (λxs H Q=>xs.length<=Px/\∀p,H p=none->Q (.ref p) (upd H p (.tup xs))) eU:=λds d e xs H W j r nd hn w Q q=>by
 unfold eU at e;split at e
 .rename_i hl
  cases e;refine⟨vK (by rw[←r.length];exact hl),λp Y=>?_⟩;have F:Same H (upd H p (.tup xs)):=Same.new Y;refine q (.ref p) _ j F ?_ (λa O=>.inl O) nd;rw[Rep];exact⟨p,xs,rfl,aZ,r.up ⟨F,λb u U f=>⟨λz=>z.elim (λz=>f.1 (hn b z).1) λz=>f.1 z.1,f.2⟩,λ_ _ _ f=>f⟩⟩
 .cases e
theorem zH:CaV G (λxs H Q=>xs.length<=Px/\∀p,H p=none->Q (.ref p) (upd H p (.lst xs))) bu:=λds d e xs H W j r nd hn w Q q=>by
 unfold bu at e;split at e
 .rename_i hl
  cases e;refine⟨vK (by rw[←r.length];exact hl),λp Y=>?_⟩;have F:Same H (upd H p (.lst xs)):=Same.new Y;refine q (.ref p) _ (p::j) F ?_ (λa O=>(Pj.mp O).elim (λz=>.inr (by rw[z];exact Y)) .inl) (QC.mpr ⟨λz=>?_,nd⟩)
  .rw[Rep]
   exact⟨p,xs,j,rfl,r.up ⟨F,λb u U f=>⟨λz=>z.elim (λz=>(Pj.mp z).elim (λz=>by rw[z,Y]at U;cases U) λz=>f.1 (hn b z).1) λz=>f.1 z.1,f.2⟩,λ_ _ _ f=>f⟩,aZ,rfl⟩
  .obtain⟨o,ho,_⟩:=r.dom p z
   rw[Y]at ho;cases ho
 .cases e
variable{k:Nat}
theorem pY(h:PVA X G ob es f):PV X G ob (.Tuple es k pos) (eAp eU f):=let⟨t,a1,a2⟩:=h.ex;⟨_,λc=>Cr (a1 c),rC yG a2⟩
theorem d7(h:PVA X G ob es f):PV X G ob (.List es pos) (eAp bu f):=let⟨t,a1,a2⟩:=h.ex;⟨_,λc=>BX (a1 c),rC zH a2⟩
section
variable{G:Gc}{ob:Nat->Bool}{H H1 H2:Hp}{S S1 S2:Ad}{L M:List Addr}{ρ ρ1:En}{σ:L2.St}{Fr:Addr->Prop}
theorem Eff.refl:Eff ob H H S S []:=⟨λ_ _ h _=>h,λ_ _=>rfl,λi a h z=>.inl ⟨i,h,z⟩,by simp⟩
theorem Eff.back(e:Eff ob H H1 S S1 L){a:Addr}(h:H1 a=none):inO ob S a∨H a=none:=by
 by_cases z:inO ob S a
 .exact .inl z
 .refine .inr ?_
  cases q:H a with
  |none=>rfl
  |some u=>rw[e.kp a u q z]at h;cases h
theorem Eff.inO(e:Eff ob H H1 S S1 L){a:Addr}(h:inO ob S1 a):inO ob S a∨H a=none:=let⟨i,h1,h2⟩:=h;e.gr i a h1 h2
theorem Eff.notO(e:Eff ob H H1 S S1 L){a:Addr}{u:HO}(h:H a=some u)(n:¬Jb.inO ob S a):¬Jb.inO ob S1 a:=λz=>(e.inO z).elim n λz=>by rw[h]at z;cases z
theorem Eff.trans(a:Eff ob H H1 S S1 L)(b:Eff ob H1 H2 S1 S2 M):Eff ob H H2 S S2 (L++M)where
 kp:=λc u h n=>b.kp c u (a.kp c u h n) (a.notO h n)
 sn:=λi h=>(b.sn i h).trans (a.sn i h)
 gr:=λi c h z=>(b.gr i c h z).elim a.inO a.back
 fm:=λc Y=>(Mz.mp Y).elim (a.fm c) λz=>(b.fm c z).elim a.inO a.back
theorem Eff.same(a:Eff ob H H1 S S1 L)(s:Same H1 H2)(h:∀c∈M,c∈L∨H1 c=none):Eff ob H H2 S S1 M where
 kp:=λc u Y n=>s c u (a.kp c u Y n)
 sn:=a.sn
 gr:=a.gr
 fm:=λc Y=>(h c Y).elim (a.fm c) a.back
theorem Sta.notO(s:Sta G H ob ρ σ S Fr){a:Addr}(h:Fr a):¬inO ob S a:=λ⟨i,_,z⟩=>s.fdj i a h z
theorem Sta.tmp(s:Sta G H ob ρ σ S Fr){a:Addr}(h:Fr a):(wn ob S Fr).tmp a:=⟨h,λ⟨i,_,z⟩=>s.fdj i a h z,λ⟨i,_,z⟩=>s.fdj i a h z⟩
theorem Eff.evo(s:Sta G H ob ρ σ S Fr)(e:Eff ob H H1 S S1 M):Evo H H1 (wn ob S Fr) (wn ob S1 (plus M Fr))where
 k:=λb u h f=>⟨e.kp b u h f.2.2,λz=>z.elim (λz=>(e.fm b z).elim f.2.2 λq=>by rw[h]at q;cases q) f.1,λ⟨i,h1,h2⟩=>f.2.1 ⟨i,h1,by rw[←e.sn i h1];exact h2⟩,e.notO h f.2.2⟩
 t:=λb xs h=>by
  have j:∀u,H b=some u->muO u=false->H1 b=some u:=λu J m=>e.kp b u J λ⟨i,_,z⟩=>by
   obtain⟨o,B,V⟩:=s.mu z;rw[J]at B;cases B;rw[m]at V;cases V
  exact j _ h rfl
theorem Eff.evoN(s:Sta G H ob ρ σ S Fr)(e:Eff ob H H1 S S1 M):BR H H1 (wn ob S Fr) (wn ob S1 (plus M Fr)):=λb u h ⟨i,h1,h2⟩=>
 ⟨e.kp b u h (λ⟨j,q1,q2⟩=>by rw[s.dj i j b h2 q2,q1]at h1;cases h1),⟨i,h1,by rw[e.sn i h1];exact h2⟩⟩
theorem Eff.keepsF(s:Sta G H ob ρ σ S Fr)(e:Eff ob H H1 S S1 M){a:Addr}(h:Fr a):∀u,H a=some u->H1 a=some u:=λu J=>e.kp a u J (s.notO h)
theorem jK{L M:List Addr}:plus M (plus L Fr)=plus (L++M) Fr:=by
 funext a;simp only[plus,Mz,eq_iff_iff];constructor
 .rintro(z|z|z)
  .exact .inl (.inr z)
  .exact .inl (.inl z)
  .exact .inr z
 .rintro((z|z)|z)
  .exact .inr (.inl z)
  .exact .inl z
  .exact .inr (.inr z)
theorem Fj{J:List Addr}{d:D}{v:V}(s:Sta G H1 ob ρ1 σ S1 (plus L Fr))(e:Eff ob H H1 S S1 L)(F:Same H1 H2)(r:Rep G H2 (((wn ob S1 (plus L Fr)).drop L).add J) d v J)(f:∀a∈J,a∈L∨H1 a=none)(j:Sta G H ob ρ σ S Fr) :
  Sta G H2 ob ρ1 σ S1 (plus J Fr)/\Rep G H2 (wn ob S1 (plus J Fr)) d v J/\Eff ob H H2 S S1 J:=by
 refine⟨s.grow F λa h=>?_,r.up ⟨Same.refl _,λb u U q=>⟨λz=>?_,q.2⟩,λ_ _ _ q=>q⟩,e.same F f⟩
 .rcases h with h|h
  .exact(f a h).imp .inl λz=>⟨z,r.dom a h⟩
  .exact .inl (.inr h)
 .rcases z with z|z
  .exact q.1 (.inl z)
  .refine q.1 (.inr ⟨.inr z,λh=>?_⟩)
   rcases e.fm b h with y|y
   .exact j.notO z y
   .obtain⟨o,ho,_⟩:=j.fdm b z
    rw[y]at ho;cases ho
end
def eUp(f:En->Option D):En->Option (D×En):=λρ=>(f ρ).map λd=>(d,ρ)
theorem u9{f:En->Option D}(h:RfE G ob ta f):iz G ob ta (eUp f):=λρ d I e σ H S Fr s Q q=>by
 unfold eUp at e;cases h1:f ρ with
 |none=>rw[h1]at e;cases e
 |some d0=>
  rw[h1]at e;cases e;refine h ρ d h1 σ H _ s.rel s.wok Q λv H' L F r fr nd=>?_;exact q v H' L S (s.grow F λa z=>z.elim (λz=>.inr ⟨fr a z,r.dom a z⟩) .inl) r nd ⟨λb u U _=>F b u U,λ_ _=>rfl,λi a h z=>.inl ⟨i,h,z⟩,λa O=>.inr (fr a O)⟩
def uE(f:En->Option Bool):En->Option (Bool×En):=λρ=>(f ρ).map λd=>(d,ρ)
theorem DK{t:TT}{f:En->Option Bool}(h:RfT G ob t f):wR G ob t (uE f):=λρ d I e σ H S Fr s Q q=>by
 unfold uE at e;cases h1:f ρ with
 |none=>rw[h1]at e;cases e
 |some d0=>
  rw[h1]at e;cases e;refine h ρ d h1 σ H _ s.rel s.wok Q λH' F=>?_;exact q H' S (s.grow F λa z=>.inl z) ⟨λb u U _=>F b u U,λ_ _=>rfl,λi a h z=>.inl ⟨i,h,z⟩,by simp⟩
def cu(f:En->Option (List D)):En->Option (List D×En):=λρ=>(f ρ).map λd=>(d,ρ)
theorem Kl(h:RfA G ob t f):xq G ob t (cu f):=λρ d I e σ H S Fr s Q q=>by
 unfold cu at e;cases h1:f ρ with
 |none=>rw[h1]at e;cases e
 |some d0=>
  rw[h1]at e;cases e;refine h ρ d h1 σ H _ s.rel s.wok Q λv H' L F r fr nd=>?_;exact q v H' L S (s.grow F λa z=>z.elim (λz=>.inr ⟨fr a z,r.dom a z⟩) .inl) r nd ⟨λb u U _=>F b u U,λ_ _=>rfl,λi a h z=>.inl ⟨i,h,z⟩,λa O=>.inr (fr a O)⟩
theorem bj{f:En->Option D}(h:PV X G ob e f):PVe X G ob e (eUp f):=let⟨t,a1,a2⟩:=h.ex;⟨t,a1,u9 a2⟩
theorem tH{f:En->Option Bool}(h:PVT X G ob e f):Aw X G ob e (uE f):=let⟨t,a1,a2⟩:=h.ex;⟨t,a1,DK a2⟩
theorem aN{e:List Expr}(h:PVA X G ob e f):qO X G ob e (cu f):=let⟨t,a1,a2⟩:=h.ex;⟨t,a1,Kl a2⟩
variable{fa fb:En->Option (D×En)}
theorem iz.two(O:iz G ob ta fa)(U:iz G ob tb fb){ρ1 ρ2:En}{dx N:D}(e1:fa ρ=some (dx,ρ1))(e2:fb ρ1=some (N,ρ2))(J:az dx=true){Fr:Addr->Prop}(s:Sta G H ob ρ σ S Fr)
  (h:∀x y H' L M S',Sta G H' ob ρ2 σ S' (plus (L++M) Fr)->Rep G H' (wn ob S' (plus (L++M) Fr)) dx x L->Rep G H' (wn ob S' (plus (L++M) Fr)) N y M->(L++M).Nodup->Eff ob H H' S S' (L++M)->R x y H'):ta σ H λx H1=>tb σ H1 λy H2=>R x y H2:=by
 refine O ρ dx ρ1 e1 σ H S Fr s _ λx H1 L S1 Z rx nx f1=>?_;refine U ρ1 N ρ2 e2 σ H1 S1 (plus L Fr) Z _ λy H2 M S2 F B q j=>?_;have I:=rx.mono (j.evo Z) (.inr (j.evoN Z)) (.inl J) λc Y u hu=>j.keepsF Z (.inl Y) u hu;rw[jK]at F B I;refine h x y H2 L M S2 F I B (cX nx q λa h1 h2=>?_) (f1.trans j);rcases j.fm a h2 with z|z
 .exact Z.notO (.inl h1) z
 .obtain⟨o,ho,_⟩:=rx.dom a h1
  rw[z]at ho;cases ho
def ee2(g:D->D->Option D)(fa fb:En->Option (D×En)):En->Option (D×En):=λρ=>(fa ρ).bind λp=>(fb p.2).bind λq=>if az p.1 then(g p.1 q.1).map λd=>(d,q.2)else none
theorem xK{r:R2}{g:D->D->Option D}(B:OpV G r g)(O:iz G ob ta fa)(U:iz G ob tb fb):iz G ob (tOp r ta tb) (ee2 g fa fb):=λρ d I e σ H S Fr s Q q=>by
 unfold ee2 at e;cases h1:fa ρ with
 |none=>simp[h1]at e
 |some p=>
  obtain⟨dx,ρ1⟩:=p;cases h2:fb ρ1 with
  |none=>simp[h1,h2]at e
  |some p=>
   obtain⟨V,ρ2⟩:=p;cases J:az dx with
   |false=>simp[h1,h2,J]at e
   |true=>
    cases N:g dx V with
    |none=>simp[h1,h2,J,N]at e
    |some d'=>
     obtain⟨rfl,rfl⟩:d'=d/\ρ2=I:=by simpa[h1,h2,J,N]using e
     refine iz.two O U h1 h2 J s λx y H' L M S' s' rx ry nd Z=>?_;refine B dx V _ N x y H' _ L M rx ry nd (λa O=>s'.tmp (.inl O)) s'.wok Q λv j L3 Y r3 F n3=>?_;obtain⟨q1,q2,q3⟩:=Fj s' Z Y r3 F s;exact q v j L3 S' q1 q2 n3 q3
def cA(fa:En->Option (D×En))(fr:En->Option (List D×En)):En->Option (List D×En):=λρ=>(fa ρ).bind λp=>(fr p.2).bind λq=>if az p.1 then some (p.1::q.1,q.2)else none
theorem Fv{fr:En->Option (List D×En)}(O:iz G ob ta fa)(Z:xq G ob t fr):xq G ob (Gn ta t) (cA fa fr):=λρ ds I e σ H S Fr s Q q=>by
 unfold cA at e;cases h1:fa ρ with
 |none=>simp[h1]at e
 |some p=>
  obtain⟨dx,ρ1⟩:=p;cases h2:fr ρ1 with
  |none=>simp[h1,h2]at e
  |some p=>
   obtain⟨es,ρ2⟩:=p;cases J:az dx with
   |false=>simp[h1,h2,J]at e
   |true=>
    obtain⟨rfl,rfl⟩:dx::es=ds/\ρ2=I:=by simpa[h1,h2,J]using e
    refine O ρ dx ρ1 h1 σ H S Fr s _ λx H1 L S1 U rx nx V=>?_;refine Z ρ1 es _ h2 σ H1 S1 (plus L Fr) U _ λys H2 M S2 F B ny j=>?_;have N:=rx.mono (j.evo U) (.inr (j.evoN U)) (.inl J) λc Y u hu=>j.keepsF U (.inl Y) u hu;rw[jK]at F B N;refine q (x::ys) H2 (L++M) S2 F (.cons N B) (cX nx ny λa h1 h2=>?_) (V.trans j);rcases j.fm a h2 with z|z
    .exact U.notO (.inl h1) z
    .obtain⟨o,ho,_⟩:=rx.dom a h1
     rw[z]at ho;cases ho
def mC(g:List D->Option D)(f:En->Option (List D×En)):En->Option (D×En):=λρ=>(f ρ).bind λp=>(g p.1).map λd=>(d,p.2)
variable{f:En->Option (List D×En)}
theorem uf(B:CaV G r g)(h:xq G ob t f):iz G ob (λσ H Q=>t σ H λvs H1=>r vs H1 Q) (mC g f):=λρ d I e σ H S Fr s Q q=>by
 unfold mC at e;cases h1:f ρ with
 |none=>simp[h1]at e
 |some p=>
  obtain⟨ds,ρ1⟩:=p;cases N:g ds with
  |none=>simp[h1,N]at e
  |some d'=>
   obtain⟨rfl,rfl⟩:d'=d/\ρ1=I:=by simpa[h1,N]using e
   refine h ρ ds _ h1 σ H S Fr s _ λxs H' L S' s' rx nd Z=>?_;refine B ds _ N xs H' _ L rx nd (λa O=>s'.tmp (.inl O)) s'.wok Q λv j J Y r3 F U=>?_;obtain⟨q1,q2,q3⟩:=Fj s' Z Y r3 F s;exact q v j J S' q1 q2 U q3
theorem gU{op:Operator}{g:D->D->Option D}(o:OpB X G (RB op) g)(O:PVe X G ob a fa)(U:PVe X G ob b fb):PVe X G ob (.BinOp a op b pos) (ee2 g fa fb):=let⟨r,o1,o2⟩:=o.ex;let⟨t,a1,a2⟩:=O.ex;let⟨u,b1,b2⟩:=U.ex;⟨_,λc=>Ju (o1 c) (a1 c) (b1 c),xK o2 a2 b2⟩
theorem e_{g:D->D->Option D}(o:IxB X G g)(O:PVe X G ob a fa)(U:PVe X G ob b fb)(F:uJ b:=by exact λ_ _=>rfl):PVe X G ob (.Subscript a b pos) (ee2 g fa fb):=let⟨r,o1,o2⟩:=o.ex;let⟨t,a1,a2⟩:=O.ex;let⟨u,b1,b2⟩:=U.ex;⟨_,λc=>Jx (o1 c) (a1 c) (b1 c) F,xK o2 a2 b2⟩
theorem bf{f:En->Option (D×En)}{fr:En->Option (List D×En)}(O:PVe X G ob e f)(Z:qO X G ob es fr)(F:∀c,PK (e::es) (X c).env=(false,eval e (X c).env)::PK es (X c).env:=by intro _;rfl):qO X G ob (e::es) (cA f fr):=let⟨t,a1,a2⟩:=O.ex;let⟨u,b1,b2⟩:=Z.ex;⟨_,λc=>tG (a1 c) (b1 c) (F c),Fv a2 b2⟩
theorem rK{id:String}(o:CaB X G (.builtin id) g)(j:∀c,Gl (X c) x)(B:∀c,(X c).mg x=none)(N:RW x=some (.builtin id))(O:qO X G ob (e::es) f)(hn:x≠"__name__":=by decide)(U:(x==("__debug__":Str))=false:=by decide)(V:∀c,PK (e::es) (X c).env=(false,eval e (X c).env)::PK es (X c).env:=by intro _;rfl)(q:∀c,(SM pos (PK es (X c).env)).any (·.1)=false:=by intro _;rfl):PVe X G ob (.Call (.Name x p) (e::es) [] pos) (mC g f):=let⟨r,o1,o2⟩:=o.ex;let⟨t,a1,a2⟩:=O.ex;⟨_,λc=>vC (o1 c) (j c) (B c) N (a1 c) hn U (V c) (q c),uf o2 a2⟩
theorem xY(o:CaB X G (.type T) g)(j:∀c,Gl (X c) x)(B:∀c,(X c).mg x=none)(N:RW x=some (.type T))(O:qO X G ob (e::es) f)(hn:x≠"__name__":=by decide)(U:(x==("__debug__":Str))=false:=by decide)(V:∀c,PK (e::es) (X c).env=(false,eval e (X c).env)::PK es (X c).env:=by intro _;rfl)(q:∀c,(SM pos (PK es (X c).env)).any (·.1)=false:=by intro _;rfl):PVe X G ob (.Call (.Name x p) (e::es) [] pos) (mC g f):=let⟨r,o1,o2⟩:=o.ex;let⟨t,a1,a2⟩:=O.ex;⟨_,λc=>rG (o1 c) (j c) (B c) N (a1 c) hn U (V c) (q c),uf o2 a2⟩
theorem Ie(h:qO X G ob es f):PVe X G ob (.Tuple es k pos) (mC eU f):=let⟨t,a1,a2⟩:=h.ex;⟨_,λc=>Cr (a1 c),uf yG a2⟩
theorem yX(h:qO X G ob es f):PVe X G ob (.List es pos) (mC bu f):=let⟨t,a1,a2⟩:=h.ex;⟨_,λc=>BX (a1 c),uf zH a2⟩
def truth:D->Option Bool
 |.non=>some false
 |.bl b=>some b
 |.int i=>some (i !=0)
 |.str y=>if y.length<=Px then some ((y.length:Int)!=0)else none
 |.lst _ ds=>some (!ds.isEmpty)
 |.tup ds=>some (!ds.isEmpty)
 |.dct m _ ds=>if m= .scr then none else some (!ds.isEmpty)
 |_=>none
theorem lV(r:aF G H W ds xs L):ds.isEmpty=xs.isEmpty:=by
 have:=r.length;cases ds<;>cases xs<;>simp_all
theorem Gq{k:Bool}(r:Rep G H W d v L)(h:truth d=some k):IV G.K v H k:=by
 cases d with
 |non=>rw[Rep]at r;obtain⟨rfl,_⟩:=r;cases h;rfl
 |bl b=>rw[Rep]at r;obtain⟨rfl,_⟩:=r;cases h;rfl
 |int i=>rw[Rep]at r;obtain⟨rfl,_⟩:=r;cases h;rfl
 |str y=>
  rw[Rep]at r;obtain⟨rfl,_⟩:=r;simp only[truth]at h;split at h
  .cases h;exact⟨‹_›,rfl⟩
  .cases h
 |ty n=>cases h
 |tup ds=>
  rw[Rep]at r;obtain⟨a,xs,rfl,U,Z⟩:=r;cases h;exact .inr (.inl ⟨xs,SqT.of U,by rw[lV Z]⟩)
 |lst m ds=>
  rw[Rep]at r;obtain⟨a,xs,M,rfl,Z,F⟩:=r;cases h;exact .inl ⟨xs,F.sq,by rw[lV Z]⟩
 |dct m ks ds=>
  rw[Rep]at r;obtain⟨a,kvs,M,rfl,J,Z,F⟩:=r;simp only[truth]at h;split at h
  .cases h
  .cases h
   refine .inr (.inr ⟨kvs,F.at ‹_›,?_⟩);rw[lV Z];cases kvs<;>rfl
 |ins m c fs ds=>cases h
section
variable{ι:Type}{X:ι->Cx}{G:Gc}{ob:Nat->Bool}{a b:Expr}{pos:Pos}
def pH(f:En->Option D):En->Option Bool:=λρ=>(f ρ).bind truth
theorem Lj{ta:TE}{f:En->Option D}(h:RfE G ob ta f):RfT G ob (λσ H Q=>ta σ H λx H'=>∃k,IV G.K x H' k/\Q k H') (pH f):=λρ k e σ H W J w Q q=>by
 unfold pH at e;cases h1:f ρ with
 |none=>simp[h1]at e
 |some d=>
  have e:truth d=some k:=by simpa[h1]using e
  exact h ρ d h1 σ H W J w _ λx H' L s r fr nd=>⟨k,Gq r e,q H' s⟩
theorem j_{f:En->Option D}(h:PV X G ob a f)(V:∀c,∀j,Y_ a (X c).env j=(do let v ←j;standAt a.pos;Tt [v] (truthy v)):=by intro _;intro _;rfl)(I:∀c,(X c).K=G.K:=by intro _;rfl):PVT X G ob a (pH f):=let⟨t,a1,a2⟩:=h.ex;⟨_,λc=>(by have h:=Gm (a1 c) (V c);rw[I c]at h;exact h),Lj a2⟩
def isB:D->Option Bool
 |.bl b=>some b
 |_=>none
def eB(f:En->Option D):En->Option Bool:=λρ=>(f ρ).bind isB
def eeB(f:En->Option (D×En)):En->Option (Bool×En):=λρ=>(f ρ).bind λp=>(isB p.1).map λb=>(b,p.2)
theorem pP{d:D}{k:Bool}(h:isB d=some k):d= .bl k:=by
 cases d<;>simp[isB]at h;rw[h]
theorem LR{ta:TE}{f:En->Option D}(h:RfE G ob ta f):RfT G ob (yE ta) (eB f):=λρ k e σ H W J w Q q=>by
 unfold eB at e;cases h1:f ρ with
 |none=>simp[h1]at e
 |some d=>
  have e:isB d=some k:=by simpa[h1]using e
  have:=pP e;subst this;refine h ρ _ h1 σ H W J w _ λx H' L s r fr nd=>⟨k,?_,q H' s⟩;rw[Rep]at r;exact r.1
theorem Nj{ta:TE}{f:En->Option (D×En)}(h:iz G ob ta f):wR G ob (yE ta) (eeB f):=λρ k I e σ H S Fr s Q q=>by
 unfold eeB at e;cases h1:f ρ with
 |none=>simp[h1]at e
 |some p=>
  obtain⟨d,ρ1⟩:=p;cases h2:isB d with
  |none=>simp[h1,h2]at e
  |some Y=>
   obtain⟨rfl,rfl⟩:Y=k/\ρ1=I:=by simpa[h1,h2]using e
   have:=pP h2;subst this;refine h ρ _ _ h1 σ H S Fr s _ λx H' M S' s' r nd Z=>⟨Y,?_,q H' S' (s'.lessF λa z=>.inr z) (Z.same (Same.refl _) (by simp))⟩;rw[Rep]at r;exact r.1
theorem cJ{fa fb:En->Option D}{op:CmpOp}{g:D->D->Option D}(o:OpB X G (Q3 op) g)(O:PV X G ob a fa)(U:PV X G ob b fb)(V:V6 op b=false:=by with_unfolding_all rfl):PVT X G ob (.Compare a [op] [b] pos) (eB (e2 g fa fb)):=let⟨r,o1,o2⟩:=o.ex;let⟨t,a1,a2⟩:=O.ex;let⟨u,b1,b2⟩:=U.ex;⟨_,λc=>zp (o1 c) (a1 c) (b1 c) V,LR (yV o2 a2 b2)⟩
theorem o_{fa fb:En->Option (D×En)}{op:CmpOp}{g:D->D->Option D}(o:OpB X G (Q3 op) g)(O:PVe X G ob a fa)(U:PVe X G ob b fb)(V:V6 op b=false:=by with_unfolding_all rfl):Aw X G ob (.Compare a [op] [b] pos) (eeB (ee2 g fa fb)):=let⟨r,o1,o2⟩:=o.ex;let⟨t,a1,a2⟩:=O.ex;let⟨u,b1,b2⟩:=U.ex;⟨_,λc=>zp (o1 c) (a1 c) (b1 c) V,Nj (xK o2 a2 b2)⟩
def nR(f g:En->Option Bool):En->Option Bool:=λρ=>(f ρ).bind λc=>if c then g ρ else some false
def eOr(f g:En->Option Bool):En->Option Bool:=λρ=>(f ρ).bind λc=>if c then some true else g ρ
def lH(f:En->Option Bool):En->Option Bool:=λρ=>(f ρ).map λc=>!c
def pC(f g:En->Option (Bool×En)):En->Option (Bool×En):=λρ=>(f ρ).bind λp=>if p.1 then g p.2 else some (false,p.2)
theorem KH{t u:TT}{f g:En->Option Bool}(h:RfT G ob t f)(h':RfT G ob u g):RfT G ob (JX t u) (nR f g):=λρ k e σ H W J w Q q=>by
 unfold nR at e;cases h1:f ρ with
 |none=>simp[h1]at e
 |some c=>
  refine h ρ c h1 σ H W J w _ λH1 Z=>?_;cases c with
  |false=>
   have:false=k:=by simpa[h1]using e
   subst this;exact tM (q H1 Z)
  |true=>
   have e:g ρ=some k:=by simpa[h1]using e
   exact n6 (h' ρ k e σ H1 W (J.up (Up.same Z)) (λa O=>let⟨o,z,m⟩:=w a O;⟨o,Z a o z,m⟩) Q λH2 F=>q H2 (Z.trans F))
theorem L_{t u:TT}{f g:En->Option Bool}(h:RfT G ob t f)(h':RfT G ob u g):RfT G ob (tOr t u) (eOr f g):=λρ k e σ H W J w Q q=>by
 unfold eOr at e;cases h1:f ρ with
 |none=>simp[h1]at e
 |some c=>
  refine h ρ c h1 σ H W J w _ λH1 Z=>?_;cases c with
  |true=>
   have:true=k:=by simpa[h1]using e
   subst this;exact n6 (q H1 Z)
  |false=>
   have e:g ρ=some k:=by simpa[h1]using e
   exact tM (h' ρ k e σ H1 W (J.up (Up.same Z)) (λa O=>let⟨o,z,m⟩:=w a O;⟨o,Z a o z,m⟩) Q λH2 F=>q H2 (Z.trans F))
theorem JF{t:TT}{f:En->Option Bool}(h:RfT G ob t f):RfT G ob (Og t) (lH f):=λρ k e σ H W J w Q q=>by
 unfold lH at e;cases h1:f ρ with
 |none=>simp[h1]at e
 |some c=>
  have:(!c)=k:=by simpa[h1]using e
  subst this;exact h ρ c h1 σ H W J w _ λH1 Z=>q H1 Z
theorem GF{t u:TT}{f g:En->Option (Bool×En)}(h:wR G ob t f)(h':wR G ob u g):wR G ob (JX t u) (pC f g):=λρ k I e σ H S Fr s Q q=>by
 unfold pC at e;cases h1:f ρ with
 |none=>simp[h1]at e
 |some p=>
  obtain⟨c,ρ1⟩:=p;refine h ρ c ρ1 h1 σ H S Fr s _ λH1 S1 Z V=>?_;cases c with
  |false=>
   obtain⟨rfl,rfl⟩:false=k/\ρ1=I:=by simpa[h1]using e
   exact tM (q H1 S1 Z V)
  |true=>
   have e:g ρ1=some (k,I):=by simpa[h1]using e
   exact n6 (h' ρ1 k I e σ H1 S1 Fr Z Q λH2 S2 F j=>q H2 S2 F (V.trans j))
variable{rest:List Expr}{fa fb:En->Option Bool}{ga gb:En->Option (Bool×En)}
theorem uQ(O:PVT X G ob a fa)(U:PVW X G ob (.BoolOp .And (b::rest) pos) fb):PVW X G ob (.BoolOp .And (a::b::rest) pos) (nR fa fb):=let⟨t,a1,a2⟩:=O.ex;let⟨u,b1,b2⟩:=U.ex;⟨_,λc=>DQ (a1 c) (b1 c),KH a2 b2⟩
theorem Cj(O:PVT X G ob a fa)(U:PVW X G ob (.BoolOp .Or (b::rest) pos) fb):PVW X G ob (.BoolOp .Or (a::b::rest) pos) (eOr fa fb):=let⟨t,a1,a2⟩:=O.ex;let⟨u,b1,b2⟩:=U.ex;⟨_,λc=>M_ (a1 c) (b1 c),L_ a2 b2⟩
theorem qt(O:PVT X G ob a fa):PVW X G ob (.BoolOp .And [a] pos) fa:=let⟨t,a1,a2⟩:=O.ex;⟨_,λc=>yW (a1 c),a2⟩
theorem zF(O:PVT X G ob a fa):PVW X G ob (.BoolOp .Or [a] pos) fa:=let⟨t,a1,a2⟩:=O.ex;⟨_,λc=>Ln (a1 c),a2⟩
theorem wj(h:PVW X G ob a fa):PVT X G ob a fa:=let⟨t,a1,a2⟩:=h.ex;⟨_,λc=>PW.pt (a1 c),a2⟩
theorem oF(O:PVT X G ob a fa):PVT X G ob (.UnaryOp .Not a pos) (lH fa):=let⟨t,a1,a2⟩:=O.ex;⟨_,λc=>JR (a1 c),JF a2⟩
theorem oU(O:Aw X G ob a ga)(U:Ib X G ob (.BoolOp .And (b::rest) pos) gb):Ib X G ob (.BoolOp .And (a::b::rest) pos) (pC ga gb):=let⟨t,a1,a2⟩:=O.ex;let⟨u,b1,b2⟩:=U.ex;⟨_,λc=>DQ (a1 c) (b1 c),GF a2 b2⟩
theorem lN(O:Aw X G ob a ga):Ib X G ob (.BoolOp .And [a] pos) ga:=let⟨t,a1,a2⟩:=O.ex;⟨_,λc=>yW (a1 c),a2⟩
theorem wU(h:Ib X G ob a ga):Aw X G ob a ga:=let⟨t,a1,a2⟩:=h.ex;⟨_,λc=>PW.pt (a1 c),a2⟩
def vL(f g:En->Option D):En->Option D:=λρ=>(f ρ).bind λx=>(isB x).bind λc=>if c then g ρ else some (.bl false)
theorem WOk.up{H H':Hp}{W:Wn}(w:WOk H W)(s:Same H H'):WOk H' W:=λa O=>let⟨o,z,m⟩:=w a O;⟨o,s a o z,m⟩
theorem K8{G:Gc}{H:Hp}{W:Wn}{b:Bool}:Rep G H W (.bl b) (.bl b) []:=by rw[Rep];exact⟨rfl,rfl⟩
theorem G8{ta tb:TE}{f g:En->Option D}(h:RfE G ob ta f)(h':RfE G ob tb g):RfE G ob (Jh ta tb) (vL f g):=λρ d e σ H W J w Q q=>by
 unfold vL at e;cases h1:f ρ with
 |none=>simp[h1]at e
 |some x=>
  cases h2:isB x with
  |none=>simp[h1,h2]at e
  |some c=>
   have:=pP h2;subst this;refine h ρ _ h1 σ H W J w _ λv H1 L Z r fr nd=>?_;rw[Rep]at r;refine⟨c,r.1,?_⟩;cases c with
   |false=>
    have:D.bl false=d:=by simpa[h1,isB]using e
    subst this;exact tM (q _ H1 [] Z K8 (by simp) List.nodup_nil)
   |true=>
    have e:g ρ=some d:=by simpa[h1,isB]using e
    exact n6 (h' ρ d e σ H1 W (J.up (Up.same Z)) (w.up Z) Q λv H2 L F r fr nd=>q v H2 L (Z.trans F) r (λa O=>Z.none' (fr a O)) nd)
section
variable{c:Expr}{fa fb:En->Option D}{fc:En->Option Bool}
theorem uB(O:PV X G ob a fa)(U:PV X G ob (.BoolOp .And (b::rest) pos) fb):PV X G ob (.BoolOp .And (a::b::rest) pos) (vL fa fb):=let⟨t,a1,a2⟩:=O.ex;let⟨u,b1,b2⟩:=U.ex;⟨_,λc=>Kr (a1 c) (b1 c),G8 a2 b2⟩
theorem xJ{op}(O:PV X G ob a fa):PV X G ob (.BoolOp op [a] pos) fa:=let⟨t,a1,a2⟩:=O.ex;⟨_,λc=>Lz (a1 c),a2⟩
end
end
section
variable{G:Gc}{ob P:Nat->Bool}{H H1 H2:Hp}{S S1 S2:Ad}{L M:List Addr}{ρ ρ1:En}{σ:L2.St}{Fr:Addr->Prop}
def eX(S:Ad)(i:Nat)(M:List Addr):Ad:=λj=>if j=i then M else S j
theorem bZ{i:Nat}:eX S i M i=M:=Pk rfl
theorem cz{i j:Nat}(h:j≠i):eX S i M j=S j:=Pn h
theorem bM{i j:Nat}{a:Addr}(h:a∈eX S i M j):(j=i/\a∈M)∨(j≠i/\a∈S j):=by
 by_cases e:j=i
 .rw[e,bZ]at h;exact .inl ⟨e,h⟩
 .rw[cz e]at h;exact .inr ⟨e,h⟩
theorem Mv.refl:Mv P H H σ σ S S M:=⟨λ_ _ h _ _=>h,λi a z=>.inl ⟨i,z⟩,.refl⟩
theorem Sta.store{i:Nat}{d:D}{v:V}(s:Sta G H ob ρ σ S (plus M Fr))(r:Rep G H (wn ob S (plus M Fr)) d v M)(Y:clean d=true)(nd:M.Nodup)(J:∀a∈M,¬Fr a) :
  ∃S',Sta G H ob (ρ.set i (some d)) (σ.set i (some v)) S' Fr/\∀j a,a∈S' j->inS S a∨a∈M:=by
 by_cases hi:i<ρ.length
 .refine⟨eX S i M,⟨by simp[s.len],λj e q=>?_,λj F=>?_,λj=>?_,λj k a h1 h2=>?_,λj a h1 h2=>?_,λa h=>s.fdm a (.inr h)⟩,λj a h=>?_⟩
  .have ev:Evo H H (wn ob S (plus M Fr)) (wn ob (eX S i M) Fr):=⟨λb u h f=>⟨h,⟨λz=>f.1 (.inr z),λ⟨k,h1,h2⟩=>?_,λ⟨k,h1,h2⟩=>?_⟩⟩,λ_ _ h=>h⟩
   .by_cases e:j=i
    .subst e
     have:d=e:=by simpa[hi]using q
     have:d=e:=this;subst this;have Z:j<σ.length:=by rw[←s.len];exact hi
     refine⟨v,by simp[Z],?_,Y⟩;rw[bZ];have I:aA d=true/\az d=true:=by simpa[clean]using Y
     exact r.mono ev (.inl I.1) (.inl I.2) λ_ _ _ h=>h
    .rw[List.getElem?_set_ne (Qn e)]at q
     obtain⟨O,h1,h2,N⟩:=s.sl j _ q;refine⟨O,by rw[List.getElem?_set_ne (Qn e)];exact h1,?_,N⟩;rw[cz e];have I:=(by simpa[clean]using N:aA _=true/\az _=true);exact h2.mono ev (.inl I.1) (.inl I.2) λ_ _ _ h=>h
   .rcases bM h2 with⟨_,z⟩|⟨_,z⟩
    .exact f.1 (.inl z)
    .exact f.2.1 ⟨k,h1,z⟩
   .rcases bM h2 with⟨_,z⟩|⟨_,z⟩
    .exact f.1 (.inl z)
    .exact f.2.2 ⟨k,h1,z⟩
  .by_cases e:j=i
   .subst e
    exact absurd (by simp[hi]) (F d)
   .rw[cz e]
    exact s.em j λd'=>by have:=F d';rwa[List.getElem?_set_ne (Qn e)]at this
  .by_cases e:j=i
   .rw[e,bZ];exact nd
   .rw[cz e];exact s.nd j
  .rcases bM h1 with⟨e1,z1⟩|⟨e1,z1⟩<;>rcases bM h2 with⟨e2,B⟩|⟨e2,B⟩
   .rw[e1,e2]
   .exact absurd B (s.fdj k a (.inl z1))
   .exact absurd z1 (s.fdj j a (.inl B))
   .exact s.dj j k a z1 B
  .rcases bM h2 with⟨_,z⟩|⟨_,z⟩
   .exact J a z h1
   .exact s.fdj j a (.inr h1) z
  .rcases bM h with⟨_,z⟩|⟨_,z⟩
   .exact .inr z
   .exact .inl ⟨j,z⟩
 .have h1:ρ.set i (some d)=ρ:=Xr (by omega)
  have h2:σ.set i (some v)=σ:=Xr (by rw[←s.len];omega);rw[h1,h2];exact⟨S,s.lessF λa z=>.inr z,λj a h=>.inl ⟨j,h⟩⟩
end
section
variable{ι:Type}{X:ι->Cx}{G:Gc}{ob P:Nat->Bool}
def gV:En->Option Fl:=λρ=>some (.nx ρ)
def bD(f g:En->Option Fl):En->Option Fl:=λρ=>match f ρ with
 |some (.nx ρ')=>g ρ'
 |r=>r
theorem Aft.from{G:Gc}{H H1:Hp}{σ U:L2.St}{S S1:Ad}{Fr:Addr->Prop}{E:Ends}(m:Mv P H H1 σ U S S1 []):∀{r:Fl},Aft G ob P H σ S Fr E r->Aft G ob P H1 U S1 Fr E r
 |.nx ρ',h=>λB H' S' s V=>h B H' S' s (m.trans V)
 |.brk ρ',h=>λB H' S' s V=>h B H' S' s (m.trans V)
 |.cnt ρ',h=>λB H' S' s V=>h B H' S' s (m.trans V)
 |.ret d ρ',h=>λv B H' M S' s r c n f V=>h v B H' M S' s r c n (λa O=>by
  rcases f a O with⟨i,z⟩|z
  .exact(m.gr i a z).elim .inl λz=>z.elim (λz=>by cases z) .inr
  .by_cases q:inS S a
   .exact .inl q
   .refine .inr ?_
    cases e:H a with
    |none=>rfl
    |some u=>rw[m.kp a u e q (by simp)]at z;cases z) (m.trans V)
theorem Hl:RfS G ob P Jp gV:=λρ r e σ H S Fr s E h=>by
 cases e;exact h σ H S s .refl
theorem HQ{t u:TS}{f g:En->Option Fl}(h1:RfS G ob P t f)(h2:RfS G ob P u g):RfS G ob P (M5 t u) (bD f g):=λρ r e σ H S Fr s E h=>by
 unfold bD at e;cases N:f ρ with
 |none=>rw[N]at e;cases e
 |some Y=>
  rw[N]at e;refine h1 ρ Y N σ H S Fr s _ ?_;cases Y with
  |nx I=>exact λB H' S' s' m=>h2 I r e B H' S' Fr s' E (h.from m)
  |brk I=>cases e;exact h
  |cnt I=>cases e;exact h
  |ret d I=>cases e;exact h
theorem cY:nW X G ob P [] gV:=⟨_,λc=>HH,Hl⟩
theorem aH{st:Stmt}{rest:List Stmt}{f g:En->Option Fl}(h1:PVS X G ob P st f)(h2:nW X G ob P rest g):nW X G ob P (st::rest) (bD f g):=let⟨t,a1,a2⟩:=h1.ex;let⟨u,b1,b2⟩:=h2.ex;⟨_,λc=>Dd (a1 c) (b1 c),HQ a2 b2⟩
theorem aW{st:Stmt}{f:En->Option Fl}(h1:PVS X G ob P st f):nW X G ob P [st] f:=let⟨t,a1,a2⟩:=h1.ex;⟨_,λc=>Ij (a1 c),a2⟩
def tgN(i:Nat):D->En->Option En:=λd ρ=>if clean d then some (ρ.set i (some d))else none
theorem il{i:Nat}(B:P i=false):RfG G ob P (rD i) (tgN i):=λd ρ I e v σ H S M Fr s r nd J Q q=>by
 unfold tgN at e;split at e
 .rename_i hc
  cases e;obtain⟨S',s',h⟩:=s.store r hc nd J (i:=i);refine q _ H S' s' ⟨λb u h _ _=>h,λj a z=>(h j a z).imp id .inl,λj F=>?_⟩;have:j≠i:=λz=>by rw[z,B]at F;cases F
  rw[List.getElem?_set_ne (Qn this)]
 .cases e
def cQ:List D->En->Option En:=λds ρ=>match ds with
 |[]=>some ρ
 |_=>none
def aO(f:D->En->Option En)(g:List D->En->Option En):List D->En->Option En:=λds ρ=>match ds with
 |d::r=>(f d ρ).bind λρ1=>g r ρ1
 |[]=>none
def tgT(n:Nat)(g:List D->En->Option En):D->En->Option En:=λd ρ=>match d with
 |.tup ds=>if ds.length=n/\aD ds=true/\aB ds=true then g ds ρ else none
 |_=>none
theorem Cw:O_ G ob P Gx cQ:=λds ρ I e vs σ H S M Fr s r nd J Q q=>by
 cases ds with
 |nil=>
  cases e;obtain⟨rfl,rfl⟩:=r.inv0;exact⟨rfl,q σ H S (s.lessF λa z=>.inr z) .refl⟩
 |cons d r=>cases e
def DR(G:Gc)(ob P:Nat->Bool)(g:TGs)(f:List D->En->Option En):Prop:=∀(ds:List D)(ρ I:En),aB ds=true->aD ds=true->f ds ρ=some I->∀(vs:List V)(σ:L2.St)(H:Hp)(S:Ad)(M:List Addr)(Fr:Addr->Prop),Sta G H ob ρ σ S (plus M Fr)->aF G H (wn ob S (plus M Fr)) ds vs M->M.Nodup->(∀a∈M,¬Fr a)->
 ∀Q:L2.St->Hp->Prop,(∀B H' S',Sta G H' ob I B S' Fr->Mv P H H' σ B S S' M->Q B H')->g vs σ H Q
theorem v7:DR G ob P Gx cQ:=λds ρ I _ _ e=>Cw ds ρ I e
theorem mO{t:TG}{u:TGs}{f:D->En->Option En}{g:List D->En->Option En}(h1:RfG G ob P t f)(h2:DR G ob P u g):DR G ob P (Ef t u) (aO f g):=λds ρ I c1 c2 e vs σ H S M Fr s r nd hF Q q=>by
 cases ds with
 |nil=>cases e
 |cons d ds=>
  obtain⟨x,ys,M1,M2,rfl,rfl,J,Z⟩:=r.inv;simp only[aB,aD,Qo]at c1 c2;simp only[aO]at e;cases N:f d ρ with
  |none=>rw[N]at e;cases e
  |some ρ1=>
   have e:g ds ρ1=some I:=by simpa[N]using e
   have a0:=Qg.mp nd;have a2:plus (M1++M2) Fr=plus M1 (plus M2 Fr):=by
    funext a;simp only[plus,Mz,or_assoc]
   rw[a2]at s J Z;refine⟨x,ys,rfl,h1 d ρ ρ1 N x σ H S M1 (plus M2 Fr) s J a0.1 (λa O z=>?_) _ λa1 H1 S1 s1 m1=>?_⟩
   .rcases z with z|z
    .exact a0.2.2 a O a z rfl
    .exact hF a (PL _ O) z
   .have ev:Evo H H1 (wn ob S (plus M1 (plus M2 Fr))) (wn ob S1 (plus M2 Fr)):=⟨λb u U f=>?_,λb xs h=>?_⟩
    .have hr1:aF G H1 (wn ob S1 (plus M2 Fr)) ds ys M2:=Z.mono ev (.inl c1.2) (.inl c2.2) λc Y u hu=>m1.kp c u hu (λ⟨i,z⟩=>s.fdj i c (.inr (.inl Y)) z) λz=>a0.2.2 c z c Y rfl
     refine h2 ds ρ1 I c1.2 c2.2 e ys a1 H1 S1 M2 Fr s1 hr1 a0.2.1 (λa O=>hF a (Pa _ O)) Q λσ2 H2 S2 F m2=>q σ2 H2 S2 F ⟨λb u U n1 n2=>?_,λi a z=>?_,m1.pr.trans m2.pr⟩
     .have n3:b∉M1:=λz=>n2 (PL _ z)
      exact m2.kp b u (m1.kp b u U n1 n3) (λ⟨i,z⟩=>(m1.gr i b z).elim n1 λz=>z.elim n3 λz=>by rw[U]at z;cases z) λz=>n2 (Pa _ z)
     .rcases m2.gr i a z with⟨j,z⟩|z|z
      .exact(m1.gr j a z).imp id λz=>z.imp (PL _) id
      .exact .inr (.inl (Pa _ z))
      .by_cases q1:inS S a
       .exact .inl q1
       .by_cases q2:a∈M1
        .exact .inr (.inl (PL _ q2))
        .refine .inr (.inr ?_)
         cases e:H a with
         |none=>rfl
         |some u=>rw[m1.kp a u e q1 q2]at z;cases z
    .have n1:¬inS S b:=λ⟨i,z⟩=>by
      cases B:ob i with
      |false=>exact f.2.1 ⟨i,B,z⟩
      |true=>exact f.2.2 ⟨i,B,z⟩
     have n2:b∉M1:=λz=>f.1 (.inl z);refine⟨m1.kp b u U n1 n2,λz=>f.1 (.inr z),λ⟨i,_,z⟩=>?_,λ⟨i,_,z⟩=>?_⟩
     .exact(m1.gr i b z).elim n1 λz=>z.elim n2 λz=>by rw[U]at z;cases z
     .exact(m1.gr i b z).elim n1 λz=>z.elim n2 λz=>by rw[U]at z;cases z
    .have no:∀u,H b=some u->muO u=false->H1 b=some u:=λu hu m=>m1.kp b u hu (λ⟨i,z⟩=>by
       obtain⟨o,B,V⟩:=s.mu z;rw[hu]at B;cases B;rw[m]at V;cases V) λz=>by
       obtain⟨o,B,V⟩:=J.dom b z;rw[hu]at B;cases B;rw[m]at V;cases V
     exact no _ h rfl
theorem GX{n:Nat}{t:TGs}{g:List D->En->Option En}(h:DR G ob P t g):RfG G ob P (Ko G.K n t) (tgT n g):=λd ρ I e v σ H S M Fr s r nd J Q q=>by
 cases d with
 |tup ds=>
  simp only[tgT]at e;split at e
  .rename_i hl
   rw[Rep]at r;obtain⟨a,xs,rfl,U,Z⟩:=r;exact⟨a,xs,rfl,SqT.of U,by rw[←Z.length];exact hl.1,h ds ρ I hl.2.2 hl.2.1 e xs σ H S M Fr s Z nd J Q q⟩
  .cases e
 |_=>cases e
structure G_{ι:Type}(X:ι->Cx)(G:Gc)(ob P:Nat->Bool)(tg:List Expr)(f:List D->En->Option En):Prop where
 mk::(ex:∃t,(∀c,PGs (X c) tg t)/\DR G ob P t f)
theorem dG(i:Nat){x:Str}{pos:Pos}(U:∀c,(X c).N.Nodup)(q:P i=false:=by rfl)(hi:∀c,(X c).N[i]? =some x:=by intro _;rfl)(J:∀c,Loc (X c).env.scope x:=by intro _;first|exact Ue rfl|exact Su rfl)(O:∀c,(X c).fn x=true∨(X c).env.scope.names.lookup x=some .local:=by intro _;first|exact .inl rfl|exact .inr rfl):PVG X G ob P (.Name x pos) (tgN i):=⟨_,λc=>uh (U c) (hi c) (J c) (O c),il q⟩
theorem pL:G_ X G ob P [] cQ:=⟨_,λc=>yt,v7⟩
theorem fU{e:Expr}{es:List Expr}{f:D->En->Option En}{g:List D->En->Option En}(h1:PVG X G ob P e f)(h2:G_ X G ob P es g)(F:∀c,(Rg (e::es) (X c).env).map (·.2)=VR e (X c).env::(Rg es (X c).env).map (·.2):=by intro _;rfl):G_ X G ob P (e::es) (aO f g):=let⟨t,a1,a2⟩:=h1.ex;let⟨u,b1,b2⟩:=h2.ex;⟨_,λc=>wH (a1 c) (b1 c) (F c),mO a2 b2⟩
theorem ud{es:List Expr}{k n:Nat}{pos:Pos}{g:List D->En->Option En}(Y:∀c,(X c).calm=true)(h:G_ X G ob P es g)(hn:∀c,(Rg es (X c).env).length=n:=by intro _;rfl)(j:∀c,(Rg es (X c).env).findIdx? (·.1)=none:=by intro _;rfl)(I:∀c,(X c).K=G.K:=by intro _;rfl):PVG X G ob P (.Tuple es k pos) (tgT n g):=let⟨t,a1,a2⟩:=h.ex;⟨_,λc=>(by rw[←I c];exact F_ (Y c) (a1 c) (hn c) (j c)),GX a2⟩
def eQ(f:En->Option D)(g:D->En->Option En):En->Option Fl:=λρ=>(f ρ).bind λd=>(g d ρ).map .nx
def dw(f:En->Option (D×En))(g:D->En->Option En):En->Option Fl:=λρ=>(f ρ).bind λp=>(g p.1 p.2).map .nx
theorem gP{Fr:Addr->Prop}:plus [] Fr=Fr:=by funext a;simp[plus]
theorem ju{te:TE}{t:TG}{f:En->Option (D×En)}{g:D->En->Option En}(h:iz G ob te f)(hg:RfG G ob P t g):RfS G ob P (GZ te t) (dw f g):=λρ r e σ H S Fr s E q=>by
 unfold dw at e;cases h1:f ρ with
 |none=>simp[h1]at e
 |some p=>
  obtain⟨d,ρ1⟩:=p;cases h2:g d ρ1 with
  |none=>simp[h1,h2]at e
  |some ρ2=>
   have:Fl.nx ρ2=r:=by simpa[h1,h2]using e
   subst this;refine h ρ d ρ1 h1 σ H S Fr s _ λv H1 M S1 Z Y nd V=>?_;have J:∀a∈M,¬Fr a:=λa O z=>by
    rcases V.fm a O with q|q
    .exact s.notO z q
    .obtain⟨o,B,_⟩:=s.fdm a z
     rw[q]at B;cases B
   refine hg d ρ1 ρ2 h2 v σ H1 S1 M Fr Z Y nd J _ λF H' S' s' m=>q F H' S' s' ⟨λb u U N I=>?_,λi a z=>?_,m.pr⟩
   .have hno:¬inO ob S b:=λ⟨i,_,z⟩=>N ⟨i,z⟩
    refine m.kp b u (V.kp b u U hno) (λ⟨i,z⟩=>?_) λz=>(V.fm b z).elim hno λz=>by rw[U]at z;cases z
    cases B:ob i with
    |false=>rw[V.sn i B]at z;exact N ⟨i,z⟩
    |true=>exact(V.gr i b B z).elim hno λz=>by rw[U]at z;cases z
   .rcases m.gr i a z with⟨j,z⟩|z|z
    .cases B:ob j with
     |false=>rw[V.sn j B]at z;exact .inl ⟨j,z⟩
     |true=>exact(V.gr j a B z).imp (λ⟨k,_,z⟩=>⟨k,z⟩) .inr
    .exact(V.fm a z).imp (λ⟨k,_,z⟩=>⟨k,z⟩) .inr
    .exact(V.back z).imp (λ⟨k,_,z⟩=>⟨k,z⟩) .inr
theorem xx{f:En->Option D}{g:D->En->Option En}:dw (eUp f) g=eQ f g:=by
 funext ρ;unfold dw eQ eUp;cases f ρ<;>rfl
section
variable{tg e:Expr}{pos:Pos}{g:D->En->Option En}
theorem zG{f:En->Option D}(V:PV X G ob e f)(j:PVG X G ob P tg g)(F:∀c,Vb [tg] e pos.line (X c).env=pure false:=by intro _;rfl)(q:∀c,V5 [tg] e (X c).env=pure none:=by intro _;rfl)(h1:∀c,(Rg [tg] (X c).env).map (·.2)=[VR tg (X c).env]:=by intro _;rfl):PVS X G ob P (.Assign [tg] e pos) (eQ f g):=let⟨t,a1,a2⟩:=V.ex;let⟨u,b1,b2⟩:=j.ex;⟨_,λc=>CK (a1 c) (b1 c) (F c) (q c) (h1 c),by rw[←xx];exact ju (u9 a2) b2⟩
theorem vJ{f:En->Option (D×En)}(V:PVe X G ob e f)(j:PVG X G ob P tg g)(F:∀c,Vb [tg] e pos.line (X c).env=pure false:=by intro _;rfl)(q:∀c,V5 [tg] e (X c).env=pure none:=by intro _;rfl)(h1:∀c,(Rg [tg] (X c).env).map (·.2)=[VR tg (X c).env]:=by intro _;rfl):PVS X G ob P (.Assign [tg] e pos) (dw f g):=let⟨t,a1,a2⟩:=V.ex;let⟨u,b1,b2⟩:=j.ex;⟨_,λc=>CK (a1 c) (b1 c) (F c) (q c) (h1 c),ju a2 b2⟩
theorem cT(i:Nat){x:Str}{pos':Pos}{f:En->Option D}(U:∀c,(X c).N.Nodup)(V:PV X G ob e f)(q:P i=false:=by rfl)(hi:∀c,(X c).N[i]? =some x:=by intro _;rfl)(J:∀c,Loc (X c).env.scope x:=by intro _;first|exact Ue rfl|exact Su rfl)(F:∀c,Wf e (some (.Name x pos')) pos.line (X c).env=pure false:=by intro _;rfl)(O:∀c,(X c).fn x=true∨(X c).env.scope.names.lookup x=some .local:=by intro _;first|exact .inl rfl|exact .inr rfl):PVS X G ob P (.Assign [.Name x pos'] e pos) (eQ f (tgN i)):=let⟨t,a1,a2⟩:=V.ex;⟨_,λc=>Di (U c) (hi c) (J c) (a1 c) (F c) (O c),by rw[←xx];exact ju (u9 a2) (il q)⟩
theorem cg(i:Nat){x:Str}{pos':Pos}{f:En->Option (D×En)}(U:∀c,(X c).N.Nodup)(V:PVe X G ob e f)(q:P i=false:=by rfl)(hi:∀c,(X c).N[i]? =some x:=by intro _;rfl)(J:∀c,Loc (X c).env.scope x:=by intro _;first|exact Ue rfl|exact Su rfl)(F:∀c,Wf e (some (.Name x pos')) pos.line (X c).env=pure false:=by intro _;rfl)(O:∀c,(X c).fn x=true∨(X c).env.scope.names.lookup x=some .local:=by intro _;first|exact .inl rfl|exact .inr rfl):PVS X G ob P (.Assign [.Name x pos'] e pos) (dw f (tgN i)):=let⟨t,a1,a2⟩:=V.ex;⟨_,λc=>Di (U c) (hi c) (J c) (a1 c) (F c) (O c),ju a2 (il q)⟩
end
def qm(f:En->Option (List D×En))(g:List D->En->Option En):En->Option Fl:=λρ=>(f ρ).bind λp=>if aB p.1/\aD p.1 then(g p.1 p.2).map .nx else none
theorem Eu{ta:TA}{i j:Nat}(hi:P i=false)(F:P j=false){f:En->Option (List D×En)}(h:xq G ob ta f):RfS G ob P (Nq i j ta) (qm f (aO (tgN i) (aO (tgN j) cQ))):=λρ r e σ H S Fr s E q=>by
 unfold qm at e;cases h1:f ρ with
 |none=>simp[h1]at e
 |some p=>
  obtain⟨ds,ρ1⟩:=p;by_cases Y:aB ds/\aD ds
  .cases h2:(aO (tgN i) (aO (tgN j) cQ)) ds ρ1 with
   |none=>simp[h1,h2,Y]at e
   |some ρ2=>
    have:Fl.nx ρ2=r:=by simpa[h1,h2,Y]using e
    subst this;refine h ρ ds ρ1 h1 σ H S Fr s _ λvs H1 M S1 Z r1 nd V=>?_;have J:∀a∈M,¬Fr a:=λa O z=>by
     rcases V.fm a O with q|q
     .exact s.notO z q
     .obtain⟨o,B,_⟩:=s.fdm a z
      rw[q]at B;cases B
    have a1:=mO (il (G:=G) (ob:=ob) hi) (mO (il F) v7) ds ρ1 ρ2 Y.1 Y.2 h2 vs σ H1 S1 M Fr Z r1 nd J (λa0 H'=>E.nx a0 H') λa0 H' S' s' m=>q a0 H' S' s' ⟨λb u U N I=>?_,λi a z=>?_,m.pr⟩
    .obtain⟨v,rr,e1,v2,r2,e2,e3,k⟩:=a1
     subst e3;exact⟨v,v2,by rw[e1,e2],k⟩
    .have hno:¬inO ob S b:=λ⟨i,_,z⟩=>N ⟨i,z⟩
     refine m.kp b u (V.kp b u U hno) (λ⟨i,z⟩=>?_) λz=>(V.fm b z).elim hno λz=>by rw[U]at z;cases z
     cases B:ob i with
     |false=>rw[V.sn i B]at z;exact N ⟨i,z⟩
     |true=>exact(V.gr i b B z).elim hno λz=>by rw[U]at z;cases z
    .rcases m.gr i a z with⟨j,z⟩|z|z
     .cases B:ob j with
      |false=>rw[V.sn j B]at z;exact .inl ⟨j,z⟩
      |true=>exact(V.gr j a B z).imp (λ⟨k,_,z⟩=>⟨k,z⟩) .inr
     .exact(V.fm a z).imp (λ⟨k,_,z⟩=>⟨k,z⟩) .inr
     .exact(V.back z).imp (λ⟨k,_,z⟩=>⟨k,z⟩) .inr
  .simp[h1,Y]at e
section
variable{x y:Str}{a b:Expr}{px py pt pos:Pos}{kt k2 pt2}
theorem EY(i j:Nat){f:En->Option (List D×En)}(Y:∀c,(X c).calm=true)(U:∀c,(X c).N.Nodup)(O:qO X G ob [a,b] f)(q:P i=false:=by rfl)(B:P j=false:=by rfl)(hi:∀c,(X c).N[i]? =some x:=by intro _;rfl)(I:∀c,(X c).N[j]? =some y:=by intro _;rfl)(Z:i≠j:=by decide)(J:∀c,(X c).env.scope.names.lookup x=some .local:=by intro _;rfl)(hy:∀c,(X c).env.scope.names.lookup y=some .local:=by intro _;rfl)(V:∀c,V5 [.Tuple [.Name x px,.Name y py] kt pt] (.Tuple [a,b] k2 pt2) (X c).env=pure (some [x,y]):=by intro _;rfl)(F:∀c,Vb [.Tuple [.Name x px,.Name y py] kt pt] (.Tuple [a,b] k2 pt2) pos.line (X c).env=pure false:=by intro _;rfl) :
 PVS X G ob P (.Assign [.Tuple [.Name x px,.Name y py] kt pt] (.Tuple [a,b] k2 pt2) pos) (qm f (aO (tgN i) (aO (tgN j) cQ))):=let⟨t,a1,a2⟩:=O.ex;⟨_,λc=>JZ (Y c) (U c) (hi c) (I c) Z (J c) (hy c) (a1 c) (V c) (F c),Eu q B a2⟩
end
def sIf(c:En->Option Bool)(f g:En->Option Fl):En->Option Fl:=λρ=>(c ρ).bind λb=>if b then f ρ else g ρ
def ur(c:En->Option (Bool×En))(f g:En->Option Fl):En->Option Fl:=λρ=>(c ρ).bind λp=>if p.1 then f p.2 else g p.2
theorem N8{c:En->Option Bool}{f g:En->Option Fl}:ur (uE c) f g=sIf c f g:=by
 funext ρ;unfold ur sIf uE;cases c ρ<;>rfl
theorem zP{tc:TT}{t u:TS}{c:En->Option (Bool×En)}{f g:En->Option Fl}(Y:wR G ob tc c)(h1:RfS G ob P t f)(h2:RfS G ob P u g):RfS G ob P (Nx tc t u) (ur c f g):=λρ r e σ H S Fr s E q=>by
 unfold ur at e;cases N:c ρ with
 |none=>simp[N]at e
 |some p=>
  obtain⟨b,ρ1⟩:=p;refine Y ρ b ρ1 N σ H S Fr s _ λH1 S1 Z V=>?_;have m:Mv P H H1 σ σ S S1 []:=V.mv;cases b with
  |true=>exact n6 (h1 ρ1 r (by simpa[N]using e) σ H1 S1 Fr Z E (q.from m))
  |false=>exact tM (h2 ρ1 r (by simpa[N]using e) σ H1 S1 Fr Z E (q.from m))
theorem gw{c:Expr}{a b:List Stmt}{pos:Pos}{fc:En->Option Bool}{f g:En->Option Fl}(Y:PVT X G ob c fc)(O:nW X G ob P a f)(U:nW X G ob P b g):PVS X G ob P (.If c a b pos) (sIf fc f g):=let⟨v,c1,c2⟩:=Y.ex;let⟨t,a1,a2⟩:=O.ex;let⟨u,b1,b2⟩:=U.ex;⟨_,λc=>Ji (c1 c) (a1 c) (b1 c),by rw[←N8];exact zP (DK c2) a2 b2⟩
theorem uF{c:Expr}{a b:List Stmt}{pos:Pos}{fc:En->Option (Bool×En)}{f g:En->Option Fl}(Y:Aw X G ob c fc)(O:nW X G ob P a f)(U:nW X G ob P b g):PVS X G ob P (.If c a b pos) (ur fc f g):=let⟨v,c1,c2⟩:=Y.ex;let⟨t,a1,a2⟩:=O.ex;let⟨u,b1,b2⟩:=U.ex;⟨_,λc=>Ji (c1 c) (a1 c) (b1 c),zP c2 a2 b2⟩
def pB(f:En->Option (D×En)):En->Option Fl:=λρ=>(f ρ).bind λp=>if clean p.1 then some (.ret p.1 p.2)else none
def gW(f:En->Option D):En->Option Fl:=λρ=>(f ρ).bind λd=>if clean d then some (.ret d ρ)else none
theorem Lr{f:En->Option D}:pB (eUp f)=gW f:=by
 funext ρ;unfold pB gW eUp;cases f ρ<;>rfl
theorem vB{te:TE}{f:En->Option (D×En)}(h:iz G ob te f):RfS G ob P (J4 te) (pB f):=λρ r e σ H S Fr s E q=>by
 unfold pB at e;cases h1:f ρ with
 |none=>simp[h1]at e
 |some p=>
  obtain⟨d,ρ1⟩:=p;cases Y:clean d with
  |false=>simp[h1,Y]at e
  |true=>
   have:Fl.ret d ρ1=r:=by simpa[h1,Y]using e
   subst this;exact h ρ d ρ1 h1 σ H S Fr s _ λv H1 M S1 Z j nd V=>q v σ H1 M S1 Z j Y nd (λa O=>(V.fm a O).imp (λ⟨i,_,z⟩=>⟨i,z⟩) id) V.mv
theorem dB{e:Expr}{pos:Pos}{f:En->Option D}(V:PV X G ob e f):PVS X G ob P (.Return (some e) pos) (gW f):=let⟨t,a1,a2⟩:=V.ex;⟨_,λc=>xM (a1 c),by rw[←Lr];exact vB (u9 a2)⟩
theorem B_{e:Expr}{pos:Pos}{f:En->Option (D×En)}(V:PVe X G ob e f):PVS X G ob P (.Return (some e) pos) (pB f):=let⟨t,a1,a2⟩:=V.ex;⟨_,λc=>xM (a1 c),vB a2⟩
theorem Sta.move{G:Gc}{H:Hp}{ρ:En}{σ:L2.St}{S:Ad}{Fr:Addr->Prop}{i:Nat}{d:D}(s:Sta G H ob ρ σ S Fr)(e:ρ[i]? =some (some d)) :
  ∃v,σ[i]? =some (some v)/\clean d=true/\Sta G H ob (ρ.set i none) σ (eX S i []) (plus (S i) Fr)/\Rep G H (wn ob (eX S i []) (plus (S i) Fr)) d v (S i):=by
 obtain⟨v,h1,h2,N⟩:=s.sl i d e;have J:Evo H H (wn ob S Fr) (wn ob (eX S i []) (plus (S i) Fr)):=⟨λb u h f=>⟨h,⟨λz=>z.elim (λz=>?_) f.1,λ⟨k,q1,q2⟩=>?_,λ⟨k,q1,q2⟩=>?_⟩⟩,λ_ _ h=>h⟩
 .have I:=(by simpa[clean]using N:aA d=true/\az d=true)
  refine⟨v,h1,N,⟨by simp[s.len],λj d' V=>?_,λj F=>?_,λj=>?_,λj k a q1 q2=>?_,λj a q1 q2=>?_,λa h=>?_⟩,h2.mono J (.inl I.1) (.inl I.2) λ_ _ _ h=>h⟩
  .by_cases e':j=i
   .subst e'
    rw[Xg]at V;split at V
    .split at V
     .simp at V
     .cases V
    .exact absurd rfl ‹_›
   .rw[List.getElem?_set_ne (Qn e')]at V
    obtain⟨B,q1,q2,q⟩:=s.sl j _ V;refine⟨B,q1,?_,q⟩;rw[cz e'];have I:=(by simpa[clean]using q:aA d'=true/\az d'=true);exact q2.mono J (.inl I.1) (.inl I.2) λ_ _ _ h=>h
  .by_cases e':j=i
   .rw[e',bZ]
   .rw[cz e']
    exact s.em j λd'=>by have:=F d';rwa[List.getElem?_set_ne (Qn e')]at this
  .by_cases e':j=i
   .rw[e',bZ];exact List.nodup_nil
   .rw[cz e'];exact s.nd j
  .rcases bM q1 with⟨_,z⟩|⟨_,z⟩
   .cases z
   .rcases bM q2 with⟨_,z'⟩|⟨_,z'⟩
    .cases z'
    .exact s.dj j k a z z'
  .rcases bM q2 with⟨_,z⟩|⟨n,z⟩
   .cases z
   .rcases q1 with q1|q1
    .exact n (s.dj j i a z q1)
    .exact s.fdj j a q1 z
  .rcases h with h|h
   .exact s.mu h
   .exact s.fdm a h
 .cases ho:ob i with
  |false=>exact f.2.1 ⟨i,ho,z⟩
  |true=>exact f.2.2 ⟨i,ho,z⟩
 .rcases bM q2 with⟨_,z⟩|⟨_,z⟩
  .cases z
  .exact f.2.1 ⟨k,q1,z⟩
 .rcases bM q2 with⟨_,z⟩|⟨_,z⟩
  .cases z
  .exact f.2.2 ⟨k,q1,z⟩
def kJ(i:Nat):En->Option Fl:=λρ=>match ρ[i]? with
 |some (some d)=>some (.ret d (ρ.set i none))
 |_=>none
theorem Ed{i:Nat}:RfS G ob P (J4 (Gs i)) (kJ i):=λρ r e σ H S Fr s E q=>by
 unfold kJ at e;split at e
 .rename_i d h1
  cases e;obtain⟨v,h2,N,V,I⟩:=s.move h1;exact⟨v,h2,q v σ H (S i) (eX S i []) V I N (s.nd i) (λa O=>.inl ⟨i,O⟩) ⟨λ_ _ h _ _=>h,λj a z=>(bM z).elim (λz=>by cases z.2) λz=>.inl ⟨j,z.2⟩,.refl⟩⟩
 .cases e
theorem oM(i:Nat){x:Str}{pos pos':Pos}(U:∀c,(X c).N[i]? =some x:=by intro _;rfl)(q:∀c,Vis (X c).env.scope x:=by intro _;first|exact Ue rfl|exact Su (Ue rfl)|exact Su (Su rfl))(hd:(x==("__debug__":Str))=false:=by decide)(j:(x==("__classdict__":Str))=false:=by decide):PVS X G ob P (.Return (some (.Name x pos)) pos') (kJ i):=⟨_,λc=>xM (pv i (U c) (q c) hd j),Ed⟩
end
def mkO:Mk->Mk
 |.own=>.frz
 |m=>m
mutual
noncomputable def fzo:D->D
 |.tup ds=>.tup (fY ds)
 |.lst m ds=>.lst (mkO m) (fY ds)
 |.dct m ks ds=>.dct (mkO m) ks (fY ds)
 |.ins m c fs ds=>.ins (mkO m) c fs (fY ds)
 |d=>d
noncomputable def fY:List D->List D
 |[]=>[]
 |d::r=>fzo d::fY r
end
theorem eY:∀ds:List D,fY ds=ds.map fzo
 |[]=>rfl
 |d::r=>by rw[fY,eY r];rfl
variable{a:Addr}
theorem bN.fzo(F:Les H W W' L)(hn:∀a,W.s a->W'.s a)(h:bN j H W a o m L M):bN j H W' a o (mkO m) [] []:=by
 cases m with
 |own=>exact⟨h.1,F.l a (by rw[h.2];simp),rfl,rfl⟩
 |frz=>exact⟨h.1,F.f a h.2.1,rfl,rfl⟩
 |brw=>exact⟨h.1,hn a h.2.1,rfl,rfl⟩
 |bro=>exact⟨h.1,rfl,rfl⟩
 |scr=>exact⟨h.1.imp (λz=>⟨z.1,F.f a z.2⟩) id,rfl,rfl⟩
mutual
theorem Rep.fzo(hn:∀a,W.s a->W'.s a):∀{d:D}{v:V}{L:List Addr},Rep G H W d v L->Les H W W' L->Rep G H W' (fzo d) v []
 |.non,v,L,h,_=>by rw[Rep]at h;simp[Jb.fzo,Rep,h]
 |.bl _,v,L,h,_=>by rw[Rep]at h;simp[Jb.fzo,Rep,h]
 |.int _,v,L,h,_=>by rw[Rep]at h;simp[Jb.fzo,Rep,h]
 |.str _,v,L,h,_=>by rw[Rep]at h;simp[Jb.fzo,Rep,h]
 |.ty _,v,L,h,_=>by rw[Rep]at h;simp[Jb.fzo,Rep,h]
 |.tup ds,v,L,h,F=>by
  rw[Rep]at h;rw[Jb.fzo,Rep];obtain⟨a,xs,rfl,U,Z⟩:=h;exact⟨a,xs,rfl,U,aF.fzo hn Z F⟩
 |.lst m ds,v,L,h,he=>by
  rw[Rep]at h;rw[Jb.fzo,Rep];obtain⟨a,xs,M,rfl,Z,F⟩:=h;exact⟨a,xs,[],rfl,aF.fzo hn Z (he.sub λc Y=>F.sub.subset Y),F.fzo he hn⟩
 |.dct m ks ds,v,L,h,he=>by
  rw[Rep]at h;rw[Jb.fzo,Rep];obtain⟨a,xs,M,rfl,J,Z,F⟩:=h;exact⟨a,xs,[],rfl,J,aF.fzo hn Z (he.sub λc Y=>F.sub.subset Y),F.fzo he hn⟩
 |.ins m c' fs ds,v,L,h,he=>by
  rw[Rep]at h;rw[Jb.fzo,Rep];obtain⟨a,C,dx,xs,M,rfl,I,J,Z,F⟩:=h;exact⟨a,C,dx,xs,[],rfl,I,J,aF.fzo hn Z (he.sub λc Y=>F.sub.subset Y),F.fzo he hn⟩
theorem aF.fzo(hn:∀a,W.s a->W'.s a):∀{ds:List D}{vs:List V}{L:List Addr},aF G H W ds vs L->Les H W W' L->aF G H W' (fY ds) vs []
 |[],vs,L,h,_=>by obtain⟨rfl,_⟩:=h.inv0;rw[fY];exact .nil
 |d::r,vs,L,h,he=>by
  obtain⟨x,ys,M,M',rfl,rfl,h1,h2⟩:=h.inv;rw[fY];exact .cons (M:=[]) (M':=[]) (Rep.fzo hn h1 (he.sub λc Y=>PL _ Y)) (aF.fzo hn h2 (he.sub λc Y=>Pa _ Y))
end
mutual
theorem Bg:∀{d:D},aA d=true->aA (Jb.fzo d)=true
 |.non,_=>rfl|.bl _,_=>rfl|.int _,_=>rfl|.str _,_=>rfl|.ty _,_=>rfl
 |.tup ds,h=>by simp[aA]at h;simp[Jb.fzo,aA,bO h]
 |.lst m ds,h=>by simp[aA]at h;cases m<;>simp[Jb.fzo,aA,bO h.2,mkO]<;>simp at h
 |.dct m _ ds,h=>by simp[aA]at h;cases m<;>simp[Jb.fzo,aA,bO h.2,mkO]<;>simp at h
 |.ins m _ _ ds,h=>by simp[aA]at h;cases m<;>simp[Jb.fzo,aA,bO h.2,mkO]<;>simp at h
theorem bO:∀{ds:List D},aB ds=true->aB (fY ds)=true
 |[],_=>rfl
 |d::r,h=>by simp[aB]at h;simp[fY,aB,Bg h.1,bO h.2]
end
mutual
theorem BK:∀{d:D},az d=true->az (Jb.fzo d)=true
 |.non,_=>rfl|.bl _,_=>rfl|.int _,_=>rfl|.str _,_=>rfl|.ty _,_=>rfl
 |.tup ds,h=>by simp[az]at h;simp[Jb.fzo,az,bQ h]
 |.lst m ds,h=>by simp[az]at h;cases m<;>simp[Jb.fzo,az,bQ h.2,mkO]<;>simp at h
 |.dct m _ ds,h=>by simp[az]at h;cases m<;>simp[Jb.fzo,az,bQ h.2,mkO]<;>simp at h
 |.ins m _ _ ds,h=>by simp[az]at h;cases m<;>simp[Jb.fzo,az,bQ h.2,mkO]<;>simp at h
theorem bQ:∀{ds:List D},aD ds=true->aD (fY ds)=true
 |[],_=>rfl
 |d::r,h=>by simp[aD]at h;simp[fY,aD,BK h.1,bQ h.2]
end
structure Wk(G:Gc)(J:It)(Lt:Hp->Wn->Prop)(items:List D):Prop where
 go:∀(i:Nat)(d:D),items[i]? =some d->∀H W,Lt H W->J.go i H
 yld:∀(i:Nat)(d:D),items[i]? =some d->∀H W,Lt H W->∀x H',J.yld i H x H'->Same H H'/\Rep G H' W d x []
 stop:∀H W,Lt H W->J.stop items.length H
def LtB(b:Bool)(H:Hp)(W:Wn):Hp->Wn->Prop:=λH2 B=>if b=true then Evo H H2 W B else Up H H2 W B
variable{b:Bool}
theorem LtB.up{B:Wn}(u:Up H H2 W B):LtB b H W H2 B:=by
 cases b with
 |true=>exact n6 u.evo
 |false=>exact tM u
def RfI(G:Gc)(ob:Nat->Bool)(wi:TI)(f:En->Option (Bool×List D)):Prop:=∀(ρ:En)(b:Bool)(items:List D),f ρ=some (b,items)->∀(σ:L2.St)(H:Hp)(W:Wn),Rel G H W ob ρ σ->WOk H W->∀R:It->Hp->Prop,
 (∀J H',Same H H'->Wk G J (LtB b H' W) items->R J H')->wi σ H R
structure PVI{ι:Type}(X:ι->Cx)(G:Gc)(ob:Nat->Bool)(tg it:Expr)(f:En->Option (Bool×List D)):Prop where
 mk::(ex:∃t,(∀c,PI (X c) tg it t)/\RfI G ob t f)
def eO(lo:Int)(n:Nat):List D:=(Qq n).map λ(k:Nat)=>D.int (lo+(k:Int))
def nO(f:En->Option (List D)):En->Option (Bool×List D):=λρ=>(f ρ).bind λds=>match ds with
 |[.int j]=>if -(2 ^ 62)<=j/\j<2 ^ 62 then some (true,eO 0 j.toNat)else none
 |_=>none
theorem Es{j:Hp->Wn->Prop}{lo:Int}:Wk G (Itr lo n) j (eO lo n)where
 go:=λi d e H W _=>by
  have:=(Mx.mp e).1;show i<n;simpa[eO]using this
 yld:=λi d e H W _ x H' h=>by
  obtain⟨rfl,rfl⟩:=h;have:d= .int (lo+(i:Int)):=by
   unfold eO at e;rw[List.getElem?_map]at e;have hi:i<n:=by
    have:=(Mx.mp (show(eO lo n)[i]? =some d by unfold eO;rw[List.getElem?_map];exact e)).1;simpa[eO]using this
   rw[Y4 hi]at e;simpa using e.symm
  subst this;exact⟨Same.refl _,by rw[Rep];exact⟨rfl,rfl⟩⟩
 stop:=λH W _=>by
  show n<=(eO lo n).length;simp[eO]
variable{f:En->Option (List D)}
theorem KR(h:RfA G ob t f):RfI G ob (Gf t) (nO f):=λρ b items e σ H W B w R q=>by
 unfold nO at e;cases h1:f ρ with
 |none=>simp[h1]at e
 |some ds=>
  rw[h1]at e;simp only[Pb]at e;split at e
  .rename_i j
   split at e
   .rename_i hj
    cases e;refine h ρ _ h1 σ H W B w _ λvs H' L s r fr nd=>?_;obtain⟨x,ys,M,M',rfl,_,J,F⟩:=r.inv;obtain⟨rfl,_⟩:=F.inv0;rw[Rep]at J;obtain⟨rfl,_⟩:=J;exact⟨j,rfl,hj.1,hj.2,q _ H' s Es⟩
   .cases e
  .cases e
def bW:D->Option (Bool×List D)
 |.lst m ds=>some (clean (.lst m ds),fY ds)
 |.tup ds=>some (clean (.tup ds),fY ds)
 |_=>none
def itS(f:En->Option D):En->Option (Bool×List D):=λρ=>(f ρ).bind bW
theorem lQ{W1 B:Wn}(h:bN j H W1 a o m L M)(V:Les H W1 W L)(hn:W1.s a->W.s a)(U:b=true->m≠.brw/\m≠.bro)(l:LtB b H W H2 B):Rd H2 a o∨j a o:=by
 cases b with
 |false=>
  have u:Up H H2 W B:=(Pn Rx).mp l;exact h.rx.imp (Same.rd u.s) id
 |true=>
  have e:Evo H H2 W B:=(Pk rfl).mp l;cases m with
  |own=>exact .inl (.inl (e.k a o h.1 (V.l a (by rw[h.2];simp))).1)
  |frz=>exact .inl (.inl (e.k a o h.1 (V.f a h.2.1)).1)
  |brw=>exact absurd rfl (U rfl).1
  |bro=>exact absurd rfl (U rfl).2
  |scr=>exact h.1.imp (λz=>(e.rd z.1 (V.f a z.2)).1) id
theorem Ei{K:Pu}(h:Rd H a (.lst xs)∨KO K a (.lst xs)):SqL K H a xs:=by
 rcases h with z|⟨ys,e,z⟩
 .exact .inl z
 .cases e
  exact .inr z
theorem LtB.rep{B:Wn}(l:LtB b H W H2 B)(U:b=true->aA d=true/\az d=true)(r:Rep G H W d v []):Rep G H2 B d v []:=by
 cases b with
 |false=>exact r.up ((Pn Rx).mp l)
 |true=>exact r.mono ((Pk rfl).mp l) (.inl (U rfl).1) (.inl (U rfl).2) (by simp)
theorem LtB.tup{H H2:Hp}{W B:Wn}{b:Bool}{K:Pu}{a:Addr}{xs:List V}(l:LtB b H W H2 B)(h:H a=some (.tup xs)):SqT K H2 a xs:=by
 cases b with
 |false=>exact SqT.of (((Pn Rx).mp l).s a _ h)
 |true=>exact SqT.of (((Pk rfl).mp l).t a xs h)
theorem iQ(h:aB ds=true)(e:ds[i]? =some d):aA d=true:=by
 induction ds generalizing i with
 |nil=>simp at e
 |cons a r F=>
  simp only[aB,Qo]at h;cases i with
  |zero=>
   have:a=d:=by simpa using e
   rw[←this];exact h.1
  |succ i=>exact F h.2 (by simpa using e)
theorem iU(h:aD ds=true)(e:ds[i]? =some d):az d=true:=by
 induction ds generalizing i with
 |nil=>simp at e
 |cons a r F=>
  simp only[aD,Qo]at h;cases i with
  |zero=>
   have:a=d:=by simpa using e
   rw[←this];exact h.1
  |succ i=>exact F h.2 (by simpa using e)
structure Parts(G:Gc)(H:Hp)(W:Wn)(b:Bool)(es:List D)(xs:List V):Prop where
 r:aF G H W es xs []
 c:b=true->aB es=true/\aD es=true
theorem Parts.at{G:Gc}{H H2:Hp}{W B:Wn}{b:Bool}{es:List D}{xs:List V}(p:Parts G H W b es xs)(l:LtB b H W H2 B){i:Nat}{d:D}{x:V}(e:es[i]? =some d)(J:xs[i]? =some x):Rep G H2 B d x []:=by
 obtain⟨y,M,h1,h2,N⟩:=p.r.get e;rw[J]at h1;cases h1;have:M=[]:=by simpa using N
 subst this;exact l.rep (λz=>⟨iQ (p.c z).1 e,iU (p.c z).2 e⟩) h2
theorem yI{es:List D}(w:WOk H W)(s:Same H H')(r:Rep G H' (W.add L) d v L)(fr:∀a∈L,H a=none)(e:bW d=some (b,es)) :
  ∃a xs,v= .ref a/\Parts G H' W b es xs/\((∀H2 B,LtB b H' W H2 B->SqL G.K H2 a xs)∨(∀H2 B,LtB b H' W H2 B->SqT G.K H2 a xs)):=by
 have free:∀a∈L,W.free a:=λa O=>⟨λz=>?_,λz=>?_,λz=>?_⟩
 .have les:Les H' (W.add L) W L:=⟨λa f=>⟨λz=>f.1 (.inr z),f.2⟩,free⟩
  cases d with
  |lst m ds=>
   simp only[bW,S_,Vc]at e;obtain⟨rfl,rfl⟩:=e;rw[Rep]at r;obtain⟨a,xs,M,rfl,Z,F⟩:=r;refine⟨a,xs,rfl,⟨aF.fzo (W:=W.add L) (W':=W) (λ_ z=>z) Z (les.sub λc Y=>F.sub.subset Y),λz=>?_⟩,.inl λH2 B l=>Ei (lQ F les (λz=>z) (λz=>?_) l)⟩
   .simp[clean,aA,az]at z
    exact⟨bO z.1.2,bQ z.2.2⟩
   .simp[clean,aA,az]at z
    exact⟨z.1.1,z.2.1⟩
  |tup ds=>
   simp only[bW,S_,Vc]at e;obtain⟨rfl,rfl⟩:=e;rw[Rep]at r;obtain⟨a,xs,rfl,U,Z⟩:=r;refine⟨a,xs,rfl,⟨aF.fzo (W:=W.add L) (W':=W) (λ_ z=>z) Z les,λz=>?_⟩,.inr λH2 B l=>l.tup U⟩;simp[clean,aA,az]at z;exact⟨bO z.1,bQ z.2⟩
  |_=>simp[bW]at e
 .obtain⟨o,ho,_⟩:=w a (.inl z);rw[fr a O]at ho;cases ho
 .obtain⟨o,ho,_⟩:=w a (.inr (.inl z));rw[fr a O]at ho;cases ho
 .obtain⟨o,ho,_⟩:=w a (.inr (.inr z));rw[fr a O]at ho;cases ho
theorem aF.getV(h:aF G H W ds xs L)(e:ds[i]? =some d):∃x,xs[i]? =some x:=let⟨x,_,h,_⟩:=h.get e;⟨x,h⟩
theorem Ig{f:En->Option D}(h:RfE G ob te f):RfI G ob (JW G.K te) (itS f):=λρ b items e σ H W J w R q=>by
 unfold itS at e;cases h1:f ρ with
 |none=>simp[h1]at e
 |some d=>
  have e:bW d=some (b,items):=by simpa[h1]using e
  refine h ρ d h1 σ H W J w _ λv H' L s r fr nd=>?_;obtain⟨a,xs,rfl,p,F⟩:=yI w s r fr e;refine⟨a,rfl,?_⟩;rcases F with F|F
  .refine .inl ⟨⟨xs,F H' W (LtB.up Up.refl)⟩,q _ H' s ⟨λi d e H2 B l=>?_,λi d e H2 B l x j y=>?_,λH2 B l=>?_⟩⟩
   .obtain⟨x,hx⟩:=p.r.getV e
    exact⟨xs,x,F H2 B l,hx⟩
   .obtain⟨rfl,y⟩:=y
    exact⟨Same.refl _,p.at l e (y xs (F _ B l))⟩
   .exact⟨xs,F H2 B l,by rw[p.r.length];exact Pg _⟩
  .refine .inr ⟨⟨xs,F H' W (LtB.up Up.refl)⟩,q _ H' s ⟨λi d e H2 B l=>?_,λi d e H2 B l x j y=>?_,λH2 B l=>?_⟩⟩
   .obtain⟨x,hx⟩:=p.r.getV e
    exact⟨xs,x,F H2 B l,hx⟩
   .obtain⟨rfl,y⟩:=y
    exact⟨Same.refl _,p.at l e (y xs (F _ B l))⟩
   .exact⟨xs,F H2 B l,by rw[p.r.length];exact Pg _⟩
def fG:Nat->List D->List D
 |_,[]=>[]
 |i,d::r=>.tup [.int (i:Int),d]::fG (i+1) r
theorem mF:∀(ds:List D)(k i:Nat),(fG k ds)[i]? =(ds[i]?).map λd=>.tup [.int ((k+i:Nat):Int),d]
 |[],k,i=>by simp[fG]
 |d::r,k,i=>by
  cases i with
  |zero=>simp[fG]
  |succ i=>
   simp only[fG,Qd];rw[mF r (k+1) i,show k+1+i=k+(i+1)by omega]
theorem l_:∀(ds:List D)(k:Nat),(fG k ds).length=ds.length
 |[],k=>rfl
 |d::r,k=>by simp[fG,l_ r (k+1)]
def itE(f:En->Option (List D)):En->Option (Bool×List D):=λρ=>(f ρ).bind λds=>match ds with
 |[d]=>(bW d).map λp=>(p.1,fG 0 p.2)
 |_=>none
theorem Gi(h:RfA G ob t f):RfI G ob (CV G.K t) (itE f):=λρ b items e σ H W rl w R q=>by
 unfold itE at e;cases h1:f ρ with
 |none=>simp[h1]at e
 |some ds=>
  rw[h1]at e;simp only[Pb]at e;split at e
  .rename_i d
   cases h2:bW d with
   |none=>simp[h2]at e
   |some p=>
    obtain⟨Z,es⟩:=p;obtain⟨rfl,rfl⟩:Z=b/\fG 0 es=items:=by simpa[h2]using e
    refine h ρ _ h1 σ H W rl w _ λvs H' L s r fr nd=>?_;obtain⟨v,ys,M,M',rfl,rfl,U,j⟩:=r.inv;obtain⟨rfl,rfl⟩:=j.inv0;rw[Ql]at U fr;obtain⟨a,xs,rfl,p,F⟩:=yI w s U fr h2;have O:∀(i:Nat)(d':D)(pa:Addr)(x:V)(H2:Hp)(B:Wn),(fG 0 es)[i]? =some d'->LtB Z H' W H2 B->H2 pa=none->xs[i]? =some x->Same H2 (upd H2 pa (.tup [.int i,x]))/\Rep G (upd H2 pa (.tup [.int i,x])) B d' (.ref pa) []:=λi d' pa x H2 B e l Y J=>by
     rw[mF]at e;cases N:es[i]? with
     |none=>rw[N]at e;cases e
     |some d0=>
      rw[N]at e;have e:D.tup [.int (i:Int),d0]=d':=by simpa using e
      subst e;have sm:Same H2 (upd H2 pa (.tup [.int i,x])):=Same.new Y;refine⟨sm,?_⟩;rw[Rep];refine⟨pa,_,rfl,aZ,.cons (M:=[]) (M':=[]) (by rw[Rep];exact⟨rfl,rfl⟩) (.one ((p.at l N J).up (Up.same sm)))⟩
    refine⟨a,rfl,?_⟩;have I:∀(i:Nat)(d':D),(fG 0 es)[i]? =some d'->∃x,xs[i]? =some x:=λi d' e=>by
     rw[mF]at e;cases N:es[i]? with
     |none=>rw[N]at e;cases e
     |some d0=>exact p.r.getV N
    rcases F with F|F
    .refine .inl ⟨⟨xs,F H' W (LtB.up Up.refl)⟩,q _ H' s ⟨λi d e H2 B l=>?_,λi d e H2 B l x H3 y=>?_,λH2 B l=>?_⟩⟩
     .obtain⟨x,J⟩:=I i d e
      exact⟨xs,x,F H2 B l,J⟩
     .obtain⟨pa,v,Y,rfl,U,rfl⟩:=y
      exact O i d pa v H2 B e l Y (U xs (F _ B l))
     .exact⟨xs,F H2 B l,by rw[l_,p.r.length];exact Pg _⟩
    .refine .inr ⟨⟨xs,F H' W (LtB.up Up.refl)⟩,q _ H' s ⟨λi d e H2 B l=>?_,λi d e H2 B l x H3 y=>?_,λH2 B l=>?_⟩⟩
     .obtain⟨x,J⟩:=I i d e
      exact⟨xs,x,F H2 B l,J⟩
     .obtain⟨pa,v,Y,rfl,U,rfl⟩:=y
      exact O i d pa v H2 B e l Y (U xs (F _ B l))
     .exact⟨xs,F H2 B l,by rw[l_,p.r.length];exact Pg _⟩
  .cases e
variable{a:Expr}
theorem xU(j:∀c,Gl (X c) "range")(V:∀c,(X c).mg "range"=none)(O:PVA X G ob [a] f)(F:∀c,PK [a] (X c).env=[(false,eval a (X c).env)]:=by intro _;rfl):PVI X G ob tg (.Call (.Name "range" p) [a] [] pos) (nO f):=let⟨t,a1,a2⟩:=O.ex;⟨_,λc=>sH (j c) (V c) (a1 c) (F c),KR a2⟩
theorem oJ{f:En->Option D}(O:PV X G ob a f)(I:∀c,(X c).K=G.K:=by intro _;rfl):PVI X G ob tg a (itS f):=let⟨t,a1,a2⟩:=O.ex;⟨_,λc=>(by rw[←I c];exact CQ (a1 c)),Ig a2⟩
theorem Ec(j:∀c,Gl (X c) "enumerate")(V:∀c,(X c).mg "enumerate"=none)(O:PVA X G ob [a] f)(F:∀c,PK [a] (X c).env=[(false,eval a (X c).env)]:=by intro _;rfl)(I:∀c,(X c).K=G.K:=by intro _;rfl):PVI X G ob (.Tuple elts x1 tpos) (.Call (.Name "enumerate" p) [a] [] pos) (itE f):=let⟨t,a1,a2⟩:=O.ex;⟨_,λc=>(by rw[←I c];exact BV (j c) (V c) (a1 c) (F c)),Gi a2⟩
def forL(tg:D->En->Option En)(O:En->Option Fl):List D->En->Option Fl
 |[],ρ=>some (.nx ρ)
 |d::r,ρ=>(tg d ρ).bind λρ1=>match O ρ1 with
  |some (.nx ρ2)=>forL tg O r ρ2
  |some (.cnt ρ2)=>forL tg O r ρ2
  |some (.brk ρ2)=>some (.nx ρ2)
  |o=>o
def qT(it:En->Option (Bool×List D))(tg:D->En->Option En)(O:En->Option Fl):En->Option Fl:=λρ=>(it ρ).bind λp=>if p.1=true then forL tg O p.2 ρ else none
theorem xF{σ2:L2.St}{S2:Ad}{Fr:Addr->Prop}(s:Sta G H ob ρ σ S Fr)(m:Mv P H H2 σ σ2 S S2 []):Evo H H2 (wn ob S Fr) (wn ob S2 Fr)where
 k:=λb u U f=>by
  have N:¬inS S b:=λ⟨i,z⟩=>by
   cases B:ob i with
   |false=>exact f.2.1 ⟨i,B,z⟩
   |true=>exact f.2.2 ⟨i,B,z⟩
  have I:¬inS S2 b:=λ⟨i,z⟩=>(m.gr i b z).elim N λz=>z.elim (λz=>by cases z) λz=>by rw[U]at z;cases z
  exact⟨m.kp b u U N (by simp),f.1,λ⟨i,_,z⟩=>I ⟨i,z⟩,λ⟨i,_,z⟩=>I ⟨i,z⟩⟩
 t:=λb xs h=>by
  have j:∀u,H b=some u->muO u=false->H2 b=some u:=λu J mu=>m.kp b u J (λ⟨i,z⟩=>by
   obtain⟨o,B,V⟩:=s.mu z;rw[J]at B;cases B;rw[mu]at V;cases V) (by simp)
  exact j _ h rfl
variable{tg:D->En->Option En}{tb:TS}{wi:TI}{it:En->Option (Bool×List D)}{O:En->Option Fl}
theorem G9{g:TG}(hi:RfI G ob wi it)(hg:RfG G ob P g tg)(U:RfS G ob P tb O):RfS G ob P (La wi g tb) (qT it tg O):=λρ r e σ H S Fr s E q=>by
 unfold qT at e;cases h1:it ρ with
 |none=>simp[h1]at e
 |some p=>
  obtain⟨b,items⟩:=p;cases b with
  |false=>simp[h1]at e
  |true=>
   have e:forL tg O items ρ=some r:=by simpa[h1]using e
   refine hi ρ true items h1 σ H _ s.rel s.wok _ λJ H1 sm wk=>?_;have Z:Sta G H1 ob ρ σ S Fr:=s.grow sm λa z=>.inl z;have m1:Mv P H H1 σ σ S S []:=⟨λb u h _ _=>sm b u h,λi a z=>.inl ⟨i,z⟩,.refl⟩;have q1:=q.from m1;have a0:∀{ρ2:En}{σ2:L2.St}{H2:Hp}{S2:Ad},Mv P H1 H2 σ σ2 S S2 []->LtB true H1 (wn ob S Fr) H2 (wn ob S2 Fr):=λm=>n6 (xF Z m);refine⟨λi m σ2 H2=>i+m=items.length/\∃ρ2 S2,Sta G H2 ob ρ2 σ2 S2 Fr/\Mv P H1 H2 σ σ2 S S2 []/\forL tg O (items.drop i) ρ2=some r,⟨items.length,by omega,ρ,S,Z,.refl,e⟩,?_⟩;rintro i m σ2 H2 ⟨a7,ρ2,S2,F,m2,e2⟩;by_cases a3:i<items.length
   .refine .inr ⟨wk.go i items[i] (by simp[a3]) H2 _ (a0 (ρ2:=ρ2) m2),λB H'=>(i+1)+(m-1)=items.length/\∃ρ2 S2,Sta G H' ob ρ2 B S2 Fr/\Mv P H1 H' σ B S S2 []/\forL tg O (items.drop (i+1)) ρ2=some r,λB H' h=>⟨m-1,by omega,h⟩,λx H3 j=>?_⟩
    obtain⟨Y,rx⟩:=wk.yld i items[i] (by simp[a3]) H2 _ (a0 (ρ2:=ρ2) m2) x H3 j;rw[←Tv a3,forL]at e2;cases N:tg items[i] ρ2 with
    |none=>simp[N]at e2
    |some a4=>
     rw[N]at e2;simp only[Pb]at e2;have a6:Sta G H3 ob ρ2 σ2 S2 Fr:=F.grow Y λa z=>.inl z;refine hg items[i] ρ2 a4 N x σ2 H3 S2 [] Fr (by rw[gP];exact a6) (by rw[gP];exact rx) List.nodup_nil (by simp) _ λa5 H4 S4 s4 m4=>?_;have a2:Mv P H1 H4 σ a5 S S4 []:=(m2.trans (S2:=S2) ⟨λb u h _ _=>Y b u h,λi a z=>.inl ⟨i,z⟩,.refl⟩).trans m4;cases I:O a4 with
     |none=>rw[I]at e2;cases e2
     |some fl=>
      rw[I]at e2;refine U a4 fl I a5 H4 S4 Fr s4 _ ?_;cases fl with
      |nx a1=>exact λB H' S' s' V=>⟨by omega,a1,S',s',a2.trans V,e2⟩
      |cnt a1=>exact λB H' S' s' V=>⟨by omega,a1,S',s',a2.trans V,e2⟩
      |brk a1=>cases e2;exact λB H' S' s' V=>q1 B H' S' s' (a2.trans V)
      |ret d a1=>cases e2;exact q1.from a2
   .have hl:i=items.length:=by omega
    rw[hl,Uh,forL]at e2;cases e2;subst hl;exact .inl ⟨wk.stop H2 _ (a0 (ρ2:=ρ2) m2),q1 σ2 H2 S2 F m2⟩
variable{f:En->Option Fl}
theorem t8{tg iter:Expr}{O:List Stmt}{g:D->En->Option En}(q:∀c,PassesOwn (model (X c).prog (X c).w) (X c).A (X c).env (X c).xe)(Y:∀c,(X c).calm=true)(hi:PVI X G ob tg iter it)(j:PVG X G ob P tg g)(U:nW X G ob P O f)(F:∀c,∀x,R6 iter (X c).env x=pure x:=by intro _;intro _;rfl):PVS X G ob P (.For tg iter O [] pos) (qT it g f):=let⟨v,c1,c2⟩:=hi.ex;let⟨t,a1,a2⟩:=j.ex;let⟨u,b1,b2⟩:=U.ex;⟨_,λc=>Cu (q c) (Y c) (c1 c) (a1 c) (b1 c) (F c),G9 c2 a2 b2⟩
def qi(i:Nat)(ρ:En):Option En:=match ρ[i]? with
 |some (some d)=>some (ρ.set i (some (fz d)))
 |_=>none
theorem Sta.freeze{I:En}{Fr:Addr->Prop}(s:Sta G H ob ρ σ S Fr)(e:qi i ρ=some I):Sta G H ob I σ (eX S i []) Fr:=by
 unfold qi at e;split at e
 .rename_i d h1
  cases e;obtain⟨v,h2,N,Y,U⟩:=s.move h1;have B:Sta G H ob (ρ.set i none) σ (eX S i []) Fr:=Y.lessF λa z=>.inr z;have q:i<ρ.length:=(Mx.mp h1).1;have J:Rep G H (wn ob (eX S i []) Fr) (fz d) v []:=by
   refine U.fz ⟨λa f=>⟨λz=>f.1 (.inr z),f.2⟩,λa O=>⟨λz=>s.fdj i a z O,λ⟨j,q1,q2⟩=>?_,λ⟨j,q1,q2⟩=>?_⟩⟩ (.inl N)
   .rcases bM q2 with⟨_,z⟩|⟨n,z⟩
    .cases z
    .exact n (s.dj j i a z O)
   .rcases bM q2 with⟨_,z⟩|⟨n,z⟩
    .cases z
    .exact n (s.dj j i a z O)
  refine⟨by simp[s.len],λj d' V=>?_,λj F=>?_,B.nd,B.dj,B.fdj,B.fdm⟩
  .by_cases e':j=i
   .subst e'
    have:fz d=d':=by simpa[q]using V
    subst this;exact⟨v,h2,by rw[bZ];exact J,Eb d⟩
   .rw[List.getElem?_set_ne (Qn e')]at V
    exact B.sl j d' (by rw[List.getElem?_set_ne (Qn e')];exact V)
  .by_cases e':j=i
   .rw[e',bZ]
   .exact B.em j λd'=>by have:=F d';rw[List.getElem?_set_ne (Qn e')]at this⊢;exact this
 .cases e
def sFz(i:Nat)(f:En->Option Fl):En->Option Fl:=λρ=>(qi i ρ).bind f
theorem Le{t:TS}(h:RfS G ob P t f):RfS G ob P t (sFz i f):=λρ r e σ H S Fr s E q=>by
 unfold sFz at e;cases h1:qi i ρ with
 |none=>simp[h1]at e
 |some ρ1=>
  have e:f ρ1=some r:=by simpa[h1]using e
  have m:Mv P H H σ σ S (eX S i []) []:=⟨λ_ _ h _ _=>h,λj a z=>(bM z).elim (λz=>by cases z.2) λz=>.inl ⟨j,z.2⟩,.refl⟩;exact h ρ1 r e σ H (eX S i []) Fr (s.freeze h1) E (q.from m)
theorem xN(i:Nat){st:Stmt}(h:PVS X G ob P st f):PVS X G ob P st (sFz i f):=let⟨t,a1,a2⟩:=h.ex;⟨t,a1,Le a2⟩
mutual
noncomputable def dN:D->Bool
 |.tup ds=>cH ds
 |.lst m ds=>m== .own&&cH ds
 |.dct m _ ds=>m== .own&&cH ds
 |.ins m _ _ ds=>m== .own&&cH ds
 |_=>true
noncomputable def cH:List D->Bool
 |[]=>true
 |d::r=>dN d&&cH r
end
mutual
theorem Rep.own:∀{d:D}{v:V}{L:List Addr},Rep G H W d v L->dN d=true->Rep G H W' d v L
 |.non,v,L,h,_=>by rw[Rep]at h⊢;exact h
 |.bl _,v,L,h,_=>by rw[Rep]at h⊢;exact h
 |.int _,v,L,h,_=>by rw[Rep]at h⊢;exact h
 |.str _,v,L,h,_=>by rw[Rep]at h⊢;exact h
 |.ty _,v,L,h,_=>by rw[Rep]at h⊢;exact h
 |.tup ds,v,L,h,o=>by
  rw[Rep]at h⊢;obtain⟨a,xs,rfl,U,Z⟩:=h;exact⟨a,xs,rfl,U,aF.own Z (by simpa[dN]using o)⟩
 |.lst m ds,v,L,h,o=>by
  rw[Rep]at h⊢;obtain⟨a,xs,M,rfl,Z,F⟩:=h;simp[dN]at o;obtain⟨rfl,o⟩:=o;exact⟨a,xs,M,rfl,aF.own Z o,F⟩
 |.dct m ks ds,v,L,h,o=>by
  rw[Rep]at h⊢;obtain⟨a,xs,M,rfl,J,Z,F⟩:=h;simp[dN]at o;obtain⟨rfl,o⟩:=o;exact⟨a,xs,M,rfl,J,aF.own Z o,F⟩
 |.ins m c fs ds,v,L,h,o=>by
  rw[Rep]at h⊢;obtain⟨a,C,dx,xs,M,rfl,I,J,Z,F⟩:=h;simp[dN]at o;obtain⟨rfl,o⟩:=o;exact⟨a,C,dx,xs,M,rfl,I,J,aF.own Z o,F⟩
theorem aF.own:∀{ds:List D}{vs:List V}{L:List Addr},aF G H W ds vs L->cH ds=true->aF G H W' ds vs L
 |[],vs,L,h,_=>by rw[aF]at h⊢;exact h
 |d::r,vs,L,h,o=>by
  obtain⟨x,ys,M,M',rfl,rfl,h1,h2⟩:=h.inv;simp[cH]at o;exact .cons (Rep.own h1 o.1) (aF.own h2 o.2)
end
def W1(Fr:Addr->Prop):Wn:=⟨Fr,λ_=>False,λ_=>False⟩
def spP(G:Gc)(F:List D->Option D):Sp:=λvs H Q _=>∃(ds:List D)(Fr:Addr->Prop),aF G H (W1 Fr) ds vs []/\aB ds=true/\aD ds=true/\(∀a,Fr a->Mu H a)/\∃d,F ds=some d/\
 ∀v H' L,Same H H'->Rep G H' (W1 (plus L Fr)) d v L->(∀a∈L,H a=none)->L.Nodup->clean d=true->Q v H'
def en0(n:Nat)(ds:List D):En:=ds.map some++R3 (n-ds.length) none
def fnP(J n:Nat)(O:En->Option Fl):List D->Option D:=λds=>if ds.length=J then(O (en0 n ds)).bind λr=>match r with
 |.ret d _=>some d
 |.nx _=>some .non
 |_=>none else none
theorem yO(h:(en0 n ds)[i]? =some (some d)):ds[i]? =some d:=by
 unfold en0 at h;by_cases hi:i<ds.length
 .rw[Qu (by simpa using hi)]at h
  simpa using h
 .rw[Qz (by simpa using Nat.le_of_not_lt hi)]at h
  rw[XN]at h;split at h
  .simp at h
  .cases h
theorem Ov{vs:List V}{Fr:Addr->Prop}(r:aF G H (W1 Fr) ds vs [])(q:aB ds=true)(Y:aD ds=true)(fm:∀a,Fr a->Mu H a):Sta G H ob (en0 N.length ds) (L2.start N vs) (λ_=>[]) Fr where
 len:=by simp[en0,L2.start,r.length]
 sl:=λi d e=>by
  have e:=yO e;obtain⟨x,M,h1,h2,B⟩:=r.get e;have:M=[]:=by simpa using B
  subst this;refine⟨x,?_,h2.up ⟨Same.refl _,λb u U f=>⟨f.1,λ⟨j,_,z⟩=>(by cases z),λ⟨j,_,z⟩=>(by cases z)⟩,λb u U f=>f.elim⟩,by simp[clean,iQ q e,iU Y e]⟩;unfold L2.start;have hi:i<vs.length:=(Mx.mp h1).1;rw[Qu (by simpa using hi)];simp[h1]
 em:=λ_ _=>rfl
 nd:=λ_=>List.nodup_nil
 dj:=λi j a h=>by cases h
 fdj:=λi a _ h=>by cases h
 fdm:=fm
section
variable{P:Program}{w:World}{K:PySem.W.Frag}{mg:Str->Option Value}{base:Heap}
theorem Li{a:Addr}:¬inS (λ_=>[]) a:=λ⟨_,z⟩=>by cases z
theorem okP{x Y:Str}{st:Stmt}{f:Addr}{fd:Rj}{N ps:List Str}{k:Nat}{ob Pr:Nat->Bool}{a0:En->Option Fl}(F:Fun K x Y st f fd)(S:cI N ps (aJ st))
  (U:∀(J:Value)(A:Rh)(outer:List Env)(s:zc)(H:Hp)(E:XK),gA k (A.deeper (V0 Y (aJ st) s.heap.objs.size f J))->nW (λ_:Unit=>(wC CX0 P w K mg base N Y (aJ st) f J A outer s H E).nox) ⟨K,mg⟩ ob Pr (bH st) a0) :
  fK P w K mg base CX0 (k+1) f fd ps (spP ⟨K,mg⟩ (fnP ps.length N.length a0)):=by
 refine F.ok S (λvs H Q E h=>?_) (λJ A outer s H vs Q E Z h=>?_)
 .obtain⟨ds,Fr,r,_,_,_,d,e,_⟩:=h
  unfold fnP at e;split at e
  .rename_i hl
   rw[←r.length];exact hl
  .cases e
 .obtain⟨ds,Fr,r,c1,c2,fm,d,e,q⟩:=h
  obtain⟨t,a1,V⟩:=(U J A outer s H E Z).ex;refine⟨t,a1 (),?_⟩;unfold fnP at e;split at e
  .cases h1:a0 (en0 N.length ds)with
   |none=>simp[h1]at e
   |some fl=>
    rw[h1]at e;simp only[Pb]at e;refine V _ fl h1 (L2.start N vs) H (λ_=>[]) Fr (Ov (ob:=ob) r c1 c2 fm) _ ?_;have j:∀{S':Ad}{M:List Addr}{b:Addr},(wn ob S' (plus M Fr)).free b->(W1 (plus M Fr)).free b:=λz=>⟨z.1,id,id⟩;cases fl with
    |nx I=>
     cases e;exact λB H' S' s' m=>q .non H' [] (λb o h=>m.kp b o h Li (by simp)) (by rw[Rep];exact⟨rfl,rfl⟩) (by simp) List.nodup_nil rfl
    |ret d' I=>
     cases e;exact λv B H' M S' s' r' c n f m=>q v H' M (λb o h=>m.kp b o h Li (by simp)) (by
      have a3:=(by simpa[clean]using c:aA d=true/\az d=true);have ev:Evo H' H' (wn ob S' (plus M Fr)) (W1 (plus M Fr)):=⟨λb u h z=>⟨h,j z⟩,λ_ _ h=>h⟩;exact r'.mono ev (.inl a3.1) (.inl a3.2) λ_ _ _ h=>h) (λa O=>(f a O).resolve_left Li) n c
    |brk I=>cases e
    |cnt I=>cases e
  .cases e
end
def cM(F:List D->Option D)(ds:List D):Option D:=(F (fzL ds)).bind λd=>if(aB ds&&aD ds)||dN d then some d else none
theorem Gb{F:List D->Option D}{E:XK}:CaV G (λvs H Q=>spP G F (vs++[]) H Q E) (cM F):=λds d e xs H W j r nd hn w Q q=>by
 unfold cM at e;cases h1:F (fzL ds)with
 |none=>simp[h1]at e
 |some d'=>
  rw[h1]at e;simp only[Pb]at e;split at e
  .rename_i hc
   cases e;rw[Ql];by_cases U:aB ds=true/\aD ds=true
   .refine⟨fzL ds,λa=>(W.n a∨W.s a∨W.o a)/\a∉j,r.fz ⟨λa f=>⟨λz=>z.1.elim f.1 λz=>z.elim f.2.1 f.2.2,id,id⟩,λa O=>⟨λz=>z.2 O,id,id⟩⟩ (.inl U),eF ds,eG ds,λa h=>w a h.1,d,h1,λv H' L s Z fr n c=>?_⟩
    refine q v H' L s ?_ (λa O=>.inr (fr a O)) n;have I:=(by simpa[clean]using c:aA d=true/\az d=true);have N:∀a∈L,a∉j:=λa O z=>by
     obtain⟨o,B,_⟩:=r.dom a z;rw[fr a O]at B;cases B
    have J:Evo H' H' (W1 (plus L λa=>(W.n a∨W.s a∨W.o a)/\a∉j)) ((W.drop j).add L):=⟨λb u h f=>⟨h,⟨λz=>z.elim (λz=>f.1 (.inl z)) λz=>f.1 (.inr ⟨.inl z.1,z.2⟩),λz=>f.1 (.inr ⟨.inr (.inl z),λy=>?_⟩),λz=>f.1 (.inr ⟨.inr (.inr z),λy=>?_⟩)⟩⟩,λ_ _ h=>h⟩
    .exact Z.mono J (.inl I.1) (.inl I.2) λ_ _ _ h=>h
    .exact(hn b y).2.1 z
    .exact(hn b y).2.2 z
   .have B:dN d=true:=by
     simp only[Wr,Qo]at hc;exact hc.resolve_left U
    refine⟨fzL ds,λ_=>False,r.fz ⟨λa f=>⟨id,id,id⟩,λa O=>⟨id,id,id⟩⟩ (.inr λa=>⟨id,id,id⟩),eF ds,eG ds,λa h=>h.elim,d,h1,λv H' L s Z fr n c=>?_⟩;exact q v H' L s (Z.own B) (λa O=>.inr (fr a O)) n
  .cases e
theorem iC{F:List D->Option D}{f:En->Option (List D)}(C:∀c,Cal (X c).prog (X c).w (X c).K (X c).mg (X c).base k x ps (spP G F))(Z:∀c,gA k (X c).A)(O:PVA X G ob (e::es) f)(j:∀c,Gl (X c) x:=by intro _;rfl)(U:(x==("__debug__":Str))=false:=by decide)(V:∀c,PK (e::es) (X c).env=(false,eval e (X c).env)::PK es (X c).env:=by intro _;rfl)(q:∀c,(SM pos (PK es (X c).env)).any (·.1)=false:=by intro _;rfl) :
 PV X G ob (.Call (.Name x p) (e::es) [] pos) (eAp (cM F) f):=let⟨t,a1,a2⟩:=O.ex;⟨_,λc=>Dy (C c) (Z c) (j c) (a1 c) U (V c) (q c),rC Gb a2⟩
variable{a:Addr}
theorem bN.fz2(F:Les H W W' L)(U:m≠.brw∨∀a,W.s a->W'.free a)(B:m≠.bro∨jL W')(h:bN j H W a o m L M):bN j H W' a o (mkF m) [] []:=by
 cases m with
 |own=>exact⟨h.1,F.l a (by rw[h.2];simp),rfl,rfl⟩
 |frz=>exact⟨h.1,F.f a h.2.1,rfl,rfl⟩
 |brw=>exact⟨h.1,U.elim (λz=>absurd rfl z) λz=>z a h.2.1,rfl,rfl⟩
 |bro=>exact⟨h.1,B.elim (λz=>absurd rfl z) λz=>z a,rfl,rfl⟩
 |scr=>exact⟨h.1.imp (λz=>⟨z.1,F.f a z.2⟩) id,rfl,rfl⟩
mutual
theorem Rep.fz2:∀{d:D}{v:V}{L:List Addr},Rep G H W d v L->Les H W W' L->(aA d=true∨∀a,W.s a->W'.free a)->(az d=true∨jL W')->Rep G H W' (fz d) v []
 |.non,v,L,h,_,_,_=>by rw[Rep]at h;simp[Jb.fz,Rep,h]
 |.bl _,v,L,h,_,_,_=>by rw[Rep]at h;simp[Jb.fz,Rep,h]
 |.int _,v,L,h,_,_,_=>by rw[Rep]at h;simp[Jb.fz,Rep,h]
 |.str _,v,L,h,_,_,_=>by rw[Rep]at h;simp[Jb.fz,Rep,h]
 |.ty _,v,L,h,_,_,_=>by rw[Rep]at h;simp[Jb.fz,Rep,h]
 |.tup ds,v,L,h,F,c,o=>by
  rw[Rep]at h;rw[Jb.fz,Rep];obtain⟨a,xs,rfl,U,Z⟩:=h;exact⟨a,xs,rfl,U,aF.fz2 Z F (by simpa[aA]using c) (by simpa[az]using o)⟩
 |.lst m ds,v,L,h,he,c,o=>by
  rw[Rep]at h;rw[Jb.fz,Rep];obtain⟨a,xs,M,rfl,Z,F⟩:=h;exact⟨a,xs,[],rfl,aF.fz2 Z (he.sub λc Y=>F.sub.subset Y) (c.imp (λz=>by simp[aA]at z;exact z.2) id) (o.imp (λz=>by simp[az]at z;exact z.2) id),F.fz2 he (c.imp (λz=>by simp[aA]at z;exact z.1) id) (o.imp (λz=>by simp[az]at z;exact z.1) id)⟩
 |.dct m ks ds,v,L,h,he,c,o=>by
  rw[Rep]at h;rw[Jb.fz,Rep];obtain⟨a,xs,M,rfl,J,Z,F⟩:=h;exact⟨a,xs,[],rfl,J,aF.fz2 Z (he.sub λc Y=>F.sub.subset Y) (c.imp (λz=>by simp[aA]at z;exact z.2) id) (o.imp (λz=>by simp[az]at z;exact z.2) id),F.fz2 he (c.imp (λz=>by simp[aA]at z;exact z.1) id) (o.imp (λz=>by simp[az]at z;exact z.1) id)⟩
 |.ins m c' fs ds,v,L,h,he,c,o=>by
  rw[Rep]at h;rw[Jb.fz,Rep];obtain⟨a,C,dx,xs,M,rfl,I,J,Z,F⟩:=h;exact⟨a,C,dx,xs,[],rfl,I,J,aF.fz2 Z (he.sub λc Y=>F.sub.subset Y) (c.imp (λz=>by simp[aA]at z;exact z.2) id) (o.imp (λz=>by simp[az]at z;exact z.2) id),F.fz2 he (c.imp (λz=>by simp[aA]at z;exact z.1) id) (o.imp (λz=>by simp[az]at z;exact z.1) id)⟩
theorem aF.fz2:∀{ds:List D}{vs:List V}{L:List Addr},aF G H W ds vs L->Les H W W' L->(aB ds=true∨∀a,W.s a->W'.free a)->(aD ds=true∨jL W')->aF G H W' (fzL ds) vs []
 |[],vs,L,h,_,_,_=>by obtain⟨rfl,_⟩:=h.inv0;rw[fzL];exact .nil
 |d::r,vs,L,h,he,c,o=>by
  obtain⟨x,ys,M,M',rfl,rfl,h1,h2⟩:=h.inv;rw[fzL];exact .cons (M:=[]) (M':=[]) (Rep.fz2 h1 (he.sub λc Y=>PL _ Y) (c.imp (λz=>by simp[aB]at z;exact z.1) id) (o.imp (λz=>by simp[aD]at z;exact z.1) id))
   (aF.fz2 h2 (he.sub λc Y=>Pa _ Y) (c.imp (λz=>by simp[aB]at z;exact z.2) id) (o.imp (λz=>by simp[aD]at z;exact z.2) id))
end
def spI(G:Gc)(ob pr:Nat->Bool)(F:List D->Option (D×List D)):Sp:=λvs H Q _=>∃(ds:List D)(S:Ad)(Fr:Addr->Prop),Sta G H ob (ds.map some) (vs.map some) S Fr/\(∀i,pr i=false->S i=[])/\∃d O,F ds=some (d,O)/\
 ∀v H' M S',Sta G H' ob (O.map some) (vs.map some) S' (plus M Fr)->Rep G H' (wn ob S' (plus M Fr)) d v M->clean d=true->M.Nodup->(∀a∈M,inS S a∨H a=none)->Mv (λ_=>false) H H' [] [] S S' []->Q v H'
def outs(pr:Nat->Bool)(ρ:En):Nat->List D->Option (List D)
 |_,[]=>some []
 |i,d::r=>(if pr i=true then(match ρ[i]? with
  |some (some e)=>some e
  |_=>none)else some d).bind λe=>(outs pr ρ (i+1) r).map λt=>e::t
def fnI(pr:Nat->Bool)(J n:Nat)(O:En->Option Fl):List D->Option (D×List D):=λds=>if ds.length=J then(O (en0 n ds)).bind λr=>match r with
 |.ret d ρ=>(outs pr ρ 0 ds).map λo=>(d,o)
 |.nx ρ=>(outs pr ρ 0 ds).map λo=>(.non,o)
 |_=>none else none
theorem yC{pr:Nat->Bool}{ρ:En}:∀{ds O:List D}{k:Nat},outs pr ρ k ds=some O->O.length=ds.length/\∀i d,O[i]? =some d->(pr (k+i)=true/\ρ[k+i]? =some (some d))∨(pr (k+i)=false/\ds[i]? =some d)
 |[],O,k,e=>by
  cases e;exact⟨rfl,λi d h=>by simp at h⟩
 |d0::r,O,k,e=>by
  rw[outs]at e;cases h2:outs pr ρ (k+1) r with
  |none=>
   rw[h2]at e;simp at e
  |some t=>
   rw[h2]at e;obtain⟨l1,l2⟩:=yC h2;have q:∃I,O=I::t/\((pr k=true/\ρ[k]? =some (some I))∨(pr k=false/\d0=I)):=by
    split at e
    .rename_i hp
     split at e
     .rename_i I h0
      exact⟨I,by simpa using e.symm,.inl ⟨hp,h0⟩⟩
     .simp at e
    .rename_i hp
     exact⟨d0,by simpa using e.symm,.inr ⟨by simpa using hp,rfl⟩⟩
   obtain⟨I,rfl,J⟩:=q;refine⟨by simp[l1],λi d h=>?_⟩;cases i with
   |zero=>
    have:I=d:=by simpa using h
    subst this;exact J.imp id λz=>⟨z.1,by simp[z.2]⟩
   |succ i=>
    have:=l2 i d (by simpa using h);rw[show k+1+i=k+(i+1)by omega]at this;simpa using this
theorem iI{xs:List α}{x:α}(h:(xs.map some)[i]? =some (some x)):xs[i]? =some x:=by
 rw[List.getElem?_map]at h;cases e:xs[i]? with
 |none=>rw[e]at h;cases h
 |some y=>rw[e]at h;simpa using h
theorem cU{xs:List α}{x:α}(h:xs[i]? =some x):(xs.map some)[i]? =some (some x):=by rw[List.getElem?_map,h];rfl
theorem O6{vs:List V}{Fr:Addr->Prop}(s:Sta G H ob (ds.map some) (vs.map some) S Fr):Sta G H ob (en0 N.length ds) (L2.start N vs) S Fr where
 len:=by have:=s.len;simp at this;simp[en0,L2.start,this]
 sl:=λi d e=>by
  obtain⟨v,h1,h2,j⟩:=s.sl i d (cU (yO e));refine⟨v,?_,h2,j⟩;unfold L2.start;have hi:i<(vs.map some).length:=(Mx.mp h1).1;rw[Qu hi];exact h1
 em:=λi h=>s.em i λd e=>h d (by
  unfold en0;have hi:i<(ds.map some).length:=(Mx.mp e).1;rw[Qu hi];exact e)
 nd:=s.nd
 dj:=s.dj
 fdj:=s.fdj
 fdm:=s.fdm
section
variable{P:Program}{w:World}{K:PySem.W.Frag}{mg:Str->Option Value}{base:Heap}
theorem wB{G:Gc}{H H':Hp}{ob pr:Nat->Bool}{ds O:List D}{vs:List V}{N:List Str}{S S1:Ad}{Fr:Addr->Prop}{ρ:En}{σ:L2.St}{M:List Addr}(s:Sta G H ob (ds.map some) (vs.map some) S Fr)(Y:∀i,pr i=false->S i=[])(Z:Sta G H' ob ρ σ S1 (plus M Fr))
  (m:Mv pr H H' (L2.start N vs) σ S S1 []) (hM:∀a∈M,inS S a∨H a=none) (e:outs pr ρ 0 ds=some O) :
  Sta G H' ob (O.map some) (vs.map some) (λi=>if pr i=true/\i<ds.length then S1 i else[]) (plus M Fr):=by
 obtain⟨hl,hg⟩:=yC e;have lv:ds.length=vs.length:=by have:=s.len;simpa using this
 have sub:∀{i a},a∈(if pr i=true/\i<ds.length then S1 i else[])->a∈S1 i:=λ{i a} z=>by
  split at z
  .exact z
  .cases z
 refine⟨by simp[hl,lv],λi d h=>?_,λi h=>?_,λi=>?_,λi j a h1 h2=>Z.dj i j a (sub h1) (sub h2),λi a h z=>Z.fdj i a h (sub z),Z.fdm⟩
 .have h:=iI h
  have hi:i<ds.length:=by rw[←hl];exact(Mx.mp h).1
  rcases hg i d h with⟨h1,h2⟩|⟨h1,h2⟩
  .rw[SX]at h1 h2
   obtain⟨v,q1,q2,q⟩:=Z.sl i d h2;have e1:=m.pr i h1;rw[q1]at e1;refine⟨v,?_,?_,q⟩
   .unfold L2.start at e1
    rw[Qu (by simp;omega)]at e1;exact e1.symm
   .rw[Pk ⟨h1,hi⟩]
    have I:=(by simpa[clean]using q:aA d=true/\az d=true);have J:Evo H' H' (wn ob S1 (plus M Fr)) (wn ob (λi=>if pr i=true/\i<ds.length then S1 i else[]) (plus M Fr)):=⟨λb u U f=>⟨U,⟨f.1,λ⟨j,F,B⟩=>f.2.1 ⟨j,F,sub B⟩,λ⟨j,F,B⟩=>f.2.2 ⟨j,F,sub B⟩⟩⟩,λ_ _ h=>h⟩;exact q2.mono J (.inl I.1) (.inl I.2) λ_ _ _ h=>h
  .rw[SX]at h1
   obtain⟨v,q1,q2,q⟩:=s.sl i d (cU h2);refine⟨v,q1,?_,q⟩;rw[Pn λz=>by rw[h1]at z;cases z.1];rw[Y i h1]at q2;have I:=(by simpa[clean]using q:aA d=true/\az d=true);have a0:=xF s (σ2:=σ) (H2:=H') (S2:=S1) (P:=λ_=>false) ⟨m.kp,m.gr,λi h=>by cases h⟩;have J:Evo H H' (wn ob S Fr) (wn ob (λi=>if pr i=true/\i<ds.length then S1 i else[]) (plus M Fr)):=⟨λb u U f=>?_,a0.t⟩
   .exact q2.mono J (.inl I.1) (.inl I.2) (by simp)
   .obtain⟨k1,k2⟩:=a0.k b u U f
    refine⟨k1,λz=>z.elim (λz=>?_) f.1,λ⟨j,F,B⟩=>k2.2.1 ⟨j,F,sub B⟩,λ⟨j,F,B⟩=>k2.2.2 ⟨j,F,sub B⟩⟩;rcases hM b z with⟨j,y⟩|y
    .cases ho:ob j with
     |false=>exact f.2.1 ⟨j,ho,y⟩
     |true=>exact f.2.2 ⟨j,ho,y⟩
    .rw[U]at y;cases y
 .split
  .rename_i z
   exfalso;have hi:i<O.length:=by rw[hl];exact z.2
   exact h O[i] (cU (by simp[hi]))
  .rfl
 .show(if pr i=true/\i<ds.length then S1 i else[]).Nodup
  split
  .exact Z.nd i
  .exact List.nodup_nil
theorem okI{x Y:Str}{st:Stmt}{f:Addr}{fd:Rj}{N ps:List Str}{k:Nat}{ob pr:Nat->Bool}{O:En->Option Fl}(F:Fun K x Y st f fd)(S:cI N ps (aJ st))
  (U:∀(J:Value)(A:Rh)(outer:List Env)(s:zc)(H:Hp)(E:XK),gA k (A.deeper (V0 Y (aJ st) s.heap.objs.size f J))->nW (λ_:Unit=>(wC CX0 P w K mg base N Y (aJ st) f J A outer s H E).nox) ⟨K,mg⟩ ob pr (bH st) O) :
  fK P w K mg base CX0 (k+1) f fd ps (spI ⟨K,mg⟩ ob pr (fnI pr ps.length N.length O)):=by
 refine F.ok S (λvs H Q E h=>?_) (λJ A outer s H vs Q E Z h=>?_)
 .obtain⟨ds,S,Fr,st,_,d,ds',e,_⟩:=h
  unfold fnI at e;split at e
  .rename_i hl
   have:=st.len;simp at this;rw[←this];exact hl
  .cases e
 .obtain⟨ds,S0,Fr,st,hp,d,ds',e,q⟩:=h
  obtain⟨t,a1,V⟩:=(U J A outer s H E Z).ex;refine⟨t,a1 (),?_⟩;unfold fnI at e;split at e
  .cases h1:O (en0 N.length ds)with
   |none=>simp[h1]at e
   |some fl=>
    rw[h1]at e;simp only[Pb]at e;refine V _ fl h1 (L2.start N vs) H S0 Fr (O6 st) _ ?_;have sub:∀{S1:Ad}{i a},a∈(if pr i=true/\i<ds.length then S1 i else[])->a∈S1 i:=λ{S1 i a} z=>by
     split at z
     .exact z
     .cases z
    cases fl with
    |nx I=>
     cases h2:outs pr I 0 ds with
     |none=>simp[h2]at e
     |some o=>
      obtain⟨rfl,rfl⟩:D.non=d/\o=ds':=by simpa[h2]using e
      refine λB H' S1 s1 m=>q .non H' [] _ (wB st hp (M:=[]) (by rw[gP];exact s1) m (by simp) h2) (by rw[Rep];exact⟨rfl,rfl⟩) rfl List.nodup_nil (by simp) ⟨m.kp,λi a z=>m.gr i a (sub z),λi h=>by cases h⟩
    |ret d' I=>
     cases h2:outs pr I 0 ds with
     |none=>simp[h2]at e
     |some o=>
      obtain⟨rfl,rfl⟩:d'=d/\o=ds':=by simpa[h2]using e
      refine λv B H' M S1 s1 r c n f m=>q v H' M _ (wB st hp s1 m f h2) ?_ c n f ⟨m.kp,λi a z=>m.gr i a (sub z),λi h=>by cases h⟩;have a0:=(by simpa[clean]using c:aA d'=true/\az d'=true);have ev:Evo H' H' (wn ob S1 (plus M Fr)) (wn ob (λi=>if pr i=true/\i<ds.length then S1 i else[]) (plus M Fr)):=⟨λb u U f=>⟨U,⟨f.1,λ⟨j,z1,z2⟩=>f.2.1 ⟨j,z1,sub z2⟩,λ⟨j,z1,z2⟩=>f.2.2 ⟨j,z1,sub z2⟩⟩⟩,λ_ _ h=>h⟩;exact r.mono ev (.inl a0.1) (.inl a0.2) λ_ _ _ h=>h
    |brk I=>cases e
    |cnt I=>cases e
  .cases e
end
def RfM(G:Gc)(ob:Nat->Bool)(t:TA)(js:List Nat)(f:En->Option (List D×En)):Prop:=∀(ρ:En)(ds:List D)(I:En),f ρ=some (ds,I)->∀(σ:L2.St)(H:Hp)(S:Ad)(Fr:Addr->Prop),Sta G H ob ρ σ S Fr->
 ∀B:List V,js.map (λj=>σ[j]?)=B.map (λu=>some (some u))->∀Q:List V->Hp->Prop,
 (∀vs H' M S',Sta G H' ob I σ S' (plus M Fr)->aF G H' (wn ob S' (plus M Fr)) ds vs M->M.Nodup->Eff ob H H' S S' M->Q (B++vs) H')->t σ H Q
structure PVM{ι:Type}(X:ι->Cx)(G:Gc)(ob:Nat->Bool)(es:List Expr)(js:List Nat)(f:En->Option (List D×En)):Prop where
 mk::(ex:∃t,(∀c,PA (X c) es t)/\RfM G ob t js f)
variable{f:En->Option (List D×En)}
theorem aX(h:qO X G ob es f):PVM X G ob es [] f:=by
 obtain⟨t,U,V⟩:=h.ex;refine⟨t,U,λρ ds I e σ H S Fr s B J Q q=>?_⟩;have:B=[]:=by simpa using J
 subst this;exact V ρ ds I e σ H S Fr s Q q
theorem aY(i:Nat)(h:PVM X G ob es js f)(U:∀c,(X c).N[i]? =some x:=by intro _;rfl)(Y:∀c,Vis (X c).env.scope x:=by intro _;first|exact Ue rfl|exact Su (Ue rfl)|exact Su (Su rfl))(hd:(x==("__debug__":Str))=false:=by decide)(j:(x==("__classdict__":Str))=false:=by decide)(F:∀c,PK (.Name x pos::es) (X c).env=(false,eval (.Name x pos) (X c).env)::PK es (X c).env:=by intro _;rfl):PVM X G ob (.Name x pos::es) (i::js) f:=by
 obtain⟨t,O,V⟩:=h.ex;refine⟨_,λc=>tG (pv i (U c) (Y c) hd j) (O c) (F c),λρ ds I e σ H S Fr s B J Q q=>?_⟩;cases B with
 |nil=>simp at J
 |cons u B=>
  rw[PP,PP]at J;injection J with h1 h2;exact⟨u,h1,V ρ ds I e σ H S Fr s B h2 _ λvs H' M S' s' r n Z=>q vs H' M S' s' r n Z⟩
def objs(js:List Nat)(ρ:En):Option (List D):=js.mapM λj=>ρ[j]?.bind id
def jm:List Nat->List D->En->En
 |j::js,d::ds,ρ=>jm js ds (ρ.set j (some d))
 |_,_,ρ=>ρ
def eIo(F:List D->Option (D×List D))(js:List Nat)(f:En->Option (List D×En)):En->Option (D×En):=λρ=>if(objs js ρ).isSome=true then(f ρ).bind λp=>(objs js p.2).bind λos=>if aD p.1=true then(F (os++fzL p.1)).bind λq=>
 if aB p.1=true∨(dN q.1=true/\cH (q.2.take js.length)=true)then some (q.1,jm js q.2 p.2)else none else none else none
theorem tu{ρ:En}:∀{js:List Nat}{os:List D},objs js ρ=some os->os.length=js.length/\∀(k j:Nat),js[k]? =some j->∃d,os[k]? =some d/\ρ[j]? =some (some d)
 |[],os,h=>by
  have:os=[]:=by simpa[objs]using h.symm
  subst this;exact⟨rfl,λk j h=>by simp at h⟩
 |j::js,os,h=>by
  unfold objs at h;rw[List.mapM_cons]at h;cases h1:ρ[j]?.bind id with
  |none=>simp[h1]at h
  |some d=>
   cases h2:js.mapM (λj=>ρ[j]?.bind id)with
   |none=>simp[h1,h2]at h
   |some t=>
    have:os=d::t:=by simpa[h1,h2]using h.symm
    subst this;obtain⟨l,g⟩:=tu (js:=js) (os:=t) h2;refine⟨by simp[l],λk i e=>?_⟩;cases k with
    |zero=>
     have:j=i:=by simpa using e
     subst this;refine⟨d,rfl,?_⟩;cases N:ρ[j]? with
     |none=>rw[N]at h1;cases h1
     |some o=>rw[N]at h1;simpa using h1
    |succ k=>simpa using g k i (by simpa using e)
theorem sI:∀(js:List Nat)(ds:List D)(ρ:En),(jm js ds ρ).length=ρ.length
 |[],ds,ρ=>by cases ds<;>rfl
 |_::_,[],ρ=>rfl
 |j::js,d::ds,ρ=>by rw[jm,sI js ds];simp
theorem lK:∀{js:List Nat}{ds:List D}{ρ:En}{j:Nat},j∉js->(jm js ds ρ)[j]? =ρ[j]?
 |[],ds,ρ,j,_=>by cases ds<;>rfl
 |_::_,[],ρ,j,_=>rfl
 |i::js,d::ds,ρ,j,h=>by
  rw[jm,lK (λz=>h (Qm _ z)),List.getElem?_set_ne λz=>h (by rw[z];exact Qt)]
theorem pJ:∀{js:List Nat}{ds:List D}{ρ:En}{k j:Nat}{d:D},js.Nodup->js[k]? =some j->ds[k]? =some d->j<ρ.length->(jm js ds ρ)[j]? =some (some d)
 |[],ds,ρ,k,j,d,_,h,_,_=>by simp at h
 |_::_,[],ρ,k,j,d,_,_,h,_=>by simp at h
 |i::js,d0::ds,ρ,k,j,d,n,h1,h2,hl=>by
  rw[jm];cases k with
  |zero=>
   have e1:i=j:=by simpa using h1
   have e2:d0=d:=by simpa using h2
   subst e1 e2;rw[lK (QC.mp n).1];simp[hl]
  |succ k=>exact pJ (QC.mp n).2 (by simpa using h1) (by simpa using h2) (by simpa using hl)
def pick(S:Ad)(js:List Nat):Ad:=λi=>match js[i]? with
 |some j=>S j
 |none=>[]
theorem fZ(h:a∈pick S js i):∃j,js[i]? =some j/\a∈S j:=by
 unfold pick at h;split at h
 .rename_i j e;exact⟨j,e,h⟩
 .cases h
def back(S:Ad)(js:List Nat)(Sc:Ad):Ad:=λj=>match js.idxOf? j with
 |some i=>Sc i
 |none=>S j
variable{j:Nat}
theorem oW(h:js.idxOf? j=some i):js[i]? =some j:=by
 obtain⟨h1,h2,N⟩:=QV.mp h;have:js[i]=j:=by simpa using h2
 rw[Py h1,this]
theorem wF(h:js.idxOf? j=none):j∉js:=by
 intro z;have:=Sx.mp h j z;simp at this
theorem JV(n:js.Nodup)(h:js[i]? =some j):js.idxOf? j=some i:=by
 cases e:js.idxOf? j with
 |none=>exact absurd (QS h) (wF e)
 |some k=>
  have:=oW e;have J:k<js.length:=(Mx.mp this).1;rw[(Xh J n).mp (this.trans h.symm)]
theorem GR{Sc:Ad}(n:js.Nodup)(h:js[i]? =some j):back S js Sc j=Sc i:=by unfold back;rw[JV n h]
theorem um{Sc:Ad}(h:j∉js):back S js Sc j=S j:=by
 unfold back;split
 .rename_i i e;exact absurd (QS (oW e)) h
 .rfl
theorem iw{Sc:Ad}(h:a∈back S js Sc j):(∃i,js[i]? =some j/\a∈Sc i)∨(j∉js/\a∈S j):=by
 unfold back at h;split at h
 .rename_i i e;exact .inl ⟨i,oW e,h⟩
 .rename_i e;exact .inr ⟨wF e,h⟩
theorem ut(h:cH (ds.take k)=true)(e:ds[i]? =some d)(hi:i<k):dN d=true:=by
 induction ds generalizing k i with
 |nil=>simp at e
 |cons a r F=>
  cases k with
  |zero=>omega
  |succ k=>
   rw[List.take_succ_cons,cH,Qo]at h;cases i with
   |zero=>
    have:a=d:=by simpa using e
    rw[←this];exact h.1
   |succ i=>exact F h.2 (by simpa using e) (by omega)
theorem zj:∀{js:List Nat},(∀j∈js,∃u,σ[j]? =some (some u))->∃B:List V,js.map (λj=>σ[j]?)=B.map (λu=>some (some u))
 |[],_=>⟨[],rfl⟩
 |j::js,h=>by
  obtain⟨B,J⟩:=zj (js:=js) λi hi=>h i (Qm _ hi);obtain⟨u,q⟩:=h j Qt;exact⟨u::B,by rw[PP,PP,J,q]⟩
theorem KZ{oc:Nat->Bool}{F:List D->Option (D×List D)}(hj:js.Nodup)(B:∀j∈js,ob j=true)(hp:∀i,i<js.length->pr i=true)(h:RfM G ob t js f){E:XK} :
  iz G ob (λσ H Q=>t σ H λvs H1=>spI G oc pr F (vs++[]) H1 Q E) (eIo F js f):=λρ d I e σ H S Fr s Q q=>by
 unfold eIo at e;split at e
 .rename_i hsome
  cases h0:objs js ρ with
  |none=>rw[h0]at hsome;cases hsome
  |some d4=>
   cases h1:f ρ with
   |none=>simp[h1]at e
   |some p=>
    obtain⟨ds,ρ1⟩:=p;rw[h1]at e;simp only[Pb]at e;cases h2:objs js ρ1 with
    |none=>simp[h2]at e
    |some os=>
     rw[h2]at e;simp only[Pb]at e;split at e
     .rename_i hbro
      cases N:F (os++fzL ds)with
      |none=>simp[N]at e
      |some z=>
       obtain⟨d1,a1⟩:=z;rw[N]at e;simp only[Pb]at e;split at e
       .rename_i b4
        obtain⟨rfl,rfl⟩:d1=d/\jm js a1 ρ1=I:=by simpa using e
        obtain⟨l0,g0⟩:=tu h0;obtain⟨l1,g1⟩:=tu h2;have a9:∃us:List V,js.map (λj=>σ[j]?)=us.map (λu=>some (some u)):=by
         have:∀j∈js,∃u,σ[j]? =some (some u):=λj hj=>by
          obtain⟨k,J⟩:=Wi.mp hj;obtain⟨d0,_,q2⟩:=g0 k j J;obtain⟨v,q3,_⟩:=s.sl j d0 q2;exact⟨v,q3⟩
         exact zj this
        obtain⟨us,a9⟩:=a9;have c1:us.length=js.length:=by have:=congrArg Uy a9;simpa using this.symm
        have c3:∀(k j:Nat)(u:V),js[k]? =some j->us[k]? =some u->σ[j]? =some (some u):=λk j u h1 h2=>by
         have:=congrArg (λl=>l[k]?) a9;simp only[List.getElem?_map,h1,h2,QZ,S_]at this;exact this
        refine h ρ ds ρ1 h1 σ H S Fr s us a9 _ λvs H1 M S1 Z r1 d5 c5=>?_;rw[Ql];have b1:∀{i a},a∈pick S1 js i->inO ob S1 a:=λ{i a} z=>by
         obtain⟨j,e,y⟩:=fZ z;exact⟨j,B j (QS e),y⟩
        have a2:∀{a},inS (pick S1 js) a->inO ob S1 a:=λ⟨i,z⟩=>b1 z;have b2:∀{i a},a∈S1 i->¬(wn ob S1 (plus M Fr)).free a:=λ{i a} z f=>by
         cases b0:ob i with
         |false=>exact f.2.1 ⟨i,b0,z⟩
         |true=>exact f.2.2 ⟨i,b0,z⟩
        let a4:Addr->Prop:=λa=>aB ds=true/\((Fr a∨inS S1 a)/\¬inS (pick S1 js) a)
        have a8:∀a,(wn ob S1 (plus M Fr)).free a->(wn oc (pick S1 js) a4).free a:=λa f=>by
         refine⟨λz=>?_,λ⟨i,_,z⟩=>?_,λ⟨i,_,z⟩=>?_⟩
         .rcases z.2.1 with y|⟨i,y⟩
          .exact f.1 (.inr y)
          .exact b2 y f
         .exact f.2.2 (b1 z)
         .exact f.2.2 (b1 z)
        have c8:∀a∈M,¬Fr a:=λa O z=>by
         rcases c5.fm a O with y|y
         .exact s.notO z y
         .obtain⟨o,B,_⟩:=s.fdm a z
          rw[y]at B;cases B
        have b6:∀a∈M,(wn oc (pick S1 js) a4).free a:=λa O=>by
         refine⟨λz=>?_,λ⟨i,_,z⟩=>?_,λ⟨i,_,z⟩=>?_⟩
         .rcases z.2.1 with y|⟨i,y⟩
          .exact c8 a O y
          .exact Z.fdj i a (.inl O) y
         .obtain⟨j,_,y⟩:=fZ z;exact Z.fdj j a (.inl O) y
         .obtain⟨j,_,y⟩:=fZ z;exact Z.fdj j a (.inl O) y
        have c6:aF G H1 (wn oc (pick S1 js) a4) (fzL ds) vs []:=by
         refine r1.fz2 ⟨a8,b6⟩ ?_ (.inl hbro);by_cases c7:aB ds=true
         .exact .inl c7
         .refine .inr λa O=>⟨λz=>c7 z.1,λ⟨i,_,z⟩=>?_,λ⟨i,_,z⟩=>?_⟩
          .obtain⟨i1,o1,y1⟩:=O
           obtain⟨i2,o2,y2⟩:=b1 z;rw[Z.dj i1 i2 a y1 y2,o2]at o1;cases o1
          .obtain⟨i1,o1,y1⟩:=O
           obtain⟨i2,o2,y2⟩:=b1 z;rw[Z.dj i1 i2 a y1 y2,o2]at o1;cases o1
        have sc:Sta G H1 oc ((os++fzL ds).map some) ((us++vs).map some) (pick S1 js) a4:=by
         refine⟨by simp[l1,c1,c6.length],λi d0 hi=>?_,λi hi=>?_,λi=>?_,λi k a h1 h2=>?_,λi a h1 h2=>h1.2.2 ⟨i,h2⟩,λa O=>?_⟩
         .have hi:=iI hi
          by_cases b5:i<js.length
          .obtain⟨dd,q1,q2⟩:=g1 i js[i] (by simp[b5])
           rw[Qu (by omega),q1]at hi;cases hi;obtain⟨v,q3,q4,q5⟩:=Z.sl _ _ q2;have a6:=(by simpa[clean]using q5:aA d0=true/\az d0=true);have d2:∃u,us[i]? =some u:=⟨us[i],by simp[c1,b5]⟩;obtain⟨u,hu⟩:=d2;have:=c3 i js[i] u (by simp[b5]) hu;rw[q3]at this;cases this;refine⟨v,cU (by rw[Qu (by omega)];exact hu),?_,q5⟩;have:pick S1 js i=S1 js[i]:=by unfold pick;rw[Py b5]
           rw[this];have ev:Evo H1 H1 (wn ob S1 (plus M Fr)) (wn oc (pick S1 js) a4):=⟨λb u h f=>⟨h,a8 b f⟩,λ_ _ h=>h⟩;exact q4.mono ev (.inl a6.1) (.inl a6.2) λ_ _ _ h=>h
          .rw[Qz (by omega)]at hi
           obtain⟨x,M',q1,q2,q3⟩:=c6.get hi;have:M'=[]:=by simpa using q3
           subst this;refine⟨x,cU (by rw[Qz (by omega),c1,←l1];exact q1),?_,by simp[clean,iQ (eF ds) hi,iU (eG ds) hi]⟩;have:pick S1 js i=[]:=by unfold pick;rw[Sw (by omega)]
           rw[this];exact q2
         .unfold pick
          split
          .rename_i j hj'
           exfalso;obtain⟨dd,q1,q2⟩:=g1 i j hj';exact hi dd (cU (by rw[Qu (by rw[l1];exact(Mx.mp hj').1)];exact q1))
          .rfl
         .unfold pick
          split
          .exact Z.nd _
          .exact List.nodup_nil
         .obtain⟨j1,e1,y1⟩:=fZ h1
          obtain⟨j2,e2,y2⟩:=fZ h2;have:=Z.dj j1 j2 a y1 y2;rw[this,←e2]at e1;exact(Xh (by
           cases hh:js[i]? with
           |none=>rw[hh,e2]at e1;cases e1
           |some _=>exact(Mx.mp hh).1) hj).mp e1
         .rcases O.2.1 with y|⟨i,y⟩
          .exact Z.fdm a (.inr y)
          .exact Z.mu y
        refine⟨os++fzL ds,pick S1 js,a4,sc,λi hi=>?_,d1,a1,N,λv H2 Mc Sc s2 r2 c2 n2 b8 m2=>?_⟩
        .unfold pick
         split
         .rename_i j hj'
          rw[hp i (Mx.mp hj').1]at hi;cases hi
         .rfl
        .have l2:a1.length=(os++fzL ds).length:=by
          have h1:=s2.len;have h2:=sc.len;simp only[Qe]at h1 h2;rw[h1,←h2]
         have kept:∀b u,H1 b=some u->¬inS (pick S1 js) b->H2 b=some u:=λb u U n=>m2.kp b u U n (by simp);have a3:∀{i b},b∈Sc i->inS (pick S1 js) b∨H1 b=none:=λ{i b} z=>(m2.gr i b z).imp id λy=>y.resolve_left (by simp);have c0:∀{b},Fr b->¬inS (pick S1 js) b:=λ{b} z ⟨i,y⟩=>by obtain⟨j,_,y⟩:=fZ y;exact Z.fdj j b (.inr z) y
         have a0:∀{j b},j∉js->b∈S1 j->¬inS (pick S1 js) b:=λ{j b} hn z ⟨i,y⟩=>by
          obtain⟨k,e,y⟩:=fZ y;rw[Z.dj j k b z y]at hn;exact hn (QS e)
         have b7:∀{i b},b∈S1 i->H1 b≠none:=λ{i b} z y=>by obtain⟨o,B,_⟩:=Z.mu z;rw[y]at B;cases B
         have ev:Evo H1 H2 (wn ob S1 (plus M Fr)) (wn ob (back S1 js Sc) (plus Mc Fr)):=by
          refine⟨λb u U f=>?_,λb xs h=>?_⟩
          .have n1:¬inS (pick S1 js) b:=λz=>f.2.2 (a2 z)
           have n2:∀i,b∉back S1 js Sc i:=λi z=>by
            rcases iw z with⟨k,_,y⟩|⟨_,y⟩
            .rcases a3 y with y|y
             .exact n1 y
             .rw[U]at y;cases y
            .exact b2 y f
           refine⟨kept b u U n1,λz=>?_,λ⟨i,_,z⟩=>n2 i z,λ⟨i,_,z⟩=>n2 i z⟩;rcases z with z|z
           .rcases b8 b z with y|y
            .exact n1 y
            .rw[U]at y;cases y
           .exact f.1 (.inr z)
          .have no:∀u,H1 b=some u->muO u=false->H2 b=some u:=λu hu mu=>kept b u hu λ⟨i,z⟩=>by
            obtain⟨j,_,z⟩:=fZ z;obtain⟨o,B,hm⟩:=Z.mu z;rw[hu]at B;cases B;rw[mu]at hm;cases hm
           exact no _ h rfl
         have conv:∀(e:D)(x:V)(L:List Addr),(aB ds=true∨dN e=true)->clean e=true->Rep G H2 (wn oc Sc (plus Mc a4)) e x L->Rep G H2 (wn ob (back S1 js Sc) (plus Mc Fr)) e x L:=λe x L Y b4 r=>by
          rcases Y with Y|Y
          .have a6:=(by simpa[clean]using b4:aA e=true/\az e=true)
           have c9:Evo H2 H2 (wn oc Sc (plus Mc a4)) (wn ob (back S1 js Sc) (plus Mc Fr)):=⟨λb u U f=>?_,λ_ _ h=>h⟩
           .exact r.mono c9 (.inl a6.1) (.inl a6.2) λ_ _ _ h=>h
           .have nSc:∀i,b∉Sc i:=λi z=>by
             cases b0:oc i with
             |false=>exact f.2.1 ⟨i,b0,z⟩
             |true=>exact f.2.2 ⟨i,b0,z⟩
            have nb:∀j,b∉back S1 js Sc j:=λj z=>by
             rcases iw z with⟨k,_,y⟩|⟨hn,y⟩
             .exact nSc k y
             .exact f.1 (.inr ⟨Y,.inr ⟨j,y⟩,a0 hn y⟩)
            refine⟨U,λz=>?_,λ⟨i,_,z⟩=>nb i z,λ⟨i,_,z⟩=>nb i z⟩;rcases z with z|z
            .exact f.1 (.inl z)
            .exact f.1 (.inr ⟨Y,.inl z,c0 z⟩)
          .exact r.own Y
         have d3:∀(j:Nat)(d0:D),(jm js a1 ρ1)[j]? =some (some d0)->∃v,σ[j]? =some (some v)/\Rep G H2 (wn ob (back S1 js Sc) (plus Mc Fr)) d0 v (back S1 js Sc j)/\clean d0=true:=λj d0 a7=>by
          by_cases a5:j∈js
          .obtain⟨k,J⟩:=Wi.mp a5
           have c4:k<js.length:=(Mx.mp J).1;obtain⟨dd,q1,q2⟩:=g1 k j J;have b9:j<ρ1.length:=(Mx.mp q2).1;have b3:k<a1.length:=by rw[l2,Qx];omega
           rw[pJ hj J (d:=a1[k]) (by simp[b3]) b9]at a7;cases a7;obtain⟨v,q3,q4,q5⟩:=s2.sl k a1[k] (cU (by simp[b3]));have q3:=iI q3;rw[Qu (by omega)]at q3;refine⟨v,c3 k j v J q3,?_,q5⟩;rw[GR hj J];refine conv _ _ _ (b4.imp id λz=>ut z.2 (by simp[b3]) c4) q5 q4
          .rw[lK a5]at a7
           obtain⟨v,q1,q2,q3⟩:=Z.sl j d0 a7;have a6:=(by simpa[clean]using q3:aA d0=true/\az d0=true);refine⟨v,q1,?_,q3⟩;rw[um a5];exact q2.mono ev (.inl a6.1) (.inl a6.2) λc Y u hu=>kept c u hu (a0 a5 Y)
         refine q v H2 Mc (back S1 js Sc) ⟨?_,d3,?_,?_,?_,?_,?_⟩ (conv _ _ _ (b4.imp id λz=>z.1) c2 r2) n2 ?_
         .rw[sI];exact Z.len
         .intro j a7
          by_cases a5:j∈js
          .obtain⟨k,J⟩:=Wi.mp a5
           obtain⟨dd,q1,q2⟩:=g1 k j J;have b9:j<ρ1.length:=(Mx.mp q2).1;have c4:k<js.length:=(Mx.mp J).1;have b3:k<a1.length:=by rw[l2,Qx];omega
           exact absurd (pJ hj J (d:=a1[k]) (by simp[b3]) b9) (a7 _)
          .rw[um a5]
           exact Z.em j λd0=>by have:=a7 d0;rwa[lK a5]at this
         .intro j
          unfold back;split
          .exact s2.nd _
          .exact Z.nd j
         .intro i k a y1 y2
          rcases iw y1 with⟨i1,e1,z1⟩|⟨e1,z1⟩<;>rcases iw y2 with⟨i2,e2,z2⟩|⟨e2,z2⟩
          .have:=s2.dj i1 i2 a z1 z2
           rw[this,e2]at e1;exact(QR e1).symm
          .rcases a3 z1 with y|y
           .exact absurd y (a0 e2 z2)
           .exact absurd y (b7 z2)
          .rcases a3 z2 with y|y
           .exact absurd y (a0 e1 z1)
           .exact absurd y (b7 z1)
          .exact Z.dj i k a z1 z2
         .intro j a O z
          rcases iw z with⟨i,_,y⟩|⟨hn,y⟩
          .rcases O with O|O
           .exact s2.fdj i a (.inl O) y
           .rcases a3 y with y|y
            .exact c0 O y
            .obtain⟨o,B,_⟩:=Z.fdm a (.inr O)
             rw[y]at B;cases B
          .rcases O with O|O
           .rcases b8 a O with y'|y'
            .exact a0 hn y y'
            .exact b7 y y'
           .exact Z.fdj j a (.inr O) y
         .intro a O
          rcases O with O|O
          .exact r2.dom a O
          .obtain⟨o,B,hm⟩:=Z.fdm a (.inr O)
           exact⟨o,kept a o B (c0 O),hm⟩
         .have ef2:Eff ob H1 H2 S1 (back S1 js Sc) Mc:=by
           refine⟨λb u U n=>kept b u U λz=>n (a2 z),λi hi=>um (λz=>by rw[B i z]at hi;cases hi),λi a hi z=>?_,λa O=>(b8 a O).imp (λy=>a2 y) id⟩;rcases iw z with⟨k,_,y⟩|⟨_,y⟩
           .exact(a3 y).imp (λy=>a2 y) id
           .exact .inl ⟨i,hi,y⟩
          exact(c5.trans ef2).same (Same.refl _) λc Y=>.inl (Pa _ Y)
       .cases e
     .cases e
 .cases e
theorem a_(js:List Nat){I:Nat->Bool}{F:List D->Option (D×List D)}(C:∀c,Cal (X c).prog (X c).w (X c).K (X c).mg (X c).base k x ps (spI G I pr F))(Z:∀c,gA k (X c).A)(O:PVM X G ob (e::es) js f)(N:js.Nodup:=by decide)(B:∀j∈js,ob j=true:=by decide)(Y:∀i,i<js.length->pr i=true:=by decide)(J:∀c,Gl (X c) x:=by intro _;rfl)(U:(x==("__debug__":Str))=false:=by decide)(V:∀c,PK (e::es) (X c).env=(false,eval e (X c).env)::PK es (X c).env:=by intro _;rfl)(q:∀c,(SM pos (PK es (X c).env)).any (·.1)=false:=by intro _;rfl) :
 PVe X G ob (.Call (.Name x p) (e::es) [] pos) (eIo F js f):=let⟨t,a1,a2⟩:=O.ex;⟨_,λc=>Dy (C c) (Z c) (J c) (a1 c) U (V c) (q c),KZ N B Y a2⟩
def kids:D->List D
 |.tup ds=>ds
 |.lst _ ds=>ds
 |.dct _ _ ds=>ds
 |.ins _ _ _ ds=>ds
 |_=>[]
def MP:D->List D->D
 |.tup _,es=>.tup es
 |.lst m _,es=>.lst m es
 |.dct m ks _,es=>.dct m ks es
 |.ins m c fs _,es=>.ins m c fs es
 |d,_=>d
def kO:List Nat->D->Option D
 |[],d=>some d
 |j::p,d=>((kids d)[j]?).bind (kO p)
def gM:List Nat->D->D->D
 |[],e,_=>e
 |j::p,e,d=>match(kids d)[j]? with
  |some c=>MP d ((kids d).set j (gM p e c))
  |none=>d
theorem Evo.trans{H1:Hp}{W1 B:Wn}(a:Evo H H1 W W1)(b:Evo H1 H2 W1 B):Evo H H2 W B:=⟨λc u h f=>let⟨h1,f1⟩:=a.k c u h f;b.k c u h1 f1,λc xs h=>b.t c xs (a.t c xs h)⟩
structure Foc(G:Gc)(H:Hp)(W:Wn)(d0:D)(v0:V)(L:List Addr)(p:List Nat)(d:D)(v:V)(M:List Addr):Prop where
 r:Rep G H W d v M
 b:∃A B,L=A++(M++B)/\∀H' W' d' M',Evo H H' W W'->(∀c∈A++B,∀u,H c=some u->H' c=some u)->Rep G H' W' d' v M'->Rep G H' W' (gM p d' d0) v0 (A++(M'++B))
theorem Foc.nil(r:Rep G H W d v L):Foc G H W d v L [] d v L:=⟨r,[],[],by simp,λH' W' d' M' _ _ h=>by simpa[gM]using h⟩
variable{p:List Nat}{d0:D}
theorem Foc.mono{H1:Hp}{W1:Wn}{j:V}(f:Foc G H W d0 j L p d v M)(Y:clean d=true∨Up H H1 W W1)(e:Evo H H1 W W1)(k:∀c∈L,∀u,H c=some u->H1 c=some u):Foc G H1 W1 d0 j L p d v M:=by
 obtain⟨A,B,N,U⟩:=f.b;refine⟨?_,A,B,N,λH' W' d' M' q F Z=>U H' W' d' M' (e.trans q) (λc Y u J=>F c Y u (k c ?_ u J)) Z⟩
 .rcases Y with Y|Y
  .have hcc:=(by simpa[clean]using Y:aA d=true/\az d=true)
   exact f.r.mono e (.inl hcc.1) (.inl hcc.2) λc Y u J=>k c (by rw[N];simp[Y]) u J
  .exact f.r.up Y
 .rw[N]
  simp only[Mz]at Y⊢;rcases Y with z|z<;>simp[z]
theorem rM(h:clean (.lst m ds)=true):aB ds=true/\aD ds=true:=by simp[clean,aA,az]at h;exact⟨h.1.2,h.2.2⟩
theorem iD{a b:List D}:aB (a++b)=(aB a&&aB b):=by
 induction a with
 |nil=>rfl
 |cons d r F=>rw[RC,aB,aB,F,aax]
theorem iH{a b:List D}:aD (a++b)=(aD a&&aD b):=by
 induction a with
 |nil=>rfl
 |cons d r F=>rw[RC,aD,aD,F,aax]
def RfP(G:Gc)(ob:Nat->Bool)(t:TE)(i:Nat)(pf:En->Option (List Nat)):Prop:=∀(ρ:En)(p:List Nat),pf ρ=some p->∀(σ:L2.St)(H:Hp)(S:Ad)(Fr:Addr->Prop),Sta G H ob ρ σ S Fr->∃d0 d,ρ[i]? =some (some d0)/\kO p d0=some d/\∀Q:VK,
 (∀v j H' M,Same H H'->σ[i]? =some (some j)->Foc G H' (wn ob S Fr) d0 j (S i) p d v M->Q v H')->t σ H Q
structure PVP{ι:Type}(X:ι->Cx)(G:Gc)(ob:Nat->Bool)(e:Expr)(i:Nat)(pf:En->Option (List Nat)):Prop where
 mk::(ex:∃t,(∀c,PE (X c) e t)/\RfP G ob t i pf)
def o8(i:Nat):En->Option (List Nat):=λρ=>match ρ[i]? with
 |some (some _)=>some []
 |_=>none
theorem jE(i:Nat)(U:∀c,(X c).N[i]? =some x:=by intro _;rfl)(F:∀c,Vis (X c).env.scope x:=by intro _;first|exact Ue rfl|exact Su (Ue rfl)|exact Su (Su rfl))(hd:(x==("__debug__":Str))=false:=by decide)
  (j:(x==("__classdict__":Str))=false:=by decide):PVP X G ob (.Name x pos) i (o8 i):=by
 refine⟨_,λc=>pv i (U c) (F c) hd j,λρ p e σ H S Fr s=>?_⟩;unfold o8 at e;split at e
 .rename_i d h1
  cases e;obtain⟨v,h2,B,V⟩:=s.sl i d h1;exact⟨d,d,h1,rfl,λQ q=>⟨v,h2,q v v H _ (Same.refl H) h2 (.nil B)⟩⟩
 .cases e
theorem rZ:∀{p:List Nat}{d:D},clean d0=true->kO p d0=some d->clean d=true:=by
 intro p
 induction p generalizing d0 with
 |nil=>intro d h e;cases e;exact h
 |cons j p F=>
  intro d h e;simp only[kO]at e;cases h1:(kids d0)[j]? with
  |none=>simp[h1]at e
  |some c=>
   have e:kO p c=some d:=by simpa[h1]using e
   refine F ?_ e;have J:aB (kids d0)=true/\aD (kids d0)=true:=by
    cases d0<;>simp[kids,clean,aA,az,aB,aD]at h h1⊢<;>(try exact h)<;>exact⟨h.1.2,h.2.2⟩
   simp[clean,iQ J.1 h1,iU J.2 h1]
def kY:D->Option Key
 |.int i=>some (.inl i)
 |.str x=>some (.inr x)
 |_=>none
def jf(ks:List Key)(k:Key):Option Nat:=ks.findIdx? λx=>decide (x=k)
def ixP:D->D->Option Nat
 |.lst .own ds,.int i=>ixN ds.length i
 |.tup ds,.int i=>ixN ds.length i
 |.dct .own ks ds,k=>(kY k).bind λk=>(jf ks k).bind λj=>if j<ds.length then some j else none
 |_,_=>none
def Ou(i:Nat)(pf:En->Option (List Nat))(F:En->Option D):En->Option (List Nat):=λρ=>(pf ρ).bind λp=>(F ρ).bind λk=>match ρ[i]? with
 |some (some d0)=>(kO p d0).bind λd=>(ixP d k).bind λj=>if j<(kids d).length then some (p++[j])else none
 |_=>none
def KN:R2:=λx y H Q=>∃a v,x= .ref a/\LC H a y (some v)/\Q v H
variable{Y:Cx}
theorem HS(J:Y.A.units+1<cLine):IxR Y KN:=by
 intro N j pins s σ H x y v u Q I rx B h Z;obtain⟨a,z,rfl,g,q⟩:=h;cases rx;exact tail_any (vY I g) PySem.F.slot_dict_getitem.lookup (Be J I g B λU s3 V O=>⟨z,H,V,O,q⟩) Z
theorem Ld(J:Y.A.units+1<cLine):IxR Y (λx y H Q=>rIx Y.K x y H Q∨KN x y H Q):=J3.or (HS J)
theorem wQ:∀{kvs:List (Key×V)}{k:Key}{j:Nat},jf (kvs.map (·.1)) k=some j->kj kvs k=(kvs.map (·.2))[j]?
 |[],k,j,h=>by simp[jf]at h
 |(k0,v)::r,k,j,h=>by
  simp only[PP,jf,List.findIdx?_cons]at h;by_cases e:k0=k
  .subst e
   simp at h;subst h;simp[kj]
  .rw[QB e]at h
   simp only[PJ,Qv]at h;cases h1:(r.map (·.1)).findIdx? (λx=>decide (x=k))with
   |none=>rw[h1]at h;cases h
   |some i=>
    rw[h1]at h;have:i+1=j:=by simpa using h
    subst this;have F:=wQ (kvs:=r) (k:=k) (j:=i) h1;simp only[kj,TQ,QB e,PP,Qd];exact F
variable{k:Key}
theorem pA(r:Rep G H W d v L)(h:kY d=some k):v=kV k:=by
 cases d<;>simp[kY]at h<;>subst h<;>rw[Rep]at r<;>exact r.1
def MuV(G:Gc)(r:V->List V->Hp->VK->Prop)(op:D->List D->Option (D×D)):Prop:=∀(d:D)(es:List D)(d' res:D),op d es=some (d',res)->∀(v:V)(xs:List V)(H:Hp)(W:Wn)(M N:List Addr),Rep G H W d v M->aF G H W es xs N->(M++N).Nodup->(∀a∈M,¬W.free a)->
 clean d=true->aB es=true->aD es=true->∀Q:VK,(∀x H' M' R,(∀b u,H b=some u->b∉M->H' b=some u)->(∀W',Evo H H' W W'->Rep G H' W' d' v M'/\Rep G H' W' res x R)->(M'++R).Nodup->(∀a∈M'++R,a∈M∨a∈N∨H a=none)->clean d'=true->clean res=true->Q x H')->r v xs H Q
theorem xR{e:D}:∀{p:List Nat},clean d0=true->clean e=true->clean (gM p e d0)=true:=by
 intro p
 induction p generalizing d0 with
 |nil=>intro _ h;exact h
 |cons j p F=>
  intro h V;simp only[gM];cases h1:(kids d0)[j]? with
  |none=>exact h
  |some c=>
   have Y:clean c=true:=rZ (p:=[j]) h (by simp[kO,h1]);have:=F (d0:=c) Y V;have q:∀{ds:List D}{j:Nat}{x:D},aB ds=true->aD ds=true->clean x=true->aB (ds.set j x)=true/\aD (ds.set j x)=true:=λ{ds}=>by
    induction ds with
    |nil=>intro j x a b _;simp[a,b]
    |cons y r B=>
     intro j x a b I;simp only[aB,aD,Qo]at a b;have J:=(by simpa[clean]using I:aA x=true/\az x=true);cases j with
     |zero=>simp[aB,aD,J,a,b]
     |succ j=>simp only[Qy,aB,aD,Qo];exact⟨⟨a.1,(B a.2 b.2 I).1⟩,⟨b.1,(B a.2 b.2 I).2⟩⟩
   cases d0<;>simp only[kids,List.getElem?_nil]at h1<;>(try cases h1)<;>simp only[MP,kids]<;>simp[clean,aA,az]at h⊢
   .exact⟨(q h.1 h.2 this).1,(q h.1 h.2 this).2⟩
   .exact⟨⟨h.1.1,(q h.1.2 h.2.2 this).1⟩,h.2.1,(q h.1.2 h.2.2 this).2⟩
   .exact⟨⟨h.1.1,(q h.1.2 h.2.2 this).1⟩,h.2.1,(q h.1.2 h.2.2 this).2⟩
   .exact⟨⟨h.1.1,(q h.1.2 h.2.2 this).1⟩,h.2.1,(q h.1.2 h.2.2 this).2⟩
theorem Sta.mut{Fr:Addr->Prop}{d' res:D}{v0 x:V}{N M' R:List Addr}(s:Sta G H ob ρ σ S (plus N Fr))(e:ρ[i]? =some (some d0))(b1:σ[i]? =some (some v0))(b2:Foc G H (wn ob S (plus N Fr)) d0 v0 (S i) p d v M)
  (hF:∀a∈N,¬Fr a) (kp:∀b u,H b=some u->b∉M->H' b=some u) (Z:∀W',Evo H H' (wn ob S (plus N Fr)) W'->Rep G H' W' d' v M'/\Rep G H' W' res x R) (nd:(M'++R).Nodup) (gr:∀a∈M'++R,a∈M∨a∈N∨H a=none) (Y:clean d'=true) :
  ∃S',Sta G H' ob (ρ.set i (some (gM p d' d0))) σ S' (plus R Fr)/\Rep G H' (wn ob S' (plus R Fr)) res x R/\(∀j,j≠i->S' j=S j)/\(∀a∈S' i,a∈S i∨a∈N∨H a=none)/\(∀a∈R,a∈S i∨a∈N∨H a=none)/\(∀b u,H b=some u->b∉S i->H' b=some u):=by
 obtain⟨A,B,hL,U⟩:=b2.b;have a9:i<ρ.length:=(Mx.mp e).1;have a1:∀a∈M,a∈S i:=λa O=>by rw[hL];simp[O]
 have a2:∀a∈A++B,a∈S i/\a∉M:=λa O=>by
  have hn:=s.nd i;rw[hL]at hn;have h1:=Qg.mp hn;have h2:=Qg.mp h1.2.1;rcases Mz.mp O with z|z
  .exact⟨by rw[hL];simp[z],λy=>h1.2.2 a z a (by simp[y]) rfl⟩
  .exact⟨by rw[hL];simp[z],λy=>h2.2.2 a y a z rfl⟩
 have b0:∀a∈M'++R,∀j,j≠i->a∉S j:=λa O j F z=>by
  rcases gr a O with y|y|y
  .exact F (s.dj j i a z (a1 a y))
  .exact s.fdj j a (.inl y) z
  .obtain⟨o,ho,_⟩:=s.mu z;rw[y]at ho;cases ho
 have b4:∀a∈M'++R,¬Fr a:=λa O z=>by
  rcases gr a O with y|y|y
  .exact s.fdj i a (.inr z) (a1 a y)
  .exact hF a y z
  .obtain⟨o,ho,_⟩:=s.fdm a (.inr z);rw[y]at ho;cases ho
 have a3:∀a∈M'++R,a∉A++B:=λa O z=>by
  obtain⟨z1,z2⟩:=a2 a z;rcases gr a O with y|y|y
  .exact z2 y
  .exact s.fdj i a (.inl y) z1
  .obtain⟨o,ho,_⟩:=s.mu z1;rw[y]at ho;cases ho
 let S':=eX S i (A++(M'++B))
 have a5:∀a∈S' i,a∈S i∨a∈N∨H a=none:=λa O=>by
  have O:a∈eX S i (A++(M'++B)) i:=O;rw[bZ]at O;simp only[Mz]at O;rcases O with z|z|z
  .exact .inl (a2 a (PL _ z)).1
  .exact(gr a (PL _ z)).imp (a1 a) id
  .exact .inl (a2 a (Pa _ z)).1
 have a6:∀b u,H b=some u->(wn ob S (plus N Fr)).free b->H' b=some u/\(wn ob S' (plus R Fr)).free b:=λb u U f=>by
  have nS:∀j,b∉S j:=λj z=>by
   cases ho:ob j with
   |false=>exact f.2.1 ⟨j,ho,z⟩
   |true=>exact f.2.2 ⟨j,ho,z⟩
  have a8:∀j,b∉S' j:=λj z=>by
   by_cases F:j=i
   .subst F
    rcases a5 b z with y|y|y
    .exact nS j y
    .exact f.1 (.inl y)
    .rw[U]at y;cases y
   .have z:b∈eX S i (A++(M'++B)) j:=z
    rw[cz F]at z;exact nS j z
  refine⟨kp b u U λz=>nS i (a1 b z),λz=>?_,λ⟨j,_,z⟩=>a8 j z,λ⟨j,_,z⟩=>a8 j z⟩;rcases z with z|z
  .rcases gr b (Pa _ z)with y|y|y
   .exact nS i (a1 b y)
   .exact f.1 (.inl y)
   .rw[U]at y;cases y
  .exact f.1 (.inr z)
 have ev:Evo H H' (wn ob S (plus N Fr)) (wn ob S' (plus R Fr)):=⟨a6,λb xs h=>by
  have no:∀u,H b=some u->muO u=false->H' b=some u:=λu J mu=>kp b u J λz=>by
   obtain⟨o,ho,hm⟩:=s.mu (a1 b z);rw[J]at ho;cases ho;rw[mu]at hm;cases hm
  exact no _ h rfl⟩
 obtain⟨r1,r2⟩:=Z _ ev;have a7:=Qg.mp nd;refine⟨S',⟨by simp[s.len],λj dj F=>?_,λj F=>?_,λj=>?_,λj k a h1 h2=>?_,λj a h1 h2=>?_,λa O=>?_⟩,r2,λj F=>cz F,a5,λa O=>(gr a (Pa _ O)).imp (a1 a) id,λb u U n=>kp b u U λz=>n (a1 b z)⟩
 .by_cases a0:j=i
  .subst a0
   have:gM p d' d0=dj:=by simpa[a9]using F
   subst this;have b3:clean d0=true:=let⟨_,_,_,h⟩:=s.sl j d0 e;h;refine⟨v0,b1,?_,xR b3 Y⟩;show Rep G H' _ _ v0 (eX S j (A++(M'++B)) j);rw[bZ];exact U H' _ d' M' ev (λc Y u J=>kp c u J (a2 c Y).2) r1
  .rw[List.getElem?_set_ne (Qn a0)]at F
   obtain⟨w,q1,q2,q⟩:=s.sl j dj F;have I:=(by simpa[clean]using q:aA dj=true/\az dj=true);refine⟨w,q1,?_,q⟩;show Rep G H' _ dj w (eX S i (A++(M'++B)) j);rw[cz a0];exact q2.mono ev (.inl I.1) (.inl I.2) λc Y u J=>kp c u J λz=>a0 (s.dj j i c Y (a1 c z))
 .by_cases a0:j=i
  .subst a0
   exact absurd (by simp[a9]) (F (gM p d' d0))
  .show eX S i (A++(M'++B)) j=[]
   rw[cz a0];exact s.em j λd1=>by have:=F d1;rwa[List.getElem?_set_ne (Qn a0)]at this
 .by_cases a0:j=i
  .subst a0
   show(eX S j (A++(M'++B)) j).Nodup;rw[bZ];have hn:=s.nd j;rw[hL]at hn;have h1:=Qg.mp hn;have h2:=Qg.mp h1.2.1;refine cX h1.1 (cX a7.1 h2.2.1 λa O z=>a3 a (PL _ O) (Pa _ z)) λa O z=>?_;rcases Mz.mp z with z|z
   .exact a3 a (PL _ z) (PL _ O)
   .exact h1.2.2 a O a (by simp[z]) rfl
  .show(eX S i (A++(M'++B)) j).Nodup
   rw[cz a0];exact s.nd j
 .have key:∀{j:Nat}{a:Addr},j≠i->a∈S j->a∈S' i->False:=λ{j a} F z1 z2=>by
   have z2:a∈eX S i (A++(M'++B)) i:=z2;rw[bZ]at z2;simp only[Mz]at z2;rcases z2 with z|z|z
   .exact F (s.dj j i a z1 (a2 a (PL _ z)).1)
   .exact b0 a (PL _ z) j F z1
   .exact F (s.dj j i a z1 (a2 a (Pa _ z)).1)
  by_cases a0:j=i<;>by_cases a4:k=i
  .rw[a0,a4]
  .subst a0
   have h2:a∈eX S j (A++(M'++B)) k:=h2;rw[cz a4]at h2;exact(key a4 h2 h1).elim
  .subst a4
   have h1:a∈eX S k (A++(M'++B)) j:=h1;rw[cz a0]at h1;exact(key a0 h1 h2).elim
  .have h1:a∈eX S i (A++(M'++B)) j:=h1
   have h2:a∈eX S i (A++(M'++B)) k:=h2;rw[cz a0]at h1;rw[cz a4]at h2;exact s.dj j k a h1 h2
 .by_cases a0:j=i
  .subst a0
   have h2:a∈eX S j (A++(M'++B)) j:=h2;rw[bZ]at h2;simp only[Mz]at h2;rcases h1 with h1|h1
   .rcases h2 with z|z|z
    .exact a3 a (Pa _ h1) (PL _ z)
    .exact a7.2.2 a z a h1 rfl
    .exact a3 a (Pa _ h1) (Pa _ z)
   .rcases h2 with z|z|z
    .exact s.fdj j a (.inr h1) (a2 a (PL _ z)).1
    .exact b4 a (PL _ z) h1
    .exact s.fdj j a (.inr h1) (a2 a (Pa _ z)).1
  .have h2:a∈eX S i (A++(M'++B)) j:=h2
   rw[cz a0]at h2;rcases h1 with h1|h1
   .exact b0 a (Pa _ h1) j a0 h2
   .exact s.fdj j a (.inr h1) h2
 .rcases O with O|O
  .exact r2.dom a O
  .obtain⟨o,ho,hm⟩:=s.fdm a (.inr O)
   exact⟨o,kp a o ho λz=>s.fdj i a (.inr O) (a1 a z),hm⟩
section
variable{ι:Type}{X:ι->Cx}{G:Gc}{ob P:Nat->Bool}
theorem vR{G:Gc}{r:V->List V->Hp->VK->Prop}{op:D->List D->Option (D×D)}{H:Hp}{ρ:En}{σ:L2.St}{S:Ad}{Fr:Addr->Prop}{i:Nat}{p:List Nat}{d0 d d' res:D}{v v0:V}{M N:List Addr}{es:List D}{xs:List V}(hm:MuV G r op)(s:Sta G H ob ρ σ S (plus N Fr))(e:ρ[i]? =some (some d0))(a0:σ[i]? =some (some v0))(Y:kO p d0=some d)
  (I:Foc G H (wn ob S (plus N Fr)) d0 v0 (S i) p d v M) (re:aF G H (wn ob S (plus N Fr)) es xs N) (nd:N.Nodup) (J:∀a∈N,¬Fr a) (c1:aB es=true) (c2:aD es=true) (h:op d es=some (d',res)) {Q:VK}
  (q:∀x H' R S',Sta G H' ob (ρ.set i (some (gM p d' d0))) σ S' (plus R Fr)->Rep G H' (wn ob S' (plus R Fr)) res x R->R.Nodup->clean res=true->(∀j,j≠i->S' j=S j)->(∀a∈S' i,a∈S i∨a∈N∨H a=none)->(∀a∈R,a∈S i∨a∈N∨H a=none)->(∀b u,H b=some u->b∉S i->H' b=some u)->Q x H'):r v xs H Q:=by
 have F:RG M (S i):=by
  obtain⟨A,B,hL,_⟩:=I.b;rw[hL];exact(Vr M B).trans (RQ A _)
 have a3:clean d0=true:=let⟨_,_,_,h⟩:=s.sl i d0 e;h;refine hm d es d' res h v xs H _ M N I.r re (cX (F.nodup (s.nd i)) nd λa h1 h2=>s.fdj i a (.inl h2) (F.subset h1)) (λa O f=>?_) (rZ a3 Y) c1 c2 Q λx H' M' R kp Z U gr a1 a2=>?_
 .cases ho:ob i with
  |false=>exact f.2.1 ⟨i,ho,F.subset O⟩
  |true=>exact f.2.2 ⟨i,ho,F.subset O⟩
 .obtain⟨S',q1,q2,q3,q4,q5,q6⟩:=s.mut e a0 I J kp Z U gr a1
  exact q x H' R S' q1 q2 (Qg.mp U).2.1 a2 q3 q4 q5 q6
def upS(op:D->List D->Option (D×D))(i:Nat)(p:List Nat)(es:List D)(ρ:En):Option (D×En):=match ρ[i]? with
 |some (some d0)=>(kO p d0).bind λd=>if aB es=true/\aD es=true then(op d es).map λq=>(q.2,ρ.set i (some (gM p q.1 d0)))else none
 |_=>none
theorem FP{op:D->List D->Option (D×D)}{i:Nat}{p:List Nat}{es:List D}{ρ I:En}{res:D}(h:upS op i p es ρ=some (res,I)):∃d0 d d',ρ[i]? =some (some d0)/\kO p d0=some d/\aB es=true/\aD es=true/\op d es=some (d',res)/\I=ρ.set i (some (gM p d' d0)):=by
 unfold upS at h;split at h
 .rename_i d0 h1
  cases h2:kO p d0 with
  |none=>simp[h2]at h
  |some d=>
   by_cases Y:aB es=true/\aD es=true
   .cases h3:op d es with
    |none=>simp[h2,Y,h3]at h
    |some q=>
     obtain⟨d',Z⟩:=q;obtain⟨rfl,rfl⟩:Z=res/\ρ.set i (some (gM p d' d0))=I:=by simpa[h2,Y,h3]using h
     exact⟨d0,d,d',h1,h2,Y.1,Y.2,h3,rfl⟩
   .simp[h2,Y]at h
 .cases h
def xZ(op:D->List D->Option (D×D))(i:Nat)(pf:En->Option (List Nat))(f:En->Option (List D)):En->Option (D×En):=λρ=>(pf ρ).bind λp=>(f ρ).bind λes=>upS op i p es ρ
def qM(op:D->List D->Option (D×D))(i:Nat)(pf:En->Option (List Nat))(f:En->Option (List D)):En->Option Fl:=λρ=>(xZ op i pf f ρ).map λq=>.nx q.2
def Hn(G:Gc)(T:String)(op:D->List D->Option (D×D)):Prop:=∀d es q,op d es=some q->∀(v:V)(H:Hp)(W:Wn)(L:List Addr),Rep G H W d v L->tyV G.K T v H
theorem J1{T:String}{r:V->List V->Hp->VK->Prop}{op:D->List D->Option (D×D)}{to:TE}{t:TA}{i:Nat}{pf:En->Option (List Nat)}{f:En->Option (List D)}(hm:MuV G r op)(ht:Hn G T op)(B:RfP G ob to i pf)(O:RfA G ob t f){ρ I:En}{res:D}(e:xZ op i pf f ρ=some (res,I))
  {σ:L2.St} {H:Hp} {S:Ad} {Fr:Addr->Prop} (s:Sta G H ob ρ σ S Fr) {Q:VK}
  (q:∀x H' R S',Sta G H' ob I σ S' (plus R Fr)->Rep G H' (wn ob S' (plus R Fr)) res x R->R.Nodup->clean res=true->(∀j,j≠i->S' j=S j)->(∀a∈S' i,a∈S i∨H a=none)->(∀a∈R,a∈S i∨H a=none)->(∀b u,H b=some u->b∉S i->H' b=some u)->Q x H'):tBM G.K T r to t σ H Q:=by
 unfold xZ at e;cases h1:pf ρ with
 |none=>simp[h1]at e
 |some p=>
  cases h2:f ρ with
  |none=>simp[h1,h2]at e
  |some es=>
   have e:upS op i p es ρ=some (res,I):=by simpa[h1,h2]using e
   obtain⟨d0,d,d',g1,g2,c1,Y,g3,rfl⟩:=FP e;obtain⟨a5,dd,k1,k2,k3⟩:=B ρ p h1 σ H S Fr s;rw[g1]at k1;cases k1;rw[g2]at k2;cases k2;refine k3 _ λv v0 H1 M Z a3 a1=>⟨ht d es _ g3 v H1 _ M a1.r,?_⟩;have a0:Sta G H1 ob ρ σ S Fr:=s.grow Z λa z=>.inl z;refine O ρ es h2 σ H1 _ a0.rel a0.wok _ λxs H2 N F re fr nd=>?_;have a4:Sta G H2 ob ρ σ S (plus N Fr):=a0.grow F λa z=>z.elim (λz=>.inr ⟨fr a z,re.dom a z⟩) .inl;have up:Up H1 H2 (wn ob S Fr) (wn ob S (plus N Fr)):=Up.add F fr;have a2:=a1.mono (.inr up) up.evo λc _ u J=>F c u J;have hF:∀a∈N,¬Fr a:=λa O z=>by
    obtain⟨o,B,_⟩:=a0.fdm a z;rw[fr a O]at B;cases B
   have nf:∀{a},a∈S i∨a∈N∨H2 a=none->a∈S i∨H a=none:=λ{a} z=>z.imp id λz=>z.elim (λz=>Z.none' (fr a z)) λz=>(Z.trans F).none' z;exact vR hm a4 g1 a3 g2 a2 re nd hF c1 Y g3 λx H' R S' q1 q2 q3 q4 q5 q6 q7 q8=>q x H' R S' q1 q2 q3 q4 q5 (λa O=>nf (q6 a O)) (λa O=>nf (q7 a O)) λb u U n=>q8 b u ((Z.trans F) b u U) n
theorem Hj{T:String}{r:V->List V->Hp->VK->Prop}{op:D->List D->Option (D×D)}{to:TE}{t:TA}{i:Nat}{pf:En->Option (List Nat)}{f:En->Option (List D)}(hm:MuV G r op)(ht:Hn G T op)(B:RfP G ob to i pf)(O:RfA G ob t f):RfS G ob P (Jq (tBM G.K T r to t)) (qM op i pf f):=λρ r e σ H S Fr s E q=>by
 unfold qM at e;cases h1:xZ op i pf f ρ with
 |none=>simp[h1]at e
 |some p=>
  obtain⟨res,I⟩:=p;have:Fl.nx I=r:=by simpa[h1]using e
  subst this;refine J1 hm ht B O h1 s λx H' R S' q1 q2 q3 Y N Z J q8=>q σ H' S' (q1.lessF λa z=>.inr z) ⟨λb u U n _=>q8 b u U λz=>n ⟨i,z⟩,λj a z=>?_,.refl⟩;by_cases F:j=i
  .subst F;exact(Z a z).imp (λz=>⟨j,z⟩) .inr
  .rw[N j F]at z;exact .inl ⟨j,z⟩
structure MuB{ι:Type}(X:ι->Cx)(G:Gc)(T id:String)(op:D->List D->Option (D×D)):Prop where
 ex:∃r,(∀c,MtR (X c) id r)/\MuV G r op/\Hn G T op
section
variable{T name id:String}{op:D->List D->Option (D×D)}{o e:Expr}{es:List Expr}{apos cpos pos:Pos}{i:Nat}{pf:En->Option (List Nat)}
theorem ou{Y:Str}(m:MuB X G T id op)(pa:PlainAttrs T)(slot:Slot T Y id)(N:typeOf (.builtin id)=pure (.type "method_descriptor")){f:En->Option (List D)}(B:PVP X G ob o i pf)(O:PVA X G ob (e::es) f)(V:∀c,Wf (.Call (.Attribute o Y apos) (e::es) [] cpos) none pos.line (X c).env=pure false:=by intro _;rfl)(U:∀c,YQ o Y (X c).env (eval o (X c).env)=eval o (X c).env:=by intro _;rfl)(J:∀c,((SM cpos (PK (e::es) (X c).env)).all (λx=>!x.1)&&(backToKw cpos (Z3 [] (X c).env)).all (λx=>x.1.isSome)
  &&decide ((e::es).length+([]:List Yr).length+(if([]:List Yr).isEmpty then 0 else 1)<30))=true:=by intro _;rfl) (j:(apos.endLine==cpos.line)=true:=by rfl) (F:∀c,PK (e::es) (X c).env=(false,eval e (X c).env)::PK es (X c).env:=by intro _;rfl) (q:∀c,(SM cpos (PK es (X c).env)).any (·.1)=false:=by intro _;rfl) (I:∀c,(X c).K=G.K:=by intro _;rfl) :
 PVS X G ob P (.Expr (.Call (.Attribute o Y apos) (e::es) [] cpos) pos) (qM op i pf f):=let⟨r,m1,m2,m3⟩:=m.ex;let⟨t,a1,a2⟩:=B.ex;let⟨u,b1,b2⟩:=O.ex;⟨_,λc=>(by rw[←I c];exact Iv (Jj pa slot N (m1 c) (a1 c) (b1 c) (U c) (J c) j (F c) (q c)) (V c)),Hj m2 m3 a2 b2⟩
end
structure MuT{ι:Type}(X:ι->Cx)(G:Gc)(op:D->List D->Option (D×D)):Prop where
 ex:∃t:Al,(∀c,Gu (X c) t)/\MuV G (λo xs H Q=>∃i v,xs=[i,v]/\t o i v H λH'=>Q .non H') op
def rW(op:D->List D->Option (D×D))(i:Nat)(pf:En->Option (List Nat))(F:En->Option D):D->En->Option En:=λd ρ=>(pf ρ).bind λp=>(F ρ).bind λk=>(upS op i p [k,d] ρ).map λq=>q.2
theorem Hu{t:Al}{op:D->List D->Option (D×D)}{to ti:TE}{i:Nat}{pf:En->Option (List Nat)}{fk:En->Option D}(V:MuV G (λo xs H Q=>∃i v,xs=[i,v]/\t o i v H λH'=>Q .non H') op)(B:RfP G ob to i pf)(hi:RfE G ob ti fk):RfG G ob P (je to ti t) (rW op i pf fk):=λd ρ I e v σ H S M Fr s r nd hF Q q=>by
 unfold rW at e;cases h1:pf ρ with
 |none=>simp[h1]at e
 |some p=>
  cases h2:fk ρ with
  |none=>simp[h1,h2]at e
  |some k=>
   cases h3:upS op i p [k,d] ρ with
   |none=>simp[h1,h2,h3]at e
   |some w=>
    obtain⟨res,ρ1⟩:=w;obtain rfl:ρ1=I:=by simpa[h1,h2,h3]using e
    obtain⟨d0,dd,d',g1,g2,c1,Y,g3,rfl⟩:=FP h3;obtain⟨b0,b1,k1,k2,k3⟩:=B ρ p h1 σ H S (plus M Fr) s;rw[g1]at k1;cases k1;rw[g2]at k2;cases k2;refine k3 _ λo v0 H1 M1 Z a6 a7=>?_;have a0:Sta G H1 ob ρ σ S (plus M Fr):=s.grow Z λa z=>.inl z;refine hi ρ k h2 σ H1 _ a0.rel a0.wok _ λy H2 N F ry fr nN=>?_;have a8:Sta G H2 ob ρ σ S (plus (N++M) Fr):=a0.grow F λa z=>z.elim (λz=>(Mz.mp z).elim (λz=>.inr ⟨fr a z,ry.dom a z⟩) λz=>.inl (.inl z)) λz=>.inl (.inr z);have up:Up H1 H2 (wn ob S (plus M Fr)) (wn ob S (plus (N++M) Fr)):=⟨F,λb u U f=>⟨λz=>z.elim (λz=>(Mz.mp z).elim (λz=>by rw[fr b z]at U;cases U) λz=>f.1 (.inl z)) λz=>f.1 (.inr z),f.2⟩,λ_ _ _ f=>f⟩;have a2:Up H H2 (wn ob S (plus M Fr)) (wn ob S (plus (N++M) Fr)):=(Up.same Z).trans up;have a1:=a7.mono (.inr up) up.evo λc _ u J=>F c u J;have a5:(wn ob S (plus M Fr)).add N=wn ob S (plus (N++M) Fr):=by
     show Wn.mk _ _ _=Wn.mk _ _ _;congr 1;funext a;simp only[plus,Mz,eq_iff_iff,or_assoc];constructor
     .rintro(z|z)
      .exact .inl z
      .exact .inr z
     .rintro(z|z)
      .exact .inl z
      .exact .inr z
    rw[a5]at ry;have a4:∀a∈N,a∉M:=λa h1 h2=>by
     obtain⟨o,B,_⟩:=r.dom a h2;rw[Z.none' (fr a h1)]at B;cases B
    have re:aF G H2 (wn ob S (plus (N++M) Fr)) [k,d] [y,v] (N++M):=.cons ry (.one (r.up a2));have a3:∀a∈N++M,¬Fr a:=λa O z=>by
     rcases Mz.mp O with y|y
     .obtain⟨o,B,_⟩:=a0.fdm a (.inr z)
      rw[fr a y]at B;cases B
     .exact hF a y z
    have a9:=vR V a8 g1 a6 g2 a1 re (cX nN nd a4) a3 c1 Y g3 (Q:=λ_ H'=>Q σ H') λx H' R S' q1 q2 q3 q4 q5 q6 q7 q8=>q σ H' S' (q1.lessF λa z=>.inr z) ⟨λb u U n m=>?_,λj a z=>?_,.refl⟩
    .obtain⟨i1,v1,e1,k⟩:=a9
     cases e1;exact k
    .exact q8 b u ((Z.trans F) b u U) λz=>n ⟨i,z⟩
    .by_cases hj:j=i
     .subst hj
      rcases q6 a z with y|y|y
      .exact .inl ⟨j,y⟩
      .exact(Mz.mp y).elim (λy=>.inr (.inr (Z.none' (fr a y)))) λy=>.inr (.inl y)
      .exact .inr (.inr ((Z.trans F).none' y))
     .rw[q5 j hj]at z;exact .inl ⟨j,z⟩
theorem yU{op:D->List D->Option (D×D)}{o k:Expr}{pos:Pos}{i:Nat}{pf:En->Option (List Nat)}{F:En->Option D}(m:MuT X G op)(B:PVP X G ob o i pf)(J:PV X G ob k F)(O:∀c,∀v,VR (.Subscript o k pos) (X c).env v=(do
 let ov ←Tt [v] (eval o (X c).env)
 let iv ←Tt [v,ov] (eval k (X c).env)
 standAt pos
 Tt [v,ov,iv] (setItem ov iv v)
 release [v,ov,iv] []):=by intro _;intro _;rfl):PVG X G ob P (.Subscript o k pos) (rW op i pf F):=let⟨t,m1,m2⟩:=m.ex;let⟨_,a1,a2⟩:=B.ex;let⟨_,b1,b2⟩:=J.ex;⟨_,λc=>JK (a1 c) (b1 c) (m1 c) (O c),Hu m2 a2 b2⟩
theorem oG{G:Gc}{H:Hp}{W:Wn}:Rep G H W .non .non []:=by rw[Rep];exact⟨rfl,rfl⟩
theorem sJ{ds:List D}(h1:aB ds=true)(h2:aD ds=true):clean (.lst .own ds)=true:=by simp[clean,aA,az,h1,h2]
theorem Ii{G:Gc}{H:Hp}{W W':Wn}{a:Addr}{xs:List V}{ds:List D}{M:List Addr}{ys:List V}(Z:aF G H W ds xs M)(j:aB ds=true)(q:aD ds=true)(hn:a∉M)(B:Evo H (upd H a (.lst ys)) W W'):aF G (upd H a (.lst ys)) W' ds xs M:=
 Z.mono B (.inl j) (.inl q) λc Y u J=>by rw[aK (show c≠a from λz=>hn (z▸Y))];exact J
def bC:D->List D->Option (D×D)
 |.lst .own ds,[e]=>if ds.length<1000000 then some (.lst .own (ds++[e]),.non)else none
 |_,_=>none
theorem Ca{n:Nat}(h:n<1000000):n<Px:=P0 h (by decide)
theorem wY{G:Gc}:MuV G yw bC:=λd es d' res h v xs H W M N r B nd I Y c1 c2 Q q=>by
 unfold bC at h;split at h
 .rename_i ds e
  split at h
  .rename_i hl
   cases h;rw[Rep]at r;obtain⟨a,ys,V,rfl,Z,O,rfl⟩:=r;obtain⟨x,zs,F,N2,rfl,rfl,J,hz⟩:=B.inv;obtain⟨rfl,rfl⟩:=hz.inv0;rw[Ql]at nd B;obtain⟨k1,k2⟩:=rM Y;have a0:=Qg.mp nd;have hn:=QC.mp a0.1;have j:a∉F:=λz=>a0.2.2 a (by simp) a z rfl;simp only[aB,aD,Qo]at c1 c2;refine⟨a,ys,x,rfl,rfl,O,Ca (by rw[←Z.length];exact hl),q .non _ (a::(V++F)) [] (λb u U n=>by rw[aK (show b≠a from λz=>n (by rw[z];simp))];exact U) (λW' ev=>⟨?_,oG⟩) ?_ (λb U=>?_) (sJ (by rw[iD];simp[k1,aB,c1]) (by rw[iH];simp[k2,aD,c2])) rfl⟩
   .rw[Rep]
    refine⟨a,ys++[x],V++F,rfl,(Ii Z k1 k2 hn.1 ev).append (.one (J.mono ev (.inl c1.1) (.inl c2.1) λc Y u hu=>?_)),aZ,rfl⟩;rw[aK (show c≠a from λz=>j (z▸Y))];exact hu
   .rw[Ql]
    exact nd
   .rw[Ql]at U
    rcases Pj.mp U with z|z
    .exact .inl (by simp[z])
    .rcases Mz.mp z with z|z
     .exact .inl (by simp[z])
     .exact .inr (.inl (by simp[z]))
  .cases h
 .cases h
theorem K6{T:String}{op:D->List D->Option (D×D)}(O:T="list")(h:∀d es q,op d es=some q->∃m ds,d= .lst m ds):Hn G T op:=λd es q e v H W L r=>by
 obtain⟨m,ds,rfl⟩:=h d es q e;rw[Rep]at r;obtain⟨a,xs,M,rfl,Z,F⟩:=r;exact .inl ⟨O,xs,F.sq⟩
theorem iT:MuB X G "list" "list.append" bC:=⟨_,λc=>Az,wY,K6 rfl λd es q e=>by
 unfold bC at e;split at e
 .exact⟨_,_,rfl⟩
 .cases e⟩
def gq(ks:List Key)(ds:List D)(k:Key)(v:D):List Key×List D:=match jf ks k with
 |some j=>(ks,ds.set j v)
 |none=>(ks++[k],ds++[v])
def mY:D->List D->Option (D×D)
 |.lst .own ds,[.int k,v]=>(ixN ds.length k).map λj=>(.lst .own (ds.set j v),.non)
 |.dct .own ks ds,[k,v]=>(kY k).bind λk=>if ks.length<1000000 then some (.dct .own (gq ks ds k v).1 (gq ks ds k v).2,.non)else none
 |_,_=>none
def Jf:Al:=λo i v H Q=>JB o i v H Q∨∃a H',o= .ref a/\BZ H a i v H'/\Q H'
theorem Iu{Y:Cx}(J:Y.A.units+1<cLine):Gu Y Jf:=by
 intro pins s σ H o i v U O u Q I V N F h;rcases h with h|⟨a,H',rfl,g,q⟩
 .exact set_list pins s σ H o i v U O u Q I V N F h
 .cases V
  exact Bs J I g N F λj B=>⟨H',B,q⟩
theorem aF.set{G:Gc}{H:Hp}{W:Wn}{ds:List D}{xs:List V}{L:List Addr}{j:Nat}{c d':D}{y:V}{M':List Addr}(Z:aF G H W ds xs L)(e:ds[j]? =some c)(J:Rep G H W d' y M'):∃A M B,L=A++(M++B)/\aF G H W (ds.set j d') (xs.set j y) (A++(M'++B)):=by
 obtain⟨P,Q,x,ys,zs,I,U,O,rfl,q,rfl,F,rfl,h1,h2,N⟩:=Z.at e;refine⟨I,U,O,rfl,?_⟩;rw[←q,Yt _ _ (Pg _),Wq];rw[show P.length=ys.length by omega,Yt _ _ (Pg _),Wq];exact aF.append h1 (aF.cons J N)
theorem iW{ds:List D}{j:Nat}{x:D}(h:aB ds=true)(J:aA x=true):aB (ds.set j x)=true:=by
 induction ds generalizing j with
 |nil=>simpa using h
 |cons y r F=>
  simp only[aB,Qo]at h;cases j with
  |zero=>simp[aB,J,h]
  |succ j=>simp only[Qy,aB,Qo];exact⟨h.1,F h.2⟩
theorem iK{ds:List D}{j:Nat}{x:D}(h:aD ds=true)(J:az x=true):aD (ds.set j x)=true:=by
 induction ds generalizing j with
 |nil=>simpa using h
 |cons y r F=>
  simp only[aD,Qo]at h;cases j with
  |zero=>simp[aD,J,h]
  |succ j=>simp only[Qy,aD,Qo];exact⟨h.1,F h.2⟩
theorem JC{n:Nat}{k:Int}{j:Nat}(h:ixN n k=some j):j<n:=by
 unfold ixN at h;split at h
 .split at h
  .cases h;omega
  .cases h
 .split at h
  .cases h;omega
  .cases h
theorem uw{ks:List Key}{k:Key}{j:Nat}(h:jf ks k=some j):j<ks.length:=(QV.mp h).1
theorem uV:∀{kvs:List (Key×V)}{k:Key}{j:Nat}{v:V},jf (kvs.map (·.1)) k=some j->(kvs.map (·.1)).Nodup->(putK kvs k v).map (·.1)=kvs.map (·.1)/\(putK kvs k v).map (·.2)=(kvs.map (·.2)).set j v:=by
 intro kvs k j v h n;have F:=QV.mp h;obtain⟨Z,J,_⟩:=F;have B:j<kvs.length:=by simpa using Z
 have O:kvs[j].1=k:=by simpa using J
 have U:(kvs.any λI=>decide (I.1=k))=true:=Xu.mpr ⟨kvs[j],RZ _,by simpa using O⟩;unfold putK;rw[Pk U];constructor
 .rw[Qp]
  apply Sg;intro p _;simp only[Function.comp];split<;>rfl
 .apply ZM
  intro i;rw[Qp,List.getElem?_map];by_cases a0:j=i
  .subst a0
   rw[VP (by simpa using B)];simp[B,O]
  .rw[List.getElem?_set_ne a0,List.getElem?_map]
   cases e:kvs[i]? with
   |none=>rfl
   |some p=>
    have q:i<kvs.length:=(Mx.mp e).1;have Y:kvs[i]=p:=(Mx.mp e).2;have N:p.1≠k:=λz=>by
     have e1:(kvs.map (·.1))[i]? =(kvs.map (·.1))[j]?:=by
      rw[List.getElem?_map,List.getElem?_map,e,Py B];simp[z,O]
     exact a0 ((Xh (by simpa using q) n).mp e1).symm
    simp[N]
theorem oN{kvs:List (Key×V)}{k:Key}{v:V}(h:jf (kvs.map (·.1)) k=none):putK kvs k v=kvs++[(k,v)]:=by
 unfold putK;rw[Pn];intro z;obtain⟨p,Y,e⟩:=Xu.mp z;have:=Sx.mp h p.1 (QF.mpr ⟨p,Y,rfl⟩);simp at this e;exact this e
theorem qI{ks:List Key}{k:Key}(h:jf ks k=none):k∉ks:=λz=>by
 have:=Sx.mp h k z;simp at this
theorem Hb{G:Gc}:MuV G (λo xs H Q=>∃i v,xs=[i,v]/\Jf o i v H λH'=>Q .non H') mY:=λd es d' res h v xs H W M N r re nd hM Y c1 c2 Q q=>by
 unfold mY at h;split at h
 .rename_i ds k e
  cases F:ixN ds.length k with
  |none=>simp[F]at h
  |some j=>
   obtain⟨rfl,rfl⟩:D.lst .own (ds.set j e)=d'/\D.non=res:=by simpa[F]using h
   rw[Rep]at r;obtain⟨a,ys,M0,rfl,Z,O,rfl⟩:=r;obtain⟨x1,zs,N1,N2,rfl,rfl,a1,hz⟩:=re.inv;obtain⟨x,zs,N3,N4,rfl,rfl,J,hz⟩:=hz.inv;obtain⟨rfl,rfl⟩:=hz.inv0;rw[Rep]at a1;obtain⟨rfl,rfl⟩:=a1;rw[Ql,RT]at nd re;obtain⟨k1,k2⟩:=rM Y;have a0:=Qg.mp nd;have hn:=QC.mp a0.1;have a2:a∉N3:=λz=>a0.2.2 a (by simp) a z rfl;simp only[aB,aD,Qo]at c1 c2;have V:=JC F;obtain⟨A,M1,B,a5,a3⟩:=Z.set (Py V) J;have I:RG (A++B) M0:=by rw[a5];exact(Tc A).append (RQ M1 B)
   refine⟨_,_,rfl,.inl ⟨a,ys,k,j,rfl,rfl,O,by rw[←Z.length];exact F,q .non _ (a::(A++(N3++B))) [] (λb u U n=>by rw[aK (show b≠a from λz=>n (by rw[z];simp))];exact U) (λW' ev=>⟨?_,oG⟩) ?_ (λb U=>?_) (sJ (iW k1 c1.2.1) (iK k2 c2.2.1)) rfl⟩⟩
   .rw[Rep]
    refine⟨a,_,A++(N3++B),rfl,?_,aZ,rfl⟩;refine a3.mono ev (.inl (iW k1 c1.2.1)) (.inl (iK k2 c2.2.1)) λc Y u hu=>?_;rw[aK (show c≠a from λz=>?_)]
    .exact hu
    .subst z
     simp only[Mz]at Y;rcases Y with y|y|y
     .exact hn.1 (I.subset (by simp[y]))
     .exact a2 y
     .exact hn.1 (I.subset (by simp[y]))
   .rw[Ql]
    have n2:=I.nodup hn.2;have n3:=Qg.mp n2;have a4:∀z∈N3,z∉A++B:=λz h1 h2=>a0.2.2 z (Qm _ (I.subset h2)) z h1 rfl;refine QC.mpr ⟨λy=>?_,cX n3.1 (cX a0.2.1 n3.2.1 λz h1 h2=>a4 z h1 (by simp[h2])) λz h1 h2=>?_⟩
    .simp only[Mz]at y
     rcases y with y|y|y
     .exact hn.1 (I.subset (by simp[y]))
     .exact a2 y
     .exact hn.1 (I.subset (by simp[y]))
    .rcases Mz.mp h2 with y|y
     .exact a4 z y (by simp[h1])
     .exact n3.2.2 z h1 z y rfl
   .rw[Ql]at U
    rcases Pj.mp U with z|z
    .exact .inl (by simp[z])
    .simp only[Mz]at z
     rcases z with z|z|z
     .exact .inl (Qm _ (I.subset (by simp[z])))
     .exact .inr (.inl (by simp[z]))
     .exact .inl (Qm _ (I.subset (by simp[z])))
 .rename_i ks ds k0 e
  cases hk:kY k0 with
  |none=>simp[hk]at h
  |some k=>
   rw[hk]at h;simp only[Pb]at h;split at h
   .rename_i hl
    cases h;rw[Rep]at r;obtain⟨a,kvs,M0,rfl,⟨rfl,a6⟩,Z,O,rfl⟩:=r;obtain⟨x1,zs,N1,N2,rfl,rfl,a1,hz⟩:=re.inv;obtain⟨x,zs,N3,N4,rfl,rfl,J,hz⟩:=hz.inv;obtain⟨rfl,rfl⟩:=hz.inv0;have a7:=pA a1 hk;subst a7;have a8:N1=[]:=by
     cases k0<;>simp[kY]at hk<;>rw[Rep]at a1<;>exact a1.2
    subst a8;rw[Ql,RT]at nd re;have k1:aB ds=true/\aD ds=true:=by simp[clean,aA,az]at Y;exact Y
    have a0:=Qg.mp nd;have hn:=QC.mp a0.1;have a2:a∉N3:=λz=>a0.2.2 a (by simp) a z rfl;simp only[aB,aD,Qo]at c1 c2;have a9:kvs.length<Px:=Ca (by simpa using hl);refine⟨_,_,rfl,.inr ⟨a,_,rfl,BZ.k (k:=k) O a9,?_⟩⟩;cases F:jf (kvs.map (·.1)) k with
    |some j=>
     have V:j<ds.length:=by rw[Z.length];simpa using uw F
     obtain⟨A,M1,B,a5,a3⟩:=Z.set (Py V) J;obtain⟨p1,p2⟩:=uV (v:=x) F a6;have I:RG (A++B) M0:=by rw[a5];exact(Tc A).append (RQ M1 B)
     refine q .non _ (a::(A++(N3++B))) [] (λb u U n=>by rw[aK (show b≠a from λz=>n (by rw[z];simp))];exact U) (λW' ev=>⟨?_,oG⟩) ?_ (λb U=>?_) ?_ rfl
     .simp only[gq,F]
      rw[Rep];refine⟨a,_,A++(N3++B),rfl,⟨p1,a6⟩,?_,aZ,rfl⟩;rw[p2];refine a3.mono ev (.inl (iW k1.1 c1.2.1)) (.inl (iK k1.2 c2.2.1)) λc Y u hu=>?_;rw[aK (show c≠a from λz=>?_)]
      .exact hu
      .subst z
       simp only[Mz]at Y;rcases Y with y|y|y
       .exact hn.1 (I.subset (by simp[y]))
       .exact a2 y
       .exact hn.1 (I.subset (by simp[y]))
     .rw[Ql]
      have n2:=I.nodup hn.2;have n3:=Qg.mp n2;have a4:∀z∈N3,z∉A++B:=λz h1 h2=>a0.2.2 z (Qm _ (I.subset h2)) z h1 rfl;refine QC.mpr ⟨λy=>?_,cX n3.1 (cX a0.2.1 n3.2.1 λz h1 h2=>a4 z h1 (by simp[h2])) λz h1 h2=>?_⟩
      .simp only[Mz]at y
       rcases y with y|y|y
       .exact hn.1 (I.subset (by simp[y]))
       .exact a2 y
       .exact hn.1 (I.subset (by simp[y]))
      .rcases Mz.mp h2 with y|y
       .exact a4 z y (by simp[h1])
       .exact n3.2.2 z h1 z y rfl
     .rw[Ql]at U
      rcases Pj.mp U with z|z
      .exact .inl (by simp[z])
      .simp only[Mz]at z
       rcases z with z|z|z
       .exact .inl (Qm _ (I.subset (by simp[z])))
       .exact .inr (.inl (by simp[z]))
       .exact .inl (Qm _ (I.subset (by simp[z])))
     .simp[gq,F,clean,aA,az,iW k1.1 c1.2.1,iK k1.2 c2.2.1]
    |none=>
     rw[oN F];refine q .non _ (a::(M0++N3)) [] (λb u U n=>by rw[aK (show b≠a from λz=>n (by rw[z];simp))];exact U) (λW' ev=>⟨?_,oG⟩) ?_ (λb U=>?_) ?_ rfl
     .simp only[gq,F]
      rw[Rep];refine⟨a,_,M0++N3,rfl,⟨by simp,?_⟩,?_,aZ,rfl⟩
      .exact Qg.mpr ⟨a6,by simp,λy hy z hz=>by
        have:z=k:=by simpa using hz
        subst this;exact λe=>qI F (e▸hy)⟩
      .rw[Sd]
       refine(Z.mono ev (.inl k1.1) (.inl k1.2) λc Y u hu=>?_).append (.one (J.mono ev (.inl c1.2.1) (.inl c2.2.1) λc Y u hu=>?_))
       .rw[aK (show c≠a from λz=>hn.1 (z▸Y))];exact hu
       .rw[aK (show c≠a from λz=>a2 (z▸Y))];exact hu
     .rw[Ql];exact nd
     .rw[Ql]at U
      rcases Pj.mp U with z|z
      .exact .inl (by simp[z])
      .rcases Mz.mp z with z|z
       .exact .inl (by simp[z])
       .exact .inr (.inl (by simp[z]))
     .simp[gq,F,clean,aA,az,iD,iH,aB,aD,k1,c1,c2]
   .cases h
 .cases h
theorem yS(J:∀c,(X c).A.units+1<cLine):MuT X G mY:=⟨_,λc=>Iu (J c),Hb⟩
end
noncomputable abbrev InX(X:ι->Cx)(N':List Str)(scope:Scope):ι×(Addr×zc×Hp×List Addr)->Cx:=λp=>bT (X p.1) N' scope p.2.1 p.2.2.1 p.2.2.2.1 p.2.2.2.2
def iY(cap:List (Option Nat))(ρ:En):En:=cap.map λo=>o.bind λj=>(ρ[j]?).bind id
def obC(cap:List (Option Nat))(ob:Nat->Bool):Nat->Bool:=λi=>match cap[i]? with
 |some (some j)=>ob j
 |_=>false
variable{x:α}{l:List (Option α)}
theorem lu{α:Type}{cap:List (Option Nat)}{l:List (Option α)}{x:α}(h:(cap.map λo=>o.bind λj=>(l[j]?).bind id)[i]? =some (some x)):∃j,cap[i]? =some (some j)/\l[j]? =some (some x):=by
 rw[List.getElem?_map]at h;cases e:cap[i]? with
 |none=>rw[e]at h;cases h
 |some o=>
  rw[e]at h;cases o with
  |none=>simp at h
  |some j=>
   refine⟨j,rfl,?_⟩;have h:(l[j]?).bind id=some x:=by simpa using h
   cases e2:l[j]? with
   |none=>rw[e2]at h;cases h
   |some o=>rw[e2]at h;simpa using h
theorem t_{α:Type}{cap:List (Option Nat)}{l:List (Option α)}{x:α}(h:cap[i]? =some (some j))(h2:l[j]? =some (some x)):(cap.map λo=>o.bind λj=>(l[j]?).bind id)[i]? =some (some x):=by
 rw[List.getElem?_map,h];simp[h2]
theorem Rel.cap{cap:List (Option Nat)}(r:Rel G H W ob ρ σ):Rel G H W (obC cap ob) (iY cap ρ) (fB cap σ):=λi d e=>by
 obtain⟨j,h1,h2⟩:=lu e;obtain⟨v,L,q1,q2,q⟩:=r j d h2;refine⟨v,L,t_ h1 q1,q2,λz=>q ?_⟩;unfold obC at z;rw[h1]at z;exact z
def BW(G:Gc)(ob own:Nat->Bool)(g:TG)(f:D->En->Option En):Prop:=∀(d:D)(ρ I:En),f d ρ=some I->∀(x:V)(σ:L2.St)(H:Hp)(W:Wn),Rep G H W d x []->Rel G H W ob ρ σ->σ.length=ρ.length->∀Q:L2.St->Hp->Prop,
 (∀B,Rel G H W ob I B->B.length=I.length->(∀j,own j=false->B[j]? =σ[j]?)->Q B H)->g x σ H Q
def vM(G:Gc)(ob own:Nat->Bool)(g:TGs)(f:List D->En->Option En):Prop:=∀(ds:List D)(ρ I:En),f ds ρ=some I->∀(xs:List V)(σ:L2.St)(H:Hp)(W:Wn),aF G H W ds xs []->Rel G H W ob ρ σ->σ.length=ρ.length->∀Q:L2.St->Hp->Prop,
 (∀B,Rel G H W ob I B->B.length=I.length->(∀j,own j=false->B[j]? =σ[j]?)->Q B H)->g xs σ H Q
structure Gd{ι:Type}(X:ι->Cx)(G:Gc)(ob own:Nat->Bool)(tg:Expr)(f:D->En->Option En):Prop where
 mk::(ex:∃t,(∀c,PG (X c) tg t)/\BW G ob own t f)
structure yQ{ι:Type}(X:ι->Cx)(G:Gc)(ob own:Nat->Bool)(tg:List Expr)(f:List D->En->Option En):Prop where
 mk::(ex:∃t,(∀c,PGs (X c) tg t)/\vM G ob own t f)
def tpN(i:Nat):D->En->Option En:=λd ρ=>some (ρ.set i (some d))
def tpT(n:Nat)(g:List D->En->Option En):D->En->Option En:=λd ρ=>match d with
 |.tup ds=>if ds.length=n then g ds ρ else none
 |_=>none
theorem zU{own:Nat->Bool}(B:own i=true):BW G ob own (rD i) (tpN i):=λd ρ I e x σ H W r J Z Q q=>by
 cases e;refine q _ (λj d' F=>?_) (by simp[Z]) λj F=>?_
 .by_cases e:i=j
  .subst e
   rw[Xg]at F;split at F
   .split at F
    .rename_i h2
     have:d=d':=by simpa using F
     subst this;exact⟨x,[],by simp[Z,h2],r,λ_ c Y=>by cases Y⟩
    .cases F
   .exact absurd rfl ‹_›
  .rw[List.getElem?_set_ne e]at F
   obtain⟨v,L,h1,h2,N⟩:=J j d' F;exact⟨v,L,by rw[List.getElem?_set_ne e];exact h1,h2,N⟩
 .have:i≠j:=λz=>by rw[←z,B]at F;cases F
  rw[List.getElem?_set_ne this]
theorem Ae{own:Nat->Bool}:vM G ob own Gx cQ:=λds ρ I e xs σ H W r J Z Q q=>by
 cases ds with
 |nil=>
  cases e;obtain⟨rfl,_⟩:=r.inv0;exact⟨rfl,q σ J Z λ_ _=>rfl⟩
 |cons d r=>cases e
variable{g:List D->En->Option En}
theorem yg{own:Nat->Bool}{t:TG}{u:TGs}{f:D->En->Option En}(h1:BW G ob own t f)(h2:vM G ob own u g):vM G ob own (Ef t u) (aO f g):=λds ρ I e xs σ H W r rl hl Q q=>by
 cases ds with
 |nil=>cases e
 |cons d ds=>
  obtain⟨x,ys,M1,B,rfl,hL,J,Z⟩:=r.inv;obtain⟨rfl,rfl⟩:M1=[]/\B=[]:=by simpa using hL.symm
  simp only[aO]at e;cases N:f d ρ with
  |none=>rw[N]at e;cases e
  |some ρ1=>
   have e:g ds ρ1=some I:=by simpa[N]using e
   exact⟨x,ys,rfl,h1 d ρ ρ1 N x σ H W J rl hl _ λU a1 V O=>h2 ds ρ1 I e ys U H W Z a1 V Q λσ2 a0 Y k2=>q σ2 a0 Y λj F=>(k2 j F).trans (O j F)⟩
theorem CN{own:Nat->Bool}{t:TGs}(h:vM G ob own t g):BW G ob own (Ko G.K n t) (tpT n g):=λd ρ I e x σ H W r J j Q q=>by
 cases d with
 |tup ds=>
  simp only[tpT]at e;split at e
  .rename_i hn
   rw[Rep]at r;obtain⟨a,xs,rfl,U,Z⟩:=r;exact⟨a,xs,rfl,SqT.of U,by rw[←Z.length];exact hn,h ds ρ I e xs σ H W Z J j Q q⟩
  .cases e
 |_=>cases e
section
variable{ι:Type}{X:ι->Cx}{G:Gc}{ob own:Nat->Bool}
theorem cN(i:Nat){x:Str}{pos:Pos}(U:∀c,(X c).N.Nodup)(B:own i=true:=by rfl)(hi:∀c,(X c).N[i]? =some x:=by intro _;rfl)(J:∀c,Loc (X c).env.scope x:=by intro _;first|exact Ue rfl|exact Su rfl)(O:∀c,(X c).fn x=true∨(X c).env.scope.names.lookup x=some .local:=by intro _;first|exact .inl rfl|exact .inr rfl):Gd X G ob own (.Name x pos) (tpN i):=⟨_,λc=>uh (U c) (hi c) (J c) (O c),zU B⟩
theorem mj:yQ X G ob own [] cQ:=⟨_,λc=>yt,Ae⟩
theorem cR{e:Expr}{es:List Expr}{f:D->En->Option En}{g:List D->En->Option En}(h1:Gd X G ob own e f)(h2:yQ X G ob own es g)(F:∀c,(Rg (e::es) (X c).env).map (·.2)=VR e (X c).env::(Rg es (X c).env).map (·.2):=by intro _;rfl):yQ X G ob own (e::es) (aO f g):=
 let⟨t,a1,a2⟩:=h1.ex;let⟨u,b1,b2⟩:=h2.ex;⟨_,λc=>wH (a1 c) (b1 c) (F c),yg a2 b2⟩
theorem qF{es:List Expr}{k n:Nat}{pos:Pos}{g:List D->En->Option En}(Y:∀c,(X c).calm=true)(h:yQ X G ob own es g)(hn:∀c,(Rg es (X c).env).length=n:=by intro _;rfl)(j:∀c,(Rg es (X c).env).findIdx? (·.1)=none:=by intro _;rfl)(I:∀c,(X c).K=G.K:=by intro _;rfl):Gd X G ob own (.Tuple es k pos) (tpT n g):=
 let⟨t,a1,a2⟩:=h.ex;⟨_,λc=>(by rw[←I c];exact F_ (Y c) (a1 c) (hn c) (j c)),CN a2⟩
structure Dv{ι:Type}(X:ι->Cx)(G:Gc)(ob:Nat->Bool)(ifs:List Expr)(f:En->Option Bool):Prop where
 mk::(ex:∃t,(∀c,PTs (X c) ifs t)/\RfT G ob t f)
def eTT:En->Option Bool:=λ_=>some true
theorem kh:Dv X G ob [] eTT:=⟨_,λc=>Hm,λρ b e σ H W J w Q q=>by cases e;exact q H (Same.refl H)⟩
theorem wI{c:Expr}{f:En->Option Bool}(h:PVT X G ob c f):Dv X G ob [c] f:=let⟨t,a1,a2⟩:=h.ex;⟨t,λc=>Ip (a1 c),a2⟩
def eE(tg:D->En->Option En)(c:En->Option Bool)(e:En->Option D)(ρ0:En):List D->Option (List D)
 |[]=>some []
 |d::r=>(tg d ρ0).bind λρ1=>(c ρ1).bind λb=>if b=true then(e ρ1).bind λx=>(eE tg c e ρ0 r).map λt=>x::t else eE tg c e ρ0 r
def ir(cap:List (Option Nat))(it:En->Option (Bool×List D))(tg:D->En->Option En)(c:En->Option Bool)(e:En->Option D):En->Option D:=λρ=>(it ρ).bind λp=>if p.2.length<=1000000 then(eE tg c e (iY cap ρ) p.2).map λys=>.lst .own ys else none
theorem six{n:Nat}(h:n<=1000000):n<Px:=Nat.lt_of_le_of_lt h (by decide)
theorem Fb{cap:List (Option Nat)}{σ q:L2.St}(Y:∀i:Nat,own i=true->cap[i]?≠none->cap[i]? =some none)(h:∀j,own j=false->q[j]? =(fB cap σ)[j]?):Kp (fB cap σ) q:=λi v e=>by
 cases B:own i with
 |false=>rw[h i B];exact e
 |true=>
  obtain⟨j,h1,_⟩:=lu e;rw[Y i B (by rw[h1];simp)]at h1;cases h1
theorem yx{cap:List (Option Nat)}{wi:TI}{g:TG}{tt:TT}{te:TE}{it:En->Option (Bool×List D)}{tg:D->En->Option En}{c:En->Option Bool}{e:En->Option D}(a6:∀i:Nat,own i=true->cap[i]?≠none->cap[i]? =some none)(hi:RfI G ob wi it)(hg:BW G (obC cap ob) own g tg)(ht:RfT G (obC cap ob) tt c)(V:RfE G (obC cap ob) te e):RfE G ob (yl cap wi g tt te) (ir cap it tg c e):=λρ d ee σ H W rl w Q q=>by
 unfold ir at ee;cases h1:it ρ with
 |none=>simp[h1]at ee
 |some p=>
  obtain⟨b,items⟩:=p;rw[h1]at ee;simp only[Pb]at ee;split at ee
  .rename_i hlen
   cases h2:eE tg c e (iY cap ρ) items with
   |none=>simp[h2]at ee
   |some tot=>
    obtain rfl:D.lst .own tot=d:=by simpa[h2]using ee
    refine hi ρ b items h1 σ H W rl w _ λJ H1 Z wk=>?_;refine⟨λi m ys H2=>i+m=items.length/\ys.length<=i/\∃acc L rest,Same H1 H2/\aF G H2 (W.add L) acc ys L/\(∀a∈L,H1 a=none)/\L.Nodup/\WOk H2 (W.add L)/\eE tg c e (iY cap ρ) (items.drop i)=some rest/\acc++rest=tot,⟨items.length,by omega,by simp,[],[],tot,Same.refl _,.nil,by simp,List.nodup_nil,?_,h2,rfl⟩,?_⟩
    .rw[rB];exact w.up Z
    rintro i m ys H2 ⟨b3,b2,acc,L,rest,F,ra,fa,na,wa,I,a0⟩;have a2:Up H1 H2 W (W.add L):=Up.add F fa
    .by_cases hil:i<items.length
     .have hdr:=(Tv hil).symm
      rw[hdr,eE]at I;refine .inr ⟨wk.go i items[i] (by simp[hil]) H2 _ (LtB.up a2),by have:=six hlen;omega,λa4 H'=>(i+1)+(m-1)=items.length/\a4.length<=i+1/\∃acc L rest,Same H1 H'/\aF G H' (W.add L) acc a4 L/\(∀a∈L,H1 a=none)/\L.Nodup/\WOk H' (W.add L)/\eE tg c e (iY cap ρ) (items.drop (i+1))=some rest/\acc++rest=tot,λa4 H' h=>⟨m-1,by omega,h⟩,λx H3 j=>?_⟩;obtain⟨s3,rx⟩:=wk.yld i items[i] (by simp[hil]) H2 _ (LtB.up a2) x H3 j;cases N:tg items[i] (iY cap ρ)with
      |none=>simp[N]at I
      |some ρ1=>
       rw[N]at I;simp only[Pb]at I;have b1:Rel G H3 (W.add L) (obC cap ob) (iY cap ρ) (fB cap σ):=(rl.cap).up ((Up.same Z).trans (a2.trans (Up.same s3)));have a3:=ra.up (Up.same s3 (W:=W.add L));have a8:WOk H3 (W.add L):=wa.up s3;refine hg items[i] _ ρ1 N x _ H3 (W.add L) rx b1 (by simp[iY,fB]) _ λσ2 a7 b4 k4=>⟨Fb a6 k4,?_⟩;cases h4:c ρ1 with
       |none=>simp[h4]at I
       |some bb=>
        rw[h4]at I;simp only[Pb]at I;refine ht ρ1 bb h4 σ2 H3 (W.add L) a7 a8 _ λH4 s4=>?_;have a9:=a7.up (Up.same s4);have a5:=a8.up s4;cases bb with
        |false=>
         simp only[PJ,Qv]at I;exact tM ⟨by omega,by omega,acc,L,rest,((F.trans s3).trans s4),a3.up (Up.same s4),fa,na,a5,I,a0⟩
        |true=>
         simp only[Qf]at I;cases h5:e ρ1 with
         |none=>simp[h5]at I
         |some y=>
          cases h6:eE tg c e (iY cap ρ) (items.drop (i+1))with
          |none=>simp[h5,h6]at I
          |some a1=>
           obtain rfl:y::a1=rest:=by simpa[h5,h6]using I
           refine n6 (V ρ1 y h5 σ2 H4 (W.add L) a9 a5 _ λv H5 M s5 ry fy ny=>?_);have fM:∀a∈M,H1 a=none:=λa O=>(((F.trans s3).trans s4)).none' (fy a O);have b0:∀a∈L,a∉M:=λa h1 h2=>by
            obtain⟨o,B,_⟩:=(a3.up (Up.same s4 (W:=W.add L))).dom a h1;rw[fy a h2]at B;cases B
           have u5:Up H4 H5 (W.add L) (W.add (L++M)):=⟨s5,λb u U f=>⟨λz=>z.elim (λz=>(Mz.mp z).elim (λz=>f.1 (.inl z)) λz=>by rw[fy b z]at U;cases U) λz=>f.1 (.inr z),f.2⟩,λ_ _ _ f=>f⟩;have u6:Up H5 H5 ((W.add L).add M) (W.add (L++M)):=⟨Same.refl _,λb u U f=>⟨λz=>by
            rcases z with z|z
            .exact(Mz.mp z).elim (λz=>f.1 (.inr (.inl z))) λz=>f.1 (.inl z)
            .exact f.1 (.inr (.inr z)),f.2⟩,λ_ _ _ f=>f⟩
           refine⟨by omega,by simp;omega,acc++[y],L++M,a1,((F.trans s3).trans s4).trans s5,((a3.up (Up.same s4)).up u5).append (.one (ry.up u6)),λa O=>(Mz.mp O).elim (fa a) (fM a),cX na ny b0,?_,rfl,by rw[←a0];simp⟩;exact w.add (((Z.trans F).trans s3).trans s4 |>.trans s5) λa O=>(Mz.mp O).elim (λz=>let⟨o,h,m⟩:=(a3.up (Up.same s4 (W:=W.add L))).dom a z;⟨o,s5 a o h,m⟩) (ry.dom a)
     .have hl:i=items.length:=by omega
      subst hl;rw[Uh,eE]at I;cases I;refine .inl ⟨wk.stop H2 _ (LtB.up a2),UT (six (by omega)),λp Y=>?_⟩;have sm:Same H2 (upd H2 p (.lst ys)):=Same.new Y;rw[Ql]at a0;subst a0;refine q (.ref p) _ (p::L) ((Z.trans F).trans sm) ?_ (λa O=>(Pj.mp O).elim (λz=>by rw[z];exact(Z.trans F).none' Y) λz=>Z.none' (fa a z)) (QC.mpr ⟨λz=>?_,na⟩)
      .rw[Rep]
       exact⟨p,ys,L,rfl,ra.up ⟨sm,λb u U f=>⟨λz=>z.elim (λz=>(Pj.mp z).elim (λz=>by rw[z,Y]at U;cases U) λz=>f.1 (.inl z)) λz=>f.1 (.inr z),f.2⟩,λ_ _ _ f=>f⟩,aZ,rfl⟩
      .obtain⟨o,B,_⟩:=ra.dom p z
       rw[Y]at B;cases B
  .cases ee
end
def j4(cap:List (Option Nat)):Prop:=∀(i k j:Nat),cap[i]? =some (some j)->cap[k]? =some (some j)->i=k
def iJ(cap:List (Option Nat))(S:Ad):Ad:=λi=>match cap[i]? with
 |some (some j)=>S j
 |_=>[]
def lZ(cap:List (Option Nat))(S:Ad)(Fr:Addr->Prop):Addr->Prop:=λa=>Fr a∨∃j:Nat,(∀i:Nat,cap[i]?≠some (some j))/\a∈S j
theorem gj{cap:List (Option Nat)}(h:a∈iJ cap S i):∃j,cap[i]? =some (some j)/\a∈S j:=by
 unfold iJ at h;split at h
 .rename_i j e;exact⟨j,e,h⟩
 .cases h
theorem uP{cap:List (Option Nat)}(h:cap[i]? =some (some j)):iJ cap S i=S j:=by unfold iJ;rw[h]
theorem xm{cap:List (Option Nat)}(h:cap[i]? =some (some j)):obC cap ob i=ob j:=by unfold obC;rw[h]
section
variable{G:Gc}{ob own:Nat->Bool}{cap:List (Option Nat)}
theorem tD{S:Ad}{Fr:Addr->Prop}{a:Addr}:(wn ob S Fr).free a↔(wn (obC cap ob) (iJ cap S) (lZ cap S Fr)).free a:=by
 constructor
 .intro f
  have q:∀j,a∉S j:=λj z=>by
   cases B:ob j with
   |false=>exact f.2.1 ⟨j,B,z⟩
   |true=>exact f.2.2 ⟨j,B,z⟩
  refine⟨λz=>z.elim f.1 λ⟨j,_,z⟩=>q j z,λ⟨i,_,z⟩=>?_,λ⟨i,_,z⟩=>?_⟩
  .obtain⟨j,_,z⟩:=gj z;exact q j z
  .obtain⟨j,_,z⟩:=gj z;exact q j z
 .intro f
  have q:∀j,a∉S j:=λj z=>by
   by_cases Y:∃i:Nat,cap[i]? =some (some j)
   .obtain⟨i,hi⟩:=Y
    have F:a∈iJ cap S i:=by rw[uP hi];exact z
    cases B:obC cap ob i with
    |false=>exact f.2.1 ⟨i,B,F⟩
    |true=>exact f.2.2 ⟨i,B,F⟩
   .exact f.1 (.inr ⟨j,λi hi=>Y ⟨i,hi⟩,z⟩)
  exact⟨λz=>f.1 (.inl z),λ⟨j,_,z⟩=>q j z,λ⟨j,_,z⟩=>q j z⟩
theorem JH{H:Hp}{S:Ad}{Fr:Addr->Prop}{d:D}{v:V}{L:List Addr}(Y:clean d=true):Rep G H (wn ob S Fr) d v L↔Rep G H (wn (obC cap ob) (iJ cap S) (lZ cap S Fr)) d v L:=by
 have I:=(by simpa[clean]using Y:aA d=true/\az d=true);constructor
 .intro r
  have J:Evo H H (wn ob S Fr) (wn (obC cap ob) (iJ cap S) (lZ cap S Fr)):=⟨λb u U f=>⟨U,tD.mp f⟩,λ_ _ h=>h⟩;exact r.mono J (.inl I.1) (.inl I.2) λ_ _ _ h=>h
 .intro r
  have J:Evo H H (wn (obC cap ob) (iJ cap S) (lZ cap S Fr)) (wn ob S Fr):=⟨λb u U f=>⟨U,tD.mpr f⟩,λ_ _ h=>h⟩;exact r.mono J (.inl I.1) (.inl I.2) λ_ _ _ h=>h
theorem Sta.inn{H:Hp}{ρ:En}{σ:L2.St}{S:Ad}{Fr:Addr->Prop}(F:j4 cap)(s:Sta G H ob ρ σ S Fr):Sta G H (obC cap ob) (iY cap ρ) (fB cap σ) (iJ cap S) (lZ cap S Fr)where
 len:=by simp[iY,fB]
 sl:=λi d e=>by
  obtain⟨j,h1,h2⟩:=lu e;obtain⟨v,q1,q2,q⟩:=s.sl j d h2;exact⟨v,t_ h1 q1,by rw[uP h1];exact(JH q).mp q2,q⟩
 em:=λi h=>by
  unfold iJ;split
  .rename_i j e
   exact s.em j λd hd=>h d (t_ e hd)
  .rfl
 nd:=λi=>by
  unfold iJ;split
  .exact s.nd _
  .exact List.nodup_nil
 dj:=λi k a h1 h2=>by
  obtain⟨N,e1,O⟩:=gj h1;obtain⟨I,e2,B⟩:=gj h2;have:=s.dj N I a O B;subst this;exact F i k N e1 e2
 fdj:=λi a h z=>by
  obtain⟨j,e,z⟩:=gj z;rcases h with h|⟨k,J,h⟩
  .exact s.fdj j a h z
  .have:=s.dj j k a z h
   subst this;exact J i e
 fdm:=λa h=>by
  rcases h with h|⟨k,_,h⟩
  .exact s.fdm a h
  .exact s.mu h
def fH:List (Option Nat)->En->En->En
 |some j::cs,d::ds,ρ=>fH cs ds (ρ.set j d)
 |none::cs,_::ds,ρ=>fH cs ds ρ
 |_,_,ρ=>ρ
theorem jM:∀(cap:List (Option Nat))(ds ρ:En),(fH cap ds ρ).length=ρ.length
 |[],ds,ρ=>by cases ds<;>rfl
 |some j::cs,[],ρ=>rfl
 |none::cs,[],ρ=>rfl
 |some j::cs,d::ds,ρ=>by rw[fH,jM cs ds];simp
 |none::cs,d::ds,ρ=>by rw[fH,jM cs ds]
theorem jw:∀{cap:List (Option Nat)}{ds ρ:En}{j:Nat},(∀i:Nat,cap[i]?≠some (some j))->(fH cap ds ρ)[j]? =ρ[j]?
 |[],ds,ρ,j,_=>by cases ds<;>rfl
 |some k::cs,[],ρ,j,_=>rfl
 |none::cs,[],ρ,j,_=>rfl
 |some k::cs,d::ds,ρ,j,h=>by
  rw[fH,jw λi e=>h (i+1) (by simpa using e),List.getElem?_set_ne λz=>h 0 (by simp[z])]
 |none::cs,d::ds,ρ,j,h=>by rw[fH,jw λi e=>h (i+1) (by simpa using e)]
theorem kE:∀{cap:List (Option Nat)}{ds ρ:En}{i j:Nat}{x:Option D},j4 cap->cap[i]? =some (some j)->ds[i]? =some x->j<ρ.length->(fH cap ds ρ)[j]? =some x
 |[],ds,ρ,i,j,x,_,h,_,_=>by simp at h
 |some k::cs,[],ρ,i,j,x,_,_,h,_=>by simp at h
 |none::cs,[],ρ,i,j,x,_,_,h,_=>by simp at h
 |some k::cs,d::ds,ρ,i,j,x,hj,h1,h2,hl=>by
  rw[fH];cases i with
  |zero=>
   have e1:k=j:=by simpa using h1
   have e2:d=x:=by simpa using h2
   subst e1 e2;rw[jw λi e=>?_]
   .simp[hl]
   .have:=hj 0 (i+1) k (by simp) (by simpa using e)
    omega
  |succ i=>exact kE (λa b c h1 h2=>by have:=hj (a+1) (b+1) c (by simpa using h1) (by simpa using h2);omega) (by simpa using h1) (by simpa using h2) (by simpa using hl)
 |none::cs,d::ds,ρ,i,j,x,hj,h1,h2,hl=>by
  rw[fH];cases i with
  |zero=>simp at h1
  |succ i=>exact kE (λa b c h1 h2=>by have:=hj (a+1) (b+1) c (by simpa using h1) (by simpa using h2);omega) (by simpa using h1) (by simpa using h2) hl
def n_(cap:List (Option Nat))(q S:Ad):Ad:=λj=>match cap.findIdx? (λo=>o==some j)with
 |some i=>q i
 |none=>S j
theorem fu{q S:Ad}{i j:Nat}(F:j4 cap)(h:cap[i]? =some (some j)):n_ cap q S j=q i:=by
 unfold n_;split
 .rename_i k e
  obtain⟨h1,h2,_⟩:=QV.mp e;have:cap[k]=some j:=by simpa using h2
  rw[F i k j h (by rw[Py h1,this])]
 .rename_i e
  have:=Sx.mp e (some j) (QS h);simp at this
theorem fj{q S:Ad}{j:Nat}(h:∀i:Nat,cap[i]?≠some (some j)):n_ cap q S j=S j:=by
 unfold n_;split
 .rename_i k e
  obtain⟨h1,h2,_⟩:=QV.mp e;have:cap[k]=some j:=by simpa using h2
  exact absurd (by rw[Py h1,this]) (h k)
 .rfl
theorem dI(cap:List (Option Nat))(j:Nat):(∃i:Nat,cap[i]? =some (some j))∨(∀i:Nat,cap[i]?≠some (some j)):=by
 by_cases h:∃i:Nat,cap[i]? =some (some j)
 .exact .inl h
 .exact .inr λi z=>h ⟨i,z⟩
theorem Sta.out{H H':Hp}{ρ a2:En}{σ a7:L2.St}{S Si:Ad}{Fr:Addr->Prop}{M:List Addr}(F:j4 cap)(s:Sta G H ob ρ σ S Fr)(B:∀i:Nat,cap[i]? =some none->True)(hk:∀i j:Nat,cap[i]? =some (some j)->a7[i]? =(fB cap σ)[i]?)
  (si:Sta G H' (obC cap ob) a2 a7 Si (plus M (lZ cap S Fr))) (ef:Eff (obC cap ob) H H' (iJ cap S) Si M):Sta G H' ob (fH cap a2 ρ) σ (n_ cap Si S) (plus M Fr)/\Eff ob H H' S (n_ cap Si S) M/\
   (∀d v L,clean d=true->Rep G H' (wn (obC cap ob) Si (plus M (lZ cap S Fr))) d v L->Rep G H' (wn ob (n_ cap Si S) (plus M Fr)) d v L):=by
 have a0:∀{a},inO (obC cap ob) (iJ cap S) a->inO ob S a:=λ{a}⟨i,h1,h2⟩=>by
  obtain⟨j,e,z⟩:=gj h2;exact⟨j,by rw[←xm (ob:=ob) e];exact h1,z⟩
 have a8:Eff ob H H' S (n_ cap Si S) M:=by
  refine⟨λb u U n=>ef.kp b u U λz=>n (a0 z),λj a3=>?_,λj a a3 z=>?_,λa O=>(ef.fm a O).imp a0 id⟩
  .rcases dI cap j with⟨i,hi⟩|hn
   .rw[fu F hi,ef.sn i (by rw[xm hi];exact a3),uP hi]
   .exact fj hn
  .rcases dI cap j with⟨i,hi⟩|hn
   .rw[fu F hi]at z
    exact(ef.gr i a (by rw[xm hi];exact a3) z).imp a0 id
   .rw[fj hn]at z;exact .inl ⟨j,a3,z⟩
 have Z:∀a,(wn (obC cap ob) Si (plus M (lZ cap S Fr))).free a->(wn ob (n_ cap Si S) (plus M Fr)).free a:=λa f=>by
  have nS:∀j,a∉n_ cap Si S j:=λj z=>by
   rcases dI cap j with⟨i,hi⟩|hn
   .rw[fu F hi]at z
    cases b0:obC cap ob i with
    |false=>exact f.2.1 ⟨i,b0,z⟩
    |true=>exact f.2.2 ⟨i,b0,z⟩
   .rw[fj hn]at z
    exact f.1 (.inr (.inr ⟨j,hn,z⟩))
  exact⟨λz=>z.elim (λz=>f.1 (.inl z)) λz=>f.1 (.inr (.inl z)),λ⟨j,_,z⟩=>nS j z,λ⟨j,_,z⟩=>nS j z⟩
 have conv:∀d v L,clean d=true->Rep G H' (wn (obC cap ob) Si (plus M (lZ cap S Fr))) d v L->Rep G H' (wn ob (n_ cap Si S) (plus M Fr)) d v L:=λd v L Y r=>by
  have I:=(by simpa[clean]using Y:aA d=true/\az d=true);have ev:Evo H' H' (wn (obC cap ob) Si (plus M (lZ cap S Fr))) (wn ob (n_ cap Si S) (plus M Fr)):=⟨λb u U f=>⟨U,Z b f⟩,λ_ _ h=>h⟩;exact r.mono ev (.inl I.1) (.inl I.2) λ_ _ _ h=>h
 have a1:∀{j a},(∀i:Nat,cap[i]?≠some (some j))->a∈S j->∀i,a∉Si i:=λ{j a} hn z i y=>si.fdj i a (.inr (.inr ⟨j,hn,z⟩)) y;refine⟨⟨by rw[jM];exact s.len,λj d hd=>?_,λj hd=>?_,λj=>?_,λj k a h1 h2=>?_,λj a h z=>?_,λa h=>?_⟩,a8,conv⟩
 .rcases dI cap j with⟨i,hi⟩|hn
  .have a4:j<ρ.length:=by
    have:=(Mx.mp hd).1;rwa[jM]at this
   cases J:a2[i]? with
   |none=>
    have h1:a2.length<=i:=Sy.mp J;have h2:a7.length<=i:=by rw[←si.len];exact h1
    have N:=hk i j hi;rw[Sy.mpr h2]at N;have V:(fB cap σ).length<=i:=Sy.mp N.symm;have h5:i<cap.length:=(Mx.mp hi).1;simp[fB]at V;omega
   |some x=>
    rw[kE F hi J a4]at hd;cases hd;obtain⟨v,q1,q2,q⟩:=si.sl i d J;rw[hk i j hi]at q1;obtain⟨j',e1,e2⟩:=lu q1;rw[hi]at e1;cases e1;exact⟨v,e2,by rw[fu F hi];exact conv _ _ _ q q2,q⟩
  .rw[jw hn]at hd
   obtain⟨v,q1,q2,q⟩:=s.sl j d hd;refine⟨v,q1,?_,q⟩;rw[fj hn];have I:=(by simpa[clean]using q:aA d=true/\az d=true);refine q2.mono (a8.evo s) (.inl I.1) (.inl I.2) λc Y u hu=>?_;exact ef.kp c u hu λ⟨i,_,z⟩=>by
    obtain⟨k,e,z⟩:=gj z;have:=s.dj j k c Y z;subst this;exact hn i e
 .rcases dI cap j with⟨i,hi⟩|hn
  .rw[fu F hi]
   refine si.em i λd a9=>?_;by_cases a4:j<ρ.length
   .exact hd d (kE F hi a9 a4)
   .
    obtain⟨v,q1,_⟩:=si.sl i d a9;rw[hk i j hi]at q1;obtain⟨j',e1,e2⟩:=lu q1;rw[hi]at e1;cases e1;have:=(Mx.mp e2).1;rw[←s.len]at this;exact a4 this
  .rw[fj hn]
   exact s.em j λd=>by have:=hd d;rwa[jw hn]at this
 .rcases dI cap j with⟨i,hi⟩|hn
  .rw[fu F hi];exact si.nd i
  .rw[fj hn];exact s.nd j
 .rcases dI cap j with⟨i,hi⟩|hn<;>rcases dI cap k with⟨i',a5⟩|a6
  .rw[fu F hi]at h1
   rw[fu F a5]at h2;have:=si.dj i i' a h1 h2;subst this;rw[hi]at a5;cases a5;rfl
  .rw[fu F hi]at h1
   rw[fj a6]at h2;exact absurd h1 (a1 a6 h2 i)
  .rw[fj hn]at h1
   rw[fu F a5]at h2;exact absurd h2 (a1 hn h1 i')
  .rw[fj hn]at h1
   rw[fj a6]at h2;exact s.dj j k a h1 h2
 .rcases dI cap j with⟨i,hi⟩|hn
  .rw[fu F hi]at z
   exact si.fdj i a (h.imp id .inl) z
  .rw[fj hn]at z
   rcases h with h|h
   .rcases ef.fm a h with y|y
    .obtain⟨k,_,y⟩:=a0 y
     have:=s.dj j k a z y;subst this;obtain⟨i,hi,y'⟩:∃i,obC cap ob i=true/\a∈iJ cap S i:=by assumption
     obtain⟨k',e,y'⟩:=gj y';have:=s.dj j k' a z y';subst this;exact hn i e
    .obtain⟨o,B,_⟩:=s.mu z
     rw[y]at B;cases B
   .exact s.fdj j a h z
 .rcases h with h|h
  .exact si.fdm a (.inl h)
  .exact si.fdm a (.inr (.inl h))
end
section
variable{ι:Type}{X:ι->Cx}{G:Gc}{ob own:Nat->Bool}
def J2(G:Gc)(ob own:Nat->Bool)(g:TG)(f:D->En->Option En):Prop:=∀(d:D)(ρ I:En),f d ρ=some I->∀(x:V)(σ:L2.St)(H:Hp)(S:Ad)(Fr:Addr->Prop),Sta G H ob ρ σ S Fr->(∀i,own i=true->S i=[])->Rep G H (wn ob S Fr) d x []->∀Q:L2.St->Hp->Prop,
 (∀B,Sta G H ob I B S Fr->(∀j,own j=false->B[j]? =σ[j]?)->Q B H)->g x σ H Q
theorem BJ{i:Nat}(B:own i=true):J2 G ob own (rD i) (tgN i):=λd ρ I e x σ H S Fr s J r Q q=>by
 unfold tgN at e;split at e
 .rename_i hc
  cases e;refine q _ ⟨by simp[s.len],λj d' F=>?_,λj F=>?_,s.nd,s.dj,s.fdj,s.fdm⟩ λj F=>?_
  .by_cases ej:i=j
   .subst ej
    rw[Xg]at F;split at F
    .split at F
     .rename_i h2
      have:d=d':=by simpa using F
      subst this;exact⟨x,by simp[←s.len,h2],by rw[J i B];exact r,hc⟩
     .cases F
    .exact absurd rfl ‹_›
   .rw[List.getElem?_set_ne ej]at F
    obtain⟨v,h1,h2,N⟩:=s.sl j d' F;exact⟨v,by rw[List.getElem?_set_ne ej];exact h1,h2,N⟩
  .by_cases ej:i=j
   .subst ej;exact J i B
   .exact s.em j λd'=>by have:=F d';rwa[List.getElem?_set_ne ej]at this
  .have:i≠j:=λz=>by rw[←z,B]at F;cases F
   rw[List.getElem?_set_ne this]
 .cases e
structure Np{ι:Type}(X:ι->Cx)(G:Gc)(ob own:Nat->Bool)(tg:Expr)(f:D->En->Option En):Prop where
 mk::(ex:∃t,(∀c,PG (X c) tg t)/\J2 G ob own t f)
theorem Bk(i:Nat){x:Str}{pos:Pos}(U:∀c,(X c).N.Nodup)(B:own i=true:=by rfl)(hi:∀c,(X c).N[i]? =some x:=by intro _;rfl)(J:∀c,Loc (X c).env.scope x:=by intro _;first|exact Ue rfl|exact Su rfl)(O:∀c,(X c).fn x=true∨(X c).env.scope.names.lookup x=some .local:=by intro _;first|exact .inl rfl|exact .inr rfl):Np X G ob own (.Name x pos) (tgN i):=⟨_,λc=>uh (U c) (hi c) (J c) (O c),BJ B⟩
def ie(cap:List (Option Nat))(tg:D->En->Option En)(c:En->Option Bool)(e:En->Option (D×En)):List D->En->Option (List D×En)
 |[],ρ=>some ([],ρ)
 |d::r,ρ=>(tg d (iY cap ρ)).bind λρ1=>(c ρ1).bind λb=>if b=true then(e ρ1).bind λp=>if clean p.1=true then(ie cap tg c e r (fH cap p.2 ρ)).map λt=>(p.1::t.1,t.2)else none else ie cap tg c e r ρ
def qy(cap:List (Option Nat))(it:En->Option (Bool×List D))(tg:D->En->Option En)(c:En->Option Bool)(e:En->Option (D×En)):En->Option (D×En):=λρ=>(it ρ).bind λp=>if p.1=true/\p.2.length<=1000000 then(ie cap tg c e p.2 ρ).map λt=>(.lst .own t.1,t.2)else none
theorem Ex{cap:List (Option Nat)}{wi:TI}{g:TG}{tt:TT}{te:TE}{it:En->Option (Bool×List D)}{tg:D->En->Option En}{c:En->Option Bool}{e:En->Option (D×En)}(F:j4 cap)(a3:∀i:Nat,own i=true->cap[i]?≠none->cap[i]? =some none)(hi:RfI G ob wi it)(hg:J2 G (obC cap ob) own g tg)(ht:RfT G (obC cap ob) tt c)(V:iz G (obC cap ob) te e) :
  iz G ob (yl cap wi g tt te) (qy cap it tg c e):=λρ d I ee σ H S Fr s Q q=>by
 unfold qy at ee;cases h1:it ρ with
 |none=>simp[h1]at ee
 |some p=>
  obtain⟨b,items⟩:=p;rw[h1]at ee;simp only[Pb]at ee;split at ee
  .rename_i O
   obtain⟨U,O⟩:=O;change b=true at U;change items.length<=1000000 at O;subst U;cases h2:ie cap tg c e items ρ with
   |none=>simp[h2]at ee
   |some w=>
    obtain⟨tot,a5⟩:=w;obtain⟨rfl,rfl⟩:D.lst .own tot=d/\a5=I:=by simpa[h2]using ee
    refine hi ρ true items h1 σ H _ s.rel s.wok _ λJ H1 sm wk=>?_;have s1:Sta G H1 ob ρ σ S Fr:=s.grow sm λa z=>.inl z;have e1:Eff ob H H1 S S []:=⟨λb u h _=>sm b u h,λ_ _=>rfl,λi a h z=>.inl ⟨i,h,z⟩,by simp⟩;refine⟨λi m ys H2=>i+m=items.length/\ys.length<=i/\∃ρ2 S2 acc L rest,Sta G H2 ob ρ2 σ S2 (plus L Fr)/\aF G H2 (wn ob S2 (plus L Fr)) acc ys L/\L.Nodup/\aB acc=true/\aD acc=true/\Eff ob H1 H2 S S2 L/\ie cap tg c e (items.drop i) ρ2=some (rest,a5)/\acc++rest=tot,
     ⟨items.length,by omega,by simp,ρ,S,[],[],tot,by rw[gP];exact s1,.nil,List.nodup_nil,rfl,rfl,.refl,h2,rfl⟩,?_⟩
    rintro i m ys H2 ⟨d1,d0,ρ2,S2,acc,L,rest,s2,ra,na,a9,b0,ef,a0,a1⟩;have lt:LtB true H1 (wn ob S Fr) H2 (wn (obC cap ob) (iJ cap S2) (lZ cap S2 (plus L Fr))):=n6 ⟨λb u U f=>let⟨h1,h2⟩:=(ef.evo s1).k b u U f;⟨h1,tD.mp h2⟩,(ef.evo s1).t⟩;by_cases b1:i<items.length
    .have hdr:=(Tv b1).symm
     rw[hdr,ie]at a0;refine .inr ⟨wk.go i items[i] (by simp[b1]) H2 _ lt,by have:=six O;omega,λb3 H'=>(i+1)+(m-1)=items.length/\b3.length<=i+1/\∃ρ2 S2 acc L rest,Sta G H' ob ρ2 σ S2 (plus L Fr)/\aF G H' (wn ob S2 (plus L Fr)) acc b3 L/\L.Nodup/\aB acc=true/\aD acc=true/\Eff ob H1 H' S S2 L/\ie cap tg c e (items.drop (i+1)) ρ2=some (rest,a5)/\acc++rest=tot,λb3 H' h=>⟨m-1,by omega,h⟩,λx H3 hy=>?_⟩;obtain⟨s3,rx⟩:=wk.yld i items[i] (by simp[b1]) H2 _ lt x H3 hy;have c0:Sta G H3 ob ρ2 σ S2 (plus L Fr):=s2.grow s3 λa z=>.inl z;have c6:Eff ob H1 H3 S S2 L:=ef.same s3 λc Y=>.inl Y;have c9:aF G H3 (wn ob S2 (plus L Fr)) acc ys L:=ra.up (Up.same s3);have si:=c0.inn (cap:=cap) F;cases N:tg items[i] (iY cap ρ2)with
     |none=>simp[N]at a0
     |some a2=>
      rw[N]at a0;simp only[Pb]at a0;have c3:∀k,own k=true->iJ cap S2 k=[]:=λk hk=>by
       unfold iJ;split
       .rename_i j e
        rw[a3 k hk (by rw[e];simp)]at e;cases e
       .rfl
      refine hg items[i] _ a2 N x _ H3 _ (lZ cap S2 (plus L Fr)) si c3 rx _ λa8 s4 c1=>⟨Fb a3 c1,?_⟩;cases h4:c a2 with
      |none=>simp[h4]at a0
      |some bb=>
       rw[h4]at a0;simp only[Pb]at a0;refine ht a2 bb h4 a8 H3 _ s4.rel s4.wok _ λH4 a7=>?_;have a4:Sta G H4 ob ρ2 σ S2 (plus L Fr):=c0.grow a7 λa z=>.inl z;have c8:Sta G H4 (obC cap ob) a2 a8 (iJ cap S2) (lZ cap S2 (plus L Fr)):=s4.grow a7 λa z=>.inl z;have b6:Eff ob H1 H4 S S2 L:=c6.same a7 λc Y=>.inl Y;have b5:aF G H4 (wn ob S2 (plus L Fr)) acc ys L:=c9.up (Up.same a7);cases bb with
       |false=>
        simp only[PJ,Qv]at a0;exact tM ⟨by omega,by omega,ρ2,S2,acc,L,rest,a4,b5,na,a9,b0,b6,a0,a1⟩
       |true=>
        simp only[Qf]at a0;cases h5:e a2 with
        |none=>simp[h5]at a0
        |some w=>
         obtain⟨y,b4⟩:=w;rw[h5]at a0;simp only[Pb]at a0;split at a0
         .rename_i hcy
          cases h6:ie cap tg c e (items.drop (i+1)) (fH cap b4 ρ2)with
          |none=>simp[h6]at a0
          |some w=>
           obtain⟨a6,b7⟩:=w;obtain⟨rfl,rfl⟩:y::a6=rest/\b7=a5:=by simpa[h6]using a0
           refine n6 (V a2 y b4 h5 a8 H4 _ _ c8 _ λv H5 M S5 s5 ry ny c7=>?_);have c5:∀i j:Nat,cap[i]? =some (some j)->a8[i]? =(fB cap σ)[i]?:=λi j hi=>c1 i (by
            cases B:own i with
            |false=>rfl
            |true=>rw[a3 i B (by rw[hi];simp)]at hi;cases hi)
           obtain⟨o1,o2,o3⟩:=a4.out F (λ_ _=>trivial) c5 s5 c7;have c2:=(by simpa[clean]using hcy:aA y=true/\az y=true);have b8:=b5.mono (o2.evo a4) (.inl a9) (.inl b0) λc Y u hu=>o2.keepsF a4 (.inl Y) u hu;rw[jK]at o1 b8;have b9:=o3 y v M hcy ry;rw[jK]at b9;have c4:∀a∈L,a∉M:=λa z1 z2=>by
            rcases o2.fm a z2 with y|y
            .exact a4.notO (.inl z1) y
            .obtain⟨o,B,_⟩:=b5.dom a z1
             rw[y]at B;cases B
           exact⟨by omega,by simp;omega,fH cap b4 ρ2,_,acc++[y],L++M,a6,o1,b8.append (.one b9),cX na ny c4,by rw[iD];simp[a9,aB,c2],by rw[iH];simp[b0,aD,c2],b6.trans o2,h6,by rw[←a1];simp⟩
         .cases a0
    .have hl:i=items.length:=by omega
     subst hl;rw[Uh,ie]at a0;obtain⟨rfl,rfl⟩:[]=rest/\ρ2=a5:=by simpa using a0
     refine .inl ⟨wk.stop H2 _ lt,UT (six (by omega)),λp hp=>?_⟩;have b2:Same H2 (upd H2 p (.lst ys)):=Same.new hp;rw[Ql]at a1;subst a1;have np:p∉L:=λz=>by obtain⟨o,B,_⟩:=ra.dom p z;rw[hp]at B;cases B
     have Z:Rep G (upd H2 p (.lst ys)) (wn ob S2 (plus (p::L) Fr)) (.lst .own acc) (.ref p) (p::L):=by
      rw[Rep];exact⟨p,ys,L,rfl,ra.up ⟨b2,λb u U f=>⟨λz=>z.elim (λz=>(Pj.mp z).elim (λz=>by rw[z,hp]at U;cases U) λz=>f.1 (.inl z)) λz=>f.1 (.inr z),f.2⟩,λ_ _ _ f=>f⟩,aZ,rfl⟩
     refine q (.ref p) _ (p::L) S2 (s2.grow b2 λa z=>?_) Z (QC.mpr ⟨np,na⟩) ?_
     .rcases z with z|z
      .rcases Pj.mp z with z|z
       .exact .inr ⟨by rw[z];exact hp,Z.dom a (by simp[z])⟩
       .exact .inl (.inl z)
      .exact .inl (.inr z)
     .exact(e1.trans ef).same b2 λc Y=>(Pj.mp Y).elim (λz=>.inr (by rw[z];exact hp)) λz=>.inl (by simpa using z)
  .cases ee
section
variable{elt target iter:Expr}{ifs:List Expr}{scope:Scope}{pos pos' pos2:Pos}{N':List Str}{it:En->Option (Bool×List D)}{tg:D->En->Option En}{fc:En->Option Bool}
theorem oH(cap:List (Option Nat))(own:Nat->Bool){I:En->Option D}(J:∀c,(X c).xe=NoX)(Y:∀c,(X c).calm=true)(O:∀c,d8 (X c).env.scope (X c).N N' scope cap)(B:∀i:Nat,own i=true->cap[i]?≠none->cap[i]? =some none)(hi:PVI X G ob target iter it)(j:Gd (InX X N' scope) G (obC cap ob) own target tg)(U:Dv (InX X N' scope) G (obC cap ob) ifs fc)(V:PV (InX X N' scope) G (obC cap ob) elt I)
  (F:∀c,∀x,R6 iter (X c).env x=pure x:=by intro _ _;rfl):PV X G ob (.ListComp elt [⟨target,iter,ifs,0⟩] scope pos) (ir cap it tg fc I):=
 let⟨_,i1,i2⟩:=hi.ex;let⟨_,g1,g2⟩:=j.ex;let⟨_,t1,t2⟩:=U.ex;let⟨_,e1,e2⟩:=V.ex
 ⟨_,λc=>zu (J c) (Y c) (O c) (i1 c) (λC s H fp=>g1 (c,C,s,H,fp)) (λC s H fp=>t1 (c,C,s,H,fp)) (λC s H fp=>e1 (c,C,s,H,fp)) (F c),yx B i2 g2 t2 e2⟩
theorem Gp(cap:List (Option Nat))(own:Nat->Bool){I:En->Option (D×En)}(J:∀c,(X c).xe=NoX)(Y:∀c,(X c).calm=true)(O:∀c,d8 (X c).env.scope (X c).N N' scope cap)(q:j4 cap)(B:∀i:Nat,own i=true->cap[i]?≠none->cap[i]? =some none)(hi:PVI X G ob target iter it)(j:Np (InX X N' scope) G (obC cap ob) own target tg)(U:Dv (InX X N' scope) G (obC cap ob) ifs fc)(V:PVe (InX X N' scope) G (obC cap ob) elt I)
  (F:∀c,∀x,R6 iter (X c).env x=pure x:=by intro _ _;rfl):PVe X G ob (.ListComp elt [⟨target,iter,ifs,0⟩] scope pos) (qy cap it tg fc I):=
 let⟨_,i1,i2⟩:=hi.ex;let⟨_,g1,g2⟩:=j.ex;let⟨_,t1,t2⟩:=U.ex;let⟨_,e1,e2⟩:=V.ex
 ⟨_,λc=>zu (J c) (Y c) (O c) (i1 c) (λC s H fp=>g1 (c,C,s,H,fp)) (λC s H fp=>t1 (c,C,s,H,fp)) (λC s H fp=>e1 (c,C,s,H,fp)) (F c),Ex q B i2 g2 t2 e2⟩
variable{P:Nat->Bool}{x:Str}
theorem BP(i:Nat)(cap:List (Option Nat))(own:Nat->Bool){I:En->Option D}(hN:∀c,(X c).N.Nodup)(J:∀c,(X c).xe=NoX)(Y:∀c,(X c).calm=true)(O:∀c,d8 (X c).env.scope (X c).N N' scope cap)(B:∀i:Nat,own i=true->cap[i]?≠none->cap[i]? =some none)(hi:PVI X G ob target iter it)(j:Gd (InX X N' scope) G (obC cap ob) own target tg)(U:Dv (InX X N' scope) G (obC cap ob) ifs fc)(V:PV (InX X N' scope) G (obC cap ob) elt I)
  (q:P i=false:=by rfl) (a0:∀c,(X c).N[i]? =some x:=by intro _;rfl) (Z:∀c,Loc (X c).env.scope x:=by intro _;first|exact Ue rfl|exact Su rfl) (hw:∀c,Wf (.ListComp elt [⟨target,iter,ifs,0⟩] scope pos) (some (.Name x pos')) pos2.line (X c).env=pure true:=by intro _;rfl) (F:∀c,∀x,R6 iter (X c).env x=pure x:=by intro _ _;rfl)
  (hf:∀c,(X c).fn x=true∨(X c).env.scope.names.lookup x=some .local:=by intro _;first|exact .inl rfl|exact .inr rfl):PVS X G ob P (.Assign [.Name x pos'] (.ListComp elt [⟨target,iter,ifs,0⟩] scope pos) pos2) (eQ (ir cap it tg fc I) (tgN i)):=
 let⟨_,i1,i2⟩:=hi.ex;let⟨_,g1,g2⟩:=j.ex;let⟨_,t1,t2⟩:=U.ex;let⟨_,e1,e2⟩:=V.ex
 ⟨_,λc=>Hx (J c) (Y c) (hN c) (a0 c) (Z c) (O c) (i1 c) (λC s H fp=>g1 (c,C,s,H,fp)) (λC s H fp=>t1 (c,C,s,H,fp)) (λC s H fp=>e1 (c,C,s,H,fp)) (hw c) (F c) (hf c),by rw[←xx];exact ju (u9 (yx B i2 g2 t2 e2)) (il q)⟩
end
end
inductive Sc:Dt->Dt->Prop
 |bl (a b:Bool):Sc (.bl a) (.bl b)
 |int (a b:Int):Sc (.int a) (.int b)
 |str (a b:Str):Sc (.str a) (.str b)
 |non:Sc .non .non
def Flt(d e:Dt):Prop:=∃a b,d= .tup a/\e= .tup b/\∀p∈a.zip b,Sc p.1 p.2
inductive Alk:Dt->Dt->Prop
 |sc {d e:Dt}:Sc d e->Alk d e
 |lst {a b:List Dt}:(∀p∈a.zip b,Sc p.1 p.2)->Alk (.lst a) (.lst b)
 |tup {a b:List Dt}:(∀p∈a.zip b,Sc p.1 p.2)->Alk (.tup a) (.tup b)
 |deep {a b:List Dt}:(∀p∈a.zip b,Flt p.1 p.2)->Alk (.lst a) (.lst b)
section
variable{X:Cx}{pins:List (Addr×Obj)}{σ:L2.St}{H:Hp}{s:Shared}{A:Around}
open PySem.SeqAt
theorem yK{d e:Dt}{v u:V}{B F:Value}(h:Sc d e)(h1:Brs X.K H d v)(h2:Brs X.K H e u)(Y:RelV v B)(j:RelV u F):EqAt A s B F (eqD d e)/\RcAt A s B F (eqD d e)/\RcNeAt A s B F (!eqD d e):=by
 cases h<;>simp only[Brs]at h1 h2<;>subst h1 h2
 case bl a b=>cases Y;cases j;exact⟨EqAt.bool_bool a b,RcAt.bool_bool a b,RcNeAt.bool_bool a b⟩
 case int a b=>obtain⟨t,rfl⟩:=Y;obtain⟨t',rfl⟩:=j;exact⟨EqAt.int_int a t b t',RcAt.int_int a t b t',RcNeAt.int_int a t b t'⟩
 case non=>cases Y;cases j;exact⟨EqAt.same _,RcAt.none_none,RcNeAt.none_none⟩
 case str a b=>obtain⟨t,rfl⟩:=Y;obtain⟨t',rfl⟩:=j;exact⟨EqAt.str_str a t b t',RcAt.str_str a t b t',RcNeAt.str_str a t b t'⟩
theorem oO{R:Dt->Dt->Prop}(U:∀{d e:Dt}{v u:V}{B F:Value},R d e->Brs X.K H d v->Brs X.K H e u->RelV v B->RelV u F->EqAt A s B F (eqD d e)):∀{ds es:List Dt}{ys xs:List V}{q its:List Value},(∀p∈ds.zip es,R p.1 p.2)->gB X.K H ds ys->gB X.K H es xs->Vals ys q->Vals xs its->
  ∀j (h1:j<q.toArray.size)(h2:j<its.toArray.size),EqAt A s q.toArray[j] its.toArray[j] (eqJ ds es j)
 |[],es,ys,xs,q,its,_,h,h',r,r',j,h1,h2=>by
  simp only[gB]at h;subst h;cases r;simp at h1
 |d::ds,[],ys,xs,q,its,_,h,h',r,r',j,h1,h2=>by
  simp only[gB]at h';subst h';cases r';simp at h2
 |d::ds,e::es,ys,xs,q,its,ha,h,h',r,r',j,h1,h2=>by
  simp only[gB]at h h';obtain⟨y,I,rfl,hd,Z⟩:=h;obtain⟨x,J,rfl,N,a1⟩:=h';cases r with
  |cons O rb=>
   cases r' with
   |cons a0 a2=>
    cases j with
    |zero=>exact U (ha (d,e) (by simp)) hd N O a0
    |succ j=>exact oO U (λp Y=>ha p (by simp[Y])) Z a1 rb a2 j (by simpa using h1) (by simpa using h2)
theorem Ce(I:Inv X pins σ H s){R:Dt->Dt->Prop}(hR:∀{d e:Dt}{v u:V}{B F:Value},R d e->Brs X.K H d v->Brs X.K H e u->RelV v B->RelV u F->EqAt A.in1 s B F (eqD d e)){ds es:List Dt}{v u:V}{B F:Value}(h:∀p∈ds.zip es,R p.1 p.2)(h1:Brs X.K H (.lst ds) v)(h2:Brs X.K H (.lst es) u)(Y:RelV v B)(j:RelV u F)(hz:A.units<cLine):RcAt A s B F (eqD (.lst ds) (.lst es))/\RcNeAt A s B F (!eqD (.lst ds) (.lst es)):=by
 simp only[Brs]at h1 h2;obtain⟨U,a7,rfl,a5,J⟩:=h1;obtain⟨a2,a6,rfl,q,O⟩:=h2;cases Y;cases j;obtain⟨a0,a4,p1,_⟩:=I.list a5;obtain⟨N,a3,p2,_⟩:=I.list q;have l1:=J.length;have l2:=O.length;have l3:=a4.length;have l4:=a3.length;rw[show eqD (.lst ds) (.lst es)=eqL ds es by simp[eqD]];by_cases Z:ds.length=es.length
 .have e1:a0.toArray.size=N.toArray.size:=by rw[List.size_toArray,List.size_toArray];omega
  have e2:ds.length=a0.toArray.size:=by rw[List.size_toArray];omega
  rw[←uL Z,e2];exact⟨RcAt.lists p1.isList p2.isList e1 hz (oO hR h J O a4 a3),RcNeAt.lists p1.isList p2.isList e1 hz (oO hR h J O a4 a3)⟩
 .have e1:(a0.toArray.size !=N.toArray.size)=true:=by rw[List.size_toArray,List.size_toArray];exact bne_iff_ne.mpr (by omega)
  rw[tL Z];exact⟨RcAt.lists_lengths p1.isList p2.isList e1 hz,RcNeAt.lists_lengths p1.isList p2.isList e1 hz⟩
theorem FN(I:Inv X pins σ H s){ds es:List Dt}{v u:V}{B F:Value}(h:∀p∈ds.zip es,Sc p.1 p.2)(h1:Brs X.K H (.tup ds) v)(h2:Brs X.K H (.tup es) u)(Y:RelV v B)(j:RelV u F)(hz:A.units<cLine):RcAt A s B F (eqD (.tup ds) (.tup es))/\RcNeAt A s B F (!eqD (.tup ds) (.tup es)):=by
 simp only[Brs]at h1 h2;obtain⟨U,a7,rfl,a5,J⟩:=h1;obtain⟨a2,a6,rfl,q,O⟩:=h2;cases Y;cases j;obtain⟨a0,a4,p1,_⟩:=I.tuple a5;obtain⟨N,a3,p2,_⟩:=I.tuple q;have l1:=J.length;have l2:=O.length;have l3:=a4.length;have l4:=a3.length;have e:eqD (.tup ds) (.tup es)=((Qq (min a0.toArray.size N.toArray.size)).all (eqJ ds es)&&a0.toArray.size==N.toArray.size):=by
  rw[show eqD (.tup ds) (.tup es)=eqL ds es by simp[eqD],List.size_toArray,List.size_toArray];by_cases Z:ds.length=es.length
  .rw[show min a0.length N.length=ds.length by omega,uL Z,show(a0.length==N.length)=true by simp;omega,Vd]
  .rw[tL Z,show(a0.length==N.length)=false by simp;omega,aay]
 rw[e];exact⟨RcAt.tuples p1 p2 hz (oO (λh a b c d=>(yK h a b c d).1) h J O a4 a3),RcNeAt.tuples p1 p2 hz (oO (λh a b c d=>(yK h a b c d).1) h J O a4 a3)⟩
theorem yp{K:Pu}:∀{ds es:List Dt}{xs:List V},(∀p∈ds.zip es,Sc p.1 p.2)->gB K H ds xs->gB K H es xs->eqL ds es=true
 |[],[],_,_,_,_=>by simp[eqL]
 |[],_::_,_,_,h,h'=>by simp only[gB]at h;subst h;simp[gB]at h'
 |_::_,[],_,_,h,h'=>by simp only[gB]at h';subst h';simp[gB]at h
 |d::r,e::q,_,ha,h,h'=>by
  simp only[gB]at h h';obtain⟨x,ys,rfl,hd,Z⟩:=h;obtain⟨_,_,e1,N,j⟩:=h';cases e1;rw[eqL,yp (λp Y=>ha p (by simp[Y])) Z j,Vd];have F:=ha (d,e) (by simp);dsimp only at F;cases F<;>simp only[Brs]at hd N<;>rw[hd]at N<;>first|(cases N;simp[eqD])|simp[eqD]
theorem KC(I:Inv X pins σ H s)(hz:A.units<cLine){d e:Dt}{v u:V}{B F:Value}(h:Flt d e)(h1:Brs X.K H d v)(h2:Brs X.K H e u)(Y:RelV v B)(j:RelV u F):EqAt A s B F (eqD d e):=by
 obtain⟨a,b,rfl,rfl,h⟩:=h;have N:=(FN I h h1 h2 Y j hz).1;simp only[Brs]at h1 h2;obtain⟨U,a4,rfl,Z,J⟩:=h1;obtain⟨a2,a3,rfl,q,O⟩:=h2;cases Y;cases j;by_cases a0:U=a2
 .subst a0
  obtain rfl:=I.tuple_inj Z q;rw[show eqD (.tup a) (.tup b)=true by rw[eqD];exact yp h J O];exact EqAt.same _
 .exact EqAt.of_refs a0 N
theorem Fg(I:Inv X pins σ H s){d e:Dt}{v u:V}{B F:Value}(h:Alk d e)(h1:Brs X.K H d v)(h2:Brs X.K H e u)(Y:RelV v B)(j:RelV u F)(hz:A.units+1<cLine):RcAt A s B F (eqD d e)/\RcNeAt A s B F (!eqD d e):=by
 cases h with
 |sc h=>exact(yK h h1 h2 Y j).2
 |lst h=>exact Ce I (λh a b c d=>(yK h a b c d).1) h h1 h2 Y j (by omega)
 |tup h=>exact FN I h h1 h2 Y j (by omega)
 |deep h=>exact Ce I (λh a b c d=>KC I (show A.units+1<cLine from hz) h a b c d) h h1 h2 Y j (by omega)
def Ms(K:Pu)(A:Rh):R2:=λx y H Q=>∃d e,Alk d e/\Brs K H d x/\Brs K H e y/\A.units+1<cLine/\Q (.bl (eqD d e)) H
def M7(K:Pu)(A:Rh):R2:=λx y H Q=>∃d e,Alk d e/\Brs K H d x/\Brs K H e y/\A.units+1<cLine/\Q (.bl (!eqD d e)) H
theorem Kh:OpR X (Q3 .Eq) (Ms X.K X.A):=by
 intro pins s σ H x y v u Q I rx B ⟨d,e,h,h1,h2,J,q⟩;exact(Fg I h h1 h2 rx B J).1 _ _ _ _ ⟨.bl (eqD d e),H,I,rfl,q⟩
theorem Kv:OpR X (Q3 .NotEq) (M7 X.K X.A):=by
 intro pins s σ H x y v u Q I rx B ⟨d,e,h,h1,h2,J,q⟩;exact(Fg I h h1 h2 rx B J).2 _ _ _ _ ⟨.bl (!eqD d e),H,I,rfl,q⟩
end
theorem OpR.or{f:Value->Value->Sem Value}{r Z:R2}(h:OpR Y f r)(h':OpR Y f Z):OpR Y f (λx y H Q=>r x y H Q∨Z x y H Q):=λpins s σ H x y v u Q I rx B q=>q.elim (h pins s σ H x y v u Q I rx B) (h' pins s σ H x y v u Q I rx B)
theorem dD.or{f:Value}{Z:List V->Hp->VK->Prop}(h:dD Y f r)(h':dD Y f Z):dD Y f (λxs H Q=>r xs H Q∨Z xs H Q):=λpins s σ H xs B Q I F q=>q.elim (h pins s σ H xs B Q I F) (h' pins s σ H xs B Q I F)
variable{i:Int}
theorem bU:Rep G H W (.int i) (.int i) []:=by rw[Rep];exact⟨rfl,rfl⟩
theorem uG{i:Str}:Rep G H W (.str i) (.str i) []:=by rw[Rep];exact⟨rfl,rfl⟩
theorem dR{i:Bool}:Rep G H W (.bl i) (.bl i) []:=by rw[Rep];exact⟨rfl,rfl⟩
theorem aR(r:Rep G H W (.int i) v L):v= .int i/\L=[]:=by rw[Rep]at r;exact r
theorem bI{i:Str}(r:Rep G H W (.str i) v L):v= .str i/\L=[]:=by rw[Rep]at r;exact r
theorem iR{i:Bool}(r:Rep G H W (.bl i) v L):v= .bl i/\L=[]:=by rw[Rep]at r;exact r
variable{g:Int->Int->V}{J:D->D->Option D}
theorem yH(h:∀dx N d,J dx N=some d->∃i j,dx= .int i/\N= .int j/\C i j/\∀H W,Rep G H W d (g i j) []):OpV G (rI C g) J:=λdx N d e x y H W I F rx B nd hn w Q q=>by
 obtain⟨i,j,rfl,rfl,Y,Z⟩:=h dx N d e;obtain⟨rfl,rfl⟩:=aR rx;obtain⟨rfl,rfl⟩:=aR B;exact⟨i,j,rfl,rfl,Y,q.scal (λW=>Z H W)⟩
theorem uv(h:∀dx N d,J dx N=some d->∃i j,dx= .int i/\N= .int j/\∀H W,Rep G H W d (g i j) []):OpV G (rI0 g) J:=λdx N d e x y H W I F rx B nd hn w Q q=>by
 obtain⟨i,j,rfl,rfl,Z⟩:=h dx N d e;obtain⟨rfl,rfl⟩:=aR rx;obtain⟨rfl,rfl⟩:=aR B;exact⟨i,j,rfl,rfl,q.scal (λW=>Z H W)⟩
def je:D->D->Option D
 |.int a,.int b=>some (.int (a-b))
 |_,_=>none
def gH:D->D->Option D
 |.int a,.int b=>if(-(2 ^ 64)<a/\a<2 ^ 64)∨(-(2 ^ 64)<b/\b<2 ^ 64)then some (.int (a*b))else none
 |_,_=>none
def qg:D->D->Option D
 |.int a,.int b=>if 0<b/\b<18446744073709551616 then some (.int (a / b))else none
 |_,_=>none
def jA:D->D->Option D
 |.int a,.int b=>if 0<b then some (.int (a % b))else none
 |_,_=>none
def lr:D->D->Option D
 |.int a,.int b=>if 0<=b/\b<=1000000/\a.natAbs<2 ^ 64 then some (.int (a ^ b.toNat))else none
 |_,_=>none
theorem oK:OpB X G (RB .Sub) je:=⟨_,λc=>JN,uv λdx N d e=>by
 unfold je at e;split at e
 .cases e;exact⟨_,_,rfl,rfl,λ_ _=>bU⟩
 .cases e⟩
theorem ig:OpB X G (RB .Mult) gH:=⟨_,λc=>Kg,yH λdx N d e=>by
 unfold gH at e;split at e
 .split at e
  .cases e;exact⟨_,_,rfl,rfl,‹_›,λ_ _=>bU⟩
  .cases e
 .cases e⟩
theorem zg:OpB X G (RB .FloorDiv) qg:=⟨_,λc=>Cv,yH λdx N d e=>by
 unfold qg at e;split at e
 .split at e
  .cases e;exact⟨_,_,rfl,rfl,‹_›,λ_ _=>bU⟩
  .cases e
 .cases e⟩
theorem jl:OpB X G (RB .Mod) jA:=⟨_,λc=>K9,yH λdx N d e=>by
 unfold jA at e;split at e
 .split at e
  .cases e;exact⟨_,_,rfl,rfl,‹_›,λ_ _=>bU⟩
  .cases e
 .cases e⟩
theorem t6:OpB X G (RB .Pow) lr:=⟨_,λc=>J0,yH λdx N d e=>by
 unfold lr at e;split at e
 .split at e
  .cases e;exact⟨_,_,rfl,rfl,‹_›,λ_ _=>bU⟩
  .cases e
 .cases e⟩
def uc:D->Option D
 |.int a=>some (.int (-a))
 |_=>none
theorem Cp:UnB X G (unaryOp .USub) uc:=⟨_,λc=>KD,λdx d e x H W I rx nd hn w Q q=>by
 unfold uc at e;split at e
 .cases e
  obtain⟨rfl,rfl⟩:=aR rx;exact⟨_,rfl,q.scal λW=>bU⟩
 .cases e⟩
def cB:D->D->Option D
 |.int a,.int b=>some (.int (a+b))
 |.str a,.str b=>if a.length+b.length<=Px then some (.str (a++b))else none
 |.lst m a,.lst n b=>if m≠.scr/\n≠.scr/\a.length+b.length<=1000000 then some (.lst .own (a++b))else none
 |.tup a,.tup b=>if a.length+b.length<=1000000 then some (.tup (a++b))else none
 |_,_=>none
variable{ys:List V}
theorem rQ{dx N:List D}{I F O B:List Addr}(J:aF G H W dx xs O)(j:aF G H W N ys B)(Y:RG O I)(Z:RG B F)(hn:∀a∈I++F,W.tmp a)(s:Same H H')(q:List Addr)(he:∀a∈q,H a=none):aF G H' ((W.drop (I++F)).add (q++(O++B))) (dx++N) (xs++ys) (O++B):=by
 refine(J.append j).up ⟨s,λb u U f=>⟨λz=>z.elim (λz=>?_) λz=>f.1 z.1,f.2⟩,λ_ _ _ f=>f⟩;rcases Mz.mp z with z|z
 .rw[he b z]at U;cases U
 .rcases Mz.mp z with z|z
  .exact f.1 (hn b (PL _ (Y.subset z))).1
  .exact f.1 (hn b (Pa _ (Z.subset z))).1
def MN(K:Pu):R2:=λx y H Q=>((rI0 (λi j=>.int (i+j)) x y H Q∨(∃i j,x= .str i/\y= .str j/\i.length+j.length<=Px/\Q (.str (i++j)) H))∨Mr x y H Q)∨Fe K x y H Q
theorem Hg:OpV G (MN G.K) cB:=λdx dy d e x y H W I Ly rx ry nd hn w Q q=>by
 unfold cB at e;split at e
 .cases e
  obtain⟨rfl,rfl⟩:=aR rx;obtain⟨rfl,rfl⟩:=aR ry;exact .inl (.inl (.inl ⟨_,_,rfl,rfl,q.scal λ_=>bU⟩))
 .split at e
  .cases e
   obtain⟨rfl,rfl⟩:=bI rx;obtain⟨rfl,rfl⟩:=bI ry;exact .inl (.inl (.inr ⟨_,_,rfl,rfl,‹_›,q.scal λ_=>uG⟩))
  .cases e
 .rename_i m a n b
  split at e
  .rename_i Y
   cases e;rw[Rep]at rx ry;obtain⟨p,xs,O,rfl,J,sx⟩:=rx;obtain⟨V,ys,My,rfl,j,sy⟩:=ry;refine .inl (.inr ⟨p,V,xs,ys,rfl,rfl,sx.at Y.1,sy.at Y.2.1,by rw[←J.length,←j.length];exact UT (six Y.2.2),λr Z=>?_⟩);have F:Same H (upd H r (.lst (xs++ys))):=Same.new Z;have nr:r∉O++My:=λz=>by
    obtain⟨o,B,_⟩:=(J.append j).dom r z;rw[Z]at B;cases B
   have a0:(O++My).Nodup:=(sx.sub.append sy.sub).nodup nd;refine q (.ref r) _ (r::(O++My)) F ?_ (λc Y=>?_) (QC.mpr ⟨nr,a0⟩)
   .rw[Rep]
    exact⟨r,xs++ys,O++My,rfl,rQ J j sx.sub sy.sub hn F [r] (by simpa using Z),aZ,rfl⟩
   .rcases Pj.mp Y with z|z
    .exact .inr (by rw[z];exact Z)
    .exact .inl ((sx.sub.append sy.sub).subset z)
  .cases e
 .rename_i a b
  split at e
  .rename_i Y
   cases e;rw[Rep]at rx ry;obtain⟨p,xs,rfl,hp,J⟩:=rx;obtain⟨V,ys,rfl,U,j⟩:=ry;have base:∀H' p2,Same H H'->H' p2=some (.tup (xs++ys))->Q (.ref p2) H':=λH' p2 F N=>by
    refine q (.ref p2) H' (I++Ly) F ?_ (λc Y=>.inl Y) nd;rw[Rep];exact⟨p2,xs++ys,rfl,N,rQ J j (Tc _) (Tc _) hn F [] (by simp)⟩
   refine .inr ⟨p,V,xs,ys,rfl,rfl,SqT.of hp,SqT.of U,by rw[←J.length,←j.length];exact UT (six Y),λz=>base H V (Same.refl H) (by rw[z];exact U),λ_ z=>base H p (Same.refl H) (by rw[z,Ql];exact hp),λ_ _ r Z=>base _ r (Same.new Z) aZ⟩
  .cases e
 .cases e
theorem dq(I:∀c,(X c).K=G.K:=by intro _;rfl):OpB X G (RB .Add) cB:=⟨_,λc=>by rw[←I c];exact OpR.or (OpR.or (OpR.or Kw ye) Kq) Cd,Hg⟩
def gLt:D->D->Option D
 |.int a,.int b=>some (.bl (decide (a<b)))
 |.str a,.str b=>some (.bl (decide (a.cps.toList<b.cps.toList)))
 |_,_=>none
def gLe:D->D->Option D
 |.int a,.int b=>some (.bl (decide (a<=b)))
 |_,_=>none
def gGt:D->D->Option D
 |.int a,.int b=>some (.bl (decide (b<a)))
 |_,_=>none
def gGe:D->D->Option D
 |.int a,.int b=>some (.bl (decide (b<=a)))
 |_,_=>none
theorem zB:OpB X G (Q3 .Lt) gLt:=⟨_,λc=>OpR.or Nu Ay,λdx N d e x y H W I F rx B nd hn w Q q=>by
 unfold gLt at e;split at e
 .cases e
  obtain⟨rfl,rfl⟩:=aR rx;obtain⟨rfl,rfl⟩:=aR B;exact .inl ⟨_,_,rfl,rfl,q.scal λ_=>dR⟩
 .cases e
  obtain⟨rfl,rfl⟩:=bI rx;obtain⟨rfl,rfl⟩:=bI B;exact .inr ⟨_,_,rfl,rfl,q.scal λ_=>dR⟩
 .cases e⟩
theorem Oh:OpB X G (Q3 .LtE) gLe:=⟨_,λc=>Oa,uv λdx N d e=>by
 unfold gLe at e;split at e
 .cases e;exact⟨_,_,rfl,rfl,λ_ _=>dR⟩
 .cases e⟩
theorem DX:OpB X G (Q3 .Gt) gGt:=⟨_,λc=>Mm,uv λdx N d e=>by
 unfold gGt at e;split at e
 .cases e;exact⟨_,_,rfl,rfl,λ_ _=>dR⟩
 .cases e⟩
theorem Mi:OpB X G (Q3 .GtE) gGe:=⟨_,λc=>Mq,uv λdx N d e=>by
 unfold gGe at e;split at e
 .cases e;exact⟨_,_,rfl,rfl,λ_ _=>dR⟩
 .cases e⟩
def wD:D->Bool
 |.non=>true
 |_=>false
def gIs:D->D->Option D
 |x,.non=>some (.bl (wD x))
 |_,_=>none
theorem Ag(r:Rep G H W d v L):decide (v= .non)=wD d:=by
 cases d<;>rw[Rep]at r
 case non=>obtain⟨rfl,_⟩:=r;rfl
 case bl=>obtain⟨rfl,_⟩:=r;rfl
 case int=>obtain⟨rfl,_⟩:=r;rfl
 case str=>obtain⟨rfl,_⟩:=r;rfl
 case ty=>obtain⟨rfl,_⟩:=r;rfl
 case tup=>obtain⟨a,xs,rfl,_⟩:=r;rfl
 case lst=>obtain⟨a,xs,M,rfl,_⟩:=r;rfl
 case dct=>obtain⟨a,xs,M,rfl,_⟩:=r;rfl
 case ins=>obtain⟨a,C,dx,xs,M,rfl,_⟩:=r;rfl
theorem Oc:OpB X G (Q3 .Is) gIs:=⟨_,λc=>KY,λdx N d e x y H W I F rx B nd hn w Q q=>by
 unfold gIs at e;split at e
 .cases e
  rw[Rep]at B;exact⟨B.1,by rw[Ag rx];exact q.scal λ_=>dR⟩
 .cases e⟩
mutual
noncomputable def dt:D->Dt
 |.non=>.non
 |.bl b=>.bl b
 |.int i=>.int i
 |.str x=>.str x
 |.tup ds=>.tup (dtL ds)
 |.lst _ ds=>.lst (dtL ds)
 |_=>.non
noncomputable def dtL:List D->List Dt
 |[]=>[]
 |d::r=>dt d::dtL r
end
mutual
noncomputable def jk:D->Bool
 |.ty _=>false
 |.dct _ _ _=>false
 |.ins _ _ _ _=>false
 |.tup ds=>iB ds
 |.lst _ ds=>iB ds
 |_=>true
noncomputable def iB:List D->Bool
 |[]=>true
 |d::r=>jk d&&iB r
end
mutual
theorem Rep.brs{H:Hp}{W:Wn}:∀{d:D}{v:V}{L:List Addr},Rep G H W d v L->jk d=true->Brs G.K H (dt d) v
 |.non,v,L,r,_=>by rw[Rep]at r;simp[dt,Brs,r]
 |.bl _,v,L,r,_=>by rw[Rep]at r;simp[dt,Brs,r]
 |.int _,v,L,r,_=>by rw[Rep]at r;simp[dt,Brs,r]
 |.str _,v,L,r,_=>by rw[Rep]at r;simp[dt,Brs,r]
 |.ty _,v,L,r,h=>by cases h
 |.dct _ _ _,v,L,r,h=>by cases h
 |.ins _ _ _ _,v,L,r,h=>by cases h
 |.tup ds,v,L,r,h=>by
  rw[Rep]at r;obtain⟨a,xs,rfl,U,Z⟩:=r;rw[dt,Brs];exact⟨a,xs,rfl,SqT.of U,aF.brs Z h⟩
 |.lst m ds,v,L,r,h=>by
  rw[Rep]at r;obtain⟨a,xs,M,rfl,Z,F⟩:=r;rw[dt,Brs];exact⟨a,xs,rfl,F.sq,aF.brs Z h⟩
theorem aF.brs{H:Hp}{W:Wn}:∀{ds:List D}{vs:List V}{L:List Addr},aF G H W ds vs L->iB ds=true->gB G.K H (dtL ds) vs
 |[],vs,L,r,_=>by obtain⟨rfl,_⟩:=r.inv0;simp[dtL,gB]
 |d::r,vs,L,hr,h=>by
  obtain⟨x,ys,M,M',rfl,rfl,h1,h2⟩:=hr.inv;rw[iB,Qo]at h;rw[dtL,gB];exact⟨x,ys,rfl,Rep.brs h1 h.1,aF.brs h2 h.2⟩
end
open Classical in
def gEq:D->D->Option D:=λx y=>if jk x=true/\jk y=true/\Alk (dt x) (dt y)then some (.bl (eqD (dt x) (dt y)))else none
open Classical in
def gNe:D->D->Option D:=λx y=>if jk x=true/\jk y=true/\Alk (dt x) (dt y)then some (.bl (!eqD (dt x) (dt y)))else none
theorem cb_eq(A:Rh)(Z:∀c,(X c).A=A)(J:A.units+64<cLine)(I:∀c,(X c).K=G.K:=by intro _;rfl):OpB X G (Q3 .Eq) gEq:=⟨Ms G.K A,λc=>by rw[←I c,←Z c];exact Kh,λdx N d e x y H W j F rx B nd hn w Q q=>by
 unfold gEq at e;split at e
 .rename_i hc
  cases e;exact⟨_,_,hc.2.2,rx.brs hc.1,B.brs hc.2.1,by omega,q.scal λ_=>dR⟩
 .cases e⟩
theorem sV(A:Rh)(Z:∀c,(X c).A=A)(J:A.units+64<cLine)(I:∀c,(X c).K=G.K:=by intro _;rfl):OpB X G (Q3 .NotEq) gNe:=⟨M7 G.K A,λc=>by rw[←I c,←Z c];exact Kv,λdx N d e x y H W j F rx B nd hn w Q q=>by
 unfold gNe at e;split at e
 .rename_i hc
  cases e;exact⟨_,_,hc.2.2,rx.brs hc.1,B.brs hc.2.1,by omega,q.scal λ_=>dR⟩
 .cases e⟩
def gIx:D->D->Option D
 |.lst _ ds,.int i=>atI ds i
 |.tup ds,.int i=>atI ds i
 |.str z,.int i=>if z.length<=Px then(atI z.cps.toList i).map λc=>.str ⟨#[c]⟩else none
 |.dct _ ks ds,k=>(kY k).bind λk=>(jf ks k).bind λj=>ds[j]?
 |_,_=>none
theorem Ep(Z:aF G H W ds xs L)(e:atI ds i=some d):∃j:Nat,ds[j]? =some d/\∀x,xs[j]? =some x->atI xs i=some x:=by
 unfold atI at e⊢;rw[←Z.length];cases h:ixN ds.length i with
 |none=>simp[h]at e
 |some j=>
  refine⟨j,by simpa[h]using e,λx J=>by simpa using J⟩
variable{x:V}
theorem mJ{I F:List Addr}(r:Rep G H W d x M)(s:RG M I)(nd:(I++F).Nodup)(hn:∀a∈I++F,W.tmp a)(q:Done G H W (I++F) d Q):Q x H:=by
 refine q x H M (Same.refl H) (r.up ⟨Same.refl H,λb u U f=>⟨λz=>z.elim (λz=>f.1 (hn b (PL _ (s.subset z))).1) λz=>f.1 z.1,f.2⟩,λ_ _ _ f=>f⟩) (λa O=>.inl (PL _ (s.subset O))) (s.nodup (Qg.mp nd).1)
theorem KQ:OpV G (λx y H Q=>rIx G.K x y H Q∨KN x y H Q) gIx:=λdx dy d e x y H W Lx Ly rx B nd hn w Q q=>by
 unfold gIx at e;split at e
 .rename_i m ds i
  obtain⟨rfl,rfl⟩:=aR B;rw[Rep]at rx;obtain⟨a,xs,M,rfl,Z,F⟩:=rx;obtain⟨j,h1,h2⟩:=Ep Z e;obtain⟨z,Y,N,V,I⟩:=Z.get h1;exact .inl (.inl ⟨a,xs,i,z,rfl,rfl,F.sq,h2 z N,mJ V (I.trans F.sub) nd hn q⟩)
 .rename_i ds i
  obtain⟨rfl,rfl⟩:=aR B;rw[Rep]at rx;obtain⟨a,xs,rfl,U,Z⟩:=rx;obtain⟨j,h1,h2⟩:=Ep Z e;obtain⟨z,Y,N,V,I⟩:=Z.get h1;exact .inl (.inr (.inl ⟨a,xs,i,z,rfl,rfl,SqT.of U,h2 z N,mJ V I nd hn q⟩))
 .rename_i z i
  obtain⟨rfl,rfl⟩:=aR B;obtain⟨rfl,rfl⟩:=bI rx;split at e
  .rename_i hl
   cases h1:atI z.cps.toList i with
   |none=>simp[h1]at e
   |some c=>
    obtain rfl:D.str ⟨#[c]⟩=d:=by simpa[h1]using e
    exact .inl (.inr (.inr ⟨z,i,c,rfl,rfl,hl,h1,q.scal λ_=>uG⟩))
  .cases e
 .rename_i m ks ds
  cases J:kY dy with
  |none=>simp[J]at e
  |some k=>
   cases hj:jf ks k with
   |none=>simp[J,hj]at e
   |some j=>
    have e':ds[j]? =some d:=by simpa[J,hj]using e
    rw[Rep]at rx;obtain⟨a,kvs,M,rfl,⟨rfl,O⟩,Z,F⟩:=rx;obtain⟨z,Y,N,V,I⟩:=Z.get e';have hv:=wQ hj;rw[N]at hv;refine .inr ⟨a,z,rfl,.inl ⟨kvs,k,F.rdD,pA B J,hv.symm⟩,mJ V (I.trans F.sub) nd hn q⟩
 .cases e
theorem ixb(J:∀c,(X c).A.units+1<cLine)(I:∀c,(X c).K=G.K:=by intro _;rfl):IxB X G gIx:=⟨_,λc=>by rw[←I c];exact Ld (J c),KQ⟩
theorem aF.inv1(r:aF G H W [d] xs L):∃x,xs=[x]/\Rep G H W d x L:=by
 obtain⟨x,ys,M,M',rfl,rfl,h1,h2⟩:=r.inv;obtain⟨rfl,rfl⟩:=h2.inv0;exact⟨x,rfl,by rw[Ql];exact h1⟩
theorem aF.inv2{e:D}(r:aF G H W [d,e] xs L):∃x y M N,xs=[x,y]/\L=M++N/\Rep G H W d x M/\Rep G H W e y N:=by
 obtain⟨x,ys,M,M',rfl,rfl,h1,h2⟩:=r.inv;obtain⟨y,rfl,j⟩:=h2.inv1;exact⟨x,y,M,M',rfl,rfl,h1,j⟩
def cW:List D->Option D
 |[.lst _ ds]=>some (.int ds.length)
 |[.tup ds]=>some (.int ds.length)
 |[.str z]=>if z.length<=Px then some (.int z.length)else none
 |[.dct m _ ds]=>if m= .scr then none else some (.int ds.length)
 |_=>none
theorem dU(I:∀c,(X c).K=G.K:=by intro _;rfl):CaB X G (.builtin "len") cW:=⟨λxs H Q=>((∃p ys,xs=[.ref p]/\(SqL G.K H p ys∨SqT G.K H p ys)/\Q (.int ys.length) H)∨∃z,xs=[.str z]/\z.length<=Px/\Q (.int z.length) H)∨∃a kvs,xs=[V.ref a]/\H a=some (.dK kvs)/\Q (.int kvs.length) H,λc=>by rw[←I c];exact dD.or (dD.or uM uK) Bd,λds d e xs H W j r nd hn w Q q=>by
 unfold cW at e;split at e
 .cases e
  obtain⟨x,rfl,rx⟩:=r.inv1;rw[Rep]at rx;obtain⟨a,ys,M,rfl,Z,F⟩:=rx;exact .inl (.inl ⟨a,ys,rfl,.inl F.sq,by rw[←Z.length];exact q.scal λ_=>bU⟩)
 .cases e
  obtain⟨x,rfl,rx⟩:=r.inv1;rw[Rep]at rx;obtain⟨a,ys,rfl,U,Z⟩:=rx;exact .inl (.inl ⟨a,ys,rfl,.inr (SqT.of U),by rw[←Z.length];exact q.scal λ_=>bU⟩)
 .split at e
  .cases e
   obtain⟨x,rfl,rx⟩:=r.inv1;obtain⟨rfl,rfl⟩:=bI rx;exact .inl (.inr ⟨_,rfl,‹_›,q.scal λ_=>bU⟩)
  .cases e
 .split at e
  .cases e
  .cases e
   obtain⟨x,rfl,rx⟩:=r.inv1;rw[Rep]at rx;obtain⟨a,kvs,M,rfl,J,Z,F⟩:=rx;exact .inr ⟨a,kvs,rfl,F.at ‹_›,by have:=Z.length;simp at this;rw[←this];exact q.scal λ_=>bU⟩
 .cases e⟩
def qR:List D->Option D
 |[.int i]=>some (.int (if i<0 then -i else i))
 |_=>none
theorem yR:CaB X G (.builtin "abs") qR:=⟨_,λc=>Cy,λds d e xs H W j r nd hn w Q q=>by
 unfold qR at e;split at e
 .cases e
  obtain⟨x,rfl,rx⟩:=r.inv1;obtain⟨rfl,rfl⟩:=aR rx;exact⟨_,rfl,q.scal λ_=>bU⟩
 .cases e⟩
def uZ:List D->Option D
 |[.int i]=>some (.int i)
 |[.bl k]=>some (.int (if k then 1 else 0))
 |_=>none
theorem Hc:CaB X G (.type "int") uZ:=⟨_,λc=>z_,λds d e xs H W j r nd hn w Q q=>by
 unfold uZ at e;split at e
 .cases e
  obtain⟨x,rfl,rx⟩:=r.inv1;obtain⟨rfl,rfl⟩:=aR rx;exact .inl ⟨_,rfl,q.scal λ_=>bU⟩
 .cases e
  obtain⟨x,rfl,rx⟩:=r.inv1;obtain⟨rfl,rfl⟩:=iR rx;exact .inr ⟨_,rfl,q.scal λ_=>bU⟩
 .cases e⟩
def jP:List D->Option D
 |[.int i,.int j]=>some (.int (if j<i then j else i))
 |_=>none
def zM:List D->Option D
 |[.int i,.int j]=>some (.int (if j>i then j else i))
 |_=>none
theorem vf(Y:∀c,(X c).calm=true):CaB X G (.builtin "min") jP:=⟨_,λc=>Bx (Y c),λds d e xs H W j r nd hn w Q q=>by
 unfold jP at e;split at e
 .cases e
  obtain⟨x,y,M,N,rfl,rfl,rx,B⟩:=r.inv2;obtain⟨rfl,rfl⟩:=aR rx;obtain⟨rfl,rfl⟩:=aR B;exact⟨_,_,rfl,q.scal λ_=>bU⟩
 .cases e⟩
theorem DG(Y:∀c,(X c).calm=true):CaB X G (.builtin "max") zM:=⟨_,λc=>zV (Y c),λds d e xs H W j r nd hn w Q q=>by
 unfold zM at e;split at e
 .cases e
  obtain⟨x,y,M,N,rfl,rfl,rx,B⟩:=r.inv2;obtain⟨rfl,rfl⟩:=aR rx;obtain⟨rfl,rfl⟩:=aR B;exact⟨_,_,rfl,q.scal λ_=>bU⟩
 .cases e⟩
variable{p:Addr}
theorem mL{j:List Addr}(Z:aF G H W ds xs M)(s:RG M j)(nd:j.Nodup)(hn:∀a∈j,W.tmp a)(Y:H p=none)(q:Done G H W j (.lst .own ds) Q):Q (.ref p) (upd H p (.lst xs)):=by
 have F:Same H (upd H p (.lst xs)):=Same.new Y;have J:p∉M:=λz=>by obtain⟨o,B,_⟩:=Z.dom p z;rw[Y]at B;cases B
 refine q (.ref p) _ (p::M) F ?_ (λa O=>(Pj.mp O).elim (λz=>.inr (by rw[z];exact Y)) λz=>.inl (s.subset z)) (QC.mpr ⟨J,s.nodup nd⟩);rw[Rep];exact⟨p,xs,M,rfl,Z.up ⟨F,λb u U f=>⟨λz=>z.elim (λz=>(Pj.mp z).elim (λz=>by rw[z,Y]at U;cases U) λz=>f.1 (hn b (s.subset z)).1) λz=>f.1 z.1,f.2⟩,λ_ _ _ f=>f⟩,aZ,rfl⟩
theorem sU{j:List Addr}(Z:aF G H W ds xs M)(s:RG M j)(nd:j.Nodup)(hn:∀a∈j,W.tmp a)(Y:H p=none)(q:Done G H W j (.tup ds) Q):Q (.ref p) (upd H p (.tup xs)):=by
 have F:Same H (upd H p (.tup xs)):=Same.new Y;refine q (.ref p) _ M F ?_ (λa O=>.inl (s.subset O)) (s.nodup nd);rw[Rep];exact⟨p,xs,rfl,aZ,Z.up ⟨F,λb u U f=>⟨λz=>z.elim (λz=>f.1 (hn b (s.subset z)).1) λz=>f.1 z.1,f.2⟩,λ_ _ _ f=>f⟩⟩
theorem pQ{j:List Addr}(Z:Rep G H W d x M)(s:RG M j)(nd:j.Nodup)(hn:∀a∈j,W.tmp a)(q:Done G H W j d Q):Q x H:=by
 refine q x H M (Same.refl H) (Z.up ⟨Same.refl H,λb u U f=>⟨λz=>z.elim (λz=>f.1 (hn b (s.subset z)).1) λz=>f.1 z.1,f.2⟩,λ_ _ _ f=>f⟩) (λa O=>.inl (s.subset O)) (s.nodup nd)
def zf:List D->Option D
 |[.lst _ ds]=>some (.lst .own ds)
 |[.tup ds]=>some (.lst .own ds)
 |_=>none
def jY:List D->Option D
 |[.lst _ ds]=>some (.tup ds)
 |[.tup ds]=>some (.tup ds)
 |_=>none
theorem Gr(I:∀c,(X c).K=G.K:=by intro _;rfl):CaB X G (.type "list") zf:=⟨λxs H Q=>∃p ys,xs=[.ref p]/\(SqL G.K H p ys∨SqT G.K H p ys)/\∀l,H l=none->Q (.ref l) (upd H l (.lst ys)),λc=>by rw[←I c];exact tK,λds d e xs H W j r nd hn w Q q=>by
 unfold zf at e;split at e
 .cases e
  obtain⟨x,rfl,rx⟩:=r.inv1;rw[Rep]at rx;obtain⟨a,ys,M,rfl,Z,F⟩:=rx;exact⟨a,ys,rfl,.inl F.sq,λp Y=>mL Z F.sub nd hn Y q⟩
 .cases e
  obtain⟨x,rfl,rx⟩:=r.inv1;rw[Rep]at rx;obtain⟨a,ys,rfl,U,Z⟩:=rx;exact⟨a,ys,rfl,.inr (SqT.of U),λp Y=>mL Z (Tc _) nd hn Y q⟩
 .cases e⟩
theorem Bb(I:∀c,(X c).K=G.K:=by intro _;rfl):CaB X G (.type "tuple") jY:=⟨λxs H Q=>∃p ys,xs=[.ref p]/\((SqL G.K H p ys/\∀l,H l=none->Q (.ref l) (upd H l (.tup ys)))∨(SqT G.K H p ys/\Q (.ref p) H)),λc=>by rw[←I c];exact qQ,λds d e xs H W j r nd hn w Q q=>by
 unfold jY at e;split at e
 .cases e
  obtain⟨x,rfl,rx⟩:=r.inv1;rw[Rep]at rx;obtain⟨a,ys,M,rfl,Z,F⟩:=rx;exact⟨a,ys,rfl,.inl ⟨F.sq,λp Y=>sU Z F.sub nd hn Y q⟩⟩
 .cases e
  obtain⟨x,rfl,rx⟩:=r.inv1;have B:=rx;rw[Rep]at rx;obtain⟨a,ys,rfl,U,Z⟩:=rx;exact⟨a,ys,rfl,.inr ⟨SqT.of U,pQ B (Tc _) nd hn q⟩⟩
 .cases e⟩
def tyN:D->Option String
 |.non=>some "NoneType"
 |.bl _=>some "bool"
 |.int _=>some "int"
 |.str _=>some "str"
 |.tup _=>some "tuple"
 |.lst m _=>if m= .scr then none else some "list"
 |.dct m _ _=>if m= .scr then none else some "dict"
 |_=>none
def okT(n:String):Bool:=n=="int"||n=="bool"||n=="str"||n=="list"||n=="tuple"
def isT(t n:String):Bool:=t==n||(t=="bool"&&n=="int")
variable{t:String}
theorem zz{K:Pu}{n:String}(h1:tyN d=some t)(h2:okT n=true):Wy K (.type t) (.type n)=some (isT t n):=by
 have U:t="NoneType"∨t="bool"∨t="int"∨t="str"∨t="tuple"∨t="list"∨t="dict":=by
  cases d<;>simp[tyN]at h1<;>(try split at h1)<;>simp_all
 have hn:n="int"∨n="bool"∨n="str"∨n="list"∨n="tuple":=by simpa[okT,or_assoc]using h2
 rcases U with rfl|rfl|rfl|rfl|rfl|rfl|rfl<;>rcases hn with rfl|rfl|rfl|rfl|rfl<;>with_unfolding_all rfl
theorem wy(r:Rep G H W d v L)(h:tyN d=some t):jh G.K H v (.type t):=by
 cases d with
 |non=>rw[Rep]at r;obtain⟨rfl,_⟩:=r;cases h;exact .non
 |bl b=>rw[Rep]at r;obtain⟨rfl,_⟩:=r;cases h;exact .bl _
 |int b=>rw[Rep]at r;obtain⟨rfl,_⟩:=r;cases h;exact .int _
 |str b=>rw[Rep]at r;obtain⟨rfl,_⟩:=r;cases h;exact .str _
 |ty n=>cases h
 |tup ds=>rw[Rep]at r;obtain⟨a,xs,rfl,U,Z⟩:=r;cases h;exact .tup U
 |lst m ds=>
  rw[Rep]at r;obtain⟨a,xs,M,rfl,Z,F⟩:=r;simp only[tyN]at h;split at h
  .cases h
  .cases h;exact .lst (F.at ‹_›)
 |dct m ks ds=>
  rw[Rep]at r;obtain⟨a,xs,M,rfl,J,Z,F⟩:=r;simp only[tyN]at h;split at h
  .cases h
  .cases h;exact .dK (F.at ‹_›)
 |ins m c fs ds=>cases h
def vO:List D->Option (List String)
 |[]=>some []
 |.ty n::r=>(vO r).map λt=>n::t
 |_::_=>none
theorem rP:∀{ds:List D}{vs:List V}{L:List Addr}{ns:List String},aF G H W ds vs L->vO ds=some ns->vs=ns.map V.ty
 |[],vs,L,ns,r,h=>by cases h;rw[r.inv0.1];rfl
 |d::t,vs,L,ns,r,h=>by
  obtain⟨x,ys,M,M',rfl,rfl,h1,h2⟩:=r.inv;cases d<;>simp[vO]at h;obtain⟨w,N,rfl⟩:=h;rw[Rep]at h1;rw[h1.1,rP h2 N];rfl
theorem qj{K:Pu}(h1:tyN d=some t):∀{ns:List String},ns.all okT=true->WK K (.type t) (ns.map R1)=some (ns.any (isT t))
 |[],_=>rfl
 |n::r,h=>by
  rw[W7,Qo]at h;rw[PP,WK,zz h1 h.1];cases e:isT t n with
  |true=>simp[e]
  |false=>simp only[e];rw[qj h1 h.2];simp[e]
def bV:List D->Option D
 |[x,.ty n]=>(tyN x).bind λt=>if okT n=true then some (.bl (isT t n))else none
 |[x,.tup ts]=>(tyN x).bind λt=>(vO ts).bind λns=>if ns.all okT=true then some (.bl (ns.any (isT t)))else none
 |_=>none
theorem cC(I:∀c,(X c).K=G.K:=by intro _;rfl):CaB X G (.builtin "isinstance") bV:=⟨λxs H Q=>(∃x n t b,xs=[x,.ty n]/\jh G.K H x t/\Wy G.K t (.type n)=some b/\Q (.bl b) H)∨∃x tp J t b,xs=[x,.ref tp]/\H tp=some (.tup (Qc V.ty J))/\jh G.K H x t/\WK G.K t (J.map R1)=some b/\Q (.bl b) H,λc=>by rw[←I c];exact dD.or uT tW,λds d e xs H W j r nd hn w Q q=>by
 unfold bV at e;split at e
 .rename_i x n
  cases e1:tyN x with
  |none=>simp[e1]at e
  |some t=>
   rw[e1]at e;simp only[Pb]at e;split at e
   .cases e
    obtain⟨u,v,M,N,rfl,rfl,rx,B⟩:=r.inv2;rw[Rep]at B;obtain⟨rfl,_⟩:=B;exact .inl ⟨u,n,_,_,rfl,wy rx e1,zz e1 ‹_›,q.scal λ_=>dR⟩
   .cases e
 .rename_i x ts
  cases e1:tyN x with
  |none=>simp[e1]at e
  |some t=>
   cases e2:vO ts with
   |none=>simp[e1,e2]at e
   |some ns=>
    rw[e1,e2]at e;simp only[Pb]at e;split at e
    .cases e
     obtain⟨u,v,M,N,rfl,rfl,rx,B⟩:=r.inv2;rw[Rep]at B;obtain⟨a,ys,rfl,U,Z⟩:=B;have:=rP Z e2;subst this;exact .inr ⟨u,a,ns,_,_,rfl,U,wy rx e1,qj e1 ‹_›,q.scal λ_=>dR⟩
    .cases e
 .cases e⟩
theorem di:∀{ds:List D},(∀d∈ds,aA d=true)->aB ds=true
 |[],_=>rfl
 |d::r,h=>by rw[aB,h d (by simp),di λe V=>h e (by simp[V])];rfl
theorem cP:∀{ds:List D},(∀d∈ds,az d=true)->aD ds=true
 |[],_=>rfl
 |d::r,h=>by rw[aD,h d (by simp),cP λe V=>h e (by simp[V])];rfl
theorem aF.takeDrop(h:aF G H W ds xs L)(k:Nat):∃A B,aF G H W (ds.take k) (xs.take k) A/\aF G H W (ds.drop k) (xs.drop k) B/\L=A++B:=by
 rw[←Qj k ds]at h;obtain⟨ys,zs,A,B,rfl,rfl,h1,h2⟩:=h.split;have Z:=h1.length;by_cases J:k<=ds.length
 .have hk':ys.length=k:=by rw[←Z,Rm];omega
  refine⟨A,B,?_,?_,rfl⟩
  .rw[←hk',List.take_left,hk'];exact h1
  .rw[←hk',List.drop_left,hk'];exact h2
 .have e1:ds.take k=ds:=RM (by omega)
  have e2:ds.drop k=[]:=Rb (by omega);rw[e1]at h1 Z;rw[e2]at h2;obtain⟨rfl,rfl⟩:=h2.inv0;refine⟨A,[],?_,?_,by simp⟩
  .rw[e1,Ql,RM (by omega)];exact h1
  .rw[e2,Ql,Rb (by omega)];exact .nil
def cV:List Key->List D->List (Key×D)->List Key×List D
 |ks,ds,[]=>(ks,ds)
 |ks,ds,p::r=>cV (gq ks ds p.1 p.2).1 (gq ks ds p.1 p.2).2 r
theorem HX{N:List Addr}(Z:aF G H W ds (Qc (·.2) kvs) M)(hn:(Qc (·.1) kvs).Nodup)(J:Rep G H W d x N)(nd:(M++N).Nodup) :
  (Qc (·.1) (putK kvs k x)=(gq (Qc (·.1) kvs) ds k d).1/\(Qc (·.1) (putK kvs k x)).Nodup)/\(putK kvs k x).length<=kvs.length+1/\∃M',aF G H W (gq (Qc (·.1) kvs) ds k d).2 (Qc (·.2) (putK kvs k x)) M'/\M'.Nodup/\∀a∈M',a∈M∨a∈N:=by
 have U:=Qg.mp nd;cases F:jf (kvs.map (·.1)) k with
 |some j=>
  have a1:j<ds.length:=by rw[Z.length];simpa using uw F
  obtain⟨A,M1,B,a2,q⟩:=Z.set (Py a1) J;obtain⟨p1,p2⟩:=uV (v:=x) F hn;have I:RG (A++B) M:=by rw[a2];exact(Tc A).append (RQ M1 B)
  have Y:=Qg.mp (I.nodup U.1);have a0:∀z∈N,z∉A++B:=λz h1 h2=>U.2.2 z (I.subset h2) z h1 rfl;simp only[gq,F];refine⟨⟨p1,by rw[p1];exact hn⟩,?_,A++(N++B),by rw[p2];exact q,cX Y.1 (cX U.2.1 Y.2.1 λz h1 h2=>a0 z h1 (by simp[h2])) λz h1 h2=>?_,λa O=>?_⟩
  .have:(putK kvs k x).length=kvs.length:=by have:=congrArg Uy p1;simpa using this
   omega
  .rcases Mz.mp h2 with y|y
   .exact a0 z y (by simp[h1])
   .exact Y.2.2 z h1 z y rfl
  .simp only[Mz]at O
   rcases O with z|z|z
   .exact .inl (I.subset (by simp[z]))
   .exact .inr z
   .exact .inl (I.subset (by simp[z]))
 |none=>
  simp only[gq,F];have e:putK kvs k x=kvs++[(k,x)]:=oN F;rw[e];refine⟨⟨by simp,?_⟩,by simp,M++N,by rw[Sd];exact Z.append (.one J),nd,λa O=>Mz.mp O⟩;rw[Sd];exact Qg.mpr ⟨hn,by simp,λa h1 b h2 z=>by
   obtain rfl:b=k:=by simpa using h2
   exact qI F (z▸h1)⟩
theorem ql{H:Hp}{W:Wn}:∀{es:List (Key×D)}{prs kvs:List (Key×V)}{ds:List D}{M N:List Addr},Qc (·.1) es=Qc (·.1) prs->aF G H W (Qc (·.2) es) (Qc (·.2) prs) N->aF G H W ds (Qc (·.2) kvs) M->(Qc (·.1) kvs).Nodup->(M++N).Nodup->
  (Qc (·.1) (putAll kvs prs)=(cV (Qc (·.1) kvs) ds es).1/\(Qc (·.1) (putAll kvs prs)).Nodup)/\∃M',aF G H W (cV (Qc (·.1) kvs) ds es).2 (Qc (·.2) (putAll kvs prs)) M'/\M'.Nodup/\∀a∈M',a∈M∨a∈N
 |[],prs,kvs,ds,M,N,hk,h1,h2,hn,nd=>by
  have:prs=[]:=by cases prs with
   |nil=>rfl
   |cons p r=>cases hk
  subst this;exact⟨⟨rfl,hn⟩,M,h2,(Qg.mp nd).1,λa O=>.inl O⟩
 |e::es,prs,kvs,ds,M,N,hk,h1,h2,hn,nd=>by
  cases prs with
  |nil=>cases hk
  |cons p prs=>
   obtain⟨x,ys,N1,N2,Z,rfl,J,a4⟩:=aF.inv h1;simp only[PP,List.cons.injEq]at hk Z;obtain⟨rfl,rfl⟩:=Z;have a0:=Qg.mp nd;have a1:=Qg.mp a0.2.1;have a5:(M++N1).Nodup:=cX a0.1 a1.1 λa z1 B=>a0.2.2 a z1 a (by simp[B]) rfl;obtain⟨⟨q1,q2⟩,q,U,q4,q5,q6⟩:=HX (k:=p.1) h2 hn J a5;have a3:(U++N2).Nodup:=cX q5 a1.2.1 λa z1 B=>by
    rcases q6 a z1 with z|z
    .exact a0.2.2 a z a (by simp[B]) rfl
    .exact a1.2.2 a z a B rfl
   rw[←hk.1]at q1 q2 q4;have F:=ql (es:=es) (prs:=prs) (kvs:=putK kvs e.1 p.2) hk.2 a4 q4 q2 a3;rw[q1]at F;obtain⟨⟨Y,j⟩,M',I,r4,r5⟩:=F;have a2:putAll kvs (p::prs)=putAll (putK kvs e.1 p.2) prs:=by rw[hk.1];rfl
   rw[a2];refine⟨⟨Y,j⟩,M',I,r4,λa O=>?_⟩;rcases r5 a O with z|z
   .exact(q6 a z).imp id λz=>by simp[z]
   .exact .inr (by simp[z])
theorem mQ(P:D->Prop):∀{es:List (Key×D)}{ks:List Key}{ds:List D},(∀d∈ds,P d)->(∀p∈es,P p.2)->∀d∈(cV ks ds es).2,P d
 |[],ks,ds,h1,h2=>h1
 |p::r,ks,ds,h1,h2=>by
  rw[cV];refine mQ P (λd hd=>?_) λq N=>h2 q (by simp[N]);unfold gq at hd;split at hd
  .rcases List.mem_or_eq_of_mem_set hd with z|z
   .exact h1 d z
   .rw[z];exact h2 p (by simp)
  .rcases Mz.mp hd with z|z
   .exact h1 d z
   .obtain rfl:d=p.2:=by simpa using z
    exact h2 p (by simp)
def vQ:List D->Option (List (Key×D))
 |[]=>some []
 |.tup [k,v]::r=>(kY k).bind λk=>(vQ r).map λt=>(k,v)::t
 |_::_=>none
theorem Fp{k:D}{j:Key}(h:kY k=some j)(r:Rep G H W k x L):L=[]:=by
 cases k<;>simp[kY]at h<;>rw[Rep]at r<;>exact r.2
theorem wN{H:Hp}{W:Wn}:∀{ds:List D}{es:List (Key×D)}{ys:List V}{N:List Addr},vQ ds=some es->aF G H W ds ys N->∃prs:List (Key×V),Qc (·.1) es=Qc (·.1) prs/\aF G H W (Qc (·.2) es) (Qc (·.2) prs) N/\prs.length=ys.length/\∀(j:Nat)(k:Key)(v:V),prs[j]? =some (k,v)->∃p:Addr,ys[j]? =some (V.ref p)/\H p=some (.tup [kV k,v])
 |[],es,ys,N,h,r=>by
  cases h;obtain⟨rfl,rfl⟩:=r.inv0;exact⟨[],rfl,.nil,rfl,λj k v e=>by simp at e⟩
 |d::r,es,ys,N,h,rr=>by
  unfold vQ at h;split at h
  .rename_i e;cases e
  .rename_i k v t e
   cases e;cases h1:kY k with
   |none=>simp[h1]at h
   |some Y=>
    cases h2:vQ r with
    |none=>simp[h1,h2]at h
    |some w=>
     obtain rfl:(Y,v)::w=es:=by simpa[h1,h2]using h
     obtain⟨x,zs,N1,N2,rfl,rfl,J,hz⟩:=rr.inv;obtain⟨prs,I,O,g3,q⟩:=wN h2 hz;rw[Rep]at J;obtain⟨a,xs,rfl,U,a1⟩:=J;obtain⟨y1,F,A,B,rfl,rfl,a0,a2⟩:=a1.inv2;have Z:=Fp h1 a0;subst Z;have:=pA a0 h1;subst this;refine⟨(Y,F)::prs,by simp[I],.cons a2 O,by simp[g3],λj k v e=>?_⟩;cases j with
     |zero=>
      simp at e;obtain⟨rfl,rfl⟩:=e;exact⟨a,rfl,U⟩
     |succ j=>exact q j k v (by simpa using e)
  .cases h
theorem bN.at2{j:Addr->HO->Prop}(h:bN j H W a o m L M)(V:(m== .scr)=false):H a=some o:=h.at (by intro z;rw[z]at V;cases V)
def pZ:List D->Option D
 |[.lst m ds]=>if(m== .scr)=false/\ds.length<=50000 then(vQ ds).map λes=>.dct .own (cV [] [] es).1 (cV [] [] es).2 else none
 |_=>none
theorem Df(Y:∀c,(X c).calm=true):CaB X G (.type "dict") pZ:=⟨_,λc=>nM (Y c),λds d e xs H W j r nd hn w Q q=>by
 unfold pZ at e;split at e
 .rename_i m ds
  split at e
  .rename_i hm
   cases h1:vQ ds with
   |none=>simp[h1]at e
   |some es=>
    obtain rfl:D.dct .own (cV [] [] es).1 (cV [] [] es).2=d:=by simpa[h1]using e
    obtain⟨x,rfl,rx⟩:=r.inv1;rw[Rep]at rx;obtain⟨a,ys,M,rfl,Z,F⟩:=rx;obtain⟨prs,I,g2,J,g4⟩:=wN h1 Z;have N:M.Nodup:=F.sub.nodup nd;obtain⟨⟨p1,p2⟩,M',V,p4,p5⟩:=ql (kvs:=[]) (M:=[]) I g2 .nil (by simp) (by simpa using N);refine⟨a,ys,prs,rfl,F.at2 hm.1,J,by rw[J,←Z.length];exact hm.2,g4,λp hp=>?_⟩;have sm:Same H (upd H p (.dK (putAll [] prs))):=Same.new hp;have np:p∉M':=λz=>by obtain⟨o,B,_⟩:=V.dom p z;rw[hp]at B;cases B
    have a0:∀a∈M',a∈j:=λa O=>(p5 a O).elim (λz=>by cases z) λz=>F.sub.subset z;refine q (.ref p) _ (p::M') sm ?_ (λa O=>(Pj.mp O).elim (λz=>.inr (by rw[z];exact hp)) λz=>.inl (a0 a z)) (QC.mpr ⟨np,p4⟩);rw[Rep];exact⟨p,putAll [] prs,M',rfl,⟨p1,p1▸p2⟩,V.up ⟨sm,λb u U f=>⟨λz=>z.elim (λz=>(Pj.mp z).elim (λz=>by rw[z,hp]at U;cases U) λz=>f.1 (hn b (a0 b z)).1) λz=>f.1 z.1,f.2⟩,λ_ _ _ f=>f⟩,aZ,rfl⟩
  .cases e
 .cases e⟩
theorem Af{ks:List Key}(h1:aB ds=true)(h2:aD ds=true):clean (.dct .own ks ds)=true:=by simp[clean,aA,az,h1,h2]
def eMt(g:D->List D->Option D)(V:En->Option D)(f:En->Option (List D)):En->Option D:=λρ=>(V ρ).bind λx=>(f ρ).bind λds=>g x ds
theorem Od{id:String}{Y:Str}{g:D->List D->Option D}{o:Expr}{V:En->Option D}{f:En->Option (List D)}(m:MtB X G T id g)(pa:PlainAttrs T)(slot:Slot T Y id)(N:typeOf (.builtin id)=pure (.type "method_descriptor"))(B:PV X G ob o V)(O:PVA X G ob (e::es) f)(U:∀c,YQ o Y (X c).env (eval o (X c).env)=eval o (X c).env:=by intro _;rfl)(J:∀c,((SM cpos (PK (e::es) (X c).env)).all (λx=>!x.1)&&(backToKw cpos (Z3 [] (X c).env)).all (λx=>x.1.isSome)
  &&decide ((e::es).length+([]:List Yr).length+(if([]:List Yr).isEmpty then 0 else 1)<30))=true:=by intro _;rfl) (j:(apos.endLine==cpos.line)=true:=by rfl) (F:∀c,PK (e::es) (X c).env=(false,eval e (X c).env)::PK es (X c).env:=by intro _;rfl) (q:∀c,(SM cpos (PK es (X c).env)).any (·.1)=false:=by intro _;rfl) (I:∀c,(X c).K=G.K:=by intro _;rfl) :
 PV X G ob (.Call (.Attribute o Y apos) (e::es) [] cpos) (eMt g V f):=let⟨r,m1,m2,m3⟩:=m.ex;let⟨t,a1,a2⟩:=B.ex;let⟨u,b1,b2⟩:=O.ex;⟨_,λc=>(by rw[←I c];exact Jj pa slot N (m1 c) (a1 c) (b1 c) (U c) (J c) j (F c) (q c)),M9 m2 m3 a2 b2⟩
def uq(a b:Str):Option (List Str):=
 if(decide (a.length<b.length)||decide (Vh a<Vh b))=false/\(b.length==0)=false/\(Tj a b 0 a.length (a.length+1)).isEmpty=false/\a.length<=Px/\(Vq a (Tj a b 0 a.length (a.length+1)) b.length).length<=Px
 then some (Vq a (Tj a b 0 a.length (a.length+1)) b.length)else none
def pX:D->List D->Option D
 |.str a,[.str b]=>(uq a b).map λl=>.lst .own (l.map D.str)
 |_,_=>none
theorem v8:∀l:List Str,aF G H W (l.map D.str) (l.map V.str) []
 |[]=>.nil
 |x::r=>aF.cons (M:=[]) (M':=[]) (by rw[Rep];exact⟨rfl,rfl⟩) (v8 r)
theorem Bt:MtB X G "str" "str.split" pX:=⟨_,λc=>Gj,λdx ds d e x xs H W I j rx r nd hn w Q q=>(by
 unfold pX at e;split at e
 .rename_i a b
  cases h1:uq a b with
  |none=>simp[h1]at e
  |some l=>
   obtain rfl:D.lst .own (l.map D.str)=d:=by simpa[h1]using e
   obtain⟨y,rfl,B⟩:=r.inv1;obtain⟨rfl,rfl⟩:=bI rx;obtain⟨rfl,rfl⟩:=bI B;unfold uq at h1;split at h1
   .rename_i hh
    cases h1;refine⟨a,b,_,rfl,rfl,hh.1,hh.2.1,hh.2.2.1,hh.2.2.2.1,rfl,hh.2.2.2.2,λp Y=>?_⟩;refine q (.ref p) _ [p] (Same.new Y) ?_ (λa O=>.inr (by rw[show a=p by simpa using O];exact Y)) (by simp);rw[Rep];exact⟨p,_,[],rfl,v8 _,aZ,rfl⟩
   .cases h1
 .cases e),λdx ds d e x H W I rx=>by
 unfold pX at e;split at e
 .obtain⟨rfl,rfl⟩:=bI rx
  exact rfl
 .cases e⟩
def RfO(G:Gc)(ob:Nat->Bool)(t:TO)(f:En->Option (Option Int)):Prop:=∀(ρ:En)(o:Option Int),f ρ=some o->∀(σ:L2.St)(H:Hp)(W:Wn),Rel G H W ob ρ σ->WOk H W->∀Q:Option Int->Hp->Prop,(∀H',Same H H'->Q o H')->t σ H Q
structure PVO{ι:Type}(X:ι->Cx)(G:Gc)(ob:Nat->Bool)(e:Option Expr)(f:En->Option (Option Int)):Prop where
 mk::(ex:∃t,(∀c,PO (X c) e t)/\RfO G ob t f)
def m8:En->Option (Option Int):=λ_=>some none
def lE(f:En->Option D):En->Option (Option Int):=λρ=>(f ρ).bind λd=>match d with
 |.int i=>some (some i)
 |_=>none
theorem pI:PVO X G ob none m8:=⟨_,λc=>HF,λρ o e σ H W J w Q q=>by cases e;exact q H (Same.refl H)⟩
variable{f:En->Option D}
theorem pO(h:PV X G ob e f):PVO X G ob (some e) (lE f):=let⟨t,a1,a2⟩:=h.ex;⟨_,λc=>HJ (a1 c),λρ o e σ H W J w Q q=>by
 unfold lE at e;cases h1:f ρ with
 |none=>simp[h1]at e
 |some d=>
  rw[h1]at e;simp only[Pb]at e;split at e
  .cases e
   refine a2 ρ _ h1 σ H W J w _ λv H' L s r fr nd=>?_;obtain⟨rfl,rfl⟩:=aR r;exact⟨_,rfl,q H' s⟩
  .cases e⟩
def SlV(G:Gc)(r:V->Option Int->Option Int->Hp->VK->Prop)(g:D->Option Int->Option Int->Option D):Prop:=∀(dx:D)(lo hi:Option Int)(d:D),g dx lo hi=some d->∀(x:V)(H:Hp)(W:Wn)(I:List Addr),Rep G H W dx x I->I.Nodup->(∀a∈I,W.tmp a)->WOk H W->∀Q:VK,Done G H W I d Q->r x lo hi H Q
structure SlB{ι:Type}(X:ι->Cx)(G:Gc)(g:D->Option Int->Option Int->Option D):Prop where
 ex:∃r,(∀c,SlR (X c) r)/\SlV G r g
def Er(g:D->Option Int->Option Int->Option D)(f:En->Option D)(Y j:En->Option (Option Int)):En->Option D:=λρ=>(f ρ).bind λx=>(Y ρ).bind λl=>(j ρ).bind λh=>g x l h
def yq(g:D->Option Int->Option Int->Option D)(f:En->Option (D×En))(Y j:En->Option (Option Int)):En->Option (D×En):=λρ=>(f ρ).bind λp=>(Y p.2).bind λl=>(j p.2).bind λh=>(g p.1 l h).map λd=>(d,p.2)
variable{r:V->Option Int->Option Int->Hp->VK->Prop}{g:D->Option Int->Option Int->Option D}
theorem N_{tl th:TO}{fl fh:En->Option (Option Int)}(B:SlV G r g)(h:RfE G ob te f)(hl:RfO G ob tl fl)(I:RfO G ob th fh):RfE G ob (tSl r te tl th) (Er g f fl fh):=λρ d e σ H W J w Q q=>by
 unfold Er at e;cases h1:f ρ with
 |none=>simp[h1]at e
 |some x=>
  cases h2:fl ρ with
  |none=>simp[h1,h2]at e
  |some l=>
   cases N:fh ρ with
   |none=>simp[h1,h2,N]at e
   |some u=>
    have e:g x l u=some d:=by simpa[h1,h2,N]using e
    refine h ρ x h1 σ H W J w _ λv H1 L Z Y fr nd=>?_;have u1:Up H H1 W (W.add L):=.add Z fr;have w1:WOk H1 (W.add L):=w.add Z Y.dom;refine hl ρ l h2 σ H1 _ (J.up u1) w1 _ λH2 F=>?_;have u2:Up H1 H2 (W.add L) (W.add L):=.same F;have w2:WOk H2 (W.add L):=λa O=>let⟨o,B,hm⟩:=w1 a O;⟨o,F a o B,hm⟩;refine I ρ u N σ H2 _ ((J.up u1).up u2) w2 _ λj s3=>?_;have u3:Up H2 j (W.add L) (W.add L):=.same s3;have w3:WOk j (W.add L):=λa O=>let⟨o,B,hm⟩:=w2 a O;⟨o,s3 a o B,hm⟩;have ss:=(Z.trans F).trans s3;refine B x l u d e v j _ L ((Y.up u2).up u3) nd (w.tmp fr) w3 Q λv' H4 L4 s4 r4 f4 n4=>?_;refine q v' H4 L4 (ss.trans s4) ?_ (λa O=>(f4 a O).elim (fr a) λz=>ss.none' z) n4;exact r4.up ⟨Same.refl _,λb u U f=>⟨λz=>z.elim (λz=>f.1 (.inl z)) λz=>f.1 (.inr ⟨.inr z,WOk.new w fr z⟩),f.2⟩,λ_ _ _ f=>f⟩
variable{f:En->Option (D×En)}
theorem J8{tl th:TO}{fl fh:En->Option (Option Int)}(B:SlV G r g)(h:iz G ob te f)(hl:RfO G ob tl fl)(hh:RfO G ob th fh):iz G ob (tSl r te tl th) (yq g f fl fh):=λρ d I e σ H S Fr s Q q=>by
 unfold yq at e;cases h1:f ρ with
 |none=>simp[h1]at e
 |some p=>
  obtain⟨x,ρ1⟩:=p;cases h2:fl ρ1 with
  |none=>simp[h1,h2]at e
  |some l=>
   cases N:fh ρ1 with
   |none=>simp[h1,h2,N]at e
   |some u=>
    cases h4:g x l u with
    |none=>simp[h1,h2,N,h4]at e
    |some d'=>
     obtain⟨rfl,rfl⟩:d'=d/\ρ1=I:=by simpa[h1,h2,N,h4]using e
     refine h ρ x _ h1 σ H S Fr s _ λv H1 L S1 Z rx nd ef=>?_;refine hl _ l h2 σ H1 _ Z.rel Z.wok _ λH2 J=>?_;have F:=Z.grow J λa z=>.inl z;refine hh _ u N σ H2 _ F.rel F.wok _ λj k3=>?_;have Y:=F.grow k3 λa z=>.inl z;have a0:Eff ob H j S S1 L:=⟨λb u U n=>k3 b u (J b u (ef.kp b u U n)),ef.sn,ef.gr,ef.fm⟩;refine B x l u _ h4 v j _ L ((rx.up (.same J)).up (.same k3)) nd (λa O=>Y.tmp (.inl O)) Y.wok Q λv' H4 L4 s4 r4 f4 n4=>?_;obtain⟨q1,q2,q3⟩:=Fj Y a0 s4 r4 f4 s;exact q v' H4 L4 S1 q1 q2 n4 q3
def cutD(ds:List D)(lo hi:Option Int):List D:=(ds.drop (HT.sIx ds.length 0 lo)).take (HT.sIx ds.length ds.length hi-HT.sIx ds.length 0 lo)
def gSl:D->Option Int->Option Int->Option D
 |.lst _ ds,lo,hi=>some (.lst .own (cutD ds lo hi))
 |.tup ds,lo,hi=>some (.tup (cutD ds lo hi))
 |_,_,_=>none
theorem aF.cut(h:aF G H W ds xs L)(lo hi:Option Int):∃M,aF G H W (cutD ds lo hi) (o7 xs lo hi) M/\RG M L:=by
 unfold cutD o7;rw[h.length];obtain⟨A,B,_,h2,rfl⟩:=h.takeDrop (HT.sIx xs.length 0 lo);obtain⟨Z,j,N,_,rfl⟩:=h2.takeDrop (HT.sIx xs.length xs.length hi-HT.sIx xs.length 0 lo);exact⟨Z,N,(Vr Z j).trans (RQ A _)⟩
theorem slb(I:∀c,(X c).K=G.K:=by intro _;rfl):SlB X G gSl:=⟨λx lo hi H Q=>Oq G.K x lo hi H Q∨Nb G.K x lo hi H Q,λc=>by rw[←I c];exact SlR.or Gv K3,λdx lo hi d e x H W J rx nd hn w Q q=>by
 unfold gSl at e;split at e
 .cases e
  rw[Rep]at rx;obtain⟨a,xs,M,rfl,Z,F⟩:=rx;obtain⟨M',h1,h2⟩:=Z.cut lo hi;exact .inl ⟨a,xs,rfl,F.sq,λp Y=>mL h1 (h2.trans F.sub) nd hn Y q⟩
 .rename_i ds
  cases e;have B:=rx;rw[Rep]at rx;obtain⟨a,xs,rfl,U,Z⟩:=rx;obtain⟨M',h1,h2⟩:=Z.cut lo hi;refine .inr ⟨a,xs,rfl,SqT.of U,λj=>?_,λp Y=>sU h1 h2 nd hn Y q⟩;rw[j]at h1;refine pQ (d:=.tup (cutD ds lo hi)) (x:=.ref a) (M:=M') ?_ h2 nd hn q;rw[Rep];exact⟨a,xs,rfl,U,h1⟩
 .cases e⟩
def eSl:=Er gSl
def Fy:=yq gSl
theorem CP{lo hi:Option Expr}{p2:Pos}{f:En->Option D}{Y j:En->Option (Option Int)}(o:SlB X G gSl)(h:PV X G ob e f)(Z:PVO X G ob lo Y)(I:PVO X G ob hi j):PV X G ob (.Subscript e (.Slice lo hi none p2) pos) (eSl f Y j):=let⟨r,o1,o2⟩:=o.ex;let⟨t,a1,a2⟩:=h.ex;let⟨u,b1,b2⟩:=Z.ex;let⟨v,c1,c2⟩:=I.ex;⟨_,λc=>vV (o1 c) (a1 c) (b1 c) (c1 c),N_ o2 a2 b2 c2⟩
theorem sW{lo hi:Option Expr}{p2:Pos}{Y j:En->Option (Option Int)}(o:SlB X G gSl)(h:PVe X G ob e f)(Z:PVO X G ob lo Y)(I:PVO X G ob hi j):PVe X G ob (.Subscript e (.Slice lo hi none p2) pos) (Fy f Y j):=let⟨r,o1,o2⟩:=o.ex;let⟨t,a1,a2⟩:=h.ex;let⟨u,b1,b2⟩:=Z.ex;let⟨v,c1,c2⟩:=I.ex;⟨_,λc=>vV (o1 c) (a1 c) (b1 c) (c1 c),J8 o2 a2 b2 c2⟩
def inK(S:List Key)(k:Key):Bool:=S.any λx=>decide (x=k)
def lO(S:List Key)(k:Key):List Key:=if inK S k then S else S++[k]
def uz(ks:List Key):List Key:=ks.foldl lO []
variable{S:List Key}
theorem jH:inK S k=true↔k∈S:=by
 unfold inK;rw[Xu];constructor
 .rintro⟨x,h1,h2⟩
  rw[←of_decide_eq_true h2];exact h1
 .exact λh=>⟨k,h,by simp⟩
theorem GC{x:Key}:inK (lO S k) x=(inK S x||decide (x=k)):=by
 rw[aan,Wr,jH,jH,decide_eq_true_iff];unfold lO;split
 .rename_i h
  rw[jH]at h;exact⟨.inl,λz=>z.elim id λz=>by rw[z];exact h⟩
 .simp
theorem wg:(lO S k).length=if inK S k then S.length else S.length+1:=by
 unfold lO;split<;>simp
theorem DW{P:QG}{w:World}(r:RelV (kV k) u):u.scannable=true:=by
 cases k with
 |inl i=>obtain⟨t,rfl⟩:=r;rfl
 |inr x=>obtain⟨t,rfl⟩:=r;rfl
noncomputable abbrev jN(j:Bool):Obj:={cls:=.type "set",dict:=none,data:=.set #[] 0 (.fresh 0 0 j)}
variable{bs:List Bool}
theorem range_all:((Qq bs.length).all λi=>bs.getD i true)=bs.all id:=by
 induction bs with
 |nil=>rfl
 |cons b r F=>
  rw[QL,V3,W7,Zk,W7,←F];rfl
theorem Ma(F:Vals (bs.map V.bl) its){i:Nat}{v:Value}(h:its.toArray[i]? =some v):v= .bool (bs.getD i true):=by
 have h:its[i]? =some v:=by simpa using h
 have Z:=F.length;rw[Qe]at Z;have hi:i<bs.length:=by rw[Z];exact(Mx.mp h).1
 obtain⟨u,h1,h2⟩:=F.get (show(bs.map V.bl)[i]? =some (V.bl bs[i])by rw[List.getElem?_map,Py hi];rfl);rw[h]at h1;cases h1;cases h2;simp[List.getD,hi]
variable{X:Cx}
theorem Bq{s:zc}{xs:List V}(I:Inv X pins σ H s)(N:s.heap.IsList a its.toArray) :
  a≠s.heap.objs.size:=by
 obtain⟨o,h,_⟩:=N;exact PN (Ph h)
theorem Bu(Y:X.calm=true):dD X (.builtin "all") (λxs H Q=>∃a bs,xs=[.ref a]/\SqL X.K H a (Qc V.bl bs)/\Q (.bl (List.all bs id)) H):=by
 intro pins s σ H xs B Q I r h;obtain⟨a,bs,rfl,N,q⟩:=h;obtain⟨u,rfl,U⟩:=vals1 r;cases U;obtain⟨its,rv,O,hz⟩:=I.list N;have hh:X.A.handled=none:=I.ok.hd Y;have ne:a≠s.heap.objs.size:=Bq (xs:=[]) I O.isList;have Z:=rv.length;rw[Qe]at Z;refine call_all_walk (VF O.isList ⟨s.heap.objs.size,[s.heap.objs.size,a],[s.heap.objs.size],its.toArray.size,_,_,λi=>bs.getD i true,rfl,Walks.list (show X.A.in1.handled=none from hh) s.heap.objs.size a ne its.toArray,⟨⟨_,Pz _ rfl,rfl,rfl⟩,O.isList.push _⟩,λi v F J j hP hQ=>?_,λh' tk kp=>?_⟩)
 .rw[Ma rv hP]
  exact S9 hQ
 .rw[List.size_toArray,←Z,range_all]
  exact⟨.bl _,H,I.kept (t':=tk) λb o e=>kp b o (by simp;exact PN (Ph e)) (gD _ e),rfl,q⟩
def De:D->D->Option D
 |.lst _ ds,.int i=>if i= -1 then some (.lst .own ds.reverse)else none
 |.tup ds,.int i=>if i= -1 then some (.tup ds.reverse)else if i=1 then some (.tup ds)else none
 |_,_=>none
def yd:List D->Option (List Bool)
 |[]=>some []
 |.bl b::r=>(yd r).map λt=>b::t
 |_::_=>none
theorem uW:∀{ds:List D}{bs:List Bool}{xs:List V}{L:List Addr},yd ds=some bs->aF G H W ds xs L->xs=bs.map V.bl
 |[],ks,xs,L,h,r=>by cases h;exact r.inv0.1
 |d::t,ks,xs,L,h,r=>by
  obtain⟨x,ys,M,M',rfl,rfl,h1,h2⟩:=r.inv;cases d<;>simp[yd]at h;obtain⟨w,N,rfl⟩:=h;rw[Rep]at h1;rw[uW N h2,h1.1];rfl
def Et:List D->Option D
 |[.lst _ ds]=>(yd ds).map λbs=>.bl (bs.all id)
 |_=>none
variable{X:ι->Cx}
theorem Im(Y:∀c,(X c).calm=true)(I:∀c,(X c).K=G.K:=by intro _;rfl):CaB X G (.builtin "all") Et:=⟨λxs H Q=>∃a bs,xs=[.ref a]/\SqL G.K H a (Qc V.bl bs)/\Q (.bl (List.all bs id)) H,λc=>by rw[←I c];exact Bu (Y c),λds d e xs H W j r nd hn w Q q=>by
 unfold Et at e;split at e
 .rename_i m ds
  cases h1:yd ds with
  |none=>simp[h1]at e
  |some ks=>
   obtain rfl:D.bl (ks.all id)=d:=by simpa[h1]using e
   obtain⟨x,rfl,rx⟩:=r.inv1;rw[Rep]at rx;obtain⟨a,ys,M,rfl,Z,F⟩:=rx;have:=uW h1 Z;subst this;exact⟨a,ks,rfl,F.sq,q.scal λ_=>dR⟩
 .cases e⟩
def Bj:D->Bool
 |.non=>true
 |.bl _=>true
 |.int _=>true
 |.str _=>true
 |_=>false
theorem K5(h:Bj d=true)(r:Rep G H W d v L):L=[]/\∀H' W',Rep G H' W' d v []:=by
 cases d<;>simp[Bj]at h<;>rw[Rep]at r<;>obtain⟨rfl,rfl⟩:=r<;>exact⟨rfl,λ_ _=>by rw[Rep];exact⟨rfl,rfl⟩⟩
def jn(g g':D->D->Option D)(fa fb fc:En->Option D):En->Option D:=λρ=>(fa ρ).bind λx=>(fb ρ).bind λy=>if Bj y then(g x y).bind λr=>match r with
 |.bl true=>(fc ρ).bind λz=>g' y z
 |.bl false=>some (.bl false)
 |_=>none else none
theorem Ew{r Z:R2}{g g':D->D->Option D}{tb tc:TE}{fa fb fc:En->Option D}(B:OpV G r g)(a0:OpV G Z g')(O:RfE G ob ta fa)(U:RfE G ob tb fb)(Y:RfE G ob tc fc):RfE G ob (CW r Z ta tb tc) (jn g g' fa fb fc):=λρ d e σ H W J w Q q=>by
 unfold jn at e;cases h1:fa ρ with
 |none=>simp[h1]at e
 |some dx=>
  cases h2:fb ρ with
  |none=>simp[h1,h2]at e
  |some dy=>
   rw[h1,h2]at e;simp only[Pb]at e;split at e
   .rename_i hsc
    cases N:g dx dy with
    |none=>simp[N]at e
    |some dr=>
     rw[N]at e;simp only[Pb]at e;refine RfE.two O U h1 h2 J w λx y H' L M s rx ry fr nd w'=>?_;obtain⟨rfl,j⟩:=K5 hsc ry;refine B dx dy dr N x y H' _ L [] rx ry nd (w.tmp fr) w' _ λv H2 L2 F r2 f2 I=>?_;split at e
     .obtain⟨rfl,rfl⟩:=iR r2
      refine⟨true,rfl,n6 ?_⟩;cases V:fc ρ with
      |none=>simp[V]at e
      |some dz=>
       have e:g' dy dz=some d:=by simpa[V]using e
       have u2:Up H H2 W W:=.same (s.trans F);have w2:WOk H2 W:=λa O=>let⟨o,B,hm⟩:=w a O;⟨o,(s.trans F) a o B,hm⟩;refine Y ρ dz V σ H2 W (J.up u2) w2 _ λz H3 L3 s3 r3 f3 n3=>?_;refine a0 dy dz d e y z H3 (W.add L3) [] L3 (j _ _) r3 (by simpa using n3) (w2.tmp f3) (w2.add s3 r3.dom) Q λv' H4 L4 s4 r4 f4 n4=>?_;refine q v' H4 L4 (((s.trans F).trans s3).trans s4) ?_ (λa O=>(f4 a O).elim (λz=>(s.trans F).none' (f3 a z)) λz=>((s.trans F).trans s3).none' z) n4;exact r4.up ⟨Same.refl _,λb u U f=>⟨λz=>z.elim (λz=>f.1 (.inl z)) λz=>f.1 (.inr ⟨.inr z,WOk.new w2 f3 z⟩),f.2⟩,λ_ _ _ f=>f⟩
     .cases e
      obtain⟨rfl,rfl⟩:=iR r2;exact⟨false,rfl,tM (q (.bl false) H2 [] (s.trans F) dR (by simp) List.nodup_nil)⟩
     .cases e
   .cases e
variable{a b:Expr}
theorem Bc{j:CmpOp}{g g':D->D->Option D}{fa fb fc:En->Option D}(o:OpB X G (Q3 op) g)(o':OpB X G (Q3 j) g')(O:PV X G ob a fa)(U:PV X G ob b fb)(Y:PV X G ob c fc)(V:lastMarks [op,j] [b,c]=false:=by with_unfolding_all rfl):PVT X G ob (.Compare a [op,j] [b,c] pos) (eB (jn g g' fa fb fc)):=
 let⟨r,o1,o2⟩:=o.ex;let⟨r',p1,p2⟩:=o'.ex;let⟨t,a1,a2⟩:=O.ex;let⟨u,b1,b2⟩:=U.ex;let⟨v,c1,c2⟩:=Y.ex;⟨_,λc=>FZ (o1 c) (p1 c) (a1 c) (b1 c) (c1 c) V,LR (Ew o2 p2 a2 b2 c2)⟩
def Oz(g:Int->Int->Int)(i:Nat)(f:En->Option D):En->Option Fl:=λρ=>match ρ[i]? with
 |some (some (.int m))=>(f ρ).bind λd=>match d with
  |.int n=>some (.nx (ρ.set i (some (.int (g m n)))))
  |_=>none
 |_=>none
def Ia(G:Gc)(ob:Nat->Bool)(wi:TI)(f:En->Option (List D×En)):Prop:=∀(ρ:En)(items:List D)(I:En),f ρ=some (items,I)->∀(σ:L2.St)(H:Hp)(S:Ad)(Fr:Addr->Prop),Sta G H ob ρ σ S Fr->∀R:It->Hp->Prop,
 (∀J H' S',Sta G H' ob I σ S' Fr->Eff ob H H' S S' []->Wk G J (LtB true H' (wn ob S' Fr)) items->R J H')->wi σ H R
structure KJ{ι:Type}(X:ι->Cx)(G:Gc)(ob:Nat->Bool)(tg it:Expr)(f:En->Option (List D×En)):Prop where
 mk::(ex:∃t,(∀c,PI (X c) tg it t)/\Ia G ob t f)
def vy(f:En->Option (List D×En)):En->Option (List D×En):=λρ=>(f ρ).bind λp=>match p.1 with
 |[.int j]=>if -(2 ^ 62)<=j/\j<2 ^ 62 then some (eO 0 j.toNat,p.2)else none
 |_=>none
theorem Hs{t:TA}{f:En->Option (List D×En)}(h:xq G ob t f):Ia G ob (Gf t) (vy f):=λρ items I e σ H S Fr s R q=>by
 unfold vy at e;cases h1:f ρ with
 |none=>simp[h1]at e
 |some p=>
  obtain⟨ds,ρ1⟩:=p;rw[h1]at e;simp only[Pb]at e;split at e
  .rename_i j
   split at e
   .rename_i hj
    obtain⟨rfl,rfl⟩:eO 0 j.toNat=items/\ρ1=I:=by simpa using e
    refine h ρ _ _ h1 σ H S Fr s _ λxs H' L S' s' rx nd Z=>?_;obtain⟨x,rfl,B⟩:=rx.inv1;obtain⟨rfl,rfl⟩:=aR B;rw[gP]at s';exact⟨j,rfl,by omega,by omega,q _ H' S' s' Z Es⟩
   .cases e
  .cases e
def Br(f:En->Option (D×En)):En->Option (List D×En):=λρ=>(f ρ).bind λp=>(bW p.1).bind λr=>if r.1=true then some (r.2,p.2)else none
variable{es:List D}
theorem FJ(r:Rep G H' (W.add L) d v L)(free:∀a∈L,W.free a)(e:bW d=some (true,es)) :
  ∃a xs,v= .ref a/\Parts G H' W true es xs/\((∀H2 B,LtB true H' W H2 B->SqL G.K H2 a xs)∨(∀H2 B,LtB true H' W H2 B->SqT G.K H2 a xs)):=by
 have q:Les H' (W.add L) W L:=⟨λa f=>⟨λz=>f.1 (.inr z),f.2⟩,free⟩;cases d with
 |lst m ds=>
  simp only[bW,S_,Vc]at e;obtain⟨j,rfl⟩:=e;rw[Rep]at r;obtain⟨a,xs,M,rfl,Z,F⟩:=r;have z:=j;simp[clean,aA,az]at z;exact⟨a,xs,rfl,⟨aF.fzo (W:=W.add L) (W':=W) (λ_ z=>z) Z (q.sub λc Y=>F.sub.subset Y),λ_=>⟨bO z.1.2,bQ z.2.2⟩⟩,.inl λH2 B l=>Ei (lQ F q (λz=>z) (λ_=>⟨z.1.1,z.2.1⟩) l)⟩
 |tup ds=>
  simp only[bW,S_,Vc]at e;obtain⟨j,rfl⟩:=e;rw[Rep]at r;obtain⟨a,xs,rfl,U,Z⟩:=r;have z:=j;simp[clean,aA,az]at z;exact⟨a,xs,rfl,⟨aF.fzo (W:=W.add L) (W':=W) (λ_ z=>z) Z q,λ_=>⟨bO z.1,bQ z.2⟩⟩,.inr λH2 B l=>l.tup U⟩
 |_=>simp[bW]at e
theorem Fq(h:iz G ob te f):Ia G ob (JW G.K te) (Br f):=λρ items I e σ H S Fr s R q=>by
 unfold Br at e;cases h1:f ρ with
 |none=>simp[h1]at e
 |some p=>
  obtain⟨d,ρ1⟩:=p;cases h2:bW d with
  |none=>simp[h1,h2]at e
  |some r=>
   obtain⟨b,es⟩:=r;cases b with
   |false=>simp[h1,h2]at e
   |true=>
    obtain⟨rfl,rfl⟩:es=items/\ρ1=I:=by simpa[h1,h2]using e
    refine h ρ d _ h1 σ H S Fr s _ λv H' M S' s' r nd Z=>?_;have U:Sta G H' ob ρ1 σ S' Fr:=s'.lessF λa z=>.inr z;have free:∀a∈M,(wn ob S' Fr).free a:=λa O=>⟨λz=>?_,λ⟨i,_,z⟩=>s'.fdj i a (.inl O) z,λ⟨i,_,z⟩=>s'.fdj i a (.inl O) z⟩
    .obtain⟨a,xs,rfl,p,F⟩:=FJ (W:=wn ob S' Fr) r free h2
     have J:Eff ob H H' S S' []:=⟨Z.kp,Z.sn,Z.gr,by simp⟩;refine⟨a,rfl,?_⟩;have N:LtB true H' (wn ob S' Fr) H' (wn ob S' Fr):=LtB.up Up.refl;rcases F with F|F
     .refine .inl ⟨⟨xs,F H' _ N⟩,q _ H' S' U J ⟨λi d e H2 B l=>?_,λi d e H2 B l x j y=>?_,λH2 B l=>?_⟩⟩
      .obtain⟨x,hx⟩:=p.r.getV e
       exact⟨xs,x,F H2 B l,hx⟩
      .obtain⟨rfl,y⟩:=y
       exact⟨Same.refl _,p.at l e (y xs (F _ B l))⟩
      .exact⟨xs,F H2 B l,by rw[p.r.length];exact Pg _⟩
     .refine .inr ⟨⟨xs,F H' _ N⟩,q _ H' S' U J ⟨λi d e H2 B l=>?_,λi d e H2 B l x j y=>?_,λH2 B l=>?_⟩⟩
      .obtain⟨x,hx⟩:=p.r.getV e
       exact⟨xs,x,F H2 B l,hx⟩
      .obtain⟨rfl,y⟩:=y
       exact⟨Same.refl _,p.at l e (y xs (F _ B l))⟩
      .exact⟨xs,F H2 B l,by rw[p.r.length];exact Pg _⟩
    .rcases Z.fm a O with⟨i,_,y⟩|y
     .exact s.fdj i a z y
     .obtain⟨o,ho,_⟩:=s.fdm a z
      rw[y]at ho;cases ho
def rH(it:En->Option (List D×En))(tg:D->En->Option En)(O:En->Option Fl):En->Option Fl:=λρ=>(it ρ).bind λp=>forL tg O p.1 p.2
variable{it:En->Option (List D×En)}
theorem Ej{g:TG}(hi:Ia G ob wi it)(hg:RfG G ob P g tg)(U:RfS G ob P tb O):RfS G ob P (La wi g tb) (rH it tg O):=λρ0 r e σ H0 S0 Fr s0 E q=>by
 unfold rH at e;cases h1:it ρ0 with
 |none=>simp[h1]at e
 |some p=>
  obtain⟨items,ρ⟩:=p;have e:forL tg O items ρ=some r:=by simpa[h1]using e
  refine hi ρ0 items ρ h1 σ H0 S0 Fr s0 _ λJ H1 S Z ef wk=>?_;have m1:Mv P H0 H1 σ σ S0 S []:=ef.mv;have q1:=q.from m1;have a0:∀{ρ2:En}{σ2:L2.St}{H2:Hp}{S2:Ad},Mv P H1 H2 σ σ2 S S2 []->LtB true H1 (wn ob S Fr) H2 (wn ob S2 Fr):=λm=>n6 (xF Z m);refine⟨λi m σ2 H2=>i+m=items.length/\∃ρ2 S2,Sta G H2 ob ρ2 σ2 S2 Fr/\Mv P H1 H2 σ σ2 S S2 []/\forL tg O (items.drop i) ρ2=some r,⟨items.length,by omega,ρ,S,Z,.refl,e⟩,?_⟩;rintro i m σ2 H2 ⟨a7,ρ2,S2,F,m2,e2⟩;by_cases a3:i<items.length
  .refine .inr ⟨wk.go i items[i] (by simp[a3]) H2 _ (a0 (ρ2:=ρ2) m2),λB H'=>(i+1)+(m-1)=items.length/\∃ρ2 S2,Sta G H' ob ρ2 B S2 Fr/\Mv P H1 H' σ B S S2 []/\forL tg O (items.drop (i+1)) ρ2=some r,λB H' h=>⟨m-1,by omega,h⟩,λx H3 j=>?_⟩
   obtain⟨Y,rx⟩:=wk.yld i items[i] (by simp[a3]) H2 _ (a0 (ρ2:=ρ2) m2) x H3 j;rw[←Tv a3,forL]at e2;cases N:tg items[i] ρ2 with
   |none=>simp[N]at e2
   |some a4=>
    rw[N]at e2;simp only[Pb]at e2;have a6:Sta G H3 ob ρ2 σ2 S2 Fr:=F.grow Y λa z=>.inl z;refine hg items[i] ρ2 a4 N x σ2 H3 S2 [] Fr (by rw[gP];exact a6) (by rw[gP];exact rx) List.nodup_nil (by simp) _ λa5 H4 S4 s4 m4=>?_;have a2:Mv P H1 H4 σ a5 S S4 []:=(m2.trans (S2:=S2) ⟨λb u h _ _=>Y b u h,λi a z=>.inl ⟨i,z⟩,.refl⟩).trans m4;cases I:O a4 with
    |none=>rw[I]at e2;cases e2
    |some fl=>
     rw[I]at e2;refine U a4 fl I a5 H4 S4 Fr s4 _ ?_;cases fl with
     |nx a1=>exact λB H' S' s' V=>⟨by omega,a1,S',s',a2.trans V,e2⟩
     |cnt a1=>exact λB H' S' s' V=>⟨by omega,a1,S',s',a2.trans V,e2⟩
     |brk a1=>cases e2;exact λB H' S' s' V=>q1 B H' S' s' (a2.trans V)
     |ret d a1=>cases e2;exact q1.from a2
  .have hl:i=items.length:=by omega
   rw[hl,Uh,forL]at e2;cases e2;subst hl;exact .inl ⟨wk.stop H2 _ (a0 (ρ2:=ρ2) m2),q1 σ2 H2 S2 F m2⟩
theorem wJ{tg iter:Expr}{O:List Stmt}{g:D->En->Option En}{f:En->Option Fl}(q:∀c,PassesOwn (model (X c).prog (X c).w) (X c).A (X c).env (X c).xe)(Y:∀c,(X c).calm=true)(hi:KJ X G ob tg iter it)(j:PVG X G ob P tg g)(U:nW X G ob P O f)(F:∀c,∀x,R6 iter (X c).env x=pure x:=by intro _;intro _;rfl):PVS X G ob P (.For tg iter O [] pos) (rH it g f):=let⟨v,c1,c2⟩:=hi.ex;let⟨t,a1,a2⟩:=j.ex;let⟨u,b1,b2⟩:=U.ex;⟨_,λc=>Cu (q c) (Y c) (c1 c) (a1 c) (b1 c) (F c),Ej c2 a2 b2⟩
theorem G7{tg:Expr}{p:Pos}{f:En->Option (List D×En)}(j:∀c,Gl (X c) "range")(V:∀c,(X c).mg "range"=none)(O:qO X G ob [a] f)(F:∀c,PK [a] (X c).env=[(false,eval a (X c).env)]:=by intro _;rfl):KJ X G ob tg (.Call (.Name "range" p) [a] [] pos) (vy f):=let⟨t,a1,a2⟩:=O.ex;⟨_,λc=>sH (j c) (V c) (a1 c) (F c),Hs a2⟩
theorem Fz{tg:Expr}(O:PVe X G ob a f)(I:∀c,(X c).K=G.K:=by intro _;rfl):KJ X G ob tg a (Br f):=let⟨t,a1,a2⟩:=O.ex;⟨_,λc=>(by rw[←I c];exact CQ (a1 c)),Fq a2⟩
def Oj(own:Nat->Bool)(cap:List (Option Nat)):Bool:=(Qq cap.length).all λi=>!own i||(match cap[i]? with
 |some none=>true
 |_=>false)
theorem jJ{own:Nat->Bool}{cap:List (Option Nat)}(h:Oj own cap=true):∀i:Nat,own i=true->cap[i]?≠none->cap[i]? =some none:=λi B hn=>by
 have hi:i<cap.length:=by
  by_cases z:i<cap.length
  .exact z
  .exact absurd (Sw (by omega)) hn
 have:=Xv.mp h i (RL.mpr hi);rw[B]at this;simp only[Tg,Bool.false_or]at this;split at this
 .assumption
 .cases this
def Gy(cap:List (Option Nat)):Bool:=(Qq cap.length).all λi=>(Qq cap.length).all λk=>match cap[i]?,cap[k]? with
 |some (some a),some (some b)=>!(a==b)||i==k
 |_,_=>true
theorem Hz{cap:List (Option Nat)}(h:Gy cap=true):j4 cap:=λi k j h1 h2=>by
 have hi:i<cap.length:=(Mx.mp h1).1;have J:k<cap.length:=(Mx.mp h2).1;have:=Xv.mp (Xv.mp h i (RL.mpr hi)) k (RL.mpr J);rw[h1,h2]at this;simpa using this
def Wp(o:Option α)(Q:α->Prop):Prop:=∃a,o=some a/\Q a
variable{a:α}{Q:α->Prop}
theorem aL:Wp (some a) Q↔Q a:=⟨λ⟨b,e,q⟩=>by cases e;exact q,λq=>⟨a,rfl,q⟩⟩
theorem uC:Wp (none:Option α) Q↔False:=⟨λ⟨b,e,q⟩=>(by cases e),λz=>z.elim⟩
variable{o:Option α}{R:β->Prop}
theorem bh{f:α->Option β}:Wp (o.bind f) R↔Wp o λa=>Wp (f a) R:=by
 cases o with
 |none=>simp[uC]
 |some a=>simp[aL]
variable{f:α->β}
theorem dO:Wp (o.map f) R↔Wp o λa=>R (f a):=by
 cases o with
 |none=>simp[uC]
 |some a=>simp[aL]
theorem w_ite{c:Prop}[Decidable c]{a b:Option α}:Wp (if c then a else b) Q↔(if c then Wp a Q else Wp b Q):=by
 split<;>exact Iff.rfl
theorem Wp.mono{V:α->Prop}(h:Wp o Q)(k:∀a,Q a->V a):Wp o V:=let⟨a,e,q⟩:=h;⟨a,e,k a q⟩
theorem Wp.eq(h:Wp o λx=>x=a):o=some a:=let⟨b,e,q⟩:=h;by rw[e,q]
variable{Q:Fl->Prop}
theorem Jg{f g:En->Option Fl}:Wp (bD f g ρ) Q↔Wp (f ρ) λr=>match r with
 |.nx I=>Wp (g I) Q
 |.ret d I=>Q (.ret d I)
 |.brk I=>Q (.brk I)
 |.cnt I=>Q (.cnt I):=by
 unfold bD;cases f ρ with
 |none=>simp[uC]
 |some r=>cases r<;>simp[aL]
theorem Jm(I:Nat->En->Prop):∀{items:List D}{ρ:En}{k:Nat},I k ρ->
  (∀(i:Nat)(d:D)(ρ:En),items[i]? =some d->I (k+i) ρ->Wp (tg d ρ) λρ1=>Wp (O ρ1) λr=>match r with
   |.nx ρ2=>I (k+i+1) ρ2
   |.cnt ρ2=>I (k+i+1) ρ2
   |.brk ρ2=>Q (.nx ρ2)
   |.ret d ρ2=>Q (.ret d ρ2))->
  (∀ρ,I (k+items.length) ρ->Q (.nx ρ))->Wp (forL tg O items ρ) Q
 |[],ρ,k,h0,_,h=>by rw[forL];exact aL.mpr (h ρ h0)
 |d::r,ρ,k,h0,hs,h=>by
  rw[forL];obtain⟨ρ1,e1,w⟩:=hs 0 d ρ rfl h0;obtain⟨Y,e2,w⟩:=w;rw[e1,Pb,e2];have F:∀{ρ2:En},I (k+1) ρ2->Wp (forL tg O r ρ2) Q:=λq=>Jm I q (λi d ρ hi q=>by
   have:=hs (i+1) d ρ (by simpa using hi) (by rw[show k+(i+1)=k+1+i by omega];exact q);rw[show k+(i+1)+1=k+1+i+1 by omega]at this;exact this) λρ q=>h ρ (by rw[QL,show k+(r.length+1)=k+1+r.length by omega];exact q)
  cases Y with
  |nx ρ2=>exact F w
  |cnt ρ2=>exact F w
  |brk ρ2=>exact aL.mpr w
  |ret d ρ2=>exact aL.mpr w
variable{c:En->Option Bool}
theorem vh{tg:D->En->Option En}{c:En->Option Bool}{e:En->Option D}{ρ0:En}{p:D->Bool}{f:D->D}:∀{items:List D},(∀d∈items,Wp (tg d ρ0) λρ1=>c ρ1=some (p d)/\(p d=true->e ρ1=some (f d)))->eE tg c e ρ0 items=some ((items.filter p).map f)
 |[],_=>rfl
 |d::r,h=>by
  obtain⟨ρ1,e1,h1,h2⟩:=h d (by simp);have F:=vh (tg:=tg) (c:=c) (e:=e) (ρ0:=ρ0) (p:=p) (f:=f) (items:=r) λx J=>h x (by simp[J]);rw[eE];cases Y:p d with
  |false=>simp[e1,h1,Y,F]
  |true=>simp[e1,h1,Y,h2 Y,F]
variable{e:En->Option (D×En)}{Q:List D×En->Prop}
theorem ym{cap:List (Option Nat)}(I:Nat->List D->En->Prop):∀{items:List D}{ρ:En}{k:Nat}{acc:List D},I k acc ρ->
  (∀(i:Nat)(d:D)(acc:List D)(ρ:En),items[i]? =some d->I (k+i) acc ρ->Wp (tg d (iY cap ρ)) λρ1=>Wp (c ρ1) λb=>if b=true then Wp (e ρ1) λp=>clean p.1=true/\I (k+i+1) (acc++[p.1]) (fH cap p.2 ρ)else I (k+i+1) acc ρ)->
  (∀ys ρ,I (k+items.length) ys ρ->Q (ys,ρ))->Wp (ie cap tg c e items ρ) λt=>Q (acc++t.1,t.2)
 |[],ρ,k,acc,h0,_,h=>by rw[ie];exact aL.mpr (by rw[Ql];exact h acc ρ h0)
 |d::r,ρ,k,acc,h0,hs,h=>by
  rw[ie];obtain⟨ρ1,e1,b,e2,w⟩:=hs 0 d acc ρ rfl h0;rw[e1,Pb,e2,Pb];have F:∀{ρ2:En}{acc:List D},I (k+1) acc ρ2->Wp (ie cap tg c e r ρ2) λt=>Q (acc++t.1,t.2):=λq=>ym I q (λi d acc ρ hi q=>by
   have:=hs (i+1) d acc ρ (by simpa using hi) (by rw[show k+(i+1)=k+1+i by omega];exact q);rw[show k+(i+1)+1=k+1+i+1 by omega]at this;exact this) λys ρ q=>h ys ρ (by rw[QL,show k+(r.length+1)=k+1+r.length by omega];exact q)
  cases b with
  |false=>
   simp only[PJ,Qv]at w⊢;exact F w
  |true=>
   simp only[Qf]at w⊢;obtain⟨p,O,Y,q⟩:=w;rw[O,Pb,Pk Y];rw[dO];refine(F q).mono λt U=>?_;simpa using U
theorem eV(l:List Str):aB (l.map D.str)=true:=di λd hd=>by obtain⟨x,_,rfl⟩:=QF.mp hd;rfl
theorem dJ(l:List Str):aD (l.map D.str)=true:=cP λd hd=>by obtain⟨x,_,rfl⟩:=QF.mp hd;rfl
theorem dW(b:Bool)(l:List Str):gf b (l.map D.str)=l.map D.str:=by rw[dH,Qp];rfl
theorem fX(l:List Str):fzL (l.map D.str)=l.map D.str:=by rw[gF,Qp];rfl
theorem iM(l:List Str):fY (l.map D.str)=l.map D.str:=by rw[eY,Qp];rfl
variable{l:List α}
theorem gY{α β:Type}{f:α->β}{l:List α}(U:0<=i)(h1:i<l.length):∃x,x∈l/\l[i.toNat]? =some x/\atI (l.map f) i=some (f x):=by
 have:i.toNat<l.length:=by omega
 refine⟨l[i.toNat],RZ _,by simp[this],?_⟩;unfold atI ixN;rw[Pk U,Pk (by simpa using h1)];simp[this]
theorem Gw{f:D->D}:(eO 0 n).map f=(Qq n).map λ(k:Nat)=>f (.int (k:Int)):=by
 unfold eO;rw[Qp];apply Sg;intro k _;simp
theorem HD(h:d∈eO 0 n):∃k:Nat,k<n/\d= .int (k:Int):=by
 unfold eO at h;obtain⟨k,J,rfl⟩:=QF.mp h;exact⟨k,RL.mp J,by simp⟩
theorem oE{lo:Int}:(eO lo n).length=n:=by simp[eO]
theorem filter_tt(l:List α):l.filter (λ_=>true)=l:=by simp
theorem yJ{i:Nat}(h:(eO 0 n)[i]? =some d):i<n/\d= .int (i:Int):=by
 have hi:i<n:=by have:=(Mx.mp h).1;simpa[eO]using this
 refine⟨hi,?_⟩;unfold eO at h;rw[List.getElem?_map,Y4 hi]at h;simpa using h.symm
theorem IK{ks:List Key}(h:k∈ks):∃j,jf ks k=some j/\j<ks.length:=by
 cases e:jf ks k with
 |none=>exact absurd h (qI e)
 |some j=>exact⟨j,rfl,uw e⟩
theorem Dg{ks:List Key}(h:ks.length=ds.length):(gq ks ds k d).1.length=(gq ks ds k d).2.length/\∀x,x∈(gq ks ds k d).1↔x∈ks∨x=k:=by
 unfold gq;cases e:jf ks k with
 |none=>exact⟨by simp[h],λx=>by simp⟩
 |some j=>
  refine⟨by simpa using h,λx=>⟨.inl,λz=>z.elim id λz=>?_⟩⟩;obtain⟨Z,J,_⟩:=QV.mp e;have:ks[j]=k:=by simpa using J
  rw[z,←this];exact RZ _
theorem pU:∀{es:List (Key×D)}{ks:List Key}{ds:List D},ks.length=ds.length->(cV ks ds es).1.length=(cV ks ds es).2.length/\∀x,x∈(cV ks ds es).1↔x∈ks∨∃p∈es,p.1=x
 |[],ks,ds,h=>⟨h,λx=>by simp[cV]⟩
 |p::r,ks,ds,h=>by
  obtain⟨h1,h2⟩:=Dg (k:=p.1) (d:=p.2) h;obtain⟨N,V⟩:=pU (es:=r) h1;rw[cV];refine⟨N,λx=>?_⟩;rw[V,h2];constructor
  .rintro((z|z)|⟨q,hq,z⟩)
   .exact .inl z
   .exact .inr ⟨p,by simp,z.symm⟩
   .exact .inr ⟨q,by simp[hq],z⟩
  .rintro(z|⟨q,hq,z⟩)
   .exact .inl (.inl z)
   .rcases Pj.mp hq with y|y
    .subst y;exact .inl (.inr z.symm)
    .exact .inr ⟨q,y,z⟩
def pD(p:Str×Int):D:=.tup [.str p.1,.int p.2]
theorem yu:∀ps:List (Str×Int),vQ (ps.map pD)=some (ps.map λp=>(T8 p.1,.int p.2))
 |[]=>rfl
 |p::r=>by simp[vQ,pD,kY,yu r]
abbrev Jt:=Str×Str×Int
def jD(j:Jt):D:=.tup [.str j.1,.str j.2.1,.int j.2.2]
theorem nF(l:List Jt):aB (l.map jD)=true:=di λd hd=>by obtain⟨x,_,rfl⟩:=QF.mp hd;rfl
theorem mX(l:List Jt):aD (l.map jD)=true:=cP λd hd=>by obtain⟨x,_,rfl⟩:=QF.mp hd;rfl
theorem qW(b:Bool)(l:List Jt):gf b (l.map jD)=l.map jD:=by rw[dH,Qp];rfl
theorem rR(l:List Jt):fzL (l.map jD)=l.map jD:=by rw[gF,Qp];rfl
theorem pW(l:List Jt):fY (l.map jD)=l.map jD:=by rw[eY,Qp];rfl
theorem yj:∀l:List Jt,iB (l.map jD)=true
 |[]=>rfl
 |j::r=>by simp[iB,jD,jk,yj r]
theorem lL{l:List Jt}:gNe (.lst m (l.map jD)) (.lst .own [])=some (.bl (!l.isEmpty)):=by
 unfold gNe;have h1:=yj l;rw[Pk ⟨by simpa[jk]using h1,rfl,.lst (by simp[dtL])⟩];cases l with
 |nil=>rfl
 |cons j r=>rfl
theorem eq_int{j:Int}:gEq (.int i) (.int j)=some (.bl (decide (i=j))):=by
 unfold gEq;rw[Pk ⟨rfl,rfl,.sc (.int i j)⟩];simp[dt,eqD];exact aan.mpr (by simp)
variable{items:List D}
theorem Dh{cap:List (Option Nat)}(I:Nat->List D->En->Prop)(U:I 0 [] ρ)
  (F:∀(i:Nat)(d:D)(acc:List D)(ρ:En),items[i]? =some d->I i acc ρ->Wp (tg d (iY cap ρ)) λρ1=>Wp (c ρ1) λb=>if b=true then Wp (e ρ1) λp=>clean p.1=true/\I (i+1) (acc++[p.1]) (fH cap p.2 ρ)else I (i+1) acc ρ)
  (h:∀ys ρ,I items.length ys ρ->Q (ys,ρ)):Wp (ie cap tg c e items ρ) Q:=by
 have:=ym (cap:=cap) (tg:=tg) (c:=c) (e:=e) (Q:=Q) I (items:=items) (ρ:=ρ) (k:=0) (acc:=[]) U (λi d acc ρ hi q=>by
  rw[SX]at q⊢;exact F i d acc ρ hi q) λys ρ q=>h ys ρ (by rw[SX]at q;exact q)
 simpa using this
variable{Q:Fl->Prop}
theorem qG(I:Nat->En->Prop)(U:I 0 ρ)
  (F:∀(i:Nat)(d:D)(ρ:En),items[i]? =some d->I i ρ->Wp (tg d ρ) λρ1=>Wp (O ρ1) λr=>match r with
   |.nx ρ2=>I (i+1) ρ2
   |.cnt ρ2=>I (i+1) ρ2
   |.brk ρ2=>Q (.nx ρ2)
   |.ret d ρ2=>Q (.ret d ρ2))
  (h:∀ρ,I items.length ρ->Q (.nx ρ)):Wp (forL tg O items ρ) Q:=
 Jm (k:=0) I U (λi d ρ hi q=>by
  rw[SX]at q⊢;exact F i d ρ hi q) λρ q=>h ρ (by rw[SX]at q;exact q)
theorem bB{f g:En->Option Fl}(P:En->Prop)(h1:∀V:Fl->Prop,(∀I,P I->V (.nx I))->Wp (f ρ) V)(h2:∀I,P I->Wp (g I) Q):Wp (bD f g ρ) Q:=by
 rw[Jg];exact h1 _ λI h=>h2 I h
theorem yc(j:Jt):aA (jD j)=true:=rfl
theorem zT(j:Jt):az (jD j)=true:=rfl
theorem Bh(b:Bool)(j:Jt):view b (jD j)=jD j:=rfl
theorem Bw(j:Jt):fz (jD j)=jD j:=rfl
theorem zR(j:Jt):fzo (jD j)=jD j:=rfl
theorem sS(j:Jt):gSl (jD j) none (some 2)=some (.tup [.str j.1,.str j.2.1]):=rfl
theorem mz(m:Mk)(l:List Jt):cW [.lst m (l.map jD)]=some (.int l.length):=by simp[cW]
theorem len_strs(m:Mk)(l:List Str):cW [.lst m (l.map D.str)]=some (.int l.length):=by simp[cW]
theorem jG(l:List Jt):cW [.tup (l.map jD)]=some (.int l.length):=by simp[cW]
theorem gK(l:List Str):cW [.tup (l.map D.str)]=some (.int l.length):=by simp[cW]
theorem xV{l:List D}:gIx (.lst m l) (.int i)=atI l i:=rfl
theorem Ao{l:List D}:gIx (.tup l) (.int i)=atI l i:=rfl
open PySem PySem.W PyProof.Rows
def Tr(b:Nat->Nat->Bool)(n:Nat):KasT α->(α->Prop)->Prop
 |.ret a,Q=>Q a
 |.ask i j k,Q=>i<n/\j<n/\Tr b n (k (b i j)) Q
variable{b:Nat->Nat->Bool}
theorem Tr.bind{f:α->KasT β}{Q:β->Prop}:∀{t:KasT α},Tr b n t (λa=>Tr b n (f a) Q)->Tr b n (t.bind f) Q
 |.ret _,h=>h
 |.ask _ _ _,⟨h1,h2,h3⟩=>⟨h1,h2,Tr.bind h3⟩
theorem Tr.mono{Q V:α->Prop}(N:∀a,Q a->V a):∀{t:KasT α},Tr b n t Q->Tr b n t V
 |.ret _,h=>N _ h
 |.ask _ _ _,⟨h1,h2,h3⟩=>⟨h1,h2,Tr.mono N h3⟩
theorem Tr.wp{q:Nat->Nat->(Bool->zc->Prop)->zc->Prop}{s:zc}{Q:α->Prop}(Y:∀i j C,i<n->j<n->C (b i j) s->q i j C s):∀{t:KasT α},Tr b n t Q->t.kasWp q (λa s'=>s'=s/\Q a) s
 |.ret _,h=>⟨rfl,h⟩
 |.ask _ _ _,⟨h1,h2,h3⟩=>Y _ _ _ h1 h2 (Tr.wp Y h3)
def gn(n:Nat)(p:Array Nat):Prop:=QJ p.toList (Qq n)
variable{p:Array Nat}
theorem gn.size(h:gn n p):p.size=n:=by
 have:=List.Perm.length_eq h;simpa using this
theorem gn.lt(h:gn n p)(hn:0<n)(i:Nat):p.getD i 0<n:=by
 by_cases hi:i<p.size
 .have hm:p[i]∈p.toList:=by simp
  have:=RL.mp (ZP h |>.mp hm);simpa[Array.getD,hi]using this
 .simpa[Array.getD,hi]using hn
theorem gn.of{q:Array Nat}(h:gn n p)(Y:Array.Perm q p):gn n q:=(RJ.mp Y).trans h
section
variable(ρ:Nat->Int)
def rk(p:Array Nat)(i:Nat):Int:=ρ (p.getD i 0)
def Up1(p:Array Nat)(k:Nat):Prop:=∀i j,i<=j->j<k->rk ρ p i<=rk ρ p j
def Dn1(p:Array Nat)(k:Nat):Prop:=∀i j,i<=j->j<k->rk ρ p j<=rk ρ p i
abbrev bk:Nat->Nat->Bool:=λi j=>decide (ρ i<ρ j)
end
section
variable{ρ:Nat->Int}{n:Nat}(hn:0<n)
theorem v_{p q:Array Nat}{i j:Nat}(h:p[i]? =q[j]?):rk ρ p i=rk ρ q j:=by
 unfold rk;rw[P_,P_,h]
theorem xr{p:Array Nat}{i j:Nat}(F:j<=p.size)(k:Nat):rk ρ (kas_rev p i j) k=if i<=k/\k<j then rk ρ p (i+j-1-k)else rk ρ p k:=by
 have e:=Y5 (xs:=p) (i:=i) F k;unfold kas_rev;split
 .rename_i h;rw[Pk h]at e;exact v_ e
 .rename_i h;rw[Pn h]at e;exact v_ e
theorem gh{p:Array Nat}{i j:Nat}(F:j<=p.size)(h:∀k,i<=k->k<j->rk ρ p k=rk ρ p (j-1))(k:Nat):rk ρ (kas_rev p i j) k=rk ρ p k:=by
 rw[xr F];split
 .rw[h _ (by omega) (by omega),h k (by omega) (by omega)]
 .rfl
include hn
theorem Ck{p:Array Nat}(Y:gn n p):∀(f a:Nat),1<=a->Up1 ρ p a->Tr (bk ρ) n (kas_asc p f a) λm=>a<=m/\m<=a+f/\Up1 ρ p m
 |0,a,_,h=>⟨Pg _,Pg _,h⟩
 |f+1,a,ha,h=>by
  refine⟨Y.lt hn _,Y.lt hn _,?_⟩;by_cases c:rk ρ p a<rk ρ p (a-1)
  .have e:bk ρ (p.getD a 0) (p.getD (a-1) 0)=true:=R4 c
   rw[e];exact⟨Pg _,by omega,h⟩
  .have e:bk ρ (p.getD a 0) (p.getD (a-1) 0)=false:=QB c
   rw[e];refine Tr.mono (λm V=>⟨by omega,by omega,V.2.2⟩) (Ck Y f (a+1) (by omega) λi j Z F=>?_);by_cases N:j<a
   .exact h i j Z N
   .obtain rfl:j=a:=by omega
    by_cases hi:i=j
    .subst hi;exact QQ _
    .exact Vs (h i (j-1) (by omega) (by omega)) (by omega)
def DsQ(ρ:Nat->Int)(n a f:Nat)(t:Array Nat×Nat×Nat):Prop:=gn n t.1/\a<=t.2.1/\t.2.1<=a+f/\Dn1 ρ t.1 t.2.1/\t.2.2+1<=t.2.1/\∀i,t.2.1-(t.2.2+1)<=i->i<t.2.1->rk ρ t.1 i=rk ρ t.1 (t.2.1-1)
theorem t7:∀(f:Nat)(p:Array Nat)(a q:Nat),gn n p->1<=a->a+f<=n->Dn1 ρ p a->q+1<=a->(∀i,a-(q+1)<=i->i<a->rk ρ p i=rk ρ p (a-1))->Tr (bk ρ) n (kas_desc f p a q) (DsQ ρ n a f)
 |0,p,a,q,hp,ha,_,h,hq,he=>⟨hp,Pg _,Pg _,h,hq,he⟩
 |f+1,p,a,q,hp,ha,hf,h,hq,he=>by
  have hz:=hp.size;refine⟨hp.lt hn _,hp.lt hn _,?_⟩;by_cases c:rk ρ p a<rk ρ p (a-1)
  .have e:bk ρ (p.getD a 0) (p.getD (a-1) 0)=true:=R4 c
   have V:∀I:Array Nat,gn n I->(∀k,rk ρ I k=rk ρ p k)->Tr (bk ρ) n (kas_desc f I (a+1) 0) (DsQ ρ n a (f+1)):=λI a0 J=>by
    refine Tr.mono (λt U=>⟨U.1,by have:=U.2.1;omega,by have:=U.2.2.1;omega,U.2.2.2⟩) (t7 f I (a+1) 0 a0 (by omega) (by omega) (λi j Z F=>?_) (by omega) λi h1 h2=>by rw[show i=a+1-1 by omega]);rw[J,J];by_cases N:j<a
    .exact h i j Z N
    .obtain rfl:j=a:=by omega
     by_cases hi:i=j
     .subst hi;exact QQ _
     .exact Vs (by omega) (h i (j-1) (by omega) (by omega))
   rw[e];simp only[Qf];by_cases O:q>0
   .rw[Pk O]
    exact V _ (hp.of (WT _ _ _ _)) (gh (by omega) he)
   .rw[Pn O]
    exact V _ hp λ_=>rfl
  .have e:bk ρ (p.getD a 0) (p.getD (a-1) 0)=false:=QB c
   rw[e];simp only[PJ,Qv];refine⟨hp.lt hn _,hp.lt hn _,?_⟩;by_cases Y:rk ρ p (a-1)<rk ρ p a
   .have e:bk ρ (p.getD (a-1) 0) (p.getD a 0)=true:=R4 Y
    rw[e];exact⟨hp,Pg _,by show a<=a+(f+1);omega,h,hq,he⟩
   .have e:bk ρ (p.getD (a-1) 0) (p.getD a 0)=false:=QB Y
    have B:rk ρ p a=rk ρ p (a-1):=by omega
    rw[e];simp only[PJ,Qv];refine Tr.mono (λt U=>⟨U.1,by have:=U.2.1;omega,by have:=U.2.2.1;omega,U.2.2.2⟩) (t7 f p (a+1) (q+1) hp (by omega) (by omega) (λi j Z F=>?_) (by omega) λi h1 h2=>?_)
    .by_cases N:j<a
     .exact h i j Z N
     .obtain rfl:j=a:=by omega
      by_cases hi:i=j
      .subst hi;exact QQ _
      .rw[B];exact h i (j-1) (by omega) (by omega)
    .rw[show a+1-1=a by omega]
     by_cases hi:i=a
     .rw[hi]
     .rw[B];exact he i (by omega) (by omega)
def CtQ(ρ:Nat->Int)(n q:Nat)(t:Nat×Array Nat):Prop:=gn n t.2/\1<=t.1/\t.1<=q/\Up1 ρ t.2 t.1
theorem yF{p:Array Nat}{a q:Nat}(Y:gn n p)(O:1<=a)(B:a<=q)(I:q<=n)(h:Dn1 ρ p a):Tr (bk ρ) n (kas_tail3 a q p) (CtQ ρ n q):=by
 have hz:=Y.size;have U:gn n (kas_rev p 0 a):=Y.of (WT _ _ _ _);refine Tr.bind (Tr.mono (λm V=>?_) (Ck hn U (q-a) a O λi j Z F=>?_))
 .exact⟨U,by show 1<=m;omega,by show m<=q;omega,V.2.2⟩
 .rw[xr (by omega),xr (by omega),Pk (by omega),Pk (by omega)]
  exact h _ _ (by omega) (by omega)
theorem zO{p:Array Nat}{a q:Nat}(Y:gn n p)(a0:a+1<=q)(O:q<=n)(h:Dn1 ρ p (a+1)):Tr (bk ρ) n (kas_descPart a q p) (CtQ ρ n q):=by
 refine Tr.bind (Tr.mono (λt U=>?_) (t7 hn (q-(a+1)) p (a+1) 0 Y (by omega) (by omega) h (by omega) λi h1 h2=>by rw[show i=a+1-1 by omega]));obtain⟨t1,J,t3⟩:=t;obtain⟨h1,h2,N,V,I,B⟩:=U;have hz:=h1.size;simp only at h1 h2 N V I B hz⊢;split
 .refine yF hn (h1.of (WT _ _ _ _)) (by omega) (by omega) O λi j Z F=>?_
  rw[gh (by omega) B,gh (by omega) B];exact V i j Z F
 .exact yF hn h1 (by omega) (by omega) O V
theorem Cq{p:Array Nat}{nr:Nat}(Y:gn n p)(h1:1<=nr)(a3:nr<=n):Tr (bk ρ) n (kas_count nr p) (CtQ ρ n nr):=by
 have hz:=Y.size;have U:Up1 ρ p 1:=λi j Z F=>by rw[show i=j by omega];exact QQ _
 have go:Tr (bk ρ) n (kas_asc p (nr-1) 1) λm=>1<=m/\m<=nr/\Up1 ρ p m/\(m=nr∨rk ρ p m<rk ρ p (m-1)):=by
  have:∀(f a:Nat),1<=a->a+f=nr->Up1 ρ p a->Tr (bk ρ) n (kas_asc p f a) λm=>1<=m/\m<=nr/\Up1 ρ p m/\(m=nr∨rk ρ p m<rk ρ p (m-1)):=by
   intro f
   induction f with
   |zero=>intro a O hf h;exact⟨O,by omega,h,.inl (by omega)⟩
   |succ f ih=>
    intro a O hf h;refine⟨Y.lt hn _,Y.lt hn _,?_⟩;by_cases c:rk ρ p a<rk ρ p (a-1)
    .have e:bk ρ (p.getD a 0) (p.getD (a-1) 0)=true:=R4 c
     rw[e];exact⟨O,by omega,h,.inr c⟩
    .have e:bk ρ (p.getD a 0) (p.getD (a-1) 0)=false:=QB c
     rw[e];refine ih (a+1) (by omega) (by omega) λi j Z F=>?_;by_cases a6:j<a
     .exact h i j Z a6
     .obtain rfl:j=a:=by omega
      by_cases hi:i=j
      .subst hi;exact QQ _
      .exact Vs (h i (j-1) (by omega) (by omega)) (by omega)
  exact this (nr-1) 1 (Pg _) (by omega) U
 refine Tr.bind (Tr.mono (λm V=>?_) go);obtain⟨q,N,m3,m4⟩:=V;by_cases a0:m=nr
 .rw[Pk (by simpa using a0)]
  exact⟨Y,q,N,m3⟩
 .rw[Pn (by simpa using a0)]
  have B:=m4.resolve_left a0;by_cases a4:m>1
  .rw[Pk a4]
   refine⟨Y.lt hn _,Y.lt hn _,?_⟩;by_cases c:rk ρ p 0<rk ρ p (m-1)
   .have e:bk ρ (p.getD 0 0) (p.getD (m-1) 0)=true:=R4 c
    rw[e];exact⟨Y,q,N,m3⟩
   .have e:bk ρ (p.getD 0 0) (p.getD (m-1) 0)=false:=QB c
    rw[e];simp only[PJ,Qv];have I:∀k,0<=k->k<m->rk ρ p k=rk ρ p (m-1):=λk _ J=>by
     have a1:=m3 0 k (by omega) J;have a2:=m3 k (m-1) (by omega) (by omega);omega
    refine zO hn (Y.of (WT _ _ _ _)) (by omega) a3 λi j Z F=>?_;rw[gh (by omega) I,gh (by omega) I];by_cases a5:j<m
    .rw[I i (by omega) (by omega),I j (by omega) a5];exact QQ _
    .obtain rfl:j=m:=by omega
     by_cases hi:i=j
     .subst hi;exact QQ _
     .rw[I i (by omega) (by omega)];omega
  .rw[Pn a4]
   obtain rfl:m=1:=by omega
   refine zO hn Y (by omega) a3 λi j Z F=>?_;by_cases hi:i=j
   .subst hi;exact QQ _
   .obtain rfl:i=0:=by omega
    obtain rfl:j=1:=by omega
    exact U3 B
theorem p6{p:Array Nat}{k:Nat}(Y:gn n p)(h:Up1 ρ p k):∀(f l r:Nat),l<=r->r<=k->r-l<=f->(∀i,i<l->rk ρ p i<=rk ρ p k)->(∀i,r<=i->i<k->rk ρ p k<rk ρ p i)->
  Tr (bk ρ) n (kas_place p k f l r) λm=>m<=k/\(∀i,i<m->rk ρ p i<=rk ρ p k)/\∀i,m<=i->i<k->rk ρ p k<rk ρ p i
 |0,l,r,hlr,hrk,hf,h1,h2=>⟨by omega,h1,λi hi J=>h2 i (by omega) J⟩
 |f+1,l,r,hlr,hrk,hf,h1,h2=>by
  unfold kas_place;by_cases N:l>=r
  .rw[Pk N]
   exact⟨by omega,h1,λi hi J=>h2 i (by omega) J⟩
  .rw[Pn N]
   refine⟨Y.lt hn _,Y.lt hn _,?_⟩;by_cases c:rk ρ p k<rk ρ p ((l+r) / 2)
   .have e:bk ρ (p.getD k 0) (p.getD ((l+r) / 2) 0)=true:=R4 c
    rw[e];exact p6 Y h f l _ (by omega) (by omega) (by omega) h1 λi hi J=>Zn c (h _ i hi J)
   .have e:bk ρ (p.getD k 0) (p.getD ((l+r) / 2) 0)=false:=QB c
    rw[e];exact p6 Y h f _ r (by omega) hrk (by omega) (λi hi=>Vs (h i ((l+r) / 2) (by omega) (by omega)) (by omega)) h2
theorem Ez:∀(f:Nat)(p:Array Nat)(k:Nat),gn n p->k+f<=n->Up1 ρ p k->Tr (bk ρ) n (kas_bin f p k) λq=>gn n q/\Up1 ρ q (k+f)
 |0,p,k,hp,_,h=>⟨hp,h⟩
 |f+1,p,k,hp,hf,h=>by
  have hz:=hp.size;refine Tr.bind (Tr.mono (λl Z=>?_) (p6 hn hp h k 0 k (by omega) (by omega) (by omega) (λi hi=>by omega) λi h1 h2=>by omega));obtain⟨l1,l2,B⟩:=Z;have U:∀i,rk ρ (bubble p k (k-l)) i=if i=l then rk ρ p k else if l<i/\i<=k then rk ρ p (i-1)else rk ρ p i:=λi=>by
   have e:=getElem?_bubble (xs:=p) (src:=k) (by omega) (k-l) (by omega) i;rw[show k-(k-l)=l by omega]at e;split
   .rename_i hi;rw[Pk hi]at e;exact v_ e
   .rename_i hi
    rw[Pn hi]at e;split
    .rename_i hi2;rw[Pk hi2]at e;exact v_ e
    .rename_i hi2;rw[Pn hi2]at e;exact v_ e
  refine Tr.mono (λq N=>⟨N.1,by rw[show k+(f+1)=k+1+f by omega];exact N.2⟩) (Ez f (bubble p k (k-l)) (k+1) (hp.of (bubble_perm _ _ _)) (by omega) λi j I F=>?_);rw[U,U]
  repeat' split
  all_goals first
   |exact QQ _
   |(exfalso;omega)
   |exact U3 (B _ (by omega) (by omega))
   |exact l2 _ (by omega)
   |exact h _ _ (by omega) (by omega)
theorem HY:Tr (bk ρ) n (kas_sort n) λp=>gn n p/\Up1 ρ p n:=by
 have Y:gn n (Vt (Qq n)):=by unfold gn;exact Tu _
 refine Tr.bind (Tr.mono (λt U=>?_) (Cq hn Y (by omega) (Pg n)));obtain⟨h1,h2,N,V⟩:=U;split
 .refine Tr.mono (λq j=>⟨j.1,?_⟩) (Ez hn (n-max t.1 1) t.2 (max t.1 1) h1 (by omega) (by rw[show max t.1 1=t.1 by omega];exact V))
  have:=j.2;rwa[show max t.1 1+(n-max t.1 1)=n by omega]at this
 .rename_i hlt
  exact⟨h1,by rw[show t.1=n by omega]at V;exact V⟩
end
open PySem PySem.W PyProof.Rows PySem.SeqAt
theorem gZ:plainId "list.__eq__.loop"=true:=by decide +kernel
theorem nG:YJ table "list.__eq__.loop"=some Builtin.«list.__eq__.loop»:=entryFor_of_fast (by kernel_rfl)
def ltS:List Str->List Str->Bool
 |[],[]=>false
 |[],_::_=>true
 |_::_,[]=>false
 |a::r,b::q=>if a=b then ltS r q else decide (a.cps.toList<b.cps.toList)
def StA(its:Array Value)(xs:List Str):Prop:=∀i:Nat,its[i]? =none/\xs[i]? =none∨∃x t,its[i]? =some (.str x t)/\xs[i]? =some x
variable{i:Nat}
theorem Fi{xs ys:List Str}:ltS (xs.drop i) (ys.drop i)=match xs[i]?,ys[i]? with
  |none,none=>false
  |none,some _=>true
  |some _,none=>false
  |some a,some b=>if a=b then ltS (xs.drop (i+1)) (ys.drop (i+1))else decide (a.cps.toList<b.cps.toList):=by
 have d:∀zs:List Str,zs.drop i=match zs[i]? with|none=>[]|some a=>a::zs.drop (i+1):=λzs=>by
  by_cases h:i<zs.length
  .rw[QX h,Py h]
  .rw[Rb (by omega),Sw (by omega)]
 rw[d xs,d ys];cases xs[i]?<;>cases ys[i]?<;>rfl
theorem E_(l b:Addr)(its q:Array Value)(n I:Nat)(dd N:Option Addr)(sl a1:Array (Option Value))(xs ys:List Str)(h1:StA its xs)(h2:StA q ys)(J:its.size=xs.length)(j:q.size=ys.length)(k:Nat) :
  ∀i:Nat,xs.length-i=k->Meets (Builtin.«list.__eq__.loop» ⟨[.ref l,.ref b,Q7 i,Q7 0],[]⟩)
   (λA R s=>s.heap.get? l=some {cls:=.type "list",dict:=dd,data:=.seq its n,slots:=sl}/\s.heap.get? b=some {cls:=.type "list",dict:=N,data:=.seq q I,slots:=a1}/\(i<=xs.length/\i<=ys.length)/\
    R (.ok (.ret (.bool (ltS (xs.drop i) (ys.drop i))))) s):=by
 induction k with
 |zero=>
  intro i hk prog w A R s h;obtain⟨hp,g,d,tk,os⟩:=s;obtain⟨Z,U,hi,h⟩:=h
  wp_walk using wpAny_loadPart' Z,wpAny_loadPart' U
  have e1:xs[i]? =none:=by simp;omega
  have e2:its[((i:Nat):Int).toNat]? =none:=by simp;omega
  rw[Fi,e1]at h;rw[e2]
  wp_walk using wpAny_loadPart' Z,wpAny_loadPart' U
  show R (.ok (.ret (.bool (decide (its.size<q.size))))) _;rw[J,j];cases O:ys[i]? with
  |none=>
   rw[O]at h;have:ys.length<=i:=by simpa using O
   rw[show decide (xs.length<ys.length)=false by simp;omega];exact h
  |some y=>
   rw[O]at h;have:=(Mx.mp O).1;rw[show decide (xs.length<ys.length)=true by simp;omega];exact h
 |succ k F=>
  intro i hk prog w A R s h;obtain⟨hp,g,d,tk,os⟩:=s;obtain⟨Z,U,hi,h⟩:=h
  wp_walk using wpAny_loadPart' Z,wpAny_loadPart' U
  have B:i<xs.length:=by omega
  obtain⟨z,_⟩|⟨x,t,e1,e2⟩:=h1 i
  .simp at z;omega
  rw[Fi,e2]at h;have V:its[((i:Nat):Int).toNat]? =some (.str x t):=by simpa using e1
  obtain⟨O,e4⟩|⟨y,u,O,e4⟩:=h2 i
  .have f2:q[((i:Nat):Int).toNat]? =none:=by simpa using O
   rw[e4]at h;rw[V,f2]
   wp_walk using wpAny_loadPart' Z,wpAny_loadPart' U
   show R (.ok (.ret (.bool (decide (its.size<q.size))))) _;have:ys.length<=i:=by simpa using e4
   rw[show decide (its.size<q.size)=false by simp;omega];exact h
  .have f2:q[((i:Nat):Int).toNat]? =some (.str y u):=by simpa using O
   have Y:((i:Int)+1)=((i+1:Nat):Int):=by push_cast;rfl
   have a2:=(Mx.mp e4).1;rw[e4]at h;rw[V,f2];refine eH (Z6 ?_);by_cases a0:x=y
   .simp only[a0,Qf]at h
    rw[show decide (x=y)=true from R4 a0]
    wp_walk
    rw[Y];exact⟨Th gZ _,RP nG (by
     rw[Rk gZ _];exact F (i+1) (by omega) prog w A R _ ⟨Z,U,⟨by omega,by omega⟩,h⟩)⟩
   .simp only[Pn a0]at h
    rw[show decide (x=y)=false from QB a0]
    wp_walk using wpAny_loadPart' Z,wpAny_loadPart' U
    rw[V,f2];refine eH (lt_str ?_);exact yr h
theorem DN(l b:Addr)(its q:Array Value)(n I:Nat)(O N:Option Addr)(sl V:Array (Option Value))(xs ys:List Str)(h1:StA its xs)(h2:StA q ys)(J:its.size=xs.length)(j:q.size=ys.length) :
  Meets (Builtin.«list.__lt__» ⟨[.ref l,.ref b],[]⟩)
   (λA R s=>s.heap.get? l=some {cls:=.type "list",dict:=O,data:=.seq its n,slots:=sl}/\s.heap.get? b=some {cls:=.type "list",dict:=N,data:=.seq q I,slots:=V}/\R (.ok (.ret (.bool (ltS xs ys)))) s):=by
 intro prog w A R s h;obtain⟨Y,g,d,tk,os⟩:=s;obtain⟨Z,U,h⟩:=h;have F:=AutoSeq1.sub_list_list
 wp_walk using wpAny_loadPart' Z,wpAny_loadPart' U
 exact⟨Th gZ _,RP nG (by
  rw[Rk gZ _];exact E_ l b its q n I O N sl V xs ys h1 h2 J j _ 0 rfl prog w A R _ ⟨Z,U,⟨R0 _,R0 _⟩,by simpa using h⟩)⟩
theorem xu{l b:Addr}{its q:Array Value}{xs ys:List Str}{Q:Bool->zc->Prop}(Z:s.heap.IsList l its)(U:s.heap.IsList b q)(h1:StA its xs)(h2:StA q ys)(J:its.size=xs.length)(j:q.size=ys.length)(hu:A.units<cLine)
  (h:Q (ltS xs ys) s):wpAny (model prog w) A (oneLt' true (.ref l) (.ref b)) Q E s:=by
 obtain⟨⟨cls,O,data,sl⟩,B,Y,n,hd⟩:=id Z;obtain⟨⟨a4,N,a3,V⟩,a2,a1,I,a0⟩:=id U;simp only at Y hd a1 a0;subst Y hd a1 a0;rw[oneLt'_eq];simp only[Qf];refine eH (wpAny_cRoomFor hu ?_);refine eH (wpAny_callSpecialIfBound?_slot (T:="list") ⟨_,B,rfl⟩ F.slot_list_lt (YD F.slot_list_lt ⟨_,B,rfl⟩ F.entry_list_lt (F.args_list_lt_2 _ _) (DN l b its q n I O N sl V xs ys h1 h2 J j) ⟨B,a2,?_⟩));exact S9 h
variable{Q:Value->zc->Prop}{κ:Xw}
theorem Bv{ρ:Nat->Int}(b6:vs.length<64)
  (J:2<=vs.length->∀h':Heap,(∀b o,s.heap.get? b=some o->h'.get? b=some o)->∀(E':Value->zc->Prop)(V:Xw->zc->Prop),V κ {s with heap:=h'}->wpAny (model prog w) A.in1.in1 (keyKind' vs.toArray) V E' {s with heap:=h'})
  (b7:∀h':Heap,(∀b o,s.heap.get? b=some o->h'.get? b=some o)->∀i j,i<vs.length->j<vs.length->∀V:Bool->zc->Prop,V (decide (ρ i<ρ j)) {s with heap:=h'}->wpAny (model prog w) A.in1.in1 (keyLt' κ (vs.getD i QK) (vs.getD j QK)) V (λ_ _=>False) {s with heap:=h'})
  (h:∀p:Array Nat,gn vs.length p->Up1 ρ p vs.length->∀(h':Heap)(c:Nat),(∀b o,s.heap.get? b=some o->h'.get? b=some o)->h'.get? s.heap.objs.size=some (Uv "list" (Vt (p.toList.map λi=>vs.getD i QK)) c)->Q (.ref s.heap.objs.size) {s with heap:=h'}) :
  wpAny (model prog w) A.in1 (Vf vs >>=λl=>Tt [l] (call (.builtin "list.sort") [l] []) >>=λ_=>ret l) (λa0 s'=>∃v,a0= .done (.ret v)/\Q v s') E s:=by
 have b4:vs.length<=Px:=by rw[WQ];omega
 refine eH (Xa ?_ (by rw[WQ];omega))
 let a:=s.heap.objs.size
 let G2:Heap:=s.heap.push (Uv "list" vs.toArray 0)
 have z2:G2.objs.size=s.heap.objs.size+1:=size_push' _ _;have N:G2.get? a=some (Uv "list" vs.toArray 0):=Pz _ rfl;show wpAny _ _ (Tt _ _ >>=_) _ _ {s with heap:=G2};refine eH (Rf (Uc slot_list_sort ⟨_,N,rfl⟩ entry_list_sort ?_ (args_list_sort _)));have b0:∀b o,s.heap.get? b=some o->G2.get? b=some o:=λb o q=>gD _ q
 let G3:Heap:=G2.update a (SQ λ_=>#[])
 obtain⟨e1,b3⟩:∃e1,G3.get? a=some (Uv "list" #[] e1):=⟨_,Ws N λ_=>#[]⟩;have z3:G3.objs.size=s.heap.objs.size+1:=by show(G2.update _ _).objs.size=_;rw[aaf,z2]
 let G5:Heap:=(G3.push (Uv "tuple" vs.toArray 0)).push (Uv "list" #[] 0)
 have b2:∀b o,G3.get? b=some o->G5.get? b=some o:=λb o q=>gD _ (gD _ q);have a5:∀b o,s.heap.get? b=some o->G5.get? b=some o:=λb o q=>by
  have U:b<s.heap.objs.size:=Ph q;refine b2 b o ?_;show(G2.update _ _).get? b=_;rw[Vi _ _ _ _ (PN U)];exact b0 b o q
 have b1:G5.get? a=some (Uv "list" #[] e1):=b2 a _ b3;rw[list_sort_plain];refine eH (listItems_at N rfl ?_);refine eH (Xb N rfl ?_ (by rw[List.size_toArray];exact b4) (R0 _));refine eH (Yk b3 rfl ?_);refine eH (WM ?_ (by show vs.length<=_;exact b4));refine eH (Xa ?_ (R0 _));refine Rf ?_;show wpAny (model prog w) A.in1.in1 _ _ _ {s with heap:=G5};dsimp only;have a0:∀(B:Ry)(p:Array Nat),arrOf B=p.map (kas_item (vs.toArray.zip vs.toArray))->R8 B=none->gn vs.length p->Up1 ρ p vs.length->
   wpAny (model prog w) A.in1.in1 (do
    let a7:=(arrOf B).map (·.2)
    let a6:=(←seqEpoch a)!=e1
    XR (.ref a) λ_=>a7
    if let some e:=R8 B then rule "list.sort.comparison-raised";throw e
    if a6 then rule "list.sort.modified";raiseError "ValueError" "list modified during sort"
    ret .none) (λa0 s'=>∃v,a0= .done (.ret v)/\wpAny (model prog w) A.in1 (ret (.ref a)) (λa0 s'=>∃v,a0= .done (.ret v)/\Q v s') E s') E {s with heap:=G5}:=λB p a9 O Y hu=>by
  have a8:=kat_snds (vs:=vs) (ks:=vs) rfl a9;dsimp only;refine eH (Yk b1 rfl ?_);have b8:p.size=vs.length:=Y.size;refine eH (Xb b1 rfl ?_ (R0 _) (by rw[a8];simp only[List.size_toArray,Qe,Qh];omega));rw[O];simp only[bne_self_eq_false,PJ,Qv];refine yr ⟨_,rfl,yr ⟨_,rfl,?_⟩⟩;rw[a8];refine h p Y hu _ _ (λb o q=>?_) (Ws b1 _);rw[Vi _ _ _ _ (PN (Ph q))];exact a5 b o q
 by_cases I:vs.toArray.size<2
 .rw[Pk I,Pk I]
  rw[List.size_toArray]at I;refine eH (yr ?_);rw[aao];refine eH (yr ?_);refine a0 _ (Vt (Qq vs.length)) ?_ rfl (Tu _) (λi j Z F=>by rw[show i=j by omega];exact QQ _);have e:=kas_range (vs.toArray.zip vs.toArray);rw[show(vs.toArray.zip vs.toArray).size=vs.length by simp]at e;exact e.symm
 .rw[Pn I,Pn I]
  rw[List.size_toArray]at I;refine eH (J (by omega) G5 a5 _ _ ?_);have b5:(kas_sort vs.length).kasWp (kas_ask prog w A.in1.in1 κ vs) (λp s'=>s'={s with heap:=G5}/\gn vs.length p/\Up1 ρ p vs.length) {s with heap:=G5}:=
   Tr.wp (λi j C hi F hC=>b7 G5 a5 i j hi F C hC) (HY (ρ:=ρ) (by omega))
  refine eH (Sq (kat_run (Q:=λB s'=>∃p:Array Nat,arrOf B=p.map (kas_item (vs.toArray.zip vs.toArray))/\R8 B=none/\s'={s with heap:=G5}/\gn vs.length p/\Up1 ρ p vs.length) (E:=E)
   rfl (by omega) b6 (λp' B s' a1 a2 a3 a4=>⟨p',a2,a3,a4⟩) b5) ?_ λ_ _ e=>e)
  rintro⟨⟨⟩,B⟩ s' ⟨p,a9,O,rfl,Y,hu⟩;exact a0 B p a9 O Y hu
theorem By{x:Value}(Y:∀j (V:List Value->zc->Prop),(∀vs Z,wpAny (model prog w) A.in1 (Vf vs >>=λl=>Tt [l] (call (.builtin "list.sort") [l] []) >>=λ_=>ret l) (λU s'=>∃v,U= .done (.ret v)/\Q v s') j Z->V vs Z)->wpAny (model prog w) A.in1 (collect x) V j s) :
  wpAny (model prog w) A (call (.builtin "sorted") [x]) Q E s:=by
 refine Calls.call_function_entry kind_sorted plain_sorted entry_sorted (args_sorted1 _) ?_;unfold Builtin.«sorted»;refine eH (m:=checkCount "sorted" 1 1 _) (yr ?_);exact eH (Y _ _ λvs Z h=>h)
theorem GP{a b:Str}(h1:¬a.cps.toList<b.cps.toList)(h2:¬b.cps.toList<a.cps.toList):a=b:=by
 have:=strKind.total a.cps.toList b.cps.toList (by simpa using h1) (by simpa using h2);cases a;cases b;congr;exact Xx.mp this
theorem yz(a:Str):¬a.cps.toList<a.cps.toList:=List.lt_irrefl _
theorem j0:∀a:List Str,ltS a a=false
 |[]=>rfl
 |x::r=>by simp[ltS,j0 r]
theorem mH:∀a b:List Str,ltS a b=false->ltS b a=false->a=b
 |[],[],_,_=>rfl
 |[],_::_,h,_=>by simp[ltS]at h
 |_::_,[],_,h=>by simp[ltS]at h
 |x::r,y::q,h1,h2=>by
  by_cases e:x=y
  .subst e
   simp only[ltS,Qf]at h1 h2;rw[mH r q h1 h2]
  .simp only[ltS,Pn e,Pn (Qn e),decide_eq_false_iff_not]at h1 h2
   exact absurd (GP h1 h2) e
theorem jF:∀a b c:List Str,ltS a b=true->ltS b c=true->ltS a c=true
 |[],[],_,h,_=>by simp[ltS]at h
 |_::_,[],_,h,_=>by simp[ltS]at h
 |[],_::_,[],_,h=>by simp[ltS]at h
 |[],_::_,_::_,_,_=>rfl
 |_::_,_::_,[],_,h=>by simp[ltS]at h
 |x::r,y::q,z::p,h1,h2=>by
  by_cases e:x=y
  .subst e
   simp only[ltS,Qf]at h1;by_cases e2:x=z
   .subst e2
    simp only[ltS,Qf]at h2⊢;exact jF r q p h1 h2
   .simp only[ltS,Pn e2]at h2⊢
    exact h2
  .simp only[ltS,Pn e,Td]at h1
   by_cases e2:y=z
   .subst e2
    simp only[ltS,Pn e,Td];exact h1
   .simp only[ltS,Pn e2,Td]at h2
    have N:=List.lt_trans h1 h2;have O:x≠z:=λF=>by subst F;exact yz _ N
    simp only[ltS,Pn O,Td];exact N
theorem zJ{a b c:List Str}(h:ltS a c=true)(h2:ltS b c=false):ltS a b=true:=by
 cases e:ltS a b with
 |true=>rfl
 |false=>
  cases e2:ltS b a with
  |true=>rw[jF b a c e2 h]at h2;cases h2
  |false=>rw[mH a b e e2,h2]at h;cases h
def below(ks:List (List Str))(a:List Str):Nat:=ks.countP λy=>ltS y a
theorem mG{p q:α->Bool}:∀{l:List α},(∀x∈l,p x=true->q x=true)->l.countP p<=l.countP q
 |[],_=>by simp
 |x::r,h=>by
  have F:=mG (l:=r) λy j=>h y (by simp[j]);rw[Wa,Wa];cases e:p x with
  |false=>simp;omega
  |true=>simp[h x (by simp) e,F]
variable{z:α}
theorem rF{p q:α->Bool}:∀{l:List α},(∀x∈l,p x=true->q x=true)->z∈l->q z=true->p z=false->l.countP p<l.countP q
 |[],_,h,_,_=>by cases h
 |x::r,h,hz,hq,hp=>by
  rw[Wa,Wa];have I:=mG (l:=r) λy j=>h y (by simp[j]);rcases Pj.mp hz with rfl|hz
  .simp[hq,hp];omega
  .have ih:=rF (l:=r) (λy j=>h y (by simp[j])) hz hq hp
   cases e:p x with
   |false=>simp;omega
   |true=>simp[h x (by simp) e];omega
theorem wM{a b:List Str}(O:a∈ks):ltS a b=decide ((below ks a:Int)<below ks b):=by
 cases e:ltS a b with
 |true=>
  have:=rF (l:=ks) (p:=λy=>ltS y a) (q:=λy=>ltS y b) (λy _ j=>jF y a b j e) O e (j0 a);exact(R4 (by unfold below;omega)).symm
 |false=>
  have:=mG (l:=ks) (p:=λy=>ltS y b) (q:=λy=>ltS y a) λy _ j=>zJ j e;exact(QB (by unfold below;omega)).symm
def Ot(K:Pu)(H:Hp)(ys:List V)(ks:List (List Str)):Prop:=ks.length=ys.length/\((∀(i:Nat)(k:List Str),ks[i]? =some k->∃x,k=[x]/\ys[i]? =some (.str x))∨∀(i:Nat)(k:List Str),ks[i]? =some k->∃b,ys[i]? =some (.ref b)/\SqL K H b (k.map V.str))
theorem vG(r:Vals ys B)(i:Nat):(ys[i]? =none/\B[i]? =none)∨∃y u,ys[i]? =some y/\B[i]? =some u/\RelV y u:=by
 cases e:ys[i]? with
 |none=>
  have:=r.length;exact .inl ⟨rfl,by rw[Sy]at e⊢;omega⟩
 |some y=>
  obtain⟨u,h1,h2⟩:=r.get e;exact .inr ⟨y,u,rfl,h1,h2⟩
theorem Cz{xs:List Str}(r:Vals (xs.map V.str) B):StA B.toArray xs:=λi=>by
 rcases vG r i with⟨h1,h2⟩|⟨y,u,h1,h2,N⟩
 .exact .inl ⟨by simpa using h2,by simpa using h1⟩
 .rw[List.getElem?_map]at h1
  cases e:xs[i]? with
  |none=>rw[e]at h1;cases h1
  |some x=>
   rw[e]at h1;cases h1;obtain⟨t,rfl⟩:=N;exact .inr ⟨x,t,by simpa using h2,rfl⟩
theorem pK(r:Vals ys B):∀p:List Nat,(∀i∈p,i<ys.length)->Vals (p.map λi=>ys.getD i .non) (p.map λi=>B.getD i QK)
 |[],_=>.nil
 |i::p,h=>by
  refine .cons ?_ (pK r p λj F=>h j (by simp[F]));rcases vG r i with⟨h1,h2⟩|⟨y,u,h1,h2,N⟩
  .have:=h i (by simp)
   rw[Sy]at h1;omega
  .show RelV (ys.getD i .non) (B.getD i QK)
   rw[RK,RK,h1,h2];exact N
theorem Ha(x y:Str):ltS [x] [y]=decide (x.cps.toList<y.cps.toList):=by
 by_cases z:x=y
 .subst z;simp[ltS,yz]
 .simp[ltS,z]
variable{X:Cx}{Q:VK}{E:Value->zc->Prop}{s:zc}
theorem sort_keys(I:Inv X pins σ H s)(rv:Vals xs its)(Z:xs.length<64)(a8:ks.length=xs.length)
  (J:2<=its.length->∀h':Heap,(∀b o,s.heap.get? b=some o->h'.get? b=some o)->∀(E':Value->zc->Prop)(Q':Xw->zc->Prop),Q' κ {s with heap:=h'}->wpAny (model X.prog X.w) X.A.in1.in1 (keyKind' its.toArray) Q' E' {s with heap:=h'})
  (a5:∀h':Heap,(∀b o,s.heap.get? b=some o->h'.get? b=some o)->∀i j,i<its.length->j<its.length->∀Q':Bool->zc->Prop,Q' (ltS (ks.getD i []) (ks.getD j [])) {s with heap:=h'}->wpAny (model X.prog X.w) X.A.in1.in1 (keyLt' κ (its.getD i QK) (its.getD j QK)) Q' (λ_ _=>False) {s with heap:=h'})
  (q:∀p:List Nat,QJ p (Qq xs.length)->YW (λi j=>ltS (ks.getD j []) (ks.getD i [])=false) p->∀l,H l=none->Q (.ref l) (upd H l (.lst (p.map λi=>xs.getD i .non)))) :
  wpAny (model X.prog X.w) X.A.in1 (Vf its >>=λl=>V7 [l] (call (.builtin "list.sort") [l] []) >>=λ_=>ret l) (λU s'=>∃v,U= .done (.ret v)/\EP X pins σ Q v s') E s:=by
 have O:=rv.length;have a7:64<=Px:=by decide
 have a0:∀i,i<its.length->ks.getD i []∈ks:=λi hi=>by
  have:i<ks.length:=by omega
  rw[show ks.getD i []=ks[i]by simp[this]];exact RZ _
 refine Bv (κ:=κ) (ρ:=λi=>(below ks (ks.getD i []):Int)) (by omega) J (λh' ext i j hi F Q' N=>a5 h' ext i j hi F Q' (by rw[wM (a0 i hi)];exact N)) λp Y a6 h' c a2 B=>?_;have a1:∀i∈p.toList,i<its.length:=λi hi=>RL.mp (ZP Y |>.mp hi);have b0:=Y.size;refine⟨.ref s.heap.objs.size,upd H s.heap.objs.size (.lst (p.toList.map λi=>xs.getD i V.non)),I.laid (t':=s.toks) a2 (Pg _) ?_,rfl,q p.toList (by rw[O];exact Y) ?_ _ (I.hok.fresh (Pg _))⟩
 .exact⟨by rw[Qe];simp only[Qh];omega,p.toList.map λi=>its.getD i QK,c,pK rv p.toList λi hi=>by have:=a1 i hi;omega,B⟩
 .rw[SJ]
  intro i j hi F a9;have a3:j<p.size:=by simpa using F
  have a4:i<p.size:=by simpa using hi
  have:=a6 i j (by omega) (by omega);unfold rk at this;rw[P_,P_,Qk p i a4,Qk p j a3,Va,Va]at this;rw[R5,R5,wM (a0 p[j] (a1 _ (by simp)))];exact QB (by simp only at this;omega)
theorem Dq(I:Inv X pins σ H s)(rv:Vals ys its)(Z:ys.length<64)(J:X.A.units+2<cLine)(hK:Ot X.K H ys ks)
  (q:∀p:List Nat,QJ p (Qq ys.length)->YW (λi j=>ltS (ks.getD j []) (ks.getD i [])=false) p->∀l,H l=none->Q (.ref l) (upd H l (.lst (p.map λi=>ys.getD i .non)))) :
  wpAny (model X.prog X.w) X.A.in1 (Vf its >>=λl=>V7 [l] (call (.builtin "list.sort") [l] []) >>=λ_=>ret l) (λa8 s'=>∃v,a8= .done (.ret v)/\EP X pins σ Q v s') E s:=by
 obtain⟨a5,a0⟩:=hK;have O:=rv.length;have a4:∀i,i<its.length->∃k,ks[i]? =some k/\ks.getD i []=k:=λi hi=>by
  have:i<ks.length:=by omega
  exact⟨ks[i],by simp[this],by simp[this]⟩
 rcases a0 with a0|a0
 .refine sort_keys (κ:=S6) I rv Z a5 (λh2 h' ext E' Q' a3=>Xy (T:=.type "str") (by omega) (λv N=>?_) rfl rfl a3) (λh' ext i j hi F Q' a3=>?_) q
  .obtain⟨i,hi,rfl⟩:=Rq N
   obtain⟨k,e1,_⟩:=a4 i hi;obtain⟨x,_,e3⟩:=a0 i k e1;obtain⟨u,h1,t,h2⟩:=rv.get e3;rw[Py hi]at h1;rw[QR h1,h2];exact Yu rfl
  .obtain⟨k1,e1,g1⟩:=a4 i hi
   obtain⟨k2,e2,g2⟩:=a4 j F;obtain⟨x,rfl,x3⟩:=a0 i k1 e1;obtain⟨y,rfl,y3⟩:=a0 j k2 e2;obtain⟨u1,a1,t1,rfl⟩:=rv.get x3;obtain⟨u2,a2,t2,rfl⟩:=rv.get y3;rw[RK,RK,a1,a2];refine oneLt_str ?_;rwa[g1,g2,Ha]at a3
 .refine sort_keys (κ:=S6) I rv Z a5 (λh2 h' ext E' Q' a3=>Xy (T:=.type "list") (by omega) (λv N=>?_) rfl rfl a3) (λh' ext i j hi F Q' a3=>?_) q
  .obtain⟨i,hi,rfl⟩:=Rq N
   obtain⟨k,e1,_⟩:=a4 i hi;obtain⟨b,e3,U⟩:=a0 i k e1;obtain⟨u,h1,h2⟩:=rv.get e3;rw[Py hi]at h1;cases h1;obtain⟨a9,_,pb,_⟩:=I.list U;obtain⟨o,B,Y,_⟩:=pb.isList;rw[show its[i]=Qw b from h2,←Y];exact(PySem.W.Looks.ld (ext _ _ B)).andThen .now
  .obtain⟨k1,e1,g1⟩:=a4 i hi
   obtain⟨k2,e2,g2⟩:=a4 j F;obtain⟨b1,x3,x4⟩:=a0 i k1 e1;obtain⟨b2,y3,y4⟩:=a0 j k2 e2;obtain⟨u1,a1,t1⟩:=rv.get x3;obtain⟨u2,a2,t2⟩:=rv.get y3;obtain⟨a7,r1,p1,_⟩:=I.list x4;obtain⟨a6,r2,p2,_⟩:=I.list y4;rw[RK,RK,a1,a2];rw[show u1=Qw b1 from t1,show u2=Qw b2 from t2];have x1:Heap.IsList h' b1 a7.toArray:=by obtain⟨o,B,z⟩:=p1.isList;exact⟨o,ext _ _ B,z⟩
   have x2:Heap.IsList h' b2 a6.toArray:=by obtain⟨o,B,z⟩:=p2.isList;exact⟨o,ext _ _ B,z⟩
   have l1:=r1.length;have l2:=r2.length;rw[Qe]at l1 l2;refine xu (xs:=k1) (ys:=k2) x1 x2 (Cz r1) (Cz r2) (by rw[List.size_toArray];omega) (by rw[List.size_toArray];omega) (by show X.A.units+1+1<cLine;omega) ?_;rwa[g1,g2]at a3
def inL(k:List Str):List (List Str)->List (List Str)
 |[]=>[k]
 |a::r=>if ltS a k=true then a::inL k r else k::a::r
def Aq(l:List (List Str)):List (List Str):=l.foldr inL []
abbrev RiL(l:List (List Str)):Prop:=YW (λa b=>ltS b a=false) l
theorem pF(k:List Str):∀l,QJ (inL k l) (k::l)
 |[]=>.refl _
 |a::r=>by
  unfold inL;split
  .exact((pF k r).cons a).trans (.swap k a r)
  .exact .refl _
theorem rO:∀l,QJ (Aq l) l
 |[]=>.refl _
 |a::r=>(pF a _).trans ((rO r).cons a)
theorem DY{k:List Str}:∀{l},RiL l->RiL (inL k l)
 |[],_=>by simp[inL]
 |a::r,h=>by
  obtain⟨h1,h2⟩:=Q4.mp h;unfold inL;split
  .rename_i c
   refine Q4.mpr ⟨λb U=>?_,DY h2⟩;rcases Pj.mp ((pF k r).mem_iff.mp U)with rfl|U
   .cases e:ltS b a with
    |false=>rfl
    |true=>have:=jF _ _ _ c e;rw[j0]at this;cases this
   .exact h1 b U
  .rename_i c
   have c:ltS a k=false:=by simpa using c
   refine Q4.mpr ⟨λb U=>?_,h⟩;rcases Pj.mp U with rfl|U
   .exact c
   .cases e:ltS b k with
    |false=>rfl
    |true=>
     have:=zJ e c;rw[h1 b U]at this;cases this
theorem yh:∀l,RiL (Aq l)
 |[]=>.nil
 |a::r=>DY (yh r)
theorem yL:∀{l m:List (List Str)},QJ l m->RiL l->RiL m->l=m
 |[],m,h,_,_=>h.nil_eq
 |a::r,[],h,_,_=>by have:=h.length_eq;simp at this
 |a::r,b::q,h,h1,h2=>by
  obtain⟨x1,I⟩:=Q4.mp h1;obtain⟨j,F⟩:=Q4.mp h2;have e:a=b:=by
   rcases Pj.mp (h.mem_iff.mp (Qt (a:=a) (l:=r)))with z|z
   .exact z
   .rcases Pj.mp (h.mem_iff.mpr (Qt (a:=b) (l:=q)))with w|w
    .exact w.symm
    .exact mH a b (j a z) (x1 b w)
  subst e;rw[yL (List.Perm.cons_inv h) I F]
def strsOf:List D->Option (List Str)
 |[]=>some []
 |.str x::r=>(strsOf r).map λt=>x::t
 |_=>none
theorem sG:∀{ds:List D}{k:List Str},strsOf ds=some k->ds=k.map D.str
 |[],k,h=>by cases h;rfl
 |d::r,k,h=>by
  cases d<;>simp only[strsOf]at h<;>try cases h
  cases e:strsOf r with
  |none=>rw[e]at h;cases h
  |some t=>rw[e]at h;cases h;rw[sG e];rfl
theorem xO(l:List α)(z:α):(Qq l.length).map (λi=>l.getD i z)=l:=by
 apply aah
 .simp
 .intro i h1 h2
  simp[h2]
theorem v5{α:Type}{f:α->β}{l:List α}{z:α}{y:β}{p:List Nat}(h:∀i∈p,i<l.length):p.map (λi=>(l.map f).getD i y)=(p.map λi=>l.getD i z).map f:=by
 rw[Qp];refine Sg λi hi=>?_;have:=h i hi;simp[this]
theorem qz{j:List Addr}{p:Addr}(Z:aF G H W ds xs M)(s:∀a∈M,a∈j)(nd:M.Nodup)(hn:∀a∈j,W.tmp a)(Y:H p=none)(q:Done G H W j (.lst .own ds) Q):Q (.ref p) (upd H p (.lst xs)):=by
 have F:Same H (upd H p (.lst xs)):=Same.new Y;have J:p∉M:=λz=>by obtain⟨o,B,_⟩:=Z.dom p z;rw[Y]at B;cases B
 refine q (.ref p) _ (p::M) F ?_ (λa O=>(Pj.mp O).elim (λz=>.inr (by rw[z];exact Y)) λz=>.inl (s a z)) (QC.mpr ⟨J,nd⟩);rw[Rep];exact⟨p,xs,M,rfl,Z.up ⟨F,λb u U f=>⟨λz=>z.elim (λz=>(Pj.mp z).elim (λz=>by rw[z,Y]at U;cases U) λz=>f.1 (hn b (s b z)).1) λz=>f.1 z.1,f.2⟩,λ_ _ _ f=>f⟩,aZ,rfl⟩
theorem wK:∀{k:List Str}{xs:List V}{M:List Addr},aF G H W (k.map D.str) xs M->xs=k.map V.str
 |[],xs,M,r=>r.inv0.1
 |x::k,xs,M,r=>by
  obtain⟨y,ys,A,B,rfl,_,Y,j⟩:=r.inv;rw[(bI Y).1,wK j];rfl
def Eh(ys:List Str):List Str:=(Aq (ys.map λy=>[y])).map λk=>k.headD ""
theorem uY:∀ys:List Str,aF G H W (ys.map D.str) (ys.map V.str) []
 |[]=>.nil
 |x::r=>aF.cons (M:=[]) (M':=[]) uG (uY r)
def Itz(K:Pu)(a b:Addr):It:=
 ⟨λi H=>∃xs ys x y,SqL K H a xs/\SqL K H b ys/\xs[i]? =some x/\ys[i]? =some y,λi H x H'=>∃p u v,H p=none/\x= .ref p/\(∀xs,SqL K H a xs->xs[i]? =some u)/\(∀xs,SqL K H b xs->xs[i]? =some v)/\H'=upd H p (.tup [u,v]),λi H=>∃xs ys,SqL K H a xs/\SqL K H b ys/\(xs.length<=i∨ys.length<=i)⟩
theorem Eo{P:QG}{K:Pu}{x1}(a b z TI TO i1 i2:Addr)(ap:ZipApart z TI TO i1 i2 a b) :
  Turn P w K (.Tuple elts x1 pos) (Itz K a b) [z,TI,TO,i1,i2] z (λi h=>IsZip h z TI TO .none/\Tq h TI (.ref i1) (.ref i2)/\(∃u v,Tq h TO u v)/\h.IsListIter i1 a i/\h.IsListIter i2 b i)where
 mem:=by simp
 obj:=λi h st c Y=>by
  obtain⟨h1,h2,⟨u,v,N⟩,⟨o1,q1,_,d1⟩,⟨o2,q2,_,d2⟩⟩:=st;simp only[Pj,Rn,UG]at Y;rcases Y with e|e|e|e|e<;>subst e
  .exact⟨_,h1,λv z=>by cases z⟩
  .exact⟨_,h2,λv z=>by cases z⟩
  .exact⟨_,N,λv z=>by cases z⟩
  .exact⟨o1,q1,λv z=>by rw[d1]at z;cases z⟩
  .exact⟨o2,q2,λv z=>by rw[d2]at z;cases z⟩
 keep:=λi h h' st k=>by
  obtain⟨h1,h2,⟨u,v,N⟩,V,h5⟩:=st;exact⟨k z (by simp) _ h1,k TI (by simp) _ h2,⟨u,v,k TO (by simp) _ N⟩,V.at λo q=>k i1 (by simp) o q,h5.at λo q=>k i2 (by simp) o q⟩
 item:=by
  intro X hP hw hK Y i pins s σ H E I O st hg;subst hP hw hK;obtain⟨xs,ys,x,y,hq,a0,J,j⟩:=hg;obtain⟨its,F,p,hz⟩:=I.list hq;obtain⟨its',a1,p',a6⟩:=I.list a0;obtain⟨u,hu,ru⟩:=F.get J;obtain⟨v,hv,a7⟩:=a1.get j;obtain⟨h1,h2,⟨u0,v0,N⟩,V,h5⟩:=st;have B:∀c∈[z,TI,TO,i1,i2],c<s.heap.objs.size:=λc Y=>by
   simp only[Pj,Rn,UG]at Y;obtain⟨o1,q1,_⟩:=V;obtain⟨o2,q2,_⟩:=h5;rcases Y with e|e|e|e|e<;>subst e
   .exact Ph h1
   .exact Ph h2
   .exact Ph N
   .exact Ph q1
   .exact Ph q2
  refine wpAny_pyNext_zip_item ap h1 h2 N V h5 p.isList p'.isList (x:=u) (y:=v) (by simpa using hu) (by simpa using hv) λh' g1 g3 g4 g5 g6 hsz k1=>?_;refine⟨.ref s.heap.objs.size,rfl,Xk g1 λa2 a9 sb=>?_⟩;have a5:z<s.heap.objs.size:=B z (by simp);have a3:s.heap.objs.size≠z:=Sh a5;have a8:a2.get? s.heap.objs.size=some {cls:=.type "tuple",data:=.seq #[u,v]}:=sb.extBut _ _ a3 g6;have kk:∀c o,c∉[z,TI,TO,i1,i2]->s.heap.get? c=some o->a2.get? c=some o:=λc o Y q=>by
   have n1:c≠z:=λe=>Y (by simp[e]);exact sb.extBut c o n1 (k1 c o n1 (λe=>Y (by simp[e])) (λe=>Y (by simp[e])) (λe=>Y (by simp[e])) q)
  have I2:Inv X pins σ (upd H s.heap.objs.size (.tup [x,y])) {s with heap:=a2,toks:=s.toks}:=by
   refine lz (fp:=[z,TI,TO,i1,i2]) (t':=s.toks) I O (λb o U q=>kk b o U q) (Pg _) ?_;exact⟨by show 2<=Px;decide,[u,v],.cons ru (.cons a7 .nil),_,a8,rfl,_,rfl,rfl⟩
  refine⟨.ref s.heap.objs.size,upd H s.heap.objs.size (.tup [x,y]),I2,rfl,⟨_,x,y,I.hok.fresh (Pg _),rfl,λys j=>by rw[I.list_inj j hq];exact J,λys a4=>by rw[I.list_inj a4 a0];exact j,rfl⟩,?_,λc Y=>?_⟩
  .refine⟨a9,sb.extBut _ _ ap.TIz (k1 _ _ ap.TIz ap.TITO ap.TIi1 ap.TIi2 h2),⟨u,v,sb.extBut _ _ ap.TOz g3⟩,g4.extBut sb.extBut ap.i1z,g5.extBut sb.extBut ap.i2z⟩
  .rw[aK λe=>Rt _ (e▸B c Y)]
   exact(O c Y).1
 done:=by
  intro X hP hw hK Y i pins s σ H E I O st hg;subst hP hw hK;obtain⟨xs,ys,hq,a0,J⟩:=hg;obtain⟨its,F,p,hz⟩:=I.list hq;obtain⟨its',a1,p',a6⟩:=I.list a0;obtain⟨h1,h2,⟨u0,v0,N⟩,V,h5⟩:=st;have Z:=F.length;have b0:=a1.length;refine wpAny_pyNext_zip_end (I.ok.hd Y) ap h1 h2 N V h5 p.isList p'.isList (J.imp (λe=>by simp;omega) λe=>by simp;omega) λh' k1=>⟨rfl,?_⟩;exact gJ (fp:=[z,TI,TO,i1,i2]) (t':=s.toks) I O λc o Y q=>k1 c o (λe=>Y (by simp[e])) (λe=>Y (by simp[e])) (λe=>Y (by simp[e])) (λe=>Y (by simp[e])) q
 self:=λA i s Q E st h=>Wb st.1 h
def zm:D->Bool
 |.lst _ _=>true
 |_=>false
def uN(a b:List D):List D:=List.zipWith (λx y=>.tup [x,y]) a b
def itZ(f:En->Option (List D)):En->Option (Bool×List D):=λρ=>(f ρ).bind λds=>match ds with
 |[d,d']=>if zm d=true/\zm d'=true then(bW d).bind λp=>(bW d').map λV=>(p.1&&V.1,uN p.2 V.2)else none
 |_=>none
theorem lq{a b:List D}(h:(uN a b)[i]? =some d):∃x y,a[i]? =some x/\b[i]? =some y/\d= .tup [x,y]:=by
 unfold uN at h;rw[List.getElem?_zipWith]at h;cases h1:a[i]? with
 |none=>simp[h1]at h
 |some x=>
  cases h2:b[i]? with
  |none=>simp[h1,h2]at h
  |some y=>exact⟨x,y,rfl,rfl,by simpa[h1,h2]using h.symm⟩
variable{b:Bool}
theorem LtB.and1{N:Bool}{B:Wn}(l:LtB (b&&N) H W H2 B):LtB b H W H2 B:=by
 cases b with
 |false=>exact l
 |true=>
  cases N with
  |true=>exact l
  |false=>exact LtB.up ((Pn Rx).mp l)
theorem LtB.and2{N:Bool}{B:Wn}(l:LtB (b&&N) H W H2 B):LtB N H W H2 B:=by
 cases N with
 |false=>rw[aay]at l;exact l
 |true=>
  cases b with
  |true=>exact l
  |false=>exact LtB.up ((Pn Rx).mp l)
theorem vN(w:WOk H W)(s:Same H H')(r:Rep G H' (W.add L) d v M)(I:∀a∈M,a∈L)(fr:∀a∈L,H a=none)(e:bW d=some (b,es))(j:zm d=true) :
  ∃a xs,v= .ref a/\Parts G H' W b es xs/\∀H2 B,LtB b H' W H2 B->SqL G.K H2 a xs:=by
 have free:∀a∈M,W.free a:=λa O=>⟨λz=>?_,λz=>?_,λz=>?_⟩
 .have les:Les H' (W.add L) W M:=⟨λa f=>⟨λz=>f.1 (.inr z),f.2⟩,free⟩
  cases d with
  |lst m ds=>
   simp only[bW,S_,Vc]at e;obtain⟨rfl,rfl⟩:=e;rw[Rep]at r;obtain⟨a,xs,M,rfl,Z,F⟩:=r;refine⟨a,xs,rfl,⟨aF.fzo (W:=W.add L) (W':=W) (λ_ z=>z) Z (les.sub λc Y=>F.sub.subset Y),λz=>?_⟩,λH2 B l=>Ei (lQ F les (λz=>z) (λz=>?_) l)⟩
   .simp[clean,aA,az]at z
    exact⟨bO z.1.2,bQ z.2.2⟩
   .simp[clean,aA,az]at z
    exact⟨z.1.1,z.2.1⟩
  |_=>cases j
 .obtain⟨o,ho,_⟩:=w a (.inl z);rw[fr a (I a O)]at ho;cases ho
 .obtain⟨o,ho,_⟩:=w a (.inr (.inl z));rw[fr a (I a O)]at ho;cases ho
 .obtain⟨o,ho,_⟩:=w a (.inr (.inr z));rw[fr a (I a O)]at ho;cases ho
end Jb
namespace PySem
open PySem.Builtin PySem.Builtin.List PySem.Builtin.SmallTypes
section
variable{prog:Program}{w:World}{A:Around}{E:Value->Shared->Prop}{z TI TO i1 i2 l1 l2 p:Addr}{k:Nat}{xs ys:Array Value}{x y u v:Value}{b:Bool}{h:Heap}{g:Array GenState}{d:Drawn}{tk:Nat}{os:OsState}
theorem F.jb_sub_stop:isSubtype (.type "StopIteration") (.type "StopIteration")=pure true:=by rw[Vu];kernel_rfl
end
end PySem
namespace Jb
open PySem PySem.Spec PyProof.Rows L2
variable{G:Gc}
theorem CT{K:Pu}{k:Nat}:fK P w K mg base CX0 k f fd ps (spP G λ_=>none):=
 ⟨λvs H Q E ⟨ds,Fr,r,_,_,_,d,e,_⟩=>(by cases e),λA outer s H args B vs Q E Z V U N ⟨ds,Fr,r,_,_,_,d,e,_⟩=>(by cases e)⟩
theorem vd{H:Hp}{W:Wn}:∀{ns:List Int}{vs:List V}{M:List Addr},aF G H W (ns.map D.int) vs M->vs=ns.map V.int
 |[],vs,M,r=>r.inv0.1
 |n::t,vs,M,r=>by
  obtain⟨x,j,U,B,rfl,rfl,q1,q2⟩:=aF.inv (r:=t.map D.int) r;rw[Rep]at q1;rw[q1.1,vd q2];rfl
def o9:List D->Option (List Int)
 |[]=>some []
 |.int i::r=>(o9 r).map (i::·)
 |_=>none
theorem vA:∀{ds:List D}{ns:List Int},o9 ds=some ns->ds=ns.map D.int
 |[],ns,h=>by cases h;rfl
 |d::r,ns,h=>by
  cases d<;>simp only[o9]at h<;>try cases h
  simp only[Yj]at h;obtain⟨t,h1,rfl⟩:=h;rw[vA h1];rfl
end Jb
namespace PySem
open PySem.Builtin PySem.Builtin.List PySem.Builtin.SmallTypes
section
variable{prog:Program}{w:World}{A:Around}{E:Value->Shared->Prop}{z TI TO i1 i2 l1 l2 p:Addr}{k:Nat}{xs ys:Array Value}{x y u v:Value}{b:Bool}{h:Heap}{g:Array GenState}{d:Drawn}{tk:Nat}{os:OsState}
theorem Bo{Q:Option Value->zc->Prop}(hh:A.handled=none)(B:ZipApart z TI TO i1 i2 l1 l2)(hz:IsZip h z TI TO .none)(hT:Tq h TI (.ref i1) (.ref i2))(hO:Tq h TO u v)(Z:h.IsTupleIter i1 l1 k)(s2:h.IsTupleIter i2 l2 k)(p1:h.IsTuple l1 xs)(p2:h.IsTuple l2 ys)(J:xs[k]? =some x)(j:ys[k]? =some y)
  (hq:∀h' Y,IsZip h' z TI TO (Q7 h.objs.size)->Tq h' TI (.ref i1) (.ref i2)->Tq h' TO x y->h'.IsTupleIter i1 l1 (k+1)->h'.IsTupleIter i2 l2 (k+1)->Tq h' h.objs.size x y->(∀c o,c≠z->c≠TO->c≠i1->c≠i2->h.get? c=some o->h'.get? c=some o)->Q (some (.ref h.objs.size)) ⟨h',g,d,Y,os⟩) :
  wpAny (model prog w) A (Ut (.ref z)) Q E ⟨h,g,d,tk,os⟩:=by
 have a8:(⟨h,g,d,tk,os⟩:zc).TypeIs (.ref z) "zip":=⟨_,hz,rfl⟩;unfold Ut;refine eH (TX ?_);refine QW a8 Uw ?_
 repeat(any_goals(first|assumption|wp_step))
 refine Ra Uw.plain F.entry_zip_next (Uw.check _ _ _ _ _ _ _ _ a8 (ZQ _) ?_);unfold Builtin.«zip.__next__»
 iterate 56 (first|assumption|wp_step)
 refine Q5 hz (by simp) λh1 a5 q=>?_;have a5:IsZip h1 z TI TO .ellipsis:=a5;have O:∀c o,c≠z->h.get? c=some o->h1.get? c=some o:=λc o n e=>q.extBut c o n e;refine eH ?_;simp only[Xz,aap,X7,aaz];have U:h1.IsTupleIter i1 l1 k:=Z.at λo e=>O _ o B.i1z e;have a2:h1.IsTuple l1 xs:=p1.extBut q.extBut B.l1z;refine eH (eH (Xc (eH (m:=nextOf (.ref i1)) (du U a2 J λh2 b3 a6=>yr ?_))));have k2:∀c o,c≠z->c≠i1->h.get? c=some o->h2.get? c=some o:=λc o n n' e=>a6.extBut c o n' (O c o n e);have o2:Tq h2 TO u v:=k2 _ _ B.TOz B.TOi1 hO;refine eH (T_ o2 rfl ?_);refine eH (Wt o2 λN o3 a4=>?_);have o3:Tq N TO x v:=o3;have k3:∀c o,c≠z->c≠i1->c≠TO->h.get? c=some o->N.get? c=some o:=λc o n n' m e=>a4.extBut c o m (k2 c o n n' e);refine eH (Z5 (yr ?_));have b1:N.IsTupleIter i2 l2 k:=s2.at λo e=>k3 _ o B.i2z (Qn B.i12) (Qn B.TOi2) e;have b2:N.IsTuple l2 ys:=let⟨o,e,r⟩:=p2;⟨o,k3 _ o B.l2z B.l2i1 B.l2TO e,r⟩;refine eH (eH (Xc (eH (m:=nextOf (.ref i2)) (du b1 b2 j λV b0 a0=>yr ?_))));have o4:Tq V TO x v:=a0.extBut _ _ B.TOi2 o3;refine eH (T_ o4 rfl ?_);refine eH (Wt o4 λI o5 a3=>?_);have o5:Tq I TO x y:=o5;refine eH (Z5 (yr (yr ?_)));refine eH (T_ o5 rfl ?_);refine eH (WM ?_ (by show 2<=Px;decide));have e5:I.objs.size=h.objs.size:=by rw[a3.1,a0.1,a4.1,a6.1,q.1]
 have k5:∀c o,c≠z->c≠TO->c≠i1->c≠i2->h.get? c=some o->I.get? c=some o:=λc o n1 n2 n3 n4 e=>a3.extBut c o n2 (a0.extBut c o n4 (k3 c o n1 n3 n2 e));have z5:IsZip I z TI TO .ellipsis:=a3.extBut _ _ (Qn B.TOz) (a0.extBut _ _ (Qn B.i2z) (a4.extBut _ _ (Qn B.TOz) (a6.extBut _ _ (Qn B.i1z) a5)));have zl:z<I.objs.size:=Ph z5;refine eH ?_;unfold ownedTupleHandOut;have z6:IsZip (I.push {cls:=.type "tuple",data:=.seq #[x,y]}) z TI TO .ellipsis:=gD _ z5;refine eH (Q5 z6 (by simp) λh7 z7 a9=>?_);have z7:IsZip h7 z TI TO (Q7 I.objs.size):=z7;refine Q5 z7 (by simp) λh8 z8 a7=>?_;have z8:IsZip h8 z TI TO (Q7 I.objs.size):=z8;have k8:∀c o,c≠z->I.get? c=some o->h8.get? c=some o:=λc o n e=>a7.extBut c o n (a9.extBut c o n (gD _ e));have n8:Tq h8 I.objs.size x y:=a7.extBut _ _ (Sh zl) (a9.extBut _ _ (Sh zl) (Pz _ rfl));have t1:I.IsTupleIter i1 l1 (k+1):=b3.at λo e=>a3.extBut _ o (Qn B.TOi1) (a0.extBut _ o B.i12 (a4.extBut _ o (Qn B.TOi1) e));have t2:I.IsTupleIter i2 l2 (k+1):=b0.at λo e=>a3.extBut _ o (Qn B.TOi2) e;refine yr ?_;refine yr ?_;show Q (some (.ref I.objs.size)) ⟨h8,g,d,tk,os⟩;rw[e5]at z8 n8⊢;exact hq h8 tk z8 (k8 _ _ B.TIz (k5 _ _ B.TIz B.TITO B.TIi1 B.TIi2 hT)) (k8 _ _ B.TOz o5) (t1.at λo e=>k8 _ o B.i1z e) (t2.at λo e=>k8 _ o B.i2z e) n8 λc o n1 n2 n3 n4 e=>k8 c o n1 (k5 c o n1 n2 n3 n4 e)
theorem Em{Q:Option Value->zc->Prop}(hh:A.handled=none)(B:ZipApart z TI TO i1 i2 l1 l2)(hz:IsZip h z TI TO .none)(hT:Tq h TI (.ref i1) (.ref i2))(hO:Tq h TO u v)(Z:h.IsTupleIter i1 l1 k)(s2:h.IsTupleIter i2 l2 k)(p1:h.IsTuple l1 xs)(p2:h.IsTuple l2 ys)(hn:xs.size<=k∨ys.size<=k)
  (hq:∀h',(∀c o,c≠z->c≠TO->c≠i1->c≠i2->h.get? c=some o->h'.get? c=some o)->Q none ⟨h',g,d,tk,os⟩) :
  wpAny (model prog w) A (Ut (.ref z)) Q E ⟨h,g,d,tk,os⟩:=by
 have a7:(⟨h,g,d,tk,os⟩:zc).TypeIs (.ref z) "zip":=⟨_,hz,rfl⟩;have a8:A.in1.handled=none:=hh;unfold Ut;refine eH (TX ?_);refine QW a7 Uw ?_
 repeat(any_goals(first|assumption|wp_step))
 refine Ra Uw.plain F.entry_zip_next (Uw.check _ _ _ _ _ _ _ _ a7 (ZQ _) ?_);unfold Builtin.«zip.__next__»
 iterate 56 (first|assumption|wp_step)
 refine Q5 hz (by simp) λh1 a4 a6=>?_;have a4:IsZip h1 z TI TO .ellipsis:=a4;have O:∀c o,c≠z->h.get? c=some o->h1.get? c=some o:=λc o n e=>a6.extBut c o n e;refine eH ?_;simp only[Xz,aap,X7,aaz];have U:h1.IsTupleIter i1 l1 k:=Z.at λo e=>O _ o B.i1z e;have a2:h1.IsTuple l1 xs:=p1.extBut a6.extBut B.l1z;refine eH (eH (Xc ?_));by_cases J:k<xs.size
 .refine eH (m:=nextOf (.ref i1)) (du U a2 (x:=xs[k]) (by simp[J]) λh2 b0 a5=>yr ?_)
  have j:ys.size<=k:=hn.resolve_left (Nat.not_le.mpr J);have k2:∀c o,c≠z->c≠i1->h.get? c=some o->h2.get? c=some o:=λc o n n' e=>a5.extBut c o n' (O c o n e);have o2:Tq h2 TO u v:=k2 _ _ B.TOz B.TOi1 hO;refine eH (T_ o2 rfl ?_);refine eH (Wt o2 λN o3 a9=>?_);have k3:∀c o,c≠z->c≠i1->c≠TO->h.get? c=some o->N.get? c=some o:=λc o n n' m e=>a9.extBut c o m (k2 c o n n' e);refine eH (Z5 (yr ?_));have b1:N.IsTupleIter i2 l2 k:=s2.at λo e=>k3 _ o B.i2z (Qn B.i12) (Qn B.TOi2) e;have b2:N.IsTuple l2 ys:=let⟨o,e,r⟩:=p2;⟨o,k3 _ o B.l2z B.l2i1 B.l2TO e,r⟩;refine eH (eH (Xc (eH (m:=nextOf (.ref i2)) ((Draws.tupleEnd a8 i2 l2 k ys (UJ j)).done _ _ _ ⟨rfl,b1,b2⟩ λh4 ee a0 hE=>?_))));obtain⟨oe,V,Y⟩:=hE;have z4:IsZip h4 z TI TO .ellipsis:=a0 _ _ (Qn B.i2z) (a9.extBut _ _ (Qn B.TOz) (a5.extBut _ _ (Qn B.i1z) a4));have ne:ee≠z:=λq=>by subst q;rw[z4]at V;cases V;simp at Y
  refine Q5 z4 (by simp) λI z5 a3=>?_;refine eH (Ss (T:="StopIteration") (b:=true) ⟨oe,a3.extBut _ _ ne V,Y⟩ F.jb_sub_stop ?_);exact yr (hq _ λc o n1 n2 n3 n4 e=>a3.extBut c o n1 (a0 c o n4 (k3 c o n1 n3 n2 e)))
 .refine eH (m:=nextOf (.ref i1)) ((Draws.tupleEnd a8 i1 l1 k xs (UJ (aaq.mp J))).done _ _ _ ⟨rfl,U,a2⟩ λh4 ee a0 hE=>?_)
  obtain⟨oe,V,Y⟩:=hE;have z4:IsZip h4 z TI TO .ellipsis:=a0 _ _ (Qn B.i1z) a4;have ne:ee≠z:=λq=>by subst q;rw[z4]at V;cases V;simp at Y
  refine Q5 z4 (by simp) λI z5 a3=>?_;refine eH (Ss (T:="StopIteration") (b:=true) ⟨oe,a3.extBut _ _ ne V,Y⟩ F.jb_sub_stop ?_);exact yr (hq _ λc o n1 n2 n3 n4 e=>a3.extBut c o n1 (a0 c o n3 (O c o n1 e)))
def tI(l:Addr):Obj:={cls:=.type "tuple_iterator",data:=.fields #[.ref l,.int 0 0]}
def tZa(h:Heap)(l1:Addr):Heap:=h.push (tI l1)
def tZb(h:Heap)(l1 l2:Addr):Heap:=(tZa h l1).push (tI l2)
def tZc(h:Heap)(l1 l2:Addr):Heap:=(tZb h l1 l2).push {cls:=.type "tuple",data:=.seq #[.ref h.objs.size,.ref (tZa h l1).objs.size]}
def tZd(h:Heap)(l1 l2:Addr):Heap:=(tZc h l1 l2).push {cls:=.type "tuple",data:=.seq #[.none,.none]}
def tZ(h:Heap)(l1 l2:Addr):Heap:=(tZd h l1 l2).push {cls:=.type "zip",data:=.fields #[.none,.bool false,.bool false,.ref (tZb h l1 l2).objs.size,.ref (tZc h l1 l2).objs.size]}
theorem qK{Q:Zm->zc->Prop}(p1:h.IsTuple l1 xs)(p2:h.IsTuple l2 ys)(N:Q (.done (.ret (.ref (tZd h l1 l2).objs.size))) ⟨tZ h l1 l2,g,d,tk,os⟩) :
  wpAny (model prog w) A (Builtin.«zip.__new__» ⟨[.type "zip",.ref l1,.ref l2],[]⟩) Q E ⟨h,g,d,tk,os⟩:=by
 have V:=sub_zip;have q1:(⟨h,g,d,tk,os⟩:zc).heap.IsTuple l1 xs:=p1;have q2:Heap.IsTuple (Shared.heap ⟨h.push {cls:=.type "tuple_iterator",data:=.fields #[.ref l1,.int 0 0]},g,d,tk,os⟩) l2 ys:=p2.push _
 wp_walk using wpAny_pyIter_tuple q1,wpAny_pyIter_tuple q2
 exact N
theorem zX{Q:Value->zc->Prop}(p1:h.IsTuple l1 xs)(p2:h.IsTuple l2 ys)
  (N:∀h',IsZip h' (h.objs.size+4) (h.objs.size+2) (h.objs.size+3) .none->Tq h' (h.objs.size+2) (.ref h.objs.size) (.ref (h.objs.size+1))->Tq h' (h.objs.size+3) .none .none->h'.IsTupleIter h.objs.size l1 0->h'.IsTupleIter (h.objs.size+1) l2 0->(∀c o,h.get? c=some o->h'.get? c=some o)->Q (.ref (h.objs.size+4)) ⟨h',g,d,tk,os⟩) :
  wpAny (model prog w) A (call (.type "zip") [.ref l1,.ref l2]) Q E ⟨h,g,d,tk,os⟩:=by
 have B:(tZa h l1).objs.size=h.objs.size+1:=Rc ..;have V:(tZb h l1 l2).objs.size=h.objs.size+2:=by rw[tZb,Rc,B]
 have Y:(tZc h l1 l2).objs.size=h.objs.size+3:=by rw[tZc,Rc,V]
 have zd:(tZd h l1 l2).objs.size=h.objs.size+4:=by rw[tZd,Rc,Y]
 have up:∀c o,(tZb h l1 l2).get? c=some o->(tZ h l1 l2).get? c=some o:=λc o e=>gD _ (gD _ (gD _ e));have j:(tZ h l1 l2).get? (tZd h l1 l2).objs.size=some _:=Pz _ rfl;have q:(tZ h l1 l2).get? (tZc h l1 l2).objs.size=some _:=gD _ (Pz _ rfl);have J:(tZ h l1 l2).get? (tZb h l1 l2).objs.size=some _:=gD _ (gD _ (Pz _ rfl));have O:(tZ h l1 l2).get? (tZa h l1).objs.size=some (tI l2):=up _ _ (Pz _ rfl);have I:(tZ h l1 l2).get? h.objs.size=some (tI l1):=up _ _ (gD _ (Pz _ rfl));rw[zd,V,Y]at j;rw[Y]at q;rw[V,B]at J;rw[B]at O;refine callType_newIn F.called_zip (by decide) (F.typeCall_zip_2 _ _) (F.newCall_zip_2 _ _) (λobj=>F.args_object_init_3 _ _ _) F.entry_zip_new (S:=λZ R s'=>s'=⟨h,g,d,tk,os⟩/\R (.ok (.ret (.ref (h.objs.size+4)))) ⟨tZ h l1 l2,g,d,tk,os⟩) ?_ ⟨rfl,⟨⟨_,j,rfl⟩,N _ j J q ⟨_,I,rfl,rfl⟩ ⟨_,O,rfl,rfl⟩ λc o e=>up c o (gD _ (gD _ e))⟩⟩;rintro Z R s' ⟨rfl,U⟩;rw[←zd]at U;exact qK p1 p2 U
end
end PySem
namespace Jb
open PySem PySem.Spec PyProof.Rows L2
def Mw(K:Pu)(a b:Addr):It:=
 ⟨λi H=>∃xs ys x y,SqT K H a xs/\SqT K H b ys/\xs[i]? =some x/\ys[i]? =some y,λi H x H'=>∃p u v,H p=none/\x= .ref p/\(∀xs,SqT K H a xs->xs[i]? =some u)/\(∀xs,SqT K H b xs->xs[i]? =some v)/\H'=upd H p (.tup [u,v]),λi H=>∃xs ys,SqT K H a xs/\SqT K H b ys/\(xs.length<=i∨ys.length<=i)⟩
theorem Ak{K:Pu}{x1}(a b z TI TO i1 i2:Addr)(ap:ZipApart z TI TO i1 i2 a b) :
  Turn P w K (.Tuple elts x1 pos) (Mw K a b) [z,TI,TO,i1,i2] z (λi h=>IsZip h z TI TO .none/\Tq h TI (.ref i1) (.ref i2)/\(∃u v,Tq h TO u v)/\h.IsTupleIter i1 a i/\h.IsTupleIter i2 b i)where
 mem:=by simp
 obj:=λi h st c Y=>by
  obtain⟨h1,h2,⟨u,v,N⟩,⟨o1,q1,_,d1⟩,⟨o2,q2,_,d2⟩⟩:=st;simp only[Pj,Rn,UG]at Y;rcases Y with e|e|e|e|e<;>subst e
  .exact⟨_,h1,λv z=>by cases z⟩
  .exact⟨_,h2,λv z=>by cases z⟩
  .exact⟨_,N,λv z=>by cases z⟩
  .exact⟨o1,q1,λv z=>by rw[d1]at z;cases z⟩
  .exact⟨o2,q2,λv z=>by rw[d2]at z;cases z⟩
 keep:=λi h h' st k=>by
  obtain⟨h1,h2,⟨u,v,N⟩,V,h5⟩:=st;exact⟨k z (by simp) _ h1,k TI (by simp) _ h2,⟨u,v,k TO (by simp) _ N⟩,V.at λo q=>k i1 (by simp) o q,h5.at λo q=>k i2 (by simp) o q⟩
 item:=by
  intro X hP hw hK Y i pins s σ H E I O st hg;subst hP hw hK;obtain⟨xs,ys,x,y,hq,a0,J,j⟩:=hg;obtain⟨its,F,p,hz⟩:=I.tuple hq;obtain⟨its',a1,p',a6⟩:=I.tuple a0;obtain⟨u,hu,ru⟩:=F.get J;obtain⟨v,hv,a7⟩:=a1.get j;obtain⟨h1,h2,⟨u0,v0,N⟩,V,h5⟩:=st;obtain⟨h0,g,d,tk,os⟩:=s;have B:∀c∈[z,TI,TO,i1,i2],c<h0.objs.size:=λc Y=>by
   simp only[Pj,Rn,UG]at Y;obtain⟨o1,q1,_⟩:=V;obtain⟨o2,q2,_⟩:=h5;rcases Y with e|e|e|e|e<;>subst e
   .exact Ph h1
   .exact Ph h2
   .exact Ph N
   .exact Ph q1
   .exact Ph q2
  refine Bo (xs:=its.toArray) (ys:=its'.toArray) (x:=u) (y:=v) (I.ok.hd Y) ap h1 h2 N V h5 p p' (by simpa using hu) (by simpa using hv) λh' a3 g1 g2 g3 g4 g5 g6 k1=>?_;refine⟨.ref h0.objs.size,rfl,Xk g1 λa2 a9 sb=>?_⟩;have a4:h0.objs.size≠z:=Sh (B z (by simp));have a8:a2.get? h0.objs.size=some {cls:=.type "tuple",data:=.seq #[u,v]}:=sb.extBut _ _ a4 g6;have kk:∀c o,c∉[z,TI,TO,i1,i2]->h0.get? c=some o->a2.get? c=some o:=λc o Y q=>by
   have n1:c≠z:=λe=>Y (by simp[e]);exact sb.extBut c o n1 (k1 c o n1 (λe=>Y (by simp[e])) (λe=>Y (by simp[e])) (λe=>Y (by simp[e])) q)
  have I2:Inv X pins σ (upd H h0.objs.size (.tup [x,y])) ⟨a2,g,d,a3,os⟩:=by
   refine lz (fp:=[z,TI,TO,i1,i2]) (t':=a3) I O (λb o U q=>kk b o U q) (Pg _) ?_;exact⟨by show 2<=Px;decide,[u,v],.cons ru (.cons a7 .nil),_,a8,rfl,_,rfl,rfl⟩
  refine⟨.ref h0.objs.size,upd H h0.objs.size (.tup [x,y]),I2,rfl,⟨_,x,y,I.hok.fresh (Pg _),rfl,λys j=>by rw[I.tuple_inj j hq];exact J,λys a5=>by rw[I.tuple_inj a5 a0];exact j,rfl⟩,?_,λc Y=>?_⟩
  .exact⟨a9,sb.extBut _ _ ap.TIz g2,⟨u,v,sb.extBut _ _ ap.TOz g3⟩,g4.at λo e=>sb.extBut _ o ap.i1z e,g5.at λo e=>sb.extBut _ o ap.i2z e⟩
  .rw[aK λe=>Rt _ (e▸B c Y)]
   exact(O c Y).1
 done:=by
  intro X hP hw hK Y i pins s σ H E I O st hg;subst hP hw hK;obtain⟨xs,ys,hq,a0,J⟩:=hg;obtain⟨its,F,p,hz⟩:=I.tuple hq;obtain⟨its',a1,p',a6⟩:=I.tuple a0;obtain⟨h1,h2,⟨u0,v0,N⟩,V,h5⟩:=st;obtain⟨h0,g,d,tk,os⟩:=s;have Z:=F.length;have b0:=a1.length;refine Em (xs:=its.toArray) (ys:=its'.toArray) (I.ok.hd Y) ap h1 h2 N V h5 p p' (J.imp (λe=>by simp;omega) λe=>by simp;omega) λh' k1=>⟨rfl,?_⟩;exact gJ (fp:=[z,TI,TO,i1,i2]) (t':=tk) I O λc o Y q=>k1 c o (λe=>Y (by simp[e])) (λe=>Y (by simp[e])) (λe=>Y (by simp[e])) (λe=>Y (by simp[e])) q
 self:=λA i s Q E st h=>Wb st.1 h
def Jl(K:Pu)(ta:TA):TI:=λσ H R=>ta σ H λvs H1=>∃a b,vs=[.ref a,.ref b]/\(((∃xs,SqL K H1 a xs)/\(∃xs,SqL K H1 b xs)/\R (Itz K a b) H1)∨((∃xs,SqT K H1 a xs)/\(∃xs,SqT K H1 b xs)/\R (Mw K a b) H1))
variable{X:Cx}
theorem G4{a b:Expr}{ta:TA}{p:Pos}{x1}(j:Gl X "zip")(V:X.mg "zip"=none)(O:PA X [a,b] ta)(F:PK [a,b] X.env=(false,eval a X.env)::PK [b] X.env:=by rfl)(a5:PK [b] X.env=[(false,eval b X.env)]:=by rfl):PI X (.Tuple elts x1 tpos) (.Call (.Name "zip" p) [a,b] [] pos) (Jl X.K ta):=by
 intro pins s σ H R I h;refine Call_ (jr I j V boot_zip (R_ (thn (O pos pins s σ H _ I h) λB Z ⟨vs,H1,J,r1,q1⟩=>?_) F (by rw[a5];rfl)));obtain⟨l,l',e,q⟩:=q1;subst e;obtain⟨u,v,rfl,ru,a7⟩:∃u v,B=[u,v]/\RelV (.ref l) u/\RelV (.ref l') v:=by
  cases r1 with
  |cons h1 t=>
   cases t with
   |cons h2 t=>cases t;exact⟨_,_,rfl,h1,h2⟩
 cases ru;cases a7;rcases q with⟨⟨xs,N⟩,⟨ys,a4⟩,q⟩|⟨⟨xs,N⟩,⟨ys,a4⟩,q⟩
 .obtain⟨its,rv,pl,hz⟩:=J.list N
  obtain⟨its',a8,a0,a6⟩:=J.list a4;have a1:l<Z.heap.objs.size:=let⟨_,h1,_⟩:=pl.isList;Ph h1;have a2:l'<Z.heap.objs.size:=let⟨_,h1,_⟩:=a0.isList;Ph h1;refine call_zip_2 pl.isList a0.isList λh1 g1 g2 g3 g4 g5 hsz k1=>?_;have I2:Inv X pins σ H1 {Z with heap:=h1}:=J.kept (t':=Z.toks) k1;refine Wb g1 ?_;refine⟨Z.heap.objs.size+4,[Z.heap.objs.size+4,Z.heap.objs.size+2,Z.heap.objs.size+3,Z.heap.objs.size,Z.heap.objs.size+1],_,_,H1,rfl,I2,Eo l l' _ _ _ _ _ (zipApart_new a1 a2),⟨g1,g2,⟨_,_,g3⟩,g4,g5⟩,λc Y=>?_,q⟩;have a3:Z.heap.objs.size<=c:=by
   simp only[Pj,Rn,UG]at Y;rcases Y with e|e|e|e|e<;>rw[e]<;>omega
  exact J.fpOk a3 (J.hok.fresh a3)
 .obtain⟨its,rv,pl,hz⟩:=J.tuple N
  obtain⟨its',a8,a0,a6⟩:=J.tuple a4;obtain⟨U,g,d,tk,os⟩:=Z;have a1:l<U.objs.size:=let⟨_,h1,_⟩:=pl;Ph h1;have a2:l'<U.objs.size:=let⟨_,h1,_⟩:=a0;Ph h1;refine zX (xs:=its.toArray) (ys:=its'.toArray) pl a0 λh1 g1 g2 g3 g4 g5 k1=>?_;have I2:Inv X pins σ H1 ⟨h1,g,d,tk,os⟩:=J.kept (t':=tk) k1;refine Wb g1 ?_;refine⟨U.objs.size+4,[U.objs.size+4,U.objs.size+2,U.objs.size+3,U.objs.size,U.objs.size+1],_,_,H1,rfl,I2,Ak l l' _ _ _ _ _ (zipApart_new a1 a2),⟨g1,g2,⟨_,_,g3⟩,g4,g5⟩,λc Y=>?_,q⟩;have a3:U.objs.size<=c:=by
   simp only[Pj,Rn,UG]at Y;rcases Y with e|e|e|e|e<;>rw[e]<;>omega
  exact J.fpOk a3 (J.hok.fresh a3)
variable{G:Gc}
theorem u_{H H':Hp}{W:Wn}{v:V}{ds:List D}(w:WOk H W)(s:Same H H')(r:Rep G H' (W.add L) (.tup ds) v M)(I:∀a∈M,a∈L)(fr:∀a∈L,H a=none) :
  ∃a xs,v= .ref a/\Parts G H' W (clean (.tup ds)) (fY ds) xs/\∀H2 B,LtB (clean (.tup ds)) H' W H2 B->SqT G.K H2 a xs:=by
 have free:∀a∈M,W.free a:=λa O=>⟨λz=>?_,λz=>?_,λz=>?_⟩
 .have les:Les H' (W.add L) W M:=⟨λa f=>⟨λz=>f.1 (.inr z),f.2⟩,free⟩
  rw[Rep]at r;obtain⟨a,xs,rfl,U,Z⟩:=r;refine⟨a,xs,rfl,⟨aF.fzo (W:=W.add L) (W':=W) (λ_ z=>z) Z les,λz=>?_⟩,λH2 B l=>l.tup U⟩;simp[clean,aA,az]at z;exact⟨bO z.1,bQ z.2⟩
 .obtain⟨o,ho,_⟩:=w a (.inl z);rw[fr a (I a O)]at ho;cases ho
 .obtain⟨o,ho,_⟩:=w a (.inr (.inl z));rw[fr a (I a O)]at ho;cases ho
 .obtain⟨o,ho,_⟩:=w a (.inr (.inr z));rw[fr a (I a O)]at ho;cases ho
def Cg(f:En->Option (List D)):En->Option (Bool×List D):=λρ=>(f ρ).bind λds=>match ds with
 |[.tup es,.tup es']=>some (clean (.tup es)&&clean (.tup es'),uN (fY es) (fY es'))
 |ds=>itZ (λ_=>some ds) ρ
variable{f:En->Option (List D)}
theorem Dk{t:TA}(h:RfA G ob t f):RfI G ob (Jl G.K t) (Cg f):=λρ b items e σ H W rl w R q=>by
 unfold Cg at e;cases h1:f ρ with
 |none=>simp[h1]at e
 |some ds=>
  rw[h1]at e;simp only[Pb]at e;split at e
  .rename_i es a4
   cases e;refine h ρ _ h1 σ H W rl w _ λvs H' L s r fr nd=>?_;obtain⟨v,ys,M,M',rfl,rfl,hv,j⟩:=r.inv;obtain⟨v',a5,N,N',rfl,U,a3,a2⟩:=j.inv;obtain⟨rfl,rfl⟩:=a2.inv0;obtain⟨a,xs,rfl,p,F⟩:=u_ w s hv (λa O=>by simp[O]) fr;obtain⟨a',a0,rfl,V,I⟩:=u_ w s a3 (λa O=>by simp[U,O]) fr;refine⟨a,a',rfl,.inr ⟨⟨xs,F H' W (LtB.up Up.refl)⟩,⟨a0,I H' W (LtB.up Up.refl)⟩,q _ H' s ⟨λi d e H2 B l=>?_,λi d e H2 B l x H3 y=>?_,λH2 B l=>?_⟩⟩⟩
   .obtain⟨x,y,hx,j,_⟩:=lq e
    obtain⟨u,J⟩:=p.r.getV hx;obtain⟨u',a1⟩:=V.r.getV j;exact⟨xs,a0,u,u',F H2 B l.and1,I H2 B l.and2,J,a1⟩
   .obtain⟨x0,y0,hx,j,rfl⟩:=lq e
    obtain⟨pa,u,u',Y,rfl,J,a1,rfl⟩:=y;have sm:Same H2 (upd H2 pa (.tup [u,u'])):=Same.new Y;refine⟨sm,?_⟩;rw[Rep];exact⟨pa,_,rfl,aZ,.cons (M:=[]) (M':=[]) ((p.at l.and1 hx (J xs (F _ B l.and1))).up (Up.same sm)) (.one ((V.at l.and2 j (a1 a0 (I _ B l.and2))).up (Up.same sm)))⟩
   .refine⟨xs,a0,F H2 B l.and1,I H2 B l.and2,?_⟩
    rw[←p.r.length,←V.r.length];unfold uN;rw[Y6];omega
  .unfold itZ at e
   simp only[Pb]at e;split at e
   .rename_i d d' _
    split at e
    .rename_i hl
     cases h2:bW d with
     |none=>simp[h2]at e
     |some p=>
      cases h3:bW d' with
      |none=>simp[h2,h3]at e
      |some V=>
       obtain⟨Z,es⟩:=p;obtain⟨b2,a4⟩:=V;obtain⟨rfl,rfl⟩:(Z&&b2)=b/\uN es a4=items:=by simpa[h2,h3]using e
       refine h ρ _ h1 σ H W rl w _ λvs H' L s r fr nd=>?_;obtain⟨v,ys,M,M',rfl,rfl,hv,j⟩:=r.inv;obtain⟨v',a5,N,N',rfl,U,a3,a2⟩:=j.inv;obtain⟨rfl,rfl⟩:=a2.inv0;obtain⟨a,xs,rfl,p,F⟩:=vN w s hv (λa O=>by simp[O]) fr h2 hl.1;obtain⟨a',a0,rfl,V,I⟩:=vN w s a3 (λa O=>by simp[U,O]) fr h3 hl.2;refine⟨a,a',rfl,.inl ⟨⟨xs,F H' W (LtB.up Up.refl)⟩,⟨a0,I H' W (LtB.up Up.refl)⟩,q _ H' s ⟨λi d e H2 B l=>?_,λi d e H2 B l x H3 y=>?_,λH2 B l=>?_⟩⟩⟩
       .obtain⟨x,y,hx,j,_⟩:=lq e
        obtain⟨u,J⟩:=p.r.getV hx;obtain⟨u',a1⟩:=V.r.getV j;exact⟨xs,a0,u,u',F H2 B l.and1,I H2 B l.and2,J,a1⟩
       .obtain⟨x0,y0,hx,j,rfl⟩:=lq e
        obtain⟨pa,u,u',Y,rfl,J,a1,rfl⟩:=y;have sm:Same H2 (upd H2 pa (.tup [u,u'])):=Same.new Y;refine⟨sm,?_⟩;rw[Rep];exact⟨pa,_,rfl,aZ,.cons (M:=[]) (M':=[]) ((p.at l.and1 hx (J xs (F _ B l.and1))).up (Up.same sm)) (.one ((V.at l.and2 j (a1 a0 (I _ B l.and2))).up (Up.same sm)))⟩
       .refine⟨xs,a0,F H2 B l.and1,I H2 B l.and2,?_⟩
        rw[←p.r.length,←V.r.length];unfold uN;rw[Y6];omega
    .cases e
   .cases e
variable{X:ι->Cx}
theorem Do{a b:Expr}{p:Pos}(j:∀c,Gl (X c) "zip")(V:∀c,(X c).mg "zip"=none)(O:PVA X G ob [a,b] f)(F:∀c,PK [a,b] (X c).env=(false,eval a (X c).env)::PK [b] (X c).env:=by intro _;rfl)(U:∀c,PK [b] (X c).env=[(false,eval b (X c).env)]:=by intro _;rfl)(I:∀c,(X c).K=G.K:=by intro _;rfl) :
  PVI X G ob (.Tuple elts x1 tpos) (.Call (.Name "zip" p) [a,b] [] pos) (Cg f):=
 let⟨t,a1,a2⟩:=O.ex;⟨_,λc=>(by rw[←I c];exact G4 (j c) (V c) (a1 c) (F c) (U c)),Dk a2⟩
open PySem
def Ris(xs:Array Nat):Prop:=xs.toList.Pairwise (· < ·)
theorem Ris.lt(h:Ris xs)(Z:i<j)(F:j<xs.size):xs.getD i 0<xs.getD j 0:=by
 have:=SJ.mp h i j (by simpa using Nat.lt_trans Z F) (by simpa using F) Z;rw[R5,R5]at this;rw[P_,P_,Qk xs i (Nat.lt_trans Z F),Qk xs j F];exact this
theorem getD_in{a b:Nat}(h:i<xs.size):xs.getD i a=xs.getD i b:=by
 rw[P_,P_,Qk xs i h];rfl
theorem qb{xs:Array Nat}(Z:Ris xs)(j:Nat):∀(f lo hi:Nat),hi-lo<=f->lo<=hi->hi<=xs.size->(∀i,i<lo->xs.getD i 0<j)->(∀i,hi<=i->i<xs.size->j<=xs.getD i 0)->
  VG xs j f lo hi<=xs.size/\(∀i,i<VG xs j f lo hi->xs.getD i 0<j)/\∀i,VG xs j f lo hi<=i->i<xs.size->j<=xs.getD i 0
 |0,lo,hi,hf,h1,h2,ha,hb=>by
  have e:lo=hi:=by omega
  subst e;exact⟨h2,ha,hb⟩
 |f+1,lo,hi,hf,h1,h2,ha,hb=>by
  rw[VG];split
  .rename_i hlt
   dsimp only;have V:(lo+hi) / 2<hi:=by omega
   have I:lo<=(lo+hi) / 2:=by omega
   split
   .rename_i hc
    rw[getD_in (b:=0) (by omega)]at hc;refine qb Z j f _ hi (by omega) (by omega) h2 (λi B=>?_) hb;by_cases e:i=(lo+hi) / 2
    .subst e;exact hc
    .exact Nat.lt_trans (Z.lt (by omega) (by omega)) hc
   .rename_i hc
    rw[getD_in (b:=0) (by omega)]at hc;refine qb Z j f lo _ (by omega) (by omega) (by omega) ha λi B F=>?_;by_cases e:i=(lo+hi) / 2
    .subst e;omega
    .have:=Z.lt (i:=(lo+hi) / 2) (j:=i) (by omega) F
     omega
  .have e:lo=hi:=by omega
   subst e;exact⟨h2,ha,hb⟩
theorem pG(Z:Ris xs)(j:Nat):SetTable.below xs j<=xs.size/\(∀i,i<SetTable.below xs j->xs.getD i 0<j)/\∀i,SetTable.below xs j<=i->i<xs.size->j<=xs.getD i 0:=
 qb Z j xs.size 0 xs.size (by omega) (by omega) (Pg _) (λi h=>absurd h (X_ i)) λi h1 h2=>by omega
theorem below_zero(Z:Ris xs):SetTable.below xs 0=0:=by
 obtain⟨h1,h2,_⟩:=pG Z 0;rcases Zo (SetTable.below xs 0)with e|e
 .exact e
 .exact absurd (h2 0 e) (X_ _)
theorem below_next(Z:Ris xs)(hi:i<xs.size):SetTable.below xs (xs.getD i 0+1)=i+1:=by
 obtain⟨h1,h2,N⟩:=pG Z (xs.getD i 0+1);rcases Nat.lt_trichotomy (SetTable.below xs (xs.getD i 0+1)) (i+1)with e|e|e
 .have:=N i (by omega) hi;omega
 .exact e
 .have:=h2 (i+1) e
  have:=Z.lt (i:=i) (j:=i+1) (by omega) (by omega);omega
theorem xf(Z:Ris xs)(q:xs[SetTable.below xs j]?≠some j):Ris (ZR xs (SetTable.below xs j) j):=by
 obtain⟨h1,h2,N⟩:=pG Z j;generalize SetTable.below xs j=p at h1 h2 N q;unfold Ris ZR;have e1:(xs.extract 0 p).toList=xs.toList.take p:=by simp
 have e2:(xs.extract p xs.size).toList=xs.toList.drop p:=by simp;exact RM (by simp)
 rw[Rr,VH,e1,e2];have F:=Qj p xs.toList;have Y:(xs.toList.take p++xs.toList.drop p).Pairwise (· < ·):=by rw[F];exact Z
 obtain⟨p1,p2,B⟩:=QD.mp Y;have lo:∀a∈xs.toList.take p,a<j:=λa O=>by
  obtain⟨i,hi,rfl⟩:=Rq O;rw[Rm]at hi;have:=h2 i (by omega);rw[VJ,R5];rwa[P_,Qk xs i (by omega),Va]at this
 have hi:∀a∈xs.toList.drop p,j<a:=λa O=>by
  obtain⟨i,hi,rfl⟩:=Rq O;rw[U_,Qh]at hi;have V:=N (p+i) (by omega) (by omega);rw[ZS,R5];rw[P_,Qk xs (p+i) (by omega),Va]at V;rcases Nat.lt_or_eq_of_le V with z|z
  .exact z
  .exfalso
   rcases Zo i with e|e
   .subst e;apply q;rw[Qk xs p (by omega)];simp only[XC]at z;rw[z]
   .have:=Z.lt (i:=p) (j:=p+i) (by omega) (by omega)
    have I:=N p (Pg _) (by omega);rw[P_,P_,Qk xs (p+i) (by omega),Va]at this;rw[P_]at I;omega
 refine QD.mpr ⟨QD.mpr ⟨p1,by simp,λa O b U=>?_⟩,p2,λa O b U=>?_⟩
 .rw[PQ.mp U];exact lo a O
 .rcases Mz.mp O with z|z
  .exact B a z b U
  .rw[PQ.mp z];exact hi b U
theorem zQ(n:Nat):Ris (Array.range n):=by
 unfold Ris;rw[Array.toList_range];exact Yl
def RisT(t:Ui)(b:Bool):Prop:=Ris t.place/\t.led=b
variable{t:Ui}
theorem qC{t:Ui}{f:Nat->Int}{h:Int}{j:Nat}{d:Option Nat}:∀{k:Nat}{p:aaA},(∀x,p.dummy=some x->t.slot x= .dummy)->Xi t f h k p=some (.empty j d)->t.slot j= .empty/\∀x,d=some x->t.slot x= .dummy
 |0,p,_,e=>by simp[Xi]at e
 |k+1,p,hd,e=>by
  rw[Xi]at e;have B:∀q:aaA,(t.advance q).dummy=q.dummy:=λq=>by
   unfold SetTable.advance;split<;>rfl
  split at e
  .rename_i hs
   injection e with e;injection e with e1 e2;subst e1 e2;exact⟨hs,hd⟩
  .rename_i hs
   refine qC (λx J=>?_) e;rw[B]at J;injection J with J;subst J;exact hs
  .split at e
   .cases e
   .refine qC (λx J=>?_) e
    rw[B]at J;exact hd x J
theorem su(h:t.slot j= .empty∨t.slot j= .dummy):t.place[SetTable.below t.place j]?≠some j:=λe=>by
 unfold SetTable.slot at h;dsimp only at h;rw[e]at h;simp at h
theorem g8(h:t.led=b):RisT (t.standIn n) b:=⟨zQ n,h⟩
variable{es:Array (Int×Value)}{x:Value}
theorem xQ{h:Int}(U:RisT t b):RisT (layNew t es h x).2.1 b:=by
 unfold layNew;cases O:t.freeSlot h with
 |none=>exact g8 U.2
 |some I=>
  obtain⟨slot,B⟩:=I;dsimp only;have Z:t.place[SetTable.below t.place slot]?≠some slot:=by
   unfold SetTable.freeSlot at O;split at O
   .rename_i j d hp
    have N:=qC (t:=t) (by simp[SetTable.probeStart]) hp;injection O with O;injection O with h1 h2;subst h1;cases d with
    |none=>exact su (.inl N.1)
    |some y=>exact su (.inr (N.2 y rfl))
   .cases O
  have q:RisT (t.put slot).1 b:=⟨xf U.1 Z,U.2⟩;unfold SetTable.orStandIn;split
  .exact q
  .exact g8 q.2
theorem ue(U:t.led=b):RisT (XD t es n).2.1 b:=by
 unfold XD;cases hf:t.relaid (es.map (·.1)) n with
 |none=>exact g8 U
 |some I=>
  obtain⟨t',N⟩:=I;dsimp only;split
  .unfold SetTable.relaid SetTable.laid at hf
   cases B:SetTable.layClean (SetTable.sizeAbove n-1) (es.map (·.1))with
   |none=>simp[B]at hf
   |some owner=>
    simp only[B,Option.bind_eq_bind,Pb,Option.pure_def,S_,Vc]at hf;obtain⟨rfl,_⟩:=hf;refine⟨?_,U⟩;unfold Ris;dsimp only;have q:∀l:List Nat,l.Pairwise (· < ·)->((l.filterMap λj=>(owner.getD j none).map (j,·)).map (·.1)).Pairwise (· < ·)/\∀x∈(l.filterMap λj=>(owner.getD j none).map (j,·)).map (·.1),x∈l:=by
     intro l
     induction l with
     |nil=>intro _;simp
     |cons a r F=>
      intro Z;obtain⟨V,Y⟩:=Q4.mp Z;obtain⟨i1,i2⟩:=F Y;rw[Vg];cases O:owner.getD a none with
      |none=>simp only[Option.map_none];exact⟨i1,λx J=>Qm _ (i2 x J)⟩
      |some y=>
       simp only[QZ,PP];refine⟨Q4.mpr ⟨λx J=>V x (i2 x J),i1⟩,λx J=>?_⟩;rcases Pj.mp J with z|z
       .rw[z];exact Qt ..
       .exact Qm _ (i2 x z)
    exact(q _ Yl).1
  .exact g8 U
abbrev ledW(w:World):Bool:=!w.params.followText "set-order"
def qJ(knd:KeyKind prog w Key)(h:Heap)(a:Addr)(S:Key->Bool)(n:Nat):Prop:=∃o es ep t,h.get? a=some o/\o.ExactSet/\o.data= .set es ep t/\ElemsOf knd es.toList/\(∀k,S k=true↔∃e∈es.toList,knd.is k e.2=true)/\es.size<U7/\t.fits es.size=true/\es.size=n/\RisT t (ledW w)
variable{knd:KeyKind prog w Key}{S':Key->Bool}
theorem qx(B:h.get? a=some o)(N:o.ExactSet)(hd:o.data= .set es ep t)
  {F:Array (Int×Value)} {t':Ui}  (I:ElemsOf knd F.toList) (q:∀k,S' k=true↔∃e∈F.toList,knd.is k e.2=true) (U:F.size<U7) (O:t'.fits F.size=true) (Z:RisT t' (ledW w)) :
  (h.update a (aar F t')).get? a=some {o with data:=.set F (ep+1) t'}/\qJ knd (h.update a (aar F t')) a S' F.size:=by
 obtain⟨j,_⟩:=SetOf_store (knd:=knd) B N hd I q U O;exact⟨j,_,F,ep+1,t',j,N,rfl,I,q,U,O,rfl,Z⟩
theorem vI{g:Bool->Sem Unit}(j:∀(b:Bool)(I:zc)(Q':Unit->zc->Prop),Q' () I->wpAny (model prog w) A (g b) Q' E I)
       (B:s.heap.get? a=some o) (N:o.ExactSet) (hd:o.data= .set es ep t)
  {F:Array (Int×Value)} {t2:Ui}  (a1:ElemsOf knd F.toList) (a0:∀Y,S' Y=true↔∃e∈F.toList,knd.is Y e.2=true)
  (J:F.size<U7) (a7:t2.fits F.size=true) (a4:RisT t2 (ledW w)) {wd:Bool} {R:Option Bool->zc->Prop}
  (h:∀h',TF a s.heap h'->qJ knd h' a S' F.size->R (some true) {s with heap:=h'}) :
  wpAny (model prog w) A (do
   storeSet a F t2
   if(!wd&&t2.tooFull)=true then do
     g (XD t2 F (Ua F.size)).2.2
     storeSet a (XD t2 F (Ua F.size)).1 (XD t2 F (Ua F.size)).2.1
     pure (some true)
    else pure (some true)) R E s:=by
 refine eH (ZV B hd ?_ (ZW J));obtain⟨a5,a6⟩:=qx (knd:=knd) B N hd a1 a0 J a7 a4;have U:=Y7 s.heap a (aar F t2);split
 .have p:=relayAll_perm t2 F (Ua F.size)
  have f:=relayAll_fits t2 F (Ua F.size);have r:=ue (t:=t2) (es:=F) (n:=Ua F.size) a4.2;generalize XD t2 F (Ua F.size)=Z at p f r⊢;obtain⟨a3,t3,g2⟩:=Z;dsimp only at p f r⊢;have z:a3.size=F.size:=by rw[←Qh,p.length_eq,Qh]
  have O:a3.size<U7:=by rw[z];exact J
  refine eH (j _ _ _ ?_);refine eH (ZV a5 rfl ?_ (ZW O));obtain⟨_,a2⟩:=qx (knd:=knd) a5 N rfl (a1.perm p) (S':=S') (λY=>(a0 Y).trans ⟨λ⟨e,V,q⟩=>⟨e,p.mem_iff.mpr V,q⟩,λ⟨e,V,q⟩=>⟨e,p.mem_iff.mp V,q⟩⟩) O f r;rw[z]at a2;exact yr (h _ (U.trans (Y7 _ a _)) a2)
 .exact yr (h _ U a6)
theorem GQ{S:Key->Bool}{k:Key}{Q:Bool->zc->Prop}(a0:knd.is k x=true)(a4:x.scannable=true)(hS:qJ knd s.heap a S n)(a8:n+1<U7)
  (h:∀h',TF a s.heap h'->qJ knd h' a (λk'=>S k'||decide (k'=k)) (if S k then n else n+1)->Q (!S k) {s with heap:=h'}) :
  wpAny (model prog w) A (setAddHashed a x (knd.hash k)) Q E s:=by
 obtain⟨o,es,ep,t,B,a6,hd,a3,q,U,O,hn,hr⟩:=hS;unfold setAddHashed setAddHashedIn;refine Rf (eH (Te B hd O ?_));dsimp only;rw[byScan_of a4 U a3];simp only[↓reduceIte];unfold setAddByScan;refine eH (eH (Rz (eH (wpAny_setScan_of a0 B hd O a3 ?_))));cases b0:List.findIdx? (λe=>knd.is k e.2) es.toList with
 |some j=>
  dsimp only;obtain⟨F,b1,_⟩:=QV.mp b0;have a2:S k=true:=(q k).mpr ⟨es.toList[j],RZ F,b1⟩;refine yr (yr ?_);have:=h s.heap (Heap.SameBut.refl a s.heap) ⟨o,es,ep,t,B,a6,hd,a3,λk'=>by
   rw[Wr,Td,←q k'];exact⟨λz=>z.elim id (λe=>e▸a2),.inl⟩,U,O,by rw[a2];exact hn,hr⟩
  rw[a2]at this;obtain⟨Y,g,d,tk,os⟩:=s;exact this
 |none=>
  dsimp only;have a2:S k=false:=by
   cases J:S k with
   |false=>rfl
   |true=>obtain⟨e,V,Y⟩:=(q k).mp J;have:=Sx.mp b0 e V;rw[Y]at this;exact Bool.noConfusion this
  have b2:∀(b:Bool){I:zc}{Q':Unit->zc->Prop},Q' () I->wpAny (model prog w) A (match b with|true=>rule "set.scan.the-table-gave-way"|false=>pure ()) Q' E I:=λb I Q' N=>by
   cases b<;>first|exact yr N|exact Rz N
  have p:=layNew_perm t es (knd.hash k) x;have f:=layNew_fits t es (knd.hash k) x;have r:=xQ (es:=es) (h:=knd.hash k) (x:=x) hr;generalize layNew t es (knd.hash k) x=Z at p f r⊢;obtain⟨a7,t1,wd,gv⟩:=Z;dsimp only at p f r⊢;rw[VH]at p;have z:a7.size=n+1:=by rw[←Qh,p.length_eq,Qx,Qh,hn];rfl
  have a9:a7.size<U7:=by rw[z];exact a8
  refine eH (b2 _ ?_);have a5:∀h',TF a s.heap h'->qJ knd h' a (λk'=>S k'||decide (k'=k)) a7.size->Q true {s with heap:=h'}:=λh' sb a1=>by
   have:=h h' sb;rw[a2]at this;rw[z]at a1;exact this a1
  split
  .refine eH ?_
   rw[hashByValue_scannable 8 a4];refine yr ?_;refine vI ?_ B a6 hd ((a3.push a0 a4).perm p) (mem_push_iff a0 q p) a9 ?_ ?_ ?_
   .intro b I Q' N;cases b<;>first|exact yr N|exact Rz N
   .split
    .exact f
    .exact SetTable.fits_plain_off f
   .split
    .exact r
    .exact r
   .intro h' sb a1;dsimp only;exact yr (a5 h' sb a1)
  .refine eH (yr ?_)
   simp only[↓reduceIte];refine vI ?_ B a6 hd ((a3.push a0 a4).perm p) (mem_push_iff a0 q p) a9 f r ?_
   .intro b I Q' N;cases b<;>first|exact yr N|exact Rz N
   .intro h' sb a1;dsimp only;exact yr (a5 h' sb a1)
theorem H_(a:Value){Q₁:Value->zc->Prop}(h:Q₁ (.ref s.heap.objs.size) {s with heap:=s.heap.push (jN (ledW w))}) :
  T9 (model prog w) A (.call (.builtin "set.__new__") ⟨[.type "set",a],[]⟩) (wants Q₁ E) s:=by
 refine codeAny_of_tree ?_;show wpAny _ A.in1 (do checkBuiltinCall "set.__new__" ⟨[.type "set",a],[]⟩;again (.builtin "set.__new__" ⟨[.type "set",a],[]⟩)) _ _ s;refine eH (Uz (F.newCall_set_1 a) (yr ⟨Th F.plain_set_new _,RP F.entry_set_new ?_⟩));rw[Rk F.plain_set_new _];unfold Builtin.«set.__new__» aaF;have I:=sub_set_self;obtain⟨Y,g,d,tk,os⟩:=s;dsimp only
 wp_walk
 refine Uj (yr ?_);dsimp only;simp only[newObj];refine eH (wpAny_alloc (yr ?_));exact yr h
variable{A:Rh}{l:Addr}{ks:List Key}
theorem Ac(I:A.handled=none)(Z:ks.length=its.length)(J:∀(j:Nat)(k:Key)(v:Value),ks[j]? =some k->its[j]? =some v->RelV (kV k) v)(U:its.length+1<U7)(nS:S≠it)(nl:l≠it)(a8:l≠S):∀(m i:Nat)(acc:List Key)(s:zc),its.length-i=m->i<=its.length->s.heap.IsList l its.toArray->s.heap.IsListIter it l i->qJ (bz prog w) s.heap S (inK acc) acc.length->acc.length<=i->
  (∀h' tk,(∀b o,b≠S->b≠it->s.heap.get? b=some o->h'.get? b=some o)->qJ (bz prog w) h' S (inK ((ks.drop i).foldl lO acc)) ((ks.drop i).foldl lO acc).length->R (.ok (.ret .none)) {s with heap:=h',toks:=tk})->
  T9 (model prog w) A (.builtin "set.update.loop" ⟨[.ref S,.ref it],[]⟩) R s:=by
 intro m
 induction m with
 |zero=>
  intro i acc s V hi N a2 hS O k;have e:i=its.length:=by omega
  subst e;refine RP XS ?_;rw[Rk Vx _];unfold Builtin.«set.update.loop»;dsimp only;refine eH (Wg (show A.in1.handled=none from I) a2 N (by simp) λh' Y=>?_);dsimp only;refine yr (k h' _ (λb o _ q e=>Y b o q e) ?_);rw[←Z,Uh];obtain⟨o,es,ep,t,B,rest⟩:=hS;exact⟨o,es,ep,t,Y S _ nS B,rest⟩
 |succ m ih=>
  intro i acc s V hi N a2 hS O k;have a3:i<its.length:=by omega
  have a5:i<ks.length:=by omega
  refine RP XS ?_;rw[Rk Vx _];unfold Builtin.«set.update.loop»;dsimp only;refine eH (VV a2 N (x:=its[i]) (by simp[a3]) λh1 a4 a1=>?_);dsimp only;have a6:qJ (bz prog w) h1 S (inK acc) acc.length:=by
   obtain⟨o,es,ep,t,B,rest⟩:=hS;exact⟨o,es,ep,t,(a1.2 S nS).trans B,rest⟩
  have rk:=J i ks[i] its[i] (Py a5) (Py a3);refine eH (Rf ?_);unfold setAdd;refine Rf ?_;refine eH ((bz prog w).pyHash (k:=ks[i]) (qZ rk) ?_);refine GQ (knd:=bz prog w) (qZ rk) (DW (P:=prog) (w:=w) rk) a6 (by omega) λh2 a0 a7=>?_;refine yr ⟨Th Vx _,?_⟩;have a9:qJ (bz prog w) h2 S (inK (lO acc ks[i])) (lO acc ks[i]).length:=by
   have e1:(λk'=>inK acc k'||decide (k'=ks[i]))=inK (lO acc ks[i]):=funext λk'=>GC.symm;rw[←e1,wg];exact a7
  refine ih (i+1) (lO acc ks[i]) _ (by omega) a3 ?_ ?_ a9 ?_ λh' tk kp b0=>k h' tk (λb o b1 q e=>kp b o b1 q ((a0.2 b b1).trans ((a1.2 b q).trans e))) ?_
  .obtain⟨o,h1',h2'⟩:=N
   exact⟨o,(a0.2 l a8).trans ((a1.2 l nl).trans h1'),h2'⟩
  .exact a4.extBut a0.extBut (Qn nS)
  .rw[wg]
   split<;>omega
  .rw[QX a5]
   exact b0
def ul(prog:QG)(w:World)(s:zc)(ks:List Key)(F:zc):Prop:=∃h' tk,F={s with heap:=h',toks:=tk}/\qJ (bz prog w) h' s.heap.objs.size (inK (uz ks)) (uz ks).length/\∀b o,s.heap.get? b=some o->h'.get? b=some o
variable{E:Value->zc->Prop}{s:zc}
theorem zY(I:A.handled=none)(Z:ks.length=its.length)(J:∀(j:Nat)(k:Key)(v:Value),ks[j]? =some k->its[j]? =some v->RelV (kV k) v)(U:its.length+1<U7)(N:s.heap.IsList l its.toArray){R:Zm->zc->Prop}
  (hR:∀s2,ul prog w s ks s2->R (.done (.ret .none)) s2):wpAny (model prog w) A (Builtin.«set.__init__» ⟨[.ref s.heap.objs.size,.ref l],[]⟩) R E {s with heap:=s.heap.push (jN (ledW w))}:=by
 obtain⟨ol,a3,q,nl,a6⟩:=N;obtain⟨b1,a1,a9,a0⟩:=ol;simp only at q a6;subst q a6;have B:(s.heap.push (jN (ledW w))).get? s.heap.objs.size=some (jN (ledW w)):=Pz _ rfl;have O:aaG {s with heap:=s.heap.push (jN (ledW w))} (.ref s.heap.objs.size) "set":=⟨_,B,rfl⟩;have a2:(s.heap.push (jN (ledW w))).get? l=some {cls:=.type "list",dict:=a1,data:=.seq its.toArray nl,slots:=a0}:=gD _ a3;have b2:=F.sub_list_set;have b0:=F.sub_list_frozenset;have b3:(R1 "list"==R1 "dict")=false:=by decide
 have a7:(s.heap.push (jN (ledW w))).IsList l its.toArray:=⟨_,a2,rfl,nl,rfl⟩;unfold Builtin.«set.__init__» noKeywords aaB;generalize a8:Yn=PI
 wp_walk
 subst a8;refine VF a7 ?_;refine eH (wpAny_runValue ?_);have a4:l<s.heap.objs.size:=Ph a3;refine Ac (prog:=prog) (w:=w) (its:=its) (ks:=ks) (A:=A) (S:=s.heap.objs.size) (l:=l) I Z J U ?_ ?_ (PN a4) (its.length-0) 0 [] _ rfl (R0 _) ?_ ?_ ?_ (Pg _) λh' tk kp Y=>?_
 .show s.heap.objs.size≠(s.heap.push (jN (ledW w))).objs.size
  rw[Rc];exact PN (V9 _)
 .show l≠(s.heap.push (jN (ledW w))).objs.size
  rw[Rc];exact PN (TY a4)
 .exact a7.push _
 .exact⟨_,Pz _ rfl,rfl,rfl⟩
 .have hget:((s.heap.push (jN (ledW w))).push {cls:=.type "list_iterator",data:=.fields #[.ref l,.int 0 0]}).get? s.heap.objs.size=some (jN (ledW w)):=gD _ B
  letI:BEq Key:=instBEqOfDecidableEq
  haveI:LawfulBEq Key:=inferInstance
  have e0:(λ_:Key=>false)=inK []:=funext λ_=>rfl;rw[←e0];exact⟨_,#[],0,_,hget,⟨rfl,rfl,rfl⟩,rfl,λe V=>by simp at V,λk=>by simp,by decide,by rfl,rfl,by simp[RisT,Ris,SetTable.fresh]⟩
 .refine yr ?_
  show wpAny _ _ (ret QK) _ _ _;refine yr (hR _ ⟨h',tk,rfl,by rw[Sv]at Y;exact Y,λb o e=>?_⟩);have a5:b<s.heap.objs.size:=Ph e;refine kp b o (PN a5) ?_ (gD _ (gD _ e));show b≠(s.heap.push (jN (ledW w))).objs.size;rw[Rc];exact PN (TY a5)
theorem Ax(hh:A.handled=none)(q:ks.length=its.length)(J:∀(j:Nat)(k:Key)(v:Value),ks[j]? =some k->its[j]? =some v->RelV (kV k) v)(U:its.length+1<U7)(N:s.heap.IsList l its.toArray)
  (h:∀s2,ul prog w s ks s2->Q (.ref s.heap.objs.size) s2):wpAny (model prog w) A (call (.type "set") [.ref l]) Q E s:=by
 obtain⟨c,tl,a4⟩:=Uk.mro;have a3:=Uk.made;have a5:=Uk.sub;refine wpAny_call (codeAny_of_tree ?_);show wpAny _ _ (callAny (.type "set") _) _ _ _;refine yr ⟨Code.quiet_builtin _ (by decide +kernel),RP F.entry_type_call ?_⟩;rw[Around.under_plain (weight_type_call_type "set" [.ref l] []) rfl];have h1:=Uk.notType;have h2:=Uk.canCreate;have a8:=F.typeCall_set_1 (.ref l)
 repeat(any_goals(first|assumption|wp_step))
 refine Vn (H_ (.ref l) (E:=E) (Q₁:=λobj I=>obj= .ref s.heap.objs.size/\I={s with heap:=s.heap.push (jN (ledW w))}) ⟨rfl,rfl⟩) λr I Z=>?_;cases r with
 |error e=>exact Z
 |ok Y=>
  cases Y with
  |ret obj=>
   obtain⟨rfl,rfl⟩:=Z;have B:(s.heap.push (jN (ledW w))).get? s.heap.objs.size=some (jN (ledW w)):=Pz _ rfl;have O:aaG {s with heap:=s.heap.push (jN (ledW w))} (.ref s.heap.objs.size) "set":=⟨_,B,rfl⟩;have a6:=Uk.init.lookup;have a7:=Uk.init.bind (.ref s.heap.objs.size)
   repeat(any_goals(first|assumption|wp_step))
   refine Vn (Ra (R:=wants (λr a0=>r= .none/\ul prog w s ks a0) E) Uk.init.plain F.entry_set_init (check_set_init_1 O ?_)) λa2 a0 V=>?_
   .exact zY (by simp[hh]) q J U N λs2 hs=>⟨rfl,hs⟩
   .cases a2 with
    |error e=>exact V
    |ok a1=>
     cases a1 with
     |ret r=>
      obtain⟨rfl,hs⟩:=V
      repeat(any_goals(first|assumption|wp_step))
      exact h _ hs
     |_=>exact V.elim
  |_=>exact Z.elim
end Jb
namespace PySem
theorem F.jb_owner_seti:Manifest.owners.lookup (String.ofList ['r','o','t','a','r','e','t','i','_','t','e','s'].reverse)=some Manifest.sig_set_iterator:=by kernel_rfl
theorem F.jb_slot_seti:Slot "set_iterator" "__next__" "set_iterator.__next__" :=
 .of (owner:="set_iterator") (n:="__next__") (by rw[Wo,U0];kernel_rfl) (by decide +kernel) (by decide +kernel) (by decide +kernel)
  (by first|exact .inl (by decide +kernel)|exact .inr (by decide +kernel)) (by rw[Vu];kernel_rfl)
theorem F.jb_entry_seti:YJ table "set_iterator.__next__"=some Builtin.«set_iterator.__next__»:=entryFor_of_tree (by kernel_rfl)
theorem F.jb_args_seti(a:Value):argsOk "set_iterator.__next__" ⟨[a],[]⟩:=by
 unfold argsOk;rw[signature?_of (id:="set_iterator.__next__") (n:=['_','_','t','x','e','n','_','_']) (o:=['r','o','t','a','r','e','t','i','_','t','e','s']) (by kernel_rfl) F.jb_owner_seti];kernel_rfl
theorem F.jb_entry_set_iter:YJ table "set.__iter__"=some Builtin.«frozenset.__iter__»:=entryFor_alias (id':="frozenset.__iter__") (by kernel_rfl) rfl (by decide +kernel) (by kernel_rfl)
theorem qP{src:Source}{Q:Nat->zc->Prop}(hn:n≠0)(h:∀i,i<n->Q i {s with drawn:=s.drawn.bump src}):wpAny (model prog w) A (choose src n) Q E s:=λ_ _ _=>⟨hn,h _ (Nat.mod_lt _ (Nat.pos_of_ne_zero hn))⟩
theorem jW:∀{l:List α}{i:Nat}(h:i<l.length),QJ (l[i]::l.eraseIdx i) l
 |x::r,0,_=>Tu _
 |x::r,i+1,h=>by
  have:=jW (l:=r) (i:=i) (by simpa using h);exact(List.Perm.swap ..).trans (this.cons x)
theorem jc{α:Type}:∀(n:Nat){xs:List α}{s:zc}{Q:List α->zc->Prop},xs.length=n->(∀ys d,QJ ys xs->Q ys {s with drawn:=d})->wpAny (model prog w) A (drawOrder n xs) Q E s
 |0,xs,s,Q,hl,h=>by
  have e:xs=[]:=Rp hl;subst e;unfold drawOrder;exact yr (h [] s.drawn (Tu _))
 |n+1,[],s,Q,hl,h=>by simp at hl
 |n+1,x::r,s,Q,hl,h=>by
  unfold drawOrder;refine eH (qP (by simp) λi hi=>?_);have j:(x::r)[i]? =some (x::r)[i]:=Py hi;rw[j];dsimp only;refine eH (jc n (by rw[YK,Pk hi];omega) λys d Y=>yr (h _ d ?_));exact(List.Perm.cons _ Y).trans (jW hi)
def jg(first:Value)(i:Nat)(S:Addr)(n ep:Nat):Obj:={cls:=.type "set_iterator",data:=.fields #[first,Q7 i,.ref S,Q7 n,Q7 ep]}
def gM(ps:List Nat):Obj:={cls:=.type "tuple",data:=.seq (ps.map λ(i:Nat)=>Q7 i).toArray}
variable{es:Array (Int×Value)}
theorem mq{t:Ui}(B:s.heap.get? S=some o)(I:o.ExactSet)(hd:o.data= .set es ep t)(O:t.fits es.size=true)(hz:es.size<=Px)
  (h1:w.params.followText "set-order"=true∨(!t.plain&&decide (es.size>1))=false->Q (.ref s.heap.objs.size) {s with heap:=s.heap.push (jg (Q7 0) 0 S es.size ep)})
  (h2:w.params.followText "set-order"=false->∀ps d,QJ ps (Qq es.size)->Q (.ref (s.heap.push (gM ps)).objs.size) {s with heap:=(s.heap.push (gM ps)).push (jg (.ref s.heap.objs.size) 0 S es.size ep),drawn:=d}) :
  wpAny (model prog w) A (Yn (.ref S)) Q E s:=by
 have J:s.TypeIs (.ref S) "set":=⟨o,B,I.1⟩;refine ZX J F.slot_set_iter (Uc F.slot_set_iter J F.jb_entry_set_iter ?_ (F.args_set_iter_1 _));unfold Builtin.«frozenset.__iter__» aaK slotArgs;simp only[List.isEmpty_nil,Tg,PJ,↓reduceIte,bind_assoc,Q6,bne_self_eq_false];unfold aaI aaJ setDrawn setsByText;refine eH (yr ?_)
 try dsimp only
 refine eH (yr ?_);refine eH (eH (wpAny_setEntries_of B hd O (yr ?_)));refine eH (eH (Te B hd O ?_));refine eH (eH (Uj (yr ?_)));refine yr ?_;have U:∀{first:Value}{Z:zc},Z.heap.get? S=some o->Q (.ref Z.heap.objs.size) {Z with heap:=Z.heap.push (jg first 0 S es.size ep)}->wpAny (model prog w) A.in1 (do
   let e ←setEpoch S
   let v ←newFields "set_iterator" [first,Q7 0,Qw S,Q7 (es.size:Int),Q7 (e:Int)]
   ret v) (λU s'=>∃v,U=Fin.done (Flow.ret v)/\∃j r,s'.TypeIs v j/\YB (R1 j) (Zf "__next__")=pure (some r)/\Q v s') E Z:=λ{first Z} q N=>by
  unfold setEpoch newFields;refine eH (eH (Te q hd O (yr ?_)));exact eH (QM (yr ⟨_,rfl,"set_iterator",_,⟨_,Pz _ rfl,rfl⟩,F.jb_slot_seti.lookup,N⟩))
 split
 .rename_i hc0
  have Y:(!w.params.followText "set-order"&&(!t.plain&&decide (es.size>1)))=true:=hc0;rw[Qo]at Y;refine eH (jc es.size (by simp) λps d V=>?_);refine eH (WM ?_ (by rw[Qe,V.length_eq,Xf];exact hz));exact U (gD _ B) (h2 (by simpa using Y.1) ps d V)
 .rename_i hc0
  have Y:¬(!w.params.followText "set-order"&&(!t.plain&&decide (es.size>1)))=true:=hc0;refine eH (yr ?_);refine U B (h1 ?_);cases e:w.params.followText "set-order" with
  |true=>exact .inl rfl
  |false=>
   rw[e]at Y;exact .inr (by simpa using Y)
open PySem.Builtin
section
variable{prog:Program}{w:World}{A:Around}{E:Value->Shared->Prop}{it S:Addr}{o:Obj}{es:Array (Int×Value)}{ep i slot:Nat}{t:SetTable}{h:Heap}{g:Array GenState}{d:Drawn}{tk:Nat}{os:OsState}
theorem k_(O:t.fits es.size=true):¬(t.place.size !=es.size||decide (t.fill>t.mask))=true:=by
 unfold aaH at O;simp only[Qo,beq_iff_eq,Td]at O;simp only[Wr,bne_iff_ne,ne_eq,Td,not_or,VL];exact⟨O.1,aaq.mpr O.2⟩
theorem sZ{Q:Option Value->zc->Prop}{x:Value}{next:Nat}(hz:h.get? it=some (jg (Q7 slot) i S es.size ep))(B:h.get? S=some o)(a0:o.ExactSet)(hd:o.data= .set es ep t)(O:t.fits es.size=true)
  (hs:∀(A':Rh)(j:Value->zc->Prop)(V:Option (Value×Nat)->zc->Prop),V (some (x,next)) ⟨h,g,d,tk,os⟩->wpAny (model prog w) A' (Yv S slot i ep) V j ⟨h,g,d,tk,os⟩)
  (N:∀h' Y,h'.get? it=some (jg (Q7 next) (i+1) S es.size ep)->(∀c o,c≠it->h.get? c=some o->h'.get? c=some o)->Q (some x) ⟨h',g,d,Y,os⟩) :
  wpAny (model prog w) A (Ut (.ref it)) Q E ⟨h,g,d,tk,os⟩:=by
 have Z:(⟨h,g,d,tk,os⟩:zc).TypeIs (.ref it) "set_iterator":=⟨_,hz,rfl⟩;unfold Ut;refine eH (TX ?_);refine QW Z F.jb_slot_seti ?_
 repeat(any_goals(first|assumption|wp_step))
 refine Ra F.jb_slot_seti.plain F.jb_entry_seti (F.jb_slot_seti.check _ _ _ _ _ _ _ _ Z (F.jb_args_seti _) ?_);unfold Builtin.«set_iterator.__next__» jg at *
 repeat(any_goals(first|assumption|wp_step))
 rw[hd];dsimp only;rw[Pn (k_ O)];refine yr (yr ?_);dsimp only;rw[Pn (by simp)];simp only[Q7,R7]at *
 refine eH (hs _ _ _ ?_);dsimp only;refine eH (Q5 hz (by simp) λh1 J q=>?_);refine eH (Q5 J (by simp) λh2 I U=>?_);refine yr ?_;refine yr ?_;exact N h2 tk (by rw[I];simp) λc o n e=>U.extBut c o n (q.extBut c o n e)
theorem vD{Q:Option Value->zc->Prop}(I:A.handled=none)(hz:h.get? it=some (jg (Q7 slot) i S es.size ep))(B:h.get? S=some o)(a0:o.ExactSet)(hd:o.data= .set es ep t)(O:t.fits es.size=true)
  (U:∀(Y:Rh)(j:Value->zc->Prop)(V:Option (Value×Nat)->zc->Prop),V none ⟨h,g,d,tk,os⟩->wpAny (model prog w) Y (Yv S slot i ep) V j ⟨h,g,d,tk,os⟩)
  (N:∀h',(∀c o,c≠it->h.get? c=some o->h'.get? c=some o)->Q none ⟨h',g,d,tk,os⟩) :
  wpAny (model prog w) A (Ut (.ref it)) Q E ⟨h,g,d,tk,os⟩:=by
 have Z:(⟨h,g,d,tk,os⟩:zc).TypeIs (.ref it) "set_iterator":=⟨_,hz,rfl⟩;unfold Ut;refine eH (TX ?_);refine QW Z F.jb_slot_seti ?_
 repeat(any_goals(first|assumption|wp_step))
 refine Ra F.jb_slot_seti.plain F.jb_entry_seti (F.jb_slot_seti.check _ _ _ _ _ _ _ _ Z (F.jb_args_seti _) ?_);unfold Builtin.«set_iterator.__next__» jg at *
 repeat(any_goals(first|assumption|wp_step))
 rw[hd];dsimp only;rw[Pn (k_ O)];refine yr (yr ?_);dsimp only;rw[Pn (by simp)];simp only[Q7,R7]at *
 refine eH (U _ _ _ ?_);dsimp only;refine eH (Q5 hz (by simp) λh1 J q=>?_);refine eH ?_;simp only[newExc,newTuple];refine eH (QM ?_ (by size_fits));refine eH (m:=UW _ _) (Uz (a:=QK) (by first|rfl|(simp only[UW];rfl)) ?_);refine QM ?_ (by size_fits);simp only[raiseNew];refine eH (W9 ?_);rw[show A.in1.handled=none from I];refine eH (yr (V4 ?_));refine eH (Ss (T:="StopIteration") (b:=true) ⟨_,Pz _ rfl,rfl⟩ isSubtype_stop ?_);exact yr (N _ λc o n e=>gD _ (gD _ (q.extBut c o n e)))
theorem Aa{Q:Option Value->zc->Prop}{x:Value}{p:Addr}{ps:List Nat}{j:Nat}{c:Int}(hz:h.get? it=some (jg (.ref p) i S es.size ep))(Y:h.get? p=some (gM ps))(B:h.get? S=some o)(a0:o.ExactSet)(hd:o.data= .set es ep t)(O:t.fits es.size=true)(hj:ps[i]? =some j)(J:es[j]? =some (c,x))
  (N:∀h' I,h'.get? it=some (jg (.ref p) (i+1) S es.size ep)->(∀c o,c≠it->h.get? c=some o->h'.get? c=some o)->Q (some x) ⟨h',g,d,I,os⟩) :
  wpAny (model prog w) A (Ut (.ref it)) Q E ⟨h,g,d,tk,os⟩:=by
 have Z:(⟨h,g,d,tk,os⟩:zc).TypeIs (.ref it) "set_iterator":=⟨_,hz,rfl⟩;unfold Ut;refine eH (TX ?_);refine QW Z F.jb_slot_seti ?_
 repeat(any_goals(first|assumption|wp_step))
 refine Ra F.jb_slot_seti.plain F.jb_entry_seti (F.jb_slot_seti.check _ _ _ _ _ _ _ _ Z (F.jb_args_seti _) ?_);unfold Builtin.«set_iterator.__next__» jg at *
 repeat(any_goals(first|assumption|wp_step))
 rw[hd];dsimp only;rw[Pn (k_ O)];refine yr (yr ?_);dsimp only;rw[Pn (by simp)];have V:(ps.map λ(i:Nat)=>Q7 i).toArray[((i:Nat):Int).toNat]? =some (Q7 j):=by
  rw[R7,Yw,List.getElem?_map,hj];rfl
 refine eH ?_;unfold X8;refine eH (Wm Y ?_);refine yr ?_;dsimp only;rw[V];dsimp only[Q7];refine eH ?_;unfold setNextDrawn;refine eH (Te B hd O ?_);simp only[R7,bne_self_eq_false,PJ,Qv,J];refine yr ?_;refine eH (Q5 hz (by simp) λh1 U q=>?_);refine yr ?_;refine yr ?_;exact N h1 tk (by rw[U];simp[Q7]) λc o n e=>q.extBut c o n e
theorem Dl{Q:Option Value->zc->Prop}{p:Addr}{ps:List Nat}(I:A.handled=none)(hz:h.get? it=some (jg (.ref p) i S es.size ep))(Y:h.get? p=some (gM ps))(B:h.get? S=some o)(a0:o.ExactSet)(hd:o.data= .set es ep t)(O:t.fits es.size=true)(hj:ps[i]? =none)
  (N:∀h',(∀c o,c≠it->h.get? c=some o->h'.get? c=some o)->Q none ⟨h',g,d,tk,os⟩) :
  wpAny (model prog w) A (Ut (.ref it)) Q E ⟨h,g,d,tk,os⟩:=by
 have Z:(⟨h,g,d,tk,os⟩:zc).TypeIs (.ref it) "set_iterator":=⟨_,hz,rfl⟩;unfold Ut;refine eH (TX ?_);refine QW Z F.jb_slot_seti ?_
 repeat(any_goals(first|assumption|wp_step))
 refine Ra F.jb_slot_seti.plain F.jb_entry_seti (F.jb_slot_seti.check _ _ _ _ _ _ _ _ Z (F.jb_args_seti _) ?_);unfold Builtin.«set_iterator.__next__» jg at *
 repeat(any_goals(first|assumption|wp_step))
 rw[hd];dsimp only;rw[Pn (k_ O)];refine yr (yr ?_);dsimp only;rw[Pn (by simp)];have j:(ps.map λ(i:Nat)=>Q7 i).toArray[((i:Nat):Int).toNat]? =none:=by
  rw[R7,Yw,List.getElem?_map,hj];rfl
 refine eH ?_;unfold X8;refine eH (Wm Y ?_);refine yr ?_;dsimp only;rw[j];refine eH (Q5 hz (by simp) λh1 J q=>?_);refine eH (Q5 J (by simp) λh2 V U=>?_);refine eH ?_;simp only[newExc,newTuple];refine eH (QM ?_ (by size_fits));refine eH (m:=UW _ _) (Uz (a:=QK) (by first|rfl|(simp only[UW];rfl)) ?_);refine QM ?_ (by size_fits);simp only[raiseNew];refine eH (W9 ?_);rw[show A.in1.handled=none from I];refine eH (yr (V4 ?_));refine eH (Ss (T:="StopIteration") (b:=true) ⟨_,Pz _ rfl,rfl⟩ isSubtype_stop ?_);exact yr (N _ λc o n e=>gD _ (gD _ (U.extBut c o n (q.extBut c o n e))))
theorem jO{s:zc}{Q:Option (Value×Nat)->zc->Prop}(B:s.heap.get? S=some o)(hd:o.data= .set es ep t)(O:t.fits es.size=true)(U:w.params.followText "set-order"=false)(F:(!t.plain&&decide (es.size>1))=false)(Z:t.led=true)
  (N:Q (match es[SetTable.below t.place slot]?,t.place[SetTable.below t.place slot]? with|some (_,x),some j=>some (x,j+1)|_,_=>none) s):wpAny (model prog w) A (Yv S slot i ep) Q E s:=by
 unfold Yv setsByText;refine eH (Te B hd O ?_);refine eH (eH (Uj (yr ?_)));dsimp only;rw[Pn (by rw[show(model prog w).w.params.followText "set-order"=false from U];simp)];split
 .rename_i hc
  have q:(!t.plain&&decide (es.size>1))=true:=hc;rw[F]at q;cases q
 .refine eH ?_
  show wpAny _ _ (if(!t.led&& !es.isEmpty)=true then WR "set:maker-not-led" else pure PUnit.unit) _ _ _;rw[Pn (by simp[Z])];exact yr (yr N)
theorem lF{s:zc}{Q:Option (Value×Nat)->zc->Prop}(B:s.heap.get? S=some o)(hd:o.data= .set es ep t)(O:t.fits es.size=true)(U:w.params.followText "set-order"=true)
  (N:Q (((Ux (w.params.setOrder S ep) es)[i]?).map λe=>(e.2,slot)) s):wpAny (model prog w) A (Yv S slot i ep) Q E s:=by
 unfold Yv setWalk setsByText;refine eH (Te B hd O ?_);refine eH (eH (Uj (yr ?_)));dsimp only;rw[Pk (show(model prog w).w.params.followText "set-order"=true from U)];rw[Pn (by simp)];refine eH (eH (Te B hd O ?_));refine eH (eH (Uj (yr ?_)));dsimp only;rw[Pk (show(model prog w).w.params.followText "set-order"=true from U)];refine eH (Uj (yr ?_));exact yr N
end
theorem F.jb_slot_seti_iter:Slot "set_iterator" "__iter__" "set_iterator.__iter__" :=
 .of (owner:="set_iterator") (n:="__iter__") (by rw[Wo,U0];kernel_rfl) (by decide +kernel) (by decide +kernel) (by decide +kernel)
  (by first|exact .inl (by decide +kernel)|exact .inr (by decide +kernel)) (by rw[Vu];kernel_rfl)
theorem F.jb_entry_seti_iter:YJ table "set_iterator.__iter__"=some Builtin.«dict_keyiterator.__iter__»:=entryFor_alias (id':="dict_keyiterator.__iter__") (by kernel_rfl) rfl (by decide +kernel) (by kernel_rfl)
theorem F.jb_args_seti_iter(a:Value):argsOk "set_iterator.__iter__" ⟨[a],[]⟩:=by
 unfold argsOk;rw[signature?_of (id:="set_iterator.__iter__") (n:=['_','_','r','e','t','i','_','_']) (o:=['r','o','t','a','r','e','t','i','_','t','e','s']) (by kernel_rfl) F.jb_owner_seti];kernel_rfl
theorem lR{s:zc}{f:Value}(hz:s.heap.get? it=some (jg f i S n ep))(h:Q (.ref it) s):wpAny (model prog w) A (Yn (.ref it)) Q E s:=by
 have O:s.TypeIs (.ref it) "set_iterator":=⟨_,hz,rfl⟩;refine ZX O F.jb_slot_seti_iter (Uc F.jb_slot_seti_iter O F.jb_entry_seti_iter ?_ (F.jb_args_seti_iter _));show wpAny _ _ (ret (.ref it)) _ _ s;exact yr ⟨_,rfl,"set_iterator",_,O,F.jb_slot_seti.lookup,h⟩
def atL(L:List (Int×Value))(i:Nat)(v:Value):Prop:=∃c,L[i]? =some (c,v)
def wW(t:Ui):Nat->Nat
 |0=>0
 |i+1=>t.place.getD i 0+1
variable{t:SetTable}
theorem vZ(I:A.handled=none)(hn:S≠it)(N:o.ExactSet)(hd:o.data= .set es ep t)(O:t.fits es.size=true)(U:w.params.followText "set-order"=false)(a1:(!t.plain&&decide (es.size>1))=false)(hl:t.led=true)(Z:Jb.Ris t.place) :
  Walks prog w A it [it,S] [it] es.size (atL es.toList) (λi h=>h.get? it=some (jg (Q7 (wW t i)) i S es.size ep)/\h.get? S=some o):=by
 have a3:t.place.size=es.size:=by
  unfold aaH at O;simp only[Qo,beq_iff_eq]at O;exact O.1
 have a0:∀i,i<=es.size->SetTable.below t.place (wW t i)=i:=λi hi=>by
  cases i with
  |zero=>exact Jb.below_zero Z
  |succ i=>exact Jb.below_next Z (by omega)
 refine⟨λb U=>by simp at U;simp[U],λi h h' st J=>⟨J it (by simp) _ st.1,J S (by simp) _ st.2⟩,λi s Q E hi st q=>?_,λs Q E st q=>?_,λi s Q E st q=>lR st.1 q⟩
 .obtain⟨hp,g,d,tk,os⟩:=s
  obtain⟨e1,e2⟩:∃c v,es[i]? =some (c,v):=⟨es[i].1,es[i].2,by simp[hi]⟩;obtain⟨v,e2⟩:=e2;have a2:t.place[i]? =some (t.place.getD i 0):=by
   rw[P_,Qk t.place i (by omega)];rfl
  refine sZ (next:=wW t (i+1)) (x:=v) st.1 st.2 N hd O (λA' E' V j=>jO st.2 hd O U a1 hl ?_) λh' Y F B=>?_
  .rw[a0 i (by omega),e2,a2];exact j
  .exact q v h' Y ⟨e1,by simpa using e2⟩ ⟨F,B S _ hn st.2⟩ λb o U e=>B b o (λz=>U (by simp[z])) e
 .obtain⟨hp,g,d,tk,os⟩:=s
  refine vD I st.1 st.2 N hd O (λA' E' V j=>jO st.2 hd O U a1 hl ?_) λh' B=>q h' tk λb o U e=>B b o (λz=>U (by simp[z])) e;rw[a0 _ (Pg _),UJ (Pg _)];exact j
theorem lG{α:Type}(next:Nat->Nat):∀(f k:Nat)(left:List α)(out:Array α),left.length=f->QJ (Zq next f k left out).toList (out.toList++left)
 |0,k,left,out,h=>by
  have e:left=[]:=Rp h;subst e;simp[Zq]
 |f+1,k,left,out,h=>by
  have hi:next k % left.length<left.length:=Nat.mod_lt _ (by omega)
  rw[Zq,Py hi];dsimp only;refine(lG next f (k+1) _ _ (by rw[YK,Pk hi];omega)).trans ?_;rw[VH,Qi];exact(jW hi).append_left _
theorem jt(next:Nat->Nat)(xs:Array α):QJ (Ux next xs).toList xs.toList:=by
 have:=lG next xs.size 0 xs.toList #[] (by simp)
 simpa[Ux]using this
theorem x_(I:A.handled=none)(hn:S≠it)(N:o.ExactSet)(hd:o.data= .set es ep t)(O:t.fits es.size=true)(U:w.params.followText "set-order"=true) :
  Walks prog w A it [it,S] [it] es.size (atL (Ux (w.params.setOrder S ep) es).toList) (λi h=>h.get? it=some (jg (Q7 0) i S es.size ep)/\h.get? S=some o):=by
 have hsz:(Ux (w.params.setOrder S ep) es).size=es.size:=by
  have:=(jt (w.params.setOrder S ep) es).length_eq;simpa using this
 refine⟨λb U=>by simp at U;simp[U],λi h h' st J=>⟨J it (by simp) _ st.1,J S (by simp) _ st.2⟩,λi s Q E hi st q=>?_,λs Q E st q=>?_,λi s Q E st q=>lR st.1 q⟩
 .obtain⟨hp,g,d,tk,os⟩:=s
  have a0:i<(Ux (w.params.setOrder S ep) es).size:=by omega
  obtain⟨c,v,e1⟩:∃(c:Int)(v:Value),(Ux (w.params.setOrder S ep) es)[i]? =some (c,v):=⟨((Ux (w.params.setOrder S ep) es)[i]'a0).1,((Ux (w.params.setOrder S ep) es)[i]'a0).2,Qk (Ux (w.params.setOrder S ep) es) i a0⟩;refine sZ (slot:=0) (next:=0) (x:=v) st.1 st.2 N hd O (λZ E' V j=>lF st.2 hd O U ?_) λh' Y F B=>?_
  .rw[e1];exact j
  .exact q _ h' Y ⟨c,by rw[Qs,e1]⟩ ⟨F,B S _ hn st.2⟩ λb o U e=>B b o (λz=>U (by simp[z])) e
 .obtain⟨hp,g,d,tk,os⟩:=s
  refine vD (slot:=0) I st.1 st.2 N hd O (λZ E' V j=>lF st.2 hd O U ?_) λh' B=>q h' tk λb o U e=>B b o (λz=>U (by simp[z])) e;rw[UJ (by omega)];exact j
variable{p:Addr}{ps:List Nat}
theorem wu(I:A.handled=none)(hn:S≠it)(Y:p≠it)(N:o.ExactSet)(hd:o.data= .set es ep t)(O:t.fits es.size=true)(Z:QJ ps (Qq es.size)) :
  Walks prog w A it [it,S,p] [it] es.size (atL (ps.map λj=>es.getD j (0,.none))) (λi h=>h.get? it=some (jg (.ref p) i S es.size ep)/\h.get? S=some o/\h.get? p=some (gM ps)):=by
 have hl:ps.length=es.size:=by rw[Z.length_eq,Xf]
 refine⟨λb U=>by simp at U;simp[U],λi h h' st J=>⟨J it (by simp) _ st.1,J S (by simp) _ st.2.1,J p (by simp) _ st.2.2⟩,λi s Q E hi st q=>?_,λs Q E st q=>?_,λi s Q E st q=>lR st.1 q⟩
 .obtain⟨h0,g,d,tk,os⟩:=s
  have V:i<ps.length:=by omega
  have F:ps[i]<es.size:=RL.mp (Z.mem_iff.mp (RZ V));refine Aa (j:=ps[i]) (c:=es[ps[i]].1) (x:=es[ps[i]].2) st.1 st.2.2 st.2.1 N hd O (Py V) (Qk es _ F) λh' a0 z1 B=>?_;refine q _ h' a0 ⟨es[ps[i]].1,?_⟩ ⟨z1,B S _ hn st.2.1,B p _ Y st.2.2⟩ λb o U e=>B b o (λz=>U (by simp[z])) e;rw[List.getElem?_map,Py V];simp[P_,F]
 .obtain⟨h0,g,d,tk,os⟩:=s
  exact Dl I st.1 st.2.2 st.2.1 N hd O (Sw (by omega)) λh' B=>q h' tk λb o U e=>B b o (λz=>U (by simp[z])) e
theorem wV(Z:QJ ps (Qq es.size)):QJ (ps.map λj=>es.getD j (0,.none)) es.toList:=by
 refine(Z.map _).trans ?_;have e:(Qq es.size).map (λj=>es.getD j (0,QK))=es.toList:=by
  refine aah (by simp) λi h1 h2=>?_;simp at h1;simp[P_,h1]
 rw[e]
section
variable{prog:Program}{w:World}{A:Around}{E:Value->Shared->Prop}{S D:Addr}{o:Obj}{es:Array (Int×Value)}{ep:Nat}{t:SetTable}{s:Shared}
theorem Dp{Q:Bool->zc->Prop}(O:s.TypeIs (.ref S) "set")(h:Q false s):wpAny (model prog w) A (U8 (.ref S)) Q E s:=by
 unfold U8;refine eH (wpAny_specialOf O PySem.F.slot_set_len.lookup ?_);generalize q:("set.__len__":String)=id0
 wp_delta
 rw[show splitId id0=some ("set","__len__")from by subst q;decide +kernel];subst q;refine eH (Ss (T:="set") (b:=true) O (by rw[Vu];kernel_rfl) ?_);refine Yb (λj=>absurd j (by decide)) (λ_=>?_);refine Yb (λ_=>?_) (λj=>absurd (by decide +kernel) j);refine eH (Ud O ?_);exact yr h
theorem Hd{R:Zd->zc->Prop}(I:A.handled=none)(B:s.heap.get? S=some o)(N:o.ExactSet)(hd:o.data= .set es ep t)(O:t.fits es.size=true)(Z:Jb.RisT t (Jb.ledW w))(hz:es.size<=Px)(a6:D≠S)(res:Value)(a1:Nat)(hD:s.heap.get? D=some {cls:=.type "list",data:=.seq #[] a1})
  (hR:∀h' tk d' L acc c,(∀b o,b≠D->s.heap.get? b=some o->h'.get? b=some o)->h'.get? D=some {cls:=.type "list",dict:=none,data:=.seq acc c,slots:=#[]}->QJ L es.toList->ItemsOf (atL L) acc es.size->R (.ok (.ret res)) {s with heap:=h',drawn:=d',toks:=tk}) :
  wpAny (model prog w) A.in1 (U9 (.ref D) (.ref S) res)
   (λb1 s'=>match b1 with|.done f=>R (.ok f) s'|.again c'=>c'.quiet=true/\T9 (model prog w) A c' R s') (λe s'=>R (.error e) s') s:=by
 have hT:s.TypeIs (.ref S) "set":=⟨o,B,N.1⟩;have a4:D<s.heap.objs.size:=Ph hD;have a7:S<s.heap.objs.size:=Ph B;unfold U9;refine eH (Ud (T:="set") hT ?_);have h1:XF (.ref D) (.ref S)=false:=by simp[XF,a6]
 simp only[h1,show(R1 "set"==R1 "list")=false by decide,show(R1 "set"==R1 "tuple")=false by decide,Bool.or_false,PJ,Qv];have after:∀{it:Addr}{fp:List Addr}{L:List (Int×Value)}{St:Nat->Heap->Prop}{h1:Heap}{d1:Drawn}{b0:Bool},Walks prog w A.in1 it fp [it] es.size (atL L) St->D∉fp->QJ L es.toList->St 0 h1->h1.get? D=some {cls:=.type "list",data:=.seq #[] a1}->h1.get? S=some o->s.heap.objs.size<=it->(∀b o,s.heap.get? b=some o->h1.get? b=some o)->
   wpAny (model prog w) A.in1 (do
    let room ←Tt [.ref it] (U8 (.ref S))
    if(room||b0)=true then do
     rule "list.extend.makes-room"
     Builtin.List.listTouch (.ref D)
     again (.builtin "list.extend.loop" ⟨[.ref D,.ref it,res],[]⟩)
    else again (.builtin "list.extend.loop" ⟨[.ref D,.ref it,res],[]⟩))
   (λb1 s'=>match b1 with|.done f=>R (.ok f) s'|.again c'=>c'.quiet=true/\T9 (model prog w) A c' R s') (λe s'=>R (.error e) s') {s with heap:=h1,drawn:=d1}:=λ{it fp L St h1 d1 b0} W b5 hL st a8 b6 j kp=>by
  have q:∀(h:Heap)(a0 tk:Nat),St 0 h->(∀b o,b≠D->h1.get? b=some o->h.get? b=some o)->
    h.get? D=some {cls:=.type "list",data:=.seq #[] a0}->T9 (model prog w) A (.builtin "list.extend.loop" ⟨[.ref D,.ref it,res],[]⟩) R {s with heap:=h,drawn:=d1,toks:=tk}:=by
   intro h a0 tk b9 J b7;refine codeAny_extend_loopS W.toS hz D b5 res es.size 0 _ #[] a0 rfl (R0 _) b9 b7 (ItemsOf.nil _) λs' b3 c' V b8 b2=>?_;rw[Moved.eq_with V];refine hR s'.heap s'.toks d1 L b3 c' (λb o U e=>V.heap b o (λa2=>?_) (J b o U (kp b o e))) b8 hL b2;rcases Pj.mp a2 with e'|a2
   .exact U e'
   .have:=Ph e
    rw[PQ.mp a2]at this;exact absurd this (aaq.mpr j)
  refine eH (Rf (Dp ⟨o,b6,N.1⟩ ?_));refine Yb (λ_=>?_) (λ_=>yr ⟨Th Xl _,q _ a1 _ st (λb o _ e=>e) a8⟩);refine eH (Rz ?_);refine eH ?_;show wpAny _ _ (updateSeq D (·.push .none) >>=λ_=>updateSeq D (·.pop)) _ _ _;refine eH (wpAny_updateSeq a8 rfl ?_);have a3:=TJ (SQ (·.push QK)) a8 rfl;refine wpAny_updateSeq (hz:=by seq_fits) a3 rfl ?_;have a9:=TJ (SQ (·.pop)) a3 rfl;refine yr ⟨Th Xl _,q _ _ _ ?_ (λb o U e=>?_) a9⟩
  .refine W.frame 0 _ _ st λb U o e=>?_
   have b4:b≠D:=λz=>b5 (z▸U);exact(Q0 _ _ (Qn b4)).trans ((Q0 _ _ (Qn b4)).trans e)
  .exact(Q0 _ _ (Qn U)).trans ((Q0 _ _ (Qn U)).trans e)
 have a5:∀(x:Obj),(s.heap.push x).objs.size=s.heap.objs.size+1:=λx=>Rc ..;refine eH (mq B N hd O hz (λY=>?_) λU ps d hp=>?_)
 .cases U:w.params.followText "set-order" with
  |true=>
   refine after (d1:=s.drawn) (x_ (it:=s.heap.objs.size) I (PN a7) N hd O U) ?_ (jt _ _) ⟨Pz _ rfl,gD _ B⟩ (gD _ hD) (gD _ B) (Pg _) λb o e=>gD _ e;simp only[Pj,Rn,UG,not_or];exact⟨PN a4,a6⟩
  |false=>
   have c0:(!t.plain&&decide (es.size>1))=false:=Y.resolve_left (by rw[U];simp);refine after (d1:=s.drawn) (vZ (it:=s.heap.objs.size) I (PN a7) N hd O U c0 (by rw[Z.2];simp[Jb.ledW,U]) Z.1) ?_ (Tu _) ⟨Pz _ rfl,gD _ B⟩ (gD _ hD) (gD _ B) (Pg _) λb o e=>gD _ e;simp only[Pj,Rn,UG,not_or];exact⟨PN a4,a6⟩
 .have e2:∀b o,s.heap.get? b=some o->((s.heap.push (gM ps)).push (jg (.ref s.heap.objs.size) 0 S es.size ep)).get? b=some o:=λb o e=>gD _ (gD _ e)
  refine after (wu (it:=(s.heap.push (gM ps)).objs.size) (p:=s.heap.objs.size) I (by rw[a5];exact PN (TY a7)) (by rw[a5];exact PN (V9 _)) N hd O hp) ?_ (wV hp) ⟨Pz _ rfl,e2 _ _ B,gD _ (Pz _ rfl)⟩ (e2 _ _ hD) (e2 _ _ B) (by rw[a5];exact Z4 _) e2;simp only[Pj,Rn,UG,not_or,a5];exact⟨PN (TY a4),a6,PN a4⟩
end
open PySem.W
theorem collect_set{Q:List Value->zc->Prop}(I:A.handled=none)(B:s.heap.get? S=some o)(N:o.ExactSet)(hd:o.data= .set es ep t)(hf:t.fits es.size=true)(hr:Jb.RisT t (Jb.ledW w))(hz:es.size<=Px)
  (q:∀h' tk d' L acc,(∀b o,s.heap.get? b=some o->h'.get? b=some o)->QJ L es.toList->ItemsOf (atL L) acc es.size->Q acc.toList {s with heap:=h',drawn:=d',toks:=tk}):wpAny (model prog w) A (collect (.ref S)) Q E s:=by
 unfold collect;refine eH (wpAny_runValue (RP F.entry_proto_collect ?_));rw[Rk F.plain_proto_collect _];show wpAny _ A.in1 (Vf [] >>=λl=>again (.builtin "list.__iadd__" ⟨[l,.ref S],[]⟩)) _ _ s;refine eH (QM ?_);refine yr ⟨Th ZZ _,RP F.entry_list_iadd ?_⟩;rw[Rk ZZ _];show wpAny _ A.in1 (U9 (.ref s.heap.objs.size) (.ref S) (.ref s.heap.objs.size)) _ _ _;have hD:(s.heap.push {cls:=.type "list",data:=.seq ([]:List Value).toArray}).get? s.heap.objs.size=some {cls:=.type "list",data:=.seq #[] 0}:=Pz _ rfl
 let Z (s':zc):Prop:=∃h' tk d' L acc c,s'={s with heap:=h',drawn:=d',toks:=tk}/\(∀b o,s.heap.get? b=some o->h'.get? b=some o)/\h'.get? s.heap.objs.size=some {cls:=.type "list",dict:=none,data:=.seq acc c,slots:=#[]}/\QJ L es.toList/\ItemsOf (atL L) acc es.size
 have a0:∀s',Z s'->wpAny (model prog w) A (match Qw s.heap.objs.size with
   |Qw a=>do
    match(←load a).data with
     |Data.seq xs _=>pure xs.toList
     |_=>WR "internal:collect"
   |_=>WR "internal:collect") Q E s':=by
  rintro s' ⟨h',tk,d',L,acc,c,rfl,J,Y,hL,O⟩;show wpAny _ A (load s.heap.objs.size >>=_) _ _ _;refine eH (Wm Y ?_);exact yr (q h' tk d' L acc J hL O)
 refine Sq (Hd (A:=A) (R:=λr s'=>r= .ok (.ret (.ref s.heap.objs.size))/\Z s')
  (s:={s with heap:=s.heap.push {cls:=.type "list",data:=.seq ([]:List Value).toArray}}) I (gD _ B) N hd hf hr hz (Sh (Ph B)) _ 0 hD (λh' tk d' L acc c J Y hL O=>⟨rfl,h',tk,d',L,acc,c,rfl,λb o e=>J b o (PN (Ph e)) (gD _ e),Y,hL,O⟩)) (λU s' h=>?_) (λe s' h=>?_)
 .cases U with
  |done f=>
   obtain⟨e,h⟩:=h;cases e;exact a0 _ h
  |again V=>exact⟨h.1,Vn h.2 λr j hr=>by obtain⟨rfl,h⟩:=hr;exact a0 _ h⟩
 .exact absurd h.1 (by simp)
end PySem
namespace Jb
open PySem PySem.Spec PyProof.Rows L2
def j5[DecidableEq α](ns:List α):List α:=ns.foldl (λacc n=>if n∈acc then acc else acc++[n]) []
def wL(ns:List Int):List Int:=(j5 ns).mergeSort (λa b=>decide (a<=b))
section
variable{α:Type}[DecidableEq α]
theorem tE:∀(ns acc:List α),acc.Nodup->(ns.foldl (λacc n=>if n∈acc then acc else acc++[n]) acc).Nodup/\∀x,x∈ns.foldl (λacc n=>if n∈acc then acc else acc++[n]) acc↔x∈acc∨x∈ns
 |[],acc,h=>⟨h,λx=>by simp⟩
 |n::r,acc,h=>by
  rw[Vl];by_cases e:n∈acc
  .rw[Pk e]
   obtain⟨h1,h2⟩:=tE r acc h;refine⟨h1,λx=>(h2 x).trans ⟨λz=>z.imp id (Qm _),λz=>z.elim .inl λz=>(Pj.mp z).elim (λz=>.inl (z▸e)) .inr⟩⟩
  .rw[Pn e]
   obtain⟨h1,h2⟩:=tE r (acc++[n]) (by rw[Qg];exact⟨h,by simp,λa O b U z=>e (by rw[PQ.mp U]at z;exact z▸O)⟩);refine⟨h1,λx=>(h2 x).trans ?_⟩;simp only[Mz,Pj,Rn,UG,or_assoc]
theorem GJ(ns:List α):(j5 ns).Nodup:=(tE ns [] List.nodup_nil).1
theorem wA(ns:List α):(j5 ns).length<=ns.length:=by
 have:∀(ns acc:List α),(ns.foldl (λacc n=>if n∈acc then acc else acc++[n]) acc).length<=acc.length+ns.length:=by
  intro ns
  induction ns with
  |nil=>intro acc;simp
  |cons n r F=>
   intro acc;rw[Vl];refine RX (F _) ?_;split<;>simp<;>omega
 have:=this ns [];simpa[j5]using this
theorem lw{f:α->Key}(O:∀a b,f a=f b->a=b)(ns:List α):uz (ns.map f)=(j5 ns).map f:=by
 have:∀(ns acc:List α),(ns.map f).foldl lO (acc.map f)=(ns.foldl (λacc n=>if n∈acc then acc else acc++[n]) acc).map f:=by
  intro ns
  induction ns with
  |nil=>intro acc;rfl
  |cons n r F=>
   intro acc;rw[PP,Vl,Vl,←F];congr 1;unfold lO;by_cases e:n∈acc
   .rw[Pk e,Pk (jH.mpr (QF.mpr ⟨n,e,rfl⟩))]
   .rw[Pn e,Pn (λz=>e (by obtain⟨m,h1,h2⟩:=QF.mp (jH.mp z);cases O _ _ h2;exact h1))]
    simp
 exact this ns []
end
theorem m_:∀{a b:List α},a.Nodup->(∀x∈a,x∈b)->b.length<=a.length->QJ a b
 |[],b,_,_,h=>by
  have e:b=[]:=Rp (Nat.le_zero.mp h);rw[e]
 |x::r,b,hn,hs,hl=>by
  obtain⟨h1,h2⟩:=QC.mp hn;obtain⟨p,q,rfl⟩:=List.append_of_mem (hs x (by simp));have F:QJ r (p++q):=m_ h2 (λy j=>by
   have:=hs y (by simp[j]);simp only[Mz,Pj]at this⊢;rcases this with z|z|z
   .exact .inl z
   .exact absurd (z▸j) h1
   .exact .inr z) (by simp at hl⊢;omega)
  exact(F.cons x).trans List.perm_middle.symm
theorem sO:∀{a b:List Int},QJ a b->a.Pairwise (·<=·)->b.Pairwise (·<=·)->a=b
 |[],b,p,_,_=>by rw[p.nil_eq]
 |x::r,[],p,_,_=>absurd p.length_eq (by simp)
 |x::r,y::q,p,ha,hb=>by
  obtain⟨U,V⟩:=Q4.mp ha;obtain⟨Z,j⟩:=Q4.mp hb;have e:x=y:=by
   rcases Pj.mp (p.mem_iff.mp (Qt ..))with z|z
   .exact z
   .rcases Pj.mp (p.mem_iff.mpr (Qt (a:=y)))with z2|z2
    .exact z2.symm
    .have:=Z x z;have:=U y z2;omega
  subst e;rw[sO (p.cons_inv) V j]
theorem rz(ns:List Int):QJ (wL ns) (j5 ns):=List.mergeSort_perm _ _
theorem G6(ns:List Int):(wL ns).Pairwise (·<=·):=by
 have:=List.pairwise_mergeSort (le:=λa b:Int=>decide (a<=b)) (λa b c h1 h2=>by simp at *;omega) (λa b=>by simp;omega) (j5 ns);exact this.imp λh=>by simpa using h
open PySem PyProof.Rows
def tR:Bool->Keyed->Array Keyed->Nat->Nat->Nat->StateT Ry Sem (Option Nat):=sortPriv% PySem.Builtin.gallop
def v6:Array Keyed->Array Keyed->StateT Ry Sem (Array Keyed):=sortPriv% PySem.Builtin.mergeLo
def vm:Array Keyed->Array Keyed->StateT Ry Sem (Array Keyed):=sortPriv% PySem.Builtin.mergeHi
def vl(x:Keyed):Int:=numOf x.1
def Ik(x:Keyed):Prop:=∃n t,x.1= .int n t
section
variable{prog:Program}{w:World}{A:Around}{E:Value->Shared->Prop}{s:Shared}{st:SortSt}
theorem GD{x y:Keyed}{Q:Option Bool->Ry->Prop}(q:kindOf st=S6)(J:Ik x)(j:Ik y)(h:Q (some (decide (vl x<vl y))) st):wpS (model prog w) A E s (lt' x y) Q st:=by
 obtain⟨n,t,e1⟩:=J;obtain⟨m,u,e2⟩:=j;rw[lt'_eq];refine Pq (Wj ?_);rw[q,keyLt'_oneType,e1,e2];refine Pq (WN (TX (oneLt_int ⟨rfl,PB ?_⟩)));rwa[vl,vl,e1,e2]at h
theorem cF{U:Array Keyed}{i:Nat}{x:Keyed}{Q:Keyed->Ry->Prop}(h:U[i]? =some x)(N:Q x st):wpS (model prog w) A E s (elem' U i) Q st:=by
 rw[elem'_eq,h];exact PB N
theorem Om{left:Bool}{q:Keyed}{U:Array Keyed}{base n O k:Nat}{Q:Option Nat->Ry->Prop}(J:kindOf st=S6)(a2:Ik q)(hh:O<n)(j:k<=n)
  (F:∀i,i<n->∃x,U[base+i]? =some x/\Ik x/\(i<k↔if left=true then vl x<vl q else ¬vl q<vl x)) (h:Q (some k) st):wpS (model prog w) A E s (tR left q U base n O) Q st:=by
 have a1:∀(i:Nat)(R:Option Bool->Ry->Prop),i<n->R (some (decide (i<k))) st->wpS (model prog w) A E s (do
   let x ←elem' U (base+i)
   if left=true then lt' x q
   else do
    let b ←lt' q x
    pure (Option.map (λx=>!x) b)) R st:=λi R hi hR=>by
  obtain⟨x,h1,h2,N⟩:=F i hi;refine Pq (cF h1 ?_);cases left with
  |true=>
   simp only[Qf]at N⊢;refine GD J h2 a2 ?_;rwa[←decide_eq_decide.mpr N]
  |false=>
   simp only[PJ,Qv]at N⊢;refine Pq (GD J a2 h2 (PB ?_));have:(!decide (vl q<vl x))=decide (i<k):=by rw[←decide_not];exact decide_eq_decide.mpr N.symm
   simpa[this]using hR
 unfold wpS tR
 wp_delta
 wp_delta
 change wpS (model prog w) A E s _ Q st;refine Pq (a1 O _ hh ?_);dsimp only;by_cases Z:O<k
 case' pos=>
  rw[Pk (by simpa using Z)];refine Pq (R9 (Q8 (I:=λx c B=>B=st/\∃lo of,c=(none,lo,of)/\x+1<=of/\O+lo<k)
   (Q:=λc B=>B=st/\∃lo of,c=(none,lo,of)/\O+lo<k/\(n-O<=of∨k<=O+of)) ?_ ?_ ⟨rfl,0,1,rfl,by omega,by omega⟩) ?b1)
  .rintro x c B _ hx ⟨rfl,lo,of,rfl,h1,h2⟩
   dsimp only;by_cases Y:of>=n-O
   .rw[Pk Y]
    exact PB ⟨rfl,lo,of,rfl,h2,.inl Y⟩
   .rw[Pn Y]
    refine Pq (a1 (O+of) _ (by omega) ?_);by_cases V:O+of<k
    .simp only[V,Tz,Tg,PJ,Qv]
     exact PB ⟨rfl,of,2*of+1,rfl,by omega,V⟩
    .simp only[V,S7,Bool.not_false,Qf]
     exact PB ⟨rfl,lo,of,rfl,h2,.inr (by omega)⟩
  .rintro c B ⟨rfl,lo,of,rfl,h1,h2⟩
   exact⟨rfl,lo,of,rfl,h2,.inl (by omega)⟩
 case' neg=>
  rw[Pn (by simpa using Z)];refine Pq (R9 (Q8 (I:=λx c B=>B=st/\∃lo of,c=(none,lo,of)/\x+1<=of/\k+lo<=O)
   (Q:=λc B=>B=st/\∃lo of,c=(none,lo,of)/\k+lo<=O/\(O+1<=of∨O<k+of)) ?_ ?_ ⟨rfl,0,1,rfl,by omega,by omega⟩) ?b2)
  .rintro x c B _ hx ⟨rfl,lo,of,rfl,h1,h2⟩
   dsimp only;by_cases Y:of>=O+1
   .rw[Pk Y]
    exact PB ⟨rfl,lo,of,rfl,h2,.inl Y⟩
   .rw[Pn Y]
    refine Pq (a1 (O-of) _ (by omega) ?_);by_cases V:O-of<k
    .simp only[V,Tz,Qf]
     exact PB ⟨rfl,lo,of,rfl,h2,.inr (by omega)⟩
    .simp only[V,S7,PJ,Qv]
     exact PB ⟨rfl,of,2*of+1,rfl,by omega,by omega⟩
  .rintro c B ⟨rfl,lo,of,rfl,h1,h2⟩
   exact⟨rfl,lo,of,rfl,h2,.inl (by omega)⟩
 all_goals
  rintro c B ⟨rfl,lo,of,rfl,h1,h2⟩;dsimp only;refine Pq (R9 (Q8 (I:=λx c a0=>a0=B/\∃lo hi,c=(none,lo,hi)/\lo<=k/\k<=hi/\hi<=n/\hi-lo<=n-x)
   (Q:=λc a0=>a0=B/\∃lo,c=(none,lo,k)) ?_ ?_ ⟨rfl,_,_,rfl,by omega,by omega,by omega,by omega⟩) ?_)
  .rintro x c B _ hx ⟨rfl,lo,hi,rfl,h1,h2,N,h4⟩
   dsimp only;by_cases Y:lo>=hi
   .rw[Pk Y]
    obtain rfl:hi=k:=by omega
    exact PB ⟨rfl,lo,rfl⟩
   .rw[Pn Y]
    refine Pq (a1 (lo+(hi-lo) / 2) _ (by omega) ?_);by_cases V:lo+(hi-lo) / 2<k
    .simp only[V,Tz,Qf]
     exact PB ⟨rfl,_,_,rfl,by omega,by omega,by omega,by omega⟩
    .simp only[V,S7,PJ,Qv]
     exact PB ⟨rfl,_,_,rfl,by omega,by omega,by omega,by omega⟩
  .rintro c B ⟨rfl,lo,hi,rfl,h1,h2,N,h4⟩
   obtain rfl:hi=k:=by omega
   exact⟨rfl,lo,rfl⟩
  .rintro c a0 ⟨rfl,lo,rfl⟩
   exact PB h
end
abbrev Srt(v:Keyed->Int)(l:List Keyed):Prop:=l.Pairwise (λx y=>v x<=v y)
def Fn(v:Keyed->Int)(al bl:List Keyed)(r:Array Keyed):Prop:=r.toList.Perm (al++bl)/\Srt v r.toList
structure Mg(v:Keyed->Int)(al bl:List Keyed)(out:Array Keyed)(ia ib:Nat):Prop where
 p:out.toList.Perm (al.take ia++bl.take ib)
 s:Srt v out.toList
 a:∀x∈out.toList,∀y∈al.drop ia,v x<=v y
 b:∀x∈out.toList,∀y∈bl.drop ib,v x<=v y
structure Sm(st st':SortSt):Prop where
 k:kindOf st'=kindOf st
 a:arrOf st'=arrOf st
 p:QH st'=QH st
 f:R8 st'=R8 st
theorem Sm.refl(st:Ry):Sm st st:=⟨rfl,rfl,rfl,rfl⟩
theorem Sm.trans{a b c:Ry}(h:Sm a b)(g:Sm b c):Sm a c:=⟨g.k.trans h.k,g.a.trans h.a,g.p.trans h.p,g.f.trans h.f⟩
theorem C_{P:Keyed->Prop}[DecidablePred P](q:∀x y,vl x<=vl y->P y->P x):∀{l:List Keyed},Srt vl l->∃k,k<=l.length/\∀(i:Nat)(x:Keyed),l[i]? =some x->(i<k↔P x)
 |[],_=>⟨0,Pg _,λi x h=>by simp at h⟩
 |x::r,h=>by
  obtain⟨h1,h2⟩:=Q4.mp h;by_cases J:P x
  .obtain⟨k,hk,hi⟩:=C_ q h2
   refine⟨k+1,by simpa using hk,λi y e=>?_⟩;cases i with
   |zero=>cases e;simp[J]
   |succ i=>rw[←hi i y (by simpa using e)];omega
  .refine⟨0,R0 _,λi y e=>⟨λz=>absurd z (X_ _),λj=>(J ?_).elim⟩⟩
   rcases Pj.mp (QS e)with rfl|z
   .exact j
   .exact q x y (h1 y z) j
variable{v:Keyed->Int}{al bl:List Keyed}{out:Array Keyed}{ia ib:Nat}
theorem Mg.symm(h:Mg v al bl out ia ib):Mg v bl al out ib ia:=⟨h.p.trans U4,h.s,h.b,h.a⟩
variable{o':Array Keyed}{k:Nat}
theorem Mg.pa(h:Mg v al bl out ia ib)(F:Srt v al)(B:o'.toList=out.toList++(al.drop ia).take k)(I:∀x∈(al.drop ia).take k,∀y∈bl.drop ib,v x<=v y):Mg v al bl o' (ia+k) ib:=by
 have hd:Srt v ((al.drop ia).take k++(al.drop ia).drop k):=by rw[Qj];exact F.sublist (Tf ia al)
 obtain⟨d1,_,q⟩:=QD.mp hd;refine⟨?_,?_,?_,?_⟩
 .rw[B,List.take_add]
  refine(h.p.append_right _).trans ?_;rw[Qi,Qi];exact(U4).append_left _
 .rw[B]
  exact QD.mpr ⟨h.s,d1,λx J y j=>h.a x J y (T6 j)⟩
 .rw[B,←U5]
  intro x J y j;rcases Mz.mp J with z|z
  .exact h.a x z y (T7 j)
  .exact q x z y j
 .rw[B]
  intro x J y j;rcases Mz.mp J with z|z
  .exact h.b x z y j
  .exact I x z y j
theorem Mg.pb(h:Mg v al bl out ia ib)(F:Srt v bl)(B:o'.toList=out.toList++(bl.drop ib).take k)(I:∀x∈(bl.drop ib).take k,∀y∈al.drop ia,v x<=v y):Mg v al bl o' ia (ib+k):=(h.symm.pa F B I).symm
variable{r:Array Keyed}
theorem Mg.fb(h:Mg v al bl out ia ib)(O:Srt v al)(U:Srt v bl)(B:r.toList=out.toList++(bl.drop ib++al.drop ia))(I:∀x∈bl.drop ib,∀y∈al.drop ia,v x<=v y):Fn v al bl r:=by
 refine⟨?_,?_⟩
 .rw[B]
  refine(h.p.append_right _).trans ?_
  conv=>rhs;rw[←Qj ia al,←Qj ib bl]
  simp only[Qi];refine Yx _ ?_;rw[←Qi,←Qi,Qi (al.drop ia)];exact U4
 .rw[B]
  refine QD.mpr ⟨h.s,QD.mpr ⟨U.sublist (Tf _ _),O.sublist (Tf _ _),I⟩,λx J y j=>?_⟩;rcases Mz.mp j with z|z
  .exact h.b x J y z
  .exact h.a x J y z
theorem Mg.fa(h:Mg v al bl out ia ib)(O:Srt v al)(U:Srt v bl)(B:r.toList=out.toList++(al.drop ia++bl.drop ib))(I:∀x∈al.drop ia,∀y∈bl.drop ib,v x<=v y):Fn v al bl r:=
 let⟨h1,h2⟩:=h.symm.fb U O B I;⟨h1.trans U4,h2⟩
variable{x:Keyed}
theorem take1(h:l[i]? =some x):(l.drop i).take 1=[x]:=by
 obtain⟨h1,h2⟩:=Mx.mp h;rw[QX h1,h2];rfl
theorem zr(a:Array Keyed)(i k:Nat):(a.extract i (i+k)).toList=(a.toList.drop i).take k:=by
 simp[Wu,Zr]
theorem Je(a:Array Keyed)(i:Nat):(a.extract i).toList=a.toList.drop i:=by
 simp[Wu,Zr];exact RM (by simp)
section
variable{prog:Program}{w:World}{A:Around}{E:Value->Shared->Prop}{s:Shared}{st:SortSt}
theorem sr{left:Bool}{q:Keyed}{U:Array Keyed}{base n:Nat}{Q:Option Nat->Ry->Prop}(O:Nat)(hk:kindOf st=S6)(N:Ik q)(hn:base+n<=U.size)(I:O<n)(hi:∀x∈U.toList,Ik x)(F:Srt vl ((U.toList.drop base).take n))
  (h:∀k,k<=n->(∀x∈((U.toList.drop base).take n).take k,if left=true then vl x<vl q else ¬vl q<vl x)->(∀x∈((U.toList.drop base).take n).drop k,¬if left=true then vl x<vl q else ¬vl q<vl x)->Q (some k) st):wpS (model prog w) A E s (tR left q U base n O) Q st:=by
 have Z:((U.toList.drop base).take n).length=n:=by simp;omega
 have Y:∀i,i<n->((U.toList.drop base).take n)[i]? =U[base+i]?:=λi h=>by
  rw[Ub h,Zt,Qs]
 obtain⟨k,a0,V⟩:=C_ (P:=λx=>if left=true then vl x<vl q else ¬vl q<vl x) (λx y a1 j=>by
  cases left with
  |true=>simp only[Qf]at j⊢;omega
  |false=>simp only[PJ,Qv]at j⊢;omega) F
 rw[Z]at a0;refine Om (k:=k) hk N I a0 (λi B=>?_) (h k a0 (λx J=>?_) λx J=>?_)
 .have hlt:base+i<U.size:=by omega
  exact⟨U[base+i],Qk U _ hlt,hi _ (by simp),V i _ (by rw[Y i B];exact Qk U _ hlt)⟩
 .obtain⟨i,B,e⟩:=Rq J
  rw[Rm]at B;refine(V i x ?_).mp (by omega);rw[←e,VJ];exact Py (by omega)
 .obtain⟨i,B,e⟩:=Rq J
  rw[U_]at B;intro hP;have:=(V (k+i) x (by rw[←e,ZS];exact Py (by omega))).mpr hP;omega
end
section
variable{prog:Program}{w:World}{A:Around}{E:Value->Shared->Prop}{s:Shared}{st:SortSt}
theorem lB{g:Nat}{Q:Unit->Ry->Prop}(h:∀B,Sm st B->Q () B):wpS (model prog w) A E s ((sortPriv% PySem.Builtin.setMinGallop) g) Q st:=by
 unfold wpS
 wp_delta
 wp_delta
 change wpS (model prog w) A E s _ Q st;exact Wv (h _ ⟨rfl,rfl,rfl,rfl⟩)
theorem j9{v:Keyed->Int}{l:List Keyed}(F:Srt v l){i:Nat}{x:Keyed}(h:l[i]? =some x):∀z∈l.drop i,v x<=v z:=λz hz=>by
 have:=F.sublist (Tf i l);rw[←Qj 1 (l.drop i),take1 h]at this hz;rcases Pj.mp hz with rfl|hz
 .exact QQ _
 .exact(Q4.mp this).1 z hz
theorem nT{a:Array Keyed}{i:Nat}(h:i<a.size):a.toList[i]? =some a[i]:=by rw[Qs];exact Qk a i h
theorem full{a:Array Keyed}(i:Nat):(a.toList.drop i).take (a.size-i)=a.toList.drop i:=RM (by simp)
def Lp(a b:Array Keyed)(st:Ry)(m:Nat)(out:Array Keyed)(ia ib:Nat)(B:Ry):Prop:=Sm st B/\Mg vl a.toList b.toList out ia ib/\ia+1<a.size/\ib<b.size/\m<=ia+ib
theorem MT{a b:Array Keyed}{Q:Array Keyed->Ry->Prop}(hk:kindOf st=S6)(a2:∀x∈a.toList,Ik x)(a6:∀x∈b.toList,Ik x)(sa:Srt vl a.toList)(U:Srt vl b.toList)(h1:1<=a.size)(h2:1<=b.size)(O:∀y,b[0]? =some y->∀x∈a.toList,vl y<=vl x)(hl:∀y∈b.toList,∀x,a[a.size-1]? =some x->vl y<=vl x)
  (h:∀r B,Sm st B->Fn vl a.toList b.toList r->Q r B):wpS (model prog w) A E s (v6 a b) Q st:=by
 have b0:b[0]? =some b[0]:=Qk b 0 h2;have m0:Mg vl a.toList b.toList #[b[0]] 0 1:=by
  have hd:b.toList=b[0]::b.toList.drop 1:=by
   have:=QX (l:=b.toList) (i:=0) (by simp;omega);simpa using this
  refine⟨?_,by simp,λx J y j=>?_,λx J y j=>?_⟩
  .rw[hd];simp
  .obtain rfl:x=b[0]:=by simpa using J
   exact O _ b0 y (by simpa using j)
  .obtain rfl:x=b[0]:=by simpa using J
   rw[hd]at U;exact(Q4.mp U).1 y j
 have fD:∀{out:Array Keyed}{ia ib:Nat},Mg vl a.toList b.toList out ia ib->(a.size<=ia∨b.size<=ib)->Fn vl a.toList b.toList (out++a.extract ia++b.extract ib):=λm hz=>by
  refine m.fa sa U (by simp only[Rr,Je,Qi]) λx J y j=>?_;rcases hz with z|z
  .rw[Rb (by simpa using z)]at J;cases J
  .rw[Rb (by simpa using z)]at j;cases j
 have fL:∀{out:Array Keyed}{ia ib:Nat},Mg vl a.toList b.toList out ia ib->ia+1=a.size->Fn vl a.toList b.toList (out++b.extract ib++a.extract ia):=λ{out ia ib} m hz=>by
  refine m.fb sa U (by simp only[Rr,Je,Qi]) λx J y j=>?_;refine hl x (T7 J) y ?_;have b3:ia<a.toList.length:=by simp;omega
  rw[QX b3,Rb (by simp;omega)]at j;rw[PQ.mp j,show a.size-1=ia by omega,R5];exact Qk a ia (by simpa using b3)
 unfold wpS v6
 wp_delta
 wp_delta
 change wpS (model prog w) A E s _ Q st;refine Pq (WN (Rz ⟨rfl,?_⟩));refine Pq (cF b0 ?_);dsimp only;by_cases b5:b.size=1
 .rw[Pk (by simp[b5])]
  exact PB (h _ _ (Sm.refl _) (fD m0 (.inr (by omega))))
 rw[Pn (by simp;omega)];by_cases b4:a.size=1
 .rw[Pk (by simp[b4])]
  exact PB (h _ _ (Sm.refl _) (fL m0 (by omega)))
 rw[Pn (by simp;omega)];refine Pq (Wj ?_);refine Pq (R9 (Q8 (I:=λx c B=>∃out ia ib mg,c=(none,out,ia,ib,mg)/\Lp a b st (1+x) out ia ib B)
  (Q:=λc B=>∃r o,c=(some r,o)/\Sm st B/\Fn vl a.toList b.toList r) ?_ ?_ ⟨_,_,_,_,rfl,Sm.refl _,m0,by omega,by omega,by omega⟩) ?_)
 .rintro x c B _ J ⟨out,ia,ib,mg,rfl,F,m,q,Y,c3⟩
  dsimp only;refine Pq (R9 (Q8 (I:=λy c B=>∃out ia ib ac bc,c=(none,out,ia,ib,ac,bc)/\Lp a b st (1+x+y) out ia ib B)
   (Q:=λc B=>(∃r o,c=(some r,o)/\Sm st B/\Fn vl a.toList b.toList r)∨∃out ia ib ac bc,c=(none,out,ia,ib,ac,bc)/\Lp a b st (1+x+1) out ia ib B) ?_ ?_ ⟨_,_,_,_,_,rfl,F,m,q,Y,by omega⟩) ?_)
  .clear F m q Y c3
   rintro y c B _ j ⟨out,ia,ib,ac,bc,rfl,F,m,q,Y,c3⟩;dsimp only;have ea:a[ia]? =some a[ia]:=Qk a ia (by omega);have eb:b[ib]? =some b[ib]:=Qk b ib (by omega);have tA:=take1 (nT (a:=a) (i:=ia) (by omega));have tB:=take1 (nT (a:=b) (i:=ib) (by omega));have oA:=j9 sa (nT (a:=a) (i:=ia) (by omega));have oB:=j9 U (nT (a:=b) (i:=ib) (by omega));refine Pq (cF eb (Pq (cF ea (Pq (GD (F.k.trans hk) (a6 _ (by simp)) (a2 _ (by simp)) ?_)))));dsimp only;by_cases hw:vl b[ib]<vl a[ia]
   .rw[Pk (by simpa using hw)]
    refine Pq (cF eb ?_);have m':Mg vl a.toList b.toList (out.push b[ib]) ia (ib+1):=m.pb U (by rw[tB];simp) λz hz v N=>by
     rw[tB]at hz;rw[PQ.mp hz];have:=oA v N;omega
    by_cases V:ib+1=b.size
    .rw[Pk (by simpa using V)]
     exact PB (.inl ⟨_,_,rfl,F,fD m' (.inr (by omega))⟩)
    .rw[Pn (by simpa using V)]
     split
     .exact PB (.inr ⟨_,_,_,_,_,rfl,F,m',q,by omega,by omega⟩)
     .exact PB ⟨_,_,_,_,_,rfl,F,m',q,by omega,by omega⟩
   .rw[Pn (by simpa using hw)]
    refine Pq (cF ea ?_);have m':Mg vl a.toList b.toList (out.push a[ia]) (ia+1) ib:=m.pa sa (by rw[tA];simp) λz hz v N=>by
     rw[tA]at hz;rw[PQ.mp hz];have:=oB v N;omega
    by_cases V:ia+1+1=a.size
    .rw[Pk (by simpa using V)]
     exact PB (.inl ⟨_,_,rfl,F,fL m' V⟩)
    .rw[Pn (by simpa using V)]
     split
     .exact PB (.inr ⟨_,_,_,_,_,rfl,F,m',by omega,Y,by omega⟩)
     .exact PB ⟨_,_,_,_,_,rfl,F,m',by omega,Y,by omega⟩
  .rintro c B ⟨out,ia,ib,ac,bc,rfl,F,m,q,Y,c3⟩
   exact .inr ⟨_,_,_,_,_,rfl,F,m,q,Y,by omega⟩
  .clear F m q Y c3
   rintro c B (⟨r,o,rfl,F,Z⟩|⟨out,ia,ib,ac,bc,rfl,F,m,q,Y,c3⟩)
   .exact PB ⟨_,_,rfl,F,Z⟩
   .dsimp only
    refine Pq (WN (Rz ⟨rfl,?_⟩));refine Pq (R9 (Q8 (I:=λy c B=>∃out ia ib mg ac bc,c=(none,out,ia,ib,mg,ac,bc)/\Lp a b st (1+x+1) out ia ib B)
     (Q:=λc B=>(∃r o,c=(some r,o)/\Sm st B/\Fn vl a.toList b.toList r)∨∃out ia ib mg ac bc,c=(none,out,ia,ib,mg,ac,bc)/\Lp a b st (1+x+1) out ia ib B) ?_ ?_ ⟨_,_,_,_,_,_,rfl,F,m,q,Y,c3⟩) ?_)
    .clear F m q Y c3
     rintro y c B _ j ⟨out,ia,ib,mg,ac,bc,rfl,F,m,q,Y,c3⟩;dsimp only;by_cases a7:mg>1
     case' pos=>rw[Pk a7]
     case' neg=>rw[Pn a7]
     all_goals
      refine Pq (lB λb9 b6=>?_);have a0:=F.trans b6;have eb:b[ib]? =some b[ib]:=Qk b ib Y;have tB:=take1 (nT (a:=b) (i:=ib) Y);have oB:=j9 U (nT (a:=b) (i:=ib) Y);refine Pq (cF eb ?_);refine Pq (sr 0 (a0.k.trans hk) (a6 _ (by simp)) (by omega) (by omega) a2 (by rw[full];exact sa.sublist (Tf _ _)) λk c0 a4 a1=>?_);rw[full]at a4 a1;simp only[PJ,Qv,VL]at a4 a1;dsimp only;have m1:Mg vl a.toList b.toList (out++a.extract ia (ia+k)) (ia+k) ib:=m.pa sa (by rw[Rr,zr]) λx J y j=>by
       have:=a4 x J;have:=oB y j;omega
      have g1:∀y∈a.toList.drop (ia+k),vl b[ib]<=vl y:=by
       rw[←U5];intro y j;have:=a1 y j;omega
      by_cases a9:k>0
      case' pos=>
       rw[Pk a9];by_cases e1:ia+k+1=a.size
       .rw[Pk (by simpa using e1)]
        exact PB (.inl ⟨_,_,rfl,a0,fL m1 e1⟩)
       rw[Pn (by simpa using e1)];by_cases e2:ia+k=a.size
       .rw[Pk (by simpa using e2)]
        exact PB (.inl ⟨_,_,rfl,a0,fD m1 (.inl (by omega))⟩)
       rw[Pn (by simpa using e2)];have b1:ia+k+1<a.size:=by omega
       have d1:1+x+1<=ia+k+ib:=by omega
       generalize out++a.extract ia (ia+k)=o1 at m1⊢;generalize ia+k=i1 at m1 g1 b1 d1⊢
      case' neg=>
       rw[Pn a9];have b1:=q;have d1:=c3;rw[show k=0 by omega,XC]at g1;replace m1:=m;generalize out=o1 at m1⊢;generalize ia=i1 at m1 g1 b1 d1⊢
      all_goals
       refine Pq (cF eb ?_);have m2:Mg vl a.toList b.toList (o1.push b[ib]) i1 (ib+1):=m1.pb U (by rw[tB];simp) λz hz v N=>by
        rw[tB]at hz;rw[PQ.mp hz];exact g1 v N
       by_cases e3:ib+1=b.size
       .rw[Pk (by simpa using e3)]
        exact PB (.inl ⟨_,_,rfl,a0,fD m2 (.inr (by omega))⟩)
       rw[Pn (by simpa using e3)];have ea:a[i1]? =some a[i1]:=Qk a i1 (by omega);have tA:=take1 (nT (a:=a) (i:=i1) (by omega));have oA:=j9 sa (nT (a:=a) (i:=i1) (by omega));refine Pq (cF ea ?_);refine Pq (sr 0 (a0.k.trans hk) (a2 _ (by simp)) (by omega) (by omega) a6 (by rw[full];exact U.sublist (Tf _ _)) λk2 b8 a3 a5=>?_);rw[full]at a3 a5;simp only[Qf]at a3 a5;dsimp only;have m3:Mg vl a.toList b.toList (o1.push b[ib]++b.extract (ib+1) (ib+1+k2)) i1 (ib+1+k2):=m2.pb U (by rw[Rr,zr]) λx J y j=>by
        have:=a3 x J;have:=oA y j;omega
       have g2:∀y∈b.toList.drop (ib+1+k2),vl a[i1]<=vl y:=by
        rw[←U5];intro y j;have:=a5 y j;omega
       by_cases a8:k2>0
       case' pos=>
        rw[Pk a8];by_cases e4:ib+1+k2=b.size
        .rw[Pk (by simpa using e4)]
         exact PB (.inl ⟨_,_,rfl,a0,fD m3 (.inr (by omega))⟩)
        rw[Pn (by simpa using e4)];have b2:ib+1+k2<b.size:=by omega
        have d2:1+x+1<=i1+(ib+1+k2):=by omega
        generalize o1.push b[ib]++b.extract (ib+1) (ib+1+k2)=o2 at m3⊢;generalize ib+1+k2=j2 at m3 g2 b2 d2⊢
       case' neg=>
        rw[Pn a8];have b2:ib+1<b.size:=by omega
        have d2:1+x+1<=i1+(ib+1):=by omega
        rw[show k2=0 by omega,XC]at g2;replace m3:=m2;generalize o1.push b[ib]=o2 at m3⊢;generalize ib+1=j2 at m3 g2 b2 d2⊢
       all_goals
        refine Pq (cF ea ?_);have m4:Mg vl a.toList b.toList (o2.push a[i1]) (i1+1) j2:=m3.pa sa (by rw[tA];simp) λz hz v N=>by
         rw[tA]at hz;rw[PQ.mp hz];exact g2 v N
        by_cases e5:i1+1+1=a.size
        .rw[Pk (by simpa using e5)]
         exact PB (.inl ⟨_,_,rfl,a0,fL m4 e5⟩)
        rw[Pn (by simpa using e5)];split
        .exact PB (.inr ⟨_,_,_,_,_,_,rfl,a0,m4,by omega,b2,by omega⟩)
        .exact PB ⟨_,_,_,_,_,_,rfl,a0,m4,by omega,b2,by omega⟩
    .rintro c B ⟨out,ia,ib,mg,ac,bc,rfl,hh⟩
     exact .inr ⟨_,_,_,_,_,_,rfl,hh⟩
    .rintro c B (⟨r,o,rfl,F,Z⟩|⟨out,ia,ib,mg,ac,bc,rfl,F,m,q,Y,c3⟩)
     .exact PB ⟨_,_,rfl,F,Z⟩
     .dsimp only
      refine Pq (lB λb7 a0=>?_);exact PB ⟨_,_,_,_,rfl,F.trans a0,m,q,Y,by omega⟩
 .rintro c B ⟨out,ia,ib,mg,rfl,F,m,q,Y,c3⟩
  omega
 .rintro c B ⟨r,o,rfl,F,Z⟩
  exact PB (h r B F Z)
end
def nv(x:Keyed):Int:=-vl x
theorem rd(h:n<=l.length):l.reverse.drop (l.length-n)=(l.take n).reverse:=by
 rw[List.drop_reverse,show l.length-(l.length-n)=n by omega]
theorem rt(h:n<=l.length)(J:k<=n):(l.reverse.drop (l.length-n)).take (n-k)=((l.take n).drop k).reverse:=by
 rw[rd h,List.take_reverse,Rm,show min n l.length-(n-k)=k by omega]
theorem kZ(h:Srt vl l):Srt nv l.reverse:=Yy.mpr (h.imp λz=>by unfold nv;omega)
theorem zE(F:Srt vl l)(h:l[n]? =some x):∀z∈l.take (n+1),vl z<=vl x:=λz hz=>by
 obtain⟨h1,h2⟩:=Mx.mp h;rw[VM,h,Mz]at hz;rcases hz with hz|hz
 .have hd:Srt vl (l.take n++l.drop n):=by rw[Qj];exact F
  refine(QD.mp hd).2.2 z hz x ?_;rw[QX h1,h2];simp
 .obtain rfl:z=x:=by simpa using hz
  exact QQ _
theorem Cm(h:l[n]? =some x):(l.take (n+1)).drop n=[x]:=by
 obtain⟨h1,h2⟩:=Mx.mp h;rw[VM,h,Ww (by simp;omega),Rb (by simp;omega)];rfl
variable{a:Array Keyed}
theorem yP(h:n-1<a.size)(h1:1<=n):(a.toList.take n).drop (n-1)=[a[n-1]]:=by
 have:=Cm (nT (a:=a) (i:=n-1) h);rwa[show n-1+1=n by omega]at this
theorem y_(F:Srt vl a.toList)(h:n-1<a.size)(h1:1<=n):∀z∈a.toList.take n,vl z<=vl a[n-1]:=by
 have:=zE F (nT (a:=a) (i:=n-1) h);rwa[show n-1+1=n by omega]at this
variable{b:Array Keyed}{na nb:Nat}
structure Hh(a b out:Array Keyed)(na nb:Nat):Prop where
 m:Mg nv a.toList.reverse b.toList.reverse out (a.toList.length-na) (b.toList.length-nb)
 a:na<=a.toList.length
 b:nb<=b.toList.length
theorem Hh.pa(h:Hh a b out na nb)(q:Srt vl a.toList)(F:k<=na)(B:o'.toList=out.toList++((a.toList.take na).drop k).reverse)(Y:∀x∈(a.toList.take na).drop k,∀y∈b.toList.take nb,vl y<=vl x):Hh a b o' k nb:=by
 refine⟨?_,by have:=h.a;omega,h.b⟩;have:=h.m.pa (o':=o') (k:=na-k) (kZ q) (by rw[rt h.a F];exact B) λx J y j=>by
  rw[rt h.a F,Ul]at J;rw[rd h.b,Ul]at j;have:=Y x J y j;unfold nv;omega
 rwa[show a.toList.length-na+(na-k)=a.toList.length-k by have:=h.a;omega]at this
theorem Hh.pb(h:Hh a b out na nb)(U:Srt vl b.toList)(J:k<=nb)(B:o'.toList=out.toList++((b.toList.take nb).drop k).reverse)(Y:∀x∈(b.toList.take nb).drop k,∀y∈a.toList.take na,vl y<=vl x):Hh a b o' na k:=
 let g:=(Hh.pa (a:=b) (b:=a) ⟨h.m.symm,h.b,h.a⟩ U J B Y);⟨g.m.symm,g.b,g.a⟩
theorem D_(h:Fn nv al.reverse bl.reverse r.reverse):Fn vl al bl r:=by
 obtain⟨h1,h2⟩:=h;rw[S8]at h1 h2;refine⟨?_,?_⟩
 .refine(Xj _).symm.trans (h1.trans ?_)
  exact(Xj _).append (Xj _)
 .exact(Yy.mp h2).imp λz=>by unfold nv at z;omega
theorem Hh.fa(h:Hh a b out na nb)(q:Srt vl a.toList)(U:Srt vl b.toList)(B:r.toList=a.toList.take na++b.toList.take nb++out.toList.reverse)(Y:∀x∈a.toList.take na,∀y∈b.toList.take nb,vl x<=vl y):Fn vl a.toList b.toList r:=by
 refine D_ (h.m.fb (kZ q) (kZ U) (by rw[S8,B,rd h.a,rd h.b];simp) λx J y j=>?_);rw[rd h.b,Ul]at J;rw[rd h.a,Ul]at j;have:=Y y j x J;unfold nv;omega
theorem Hh.fb(h:Hh a b out na nb)(q:Srt vl a.toList)(U:Srt vl b.toList)(B:r.toList=b.toList.take nb++a.toList.take na++out.toList.reverse)(Y:∀x∈b.toList.take nb,∀y∈a.toList.take na,vl x<=vl y):Fn vl a.toList b.toList r:=by
 refine D_ (h.m.fa (kZ q) (kZ U) (by rw[S8,B,rd h.a,rd h.b];simp) λx J y j=>?_);rw[rd h.a,Ul]at J;rw[rd h.b,Ul]at j;have:=Y y j x J;unfold nv;omega
theorem Js(a:Array Keyed)(n:Nat):(a.extract 0 n).toList=a.toList.take n:=by simp
theorem Jy(a:Array Keyed)(i n:Nat):(a.extract i n).reverse.toList=((a.toList.take n).drop i).reverse:=by
 rw[S8,Wu,Zr,List.take_drop];by_cases h:i<=n
 .rw[show i+(n-i)=n by omega]
 .rw[Rb (by simp;omega),Rb (by simp;omega)]
section
variable{prog:Program}{w:World}{A:Around}{E:Value->Shared->Prop}{s:Shared}{st:SortSt}
def Lh(a b:Array Keyed)(st:Ry)(m:Nat)(out:Array Keyed)(na nb:Nat)(B:Ry):Prop:=Sm st B/\Hh a b out na nb/\1<=na/\2<=nb/\na+nb+m<=a.size+b.size
theorem Oi{a b:Array Keyed}{Q:Array Keyed->Ry->Prop}(hk:kindOf st=S6)(a4:∀x∈a.toList,Ik x)(a8:∀x∈b.toList,Ik x)(sa:Srt vl a.toList)(U:Srt vl b.toList)(h1:1<=a.size)(h2:1<=b.size)(O:∀y,b[0]? =some y->∀x∈a.toList,vl y<=vl x)(hl:∀y∈b.toList,∀x,a[a.size-1]? =some x->vl y<=vl x)
  (h:∀r B,Sm st B->Fn vl a.toList b.toList r->Q r B):wpS (model prog w) A E s (vm a b) Q st:=by
 have la:a.toList.length=a.size:=by simp
 have lb:b.toList.length=b.size:=by simp
 have b4:a[a.size-1]? =some a[a.size-1]:=Qk a _ (by omega);have b5:Hh a b #[] a.size b.size:=by
  refine⟨?_,by omega,by omega⟩;rw[la,lb,Wq,Wq];exact⟨by simp,by simp,λx J=>by simp at J,λx J=>by simp at J⟩
 have m0:Hh a b #[a[a.size-1]] (a.size-1) b.size:=by
  have t:=Cm (nT (a:=a) (i:=a.size-1) (by omega));rw[show a.size-1+1=a.size by omega]at t;refine b5.pa sa (by omega) (by rw[t];rfl) λx J y j=>?_;rw[t]at J;rw[PQ.mp J];exact hl y (T6 j) _ b4
 have fD:∀{out:Array Keyed}{na nb:Nat},Hh a b out na nb->(na=0∨nb=0)->Fn vl a.toList b.toList (a.extract 0 na++b.extract 0 nb++out.reverse):=λm hz=>by
  refine m.fa sa U (by simp only[Rr,Js,S8]) λx J y j=>?_;rcases hz with rfl|rfl
  .simp at J
  .simp at j
 have fL:∀{out:Array Keyed}{na nb:Nat},Hh a b out na nb->nb=1->Fn vl a.toList b.toList (b.extract 0 nb++a.extract 0 na++out.reverse):=λ{out na nb} m hz=>by
  subst hz;refine m.fb sa U (by simp only[Rr,Js,S8]) λx J y j=>?_;have t:=Cm (nT (a:=b) (i:=0) (by omega));rw[Sv]at t;rw[t]at J;rw[PQ.mp J];exact O _ (Qk b 0 h2) y (T6 j)
 unfold wpS vm
 wp_delta
 wp_delta
 change wpS (model prog w) A E s _ Q st;refine Pq (WN (Rz ⟨rfl,?_⟩));refine Pq (cF b4 ?_);dsimp only;by_cases a3:a.size-1=0
 .rw[Pk (by simpa using a3)]
  exact PB (h _ _ (Sm.refl _) (fD m0 (.inl a3)))
 rw[Pn (by simpa using a3)];by_cases a5:b.size=1
 .rw[Pk (by simpa using a5)]
  exact PB (h _ _ (Sm.refl _) (fL m0 a5))
 rw[Pn (by simpa using a5)];refine Pq (Wj ?_);refine Pq (R9 (Q8 (I:=λx c B=>∃na nb out mg,c=(none,na,nb,out,mg)/\Lh a b st (1+x) out na nb B)
  (Q:=λc B=>∃r o,c=(some r,o)/\Sm st B/\Fn vl a.toList b.toList r) ?_ ?_ ⟨_,_,_,_,rfl,Sm.refl _,m0,by omega,by omega,by omega⟩) ?_)
 .rintro x c B _ J ⟨na,nb,out,mg,rfl,F,m,c1,Y,c3⟩
  dsimp only;refine Pq (R9 (Q8 (I:=λy c B=>∃na nb out ac bc,c=(none,na,nb,out,ac,bc)/\Lh a b st (1+x+y) out na nb B)
   (Q:=λc B=>(∃r o,c=(some r,o)/\Sm st B/\Fn vl a.toList b.toList r)∨∃na nb out ac bc,c=(none,na,nb,out,ac,bc)/\Lh a b st (1+x+1) out na nb B) ?_ ?_ ⟨_,_,_,_,_,rfl,F,m,c1,Y,by omega⟩) ?_)
  .clear F m c1 Y c3
   rintro y c B _ j ⟨na,nb,out,ac,bc,rfl,F,m,c1,Y,c3⟩;dsimp only;have za:=m.a;have zb:=m.b;have ea:a[na-1]? =some a[na-1]:=Qk a _ (by omega);have eb:b[nb-1]? =some b[nb-1]:=Qk b _ (by omega);have tA:=yP (a:=a) (n:=na) (by omega) (by omega);have tB:=yP (a:=b) (n:=nb) (by omega) (by omega);have oA:=y_ (n:=na) sa (by omega) (by omega);have oB:=y_ (n:=nb) U (by omega) (by omega);refine Pq (cF eb (Pq (cF ea (Pq (GD (F.k.trans hk) (a8 _ (by simp)) (a4 _ (by simp)) ?_)))));dsimp only;by_cases hw:vl b[nb-1]<vl a[na-1]
   .rw[Pk (by simpa using hw)]
    refine Pq (cF ea ?_);have m':Hh a b (out.push a[na-1]) (na-1) nb:=m.pa sa (by omega) (by rw[tA];simp) λz hz v N=>by
     rw[tA]at hz;rw[PQ.mp hz];have:=oB v N;omega
    by_cases V:na-1=0
    .rw[Pk (by simpa using V)]
     exact PB (.inl ⟨_,_,rfl,F,fD m' (.inl V)⟩)
    .rw[Pn (by simpa using V)]
     split
     .exact PB (.inr ⟨_,_,_,_,_,rfl,F,m',by omega,Y,by omega⟩)
     .exact PB ⟨_,_,_,_,_,rfl,F,m',by omega,Y,by omega⟩
   .rw[Pn (by simpa using hw)]
    refine Pq (cF eb ?_);have m':Hh a b (out.push b[nb-1]) na (nb-1):=m.pb U (by omega) (by rw[tB];simp) λz hz v N=>by
     rw[tB]at hz;rw[PQ.mp hz];have:=oA v N;omega
    by_cases V:nb-1=1
    .rw[Pk (by simpa using V)]
     exact PB (.inl ⟨_,_,rfl,F,fL m' V⟩)
    .rw[Pn (by simpa using V)]
     split
     .exact PB (.inr ⟨_,_,_,_,_,rfl,F,m',c1,by omega,by omega⟩)
     .exact PB ⟨_,_,_,_,_,rfl,F,m',c1,by omega,by omega⟩
  .rintro c B ⟨na,nb,out,ac,bc,rfl,F,m,c1,Y,c3⟩
   exact .inr ⟨_,_,_,_,_,rfl,F,m,c1,Y,by omega⟩
  .clear F m c1 Y c3
   rintro c B (⟨r,o,rfl,F,Z⟩|⟨na,nb,out,ac,bc,rfl,F,m,c1,Y,c3⟩)
   .exact PB ⟨_,_,rfl,F,Z⟩
   .dsimp only
    refine Pq (WN (Rz ⟨rfl,?_⟩));refine Pq (R9 (Q8 (I:=λy c B=>∃na nb out mg ac bc,c=(none,na,nb,out,mg,ac,bc)/\Lh a b st (1+x+1) out na nb B)
     (Q:=λc B=>(∃r o,c=(some r,o)/\Sm st B/\Fn vl a.toList b.toList r)∨∃na nb out mg ac bc,c=(none,na,nb,out,mg,ac,bc)/\Lh a b st (1+x+1) out na nb B) ?_ ?_ ⟨_,_,_,_,_,_,rfl,F,m,c1,Y,c3⟩) ?_)
    .clear F m c1 Y c3
     rintro y c B _ j ⟨na,nb,out,mg,ac,bc,rfl,F,m,c1,Y,c3⟩;dsimp only;by_cases a9:mg>1
     case' pos=>rw[Pk a9]
     case' neg=>rw[Pn a9]
     all_goals
      refine Pq (lB λc0 b8=>?_);have a0:=F.trans b8;have za:=m.a;have zb:=m.b;have eb:b[nb-1]? =some b[nb-1]:=Qk b _ (by omega);have tB:=yP (a:=b) (n:=nb) (by omega) (by omega);have oB:=y_ (n:=nb) U (by omega) (by omega);refine Pq (cF eb ?_);refine Pq (sr (na-1) (a0.k.trans hk) (a8 _ (by simp)) (by omega) (by omega) a4 (by rw[Sv];exact sa.sublist (VB _ _)) λp b7 a1 a7=>?_);rw[Sv]at a1 a7;simp only[PJ,Qv,VL]at a1 a7;rw[aaC,aas b7]at a1;dsimp only;have m1:Hh a b (out++(a.extract p na).reverse) p nb:=m.pa sa b7 (by rw[Rr,Jy]) λx J y j=>by
       have:=a7 x J;have:=oB y j;omega
      have g1:∀y∈a.toList.take p,vl y<=vl b[nb-1]:=λy j=>by
       have:=a1 y j;omega
      by_cases b6:na-p>0
      case' pos=>
       rw[Pk b6];by_cases e1:p=0
       .rw[Pk (by simpa using e1)]
        exact PB (.inl ⟨_,_,rfl,a0,fD m1 (.inl e1)⟩)
       rw[Pn (by simpa using e1)];have b1:1<=p:=by omega
       have d1:p+nb+(1+x+1)<=a.size+b.size:=by omega
       have z1:p<=a.size:=by omega
       generalize out++(a.extract p na).reverse=o1 at m1⊢;generalize na-p=kk;generalize p=n1 at m1 g1 b1 d1 z1⊢
      case' neg=>
       rw[Pn b6];have b1:=c1;have d1:=c3;have z1:na<=a.size:=by omega
       rw[show p=na by omega]at g1;replace m1:=m;generalize na-p=kk;generalize out=o1 at m1⊢;generalize na=n1 at m1 g1 b1 d1 z1⊢
      all_goals
       refine Pq (cF eb ?_);have m2:Hh a b (o1.push b[nb-1]) n1 (nb-1):=m1.pb U (by omega) (by rw[tB];simp) λz hz v N=>by
        rw[tB]at hz;rw[PQ.mp hz];exact g1 v N
       by_cases e3:nb-1=1
       .rw[Pk (by simpa using e3)]
        exact PB (.inl ⟨_,_,rfl,a0,fL m2 e3⟩)
       rw[Pn (by simpa using e3)];have ea:a[n1-1]? =some a[n1-1]:=Qk a _ (by omega);have tA:=yP (a:=a) (n:=n1) (by omega) (by omega);have oA:=y_ (n:=n1) sa (by omega) (by omega);refine Pq (cF ea ?_);refine Pq (sr (nb-1-1) (a0.k.trans hk) (a4 _ (by simp)) (by omega) (by omega) a8 (by rw[Sv];exact U.sublist (VB _ _)) λq b3 a2 a6=>?_);rw[Sv]at a2 a6;simp only[Qf]at a2 a6;rw[aaC,aas b3]at a2;dsimp only;have m3:Hh a b (o1.push b[nb-1]++(b.extract q (nb-1)).reverse) n1 q:=m2.pb U b3 (by rw[Rr,Jy]) λx J y j=>by
        have:=a6 x J;have:=oA y j;omega
       have g2:∀y∈b.toList.take q,vl y<=vl a[n1-1]:=λy j=>by
        have:=a2 y j;omega
       by_cases b0:nb-1-q>0
       case' pos=>
        rw[Pk b0];by_cases e4:q=1
        .rw[Pk (by simpa using e4)]
         exact PB (.inl ⟨_,_,rfl,a0,fL m3 e4⟩)
        rw[Pn (by simpa using e4)];by_cases e5:q=0
        .rw[Pk (by simpa using e5)]
         exact PB (.inl ⟨_,_,rfl,a0,fD m3 (.inr e5)⟩)
        rw[Pn (by simpa using e5)];have b2:2<=q:=by omega
        have d2:n1+q+(1+x+1)<=a.size+b.size:=by omega
        generalize o1.push b[nb-1]++(b.extract q (nb-1)).reverse=o2 at m3⊢;generalize nb-1-q=kl;generalize q=j2 at m3 g2 b2 d2⊢
       case' neg=>
        rw[Pn b0];have b2:2<=nb-1:=by omega
        have d2:n1+(nb-1)+(1+x+1)<=a.size+b.size:=by omega
        rw[show q=nb-1 by omega]at g2;replace m3:=m2;generalize o1.push b[nb-1]=o2 at m3⊢;generalize nb-1-q=kl;generalize nb-1=j2 at m3 g2 b2 d2⊢
       all_goals
        refine Pq (cF ea ?_);have m4:Hh a b (o2.push a[n1-1]) (n1-1) j2:=m3.pa sa (by omega) (by rw[tA];simp) λz hz v N=>by
         rw[tA]at hz;rw[PQ.mp hz];exact g2 v N
        by_cases e6:n1-1=0
        .rw[Pk (by simpa using e6)]
         exact PB (.inl ⟨_,_,rfl,a0,fD m4 (.inl e6)⟩)
        rw[Pn (by simpa using e6)];split
        .exact PB (.inr ⟨_,_,_,_,_,_,rfl,a0,m4,by omega,b2,by omega⟩)
        .exact PB ⟨_,_,_,_,_,_,rfl,a0,m4,by omega,b2,by omega⟩
    .rintro c B ⟨na,nb,out,mg,ac,bc,rfl,hh⟩
     exact .inr ⟨_,_,_,_,_,_,rfl,hh⟩
    .rintro c B (⟨r,o,rfl,F,Z⟩|⟨na,nb,out,mg,ac,bc,rfl,F,m,c1,Y,c3⟩)
     .exact PB ⟨_,_,rfl,F,Z⟩
     .dsimp only
      refine Pq (lB λb9 a0=>?_);exact PB ⟨_,_,_,_,rfl,F.trans a0,m,c1,Y,by omega⟩
 .rintro c B ⟨na,nb,out,mg,rfl,F,m,c1,Y,c3⟩
  omega
 .rintro c B ⟨r,o,rfl,F,Z⟩
  exact PB (h r B F Z)
end
theorem Eg:∀(m:List Keyed)(U:Array Keyed)(b i:Nat)(P T M:List Keyed),U.toList=P++(M++T)->P.length=b+i->M.length=m.length->((m.zipIdx i).foldl (λa (x:Keyed×Nat)=>a.setIfInBounds (b+x.snd) x.fst) U).toList=P++(m++T)
 |[],U,b,i,P,T,M,h,_,hm=>by
  obtain rfl:M=[]:=Rp (by simpa using hm);simpa using h
 |x::r,U,b,i,P,T,[],h,_,hm=>by simp at hm
 |x::r,U,b,i,P,T,y::M,h,hp,hm=>by
  rw[Xz,Vl];have:=Eg r (U.setIfInBounds (b+i) x) b (i+1) (P++[x]) T M (by
   rw[Xd,h,←hp];simp[aat]) (by simp;omega) (by simpa using hm)
  simpa using this
section
variable{prog:Program}{w:World}{A:Around}{E:Value->Shared->Prop}{s:Shared}{st:SortSt}
theorem El{σ:Type}{M:Model}{s' st:σ}{Q:PUnit->σ->Prop}(h:Q ⟨⟩ s'):wpS M A E s (set s':StateT σ Sem PUnit) Q st:=by
 unfold wpS;rw[StateT.run_set];exact yr ⟨rfl,h⟩
theorem N7{i:Nat}{P X Y T:List Keyed}{pw b3:Nat}{Q:Bool->Ry->Prop}(hk:kindOf st=S6)(a1:R8 st=none)(hi:∀x∈(arrOf st).toList,Ik x)(N:(arrOf st).toList=P++(X++(Y++T)))(p1:(QH st)[i]? =some (P.length,X.length,pw))(p2:(QH st)[i+1]? =some (P.length+X.length,Y.length,b3))(hX:X≠[])(hY:Y≠[])(sX:Srt vl X)(sY:Srt vl Y)
  (h:∀B a6,kindOf B=S6->R8 B=none->QH B=((QH st).setIfInBounds i (P.length,X.length+Y.length,pw)).eraseIdxIfInBounds (i+1)->(arrOf B).toList=P++(a6++T)->a6.Perm (X++Y)->Srt vl a6->Q true B):wpS (model prog w) A E s (mergeAt' i) Q st:=by
 have hsz:(arrOf st).size=P.length+(X.length+(Y.length+T.length)):=by rw[←Qh,N];simp
 have lX:=Ur.mpr hX;have lY:=Ur.mpr hY;have dX:((arrOf st).toList.drop P.length).take X.length=X:=by rw[N];simp
 have dY:((arrOf st).toList.drop (P.length+X.length)).take Y.length=Y:=by rw[N,←U5];simp
 obtain⟨y0,Y',rfl⟩:=List.exists_cons_of_ne_nil hY;have e0:(arrOf st)[P.length+X.length]? =some y0:=by
  rw[←Qs,N,Qz (by omega),show P.length+X.length-P.length=X.length by omega,Qz (Pg _)];simp
 obtain⟨xl,a0⟩:∃xl,X[X.length-1]? =some xl:=⟨X[X.length-1],Py (by omega)⟩;have eL:(arrOf st)[P.length+X.length-1]? =some xl:=by
  rw[←Qs,N,Qz (by omega),show P.length+X.length-1-P.length=X.length-1 by omega,Qu (by omega)];exact a0
 have a9:∀x∈X,Ik x:=λx J=>hi x (by rw[N];simp[J]);have b1:∀x∈y0::Y',Ik x:=λx J=>hi x (by rw[N];exact Pa _ (Pa _ (PL _ J)));have oX:∀z∈X,vl z<=vl xl:=λz hz=>zE sX a0 z (by rw[show X.length-1+1=X.length by omega,XH];exact hz);have oY:=j9 sY (i:=0) (x:=y0) rfl;rw[Sv]at oY;unfold wpS mergeAt'
 wp_delta
 wp_delta
 change wpS (model prog w) A E s _ Q st;refine Pq (Wj ?_);rw[show(sortPriv% PySem.Builtin.SortState.pending) st=QH st from rfl,p1,p2];dsimp only;refine Pq (El ?_);refine Pq (cF e0 ?_);refine Pq (sr 0 hk (b1 y0 (by simp)) (by rw[hsz];omega) lX hi (by rw[dX];exact sX) λk b6 a2 a4=>?_);rw[dX]at a2 a4;simp only[PJ,Qv,VL]at a2 a4;dsimp only;by_cases hz:X.length-k=0
 .rw[Pk (by simpa using hz)]
  refine PB (h _ (X++y0::Y') hk a1 rfl (by rw[Qi];exact N) (Tu _) (QD.mpr ⟨sX,sY,λx J y j=>?_⟩));have:=a2 x (by rw[RM (by omega)];exact J);have:=oY y j;omega
 rw[Pn (by simpa using hz)];rw[show P.length+k+(X.length-k)-1=P.length+X.length-1 by omega];refine Pq (cF eL ?_);refine Pq (sr _ hk (a9 xl (QS a0)) (by rw[hsz];omega) (by omega) hi (by rw[dY];exact sY) λq b4 a7 a3=>?_);rw[dY]at a7 a3;simp only[Qf]at a7 a3;dsimp only;by_cases a5:q=0
 .rw[Pk (by simpa using a5)]
  refine PB (h _ (X++y0::Y') hk a1 rfl (by rw[Qi];exact N) (Tu _) (QD.mpr ⟨sX,sY,λx J y j=>?_⟩));have:=a3 y (by rw[a5,Sv];exact j);have:=oX x J;omega
 rw[Pn (by simpa using a5)];generalize b5:y0::Y'=Y at *
 have xa:((arrOf st).extract (P.length+k) (P.length+X.length)).toList=X.drop k:=by
  rw[show P.length+X.length=P.length+k+(X.length-k)by omega,zr,←U5,N,Yc,Ww (by omega),Wx (by simp),RM (by simp)];rfl
 have ya:((arrOf st).extract (P.length+X.length) (P.length+X.length+q)).toList=Y.take q:=by
  rw[zr,←U5,N,Yc,Yc,Wx b4]
  .rfl
  .rfl
 have U:∀(mg:Array Keyed)(B:Ry),kindOf B=S6->R8 B=none->QH B=((QH st).setIfInBounds i (P.length,X.length+Y.length,pw)).eraseIdxIfInBounds (i+1)->arrOf B=arrOf st->Fn vl (X.drop k) (Y.take q) mg->
   Q true (XJ B (mg.toList.zipIdx.foldl (λa (x:Keyed×Nat)=>a.setIfInBounds (P.length+k+x.snd) x.fst) (arrOf B))):=λmg B f1 f2 f3 f4 ⟨fp,fs⟩=>by
  have V:∀z∈mg.toList,z∈X.drop k∨z∈Y.take q:=λz hz=>Mz.mp (fp.mem_iff.mp hz);have a8:=Eg mg.toList (arrOf B) (P.length+k) 0 (P++X.take k) (Y.drop q++T) (X.drop k++Y.take q) (by
   rw[f4,N];simp only[Qi];rw[←Qi (X.take k),Qj,←Qi (Y.take q),Qj]) (by simp;omega) fp.length_eq.symm
  refine h _ (X.take k++(mg.toList++Y.drop q)) f1 f2 f3 (by
   show Array.toList _=_;rw[a8];simp[Qi]) ?_ ?_
  .refine(((fp.append_right (Y.drop q)).append_left (X.take k)).trans ?_)
   rw[Qi,Qj,←Qi,Qj]
  .have sd:Srt vl (X.take k++X.drop k):=by rw[Qj];exact sX
   have se:Srt vl (Y.take q++Y.drop q):=by rw[Qj];exact sY
   obtain⟨d1,d2,d3⟩:=QD.mp sd;obtain⟨c1,c2,O⟩:=QD.mp se;refine QD.mpr ⟨d1,QD.mpr ⟨fs,c2,λx J y j=>?_⟩,λx J y j=>?_⟩
   .rcases V x J with z|z
    .have:=oX x (T7 z)
     have:=a3 y j;omega
    .exact O x z y j
   .have h1:=a2 x J
    rcases Mz.mp j with z|z
    .rcases V y z with z|z
     .exact d3 x J y z
     .have:=oY y (T6 z)
      omega
    .have:=oY y (T7 z)
     omega
 have nx:((arrOf st).extract (P.length+k) (P.length+X.length)).size=X.length-k:=by rw[←Qh,xa,U_]
 have ny:((arrOf st).extract (P.length+X.length) (P.length+X.length+q)).size=q:=by rw[←Qh,ya,Rm];omega
 have ix:∀x∈((arrOf st).extract (P.length+k) (P.length+X.length)).toList,Ik x:=by rw[xa];exact λx J=>a9 x (T7 J)
 have iy:∀x∈((arrOf st).extract (P.length+X.length) (P.length+X.length+q)).toList,Ik x:=by rw[ya];exact λx J=>b1 x (T6 J)
 have ux:Srt vl ((arrOf st).extract (P.length+k) (P.length+X.length)).toList:=by rw[xa];exact sX.sublist (Tf _ _)
 have uy:Srt vl ((arrOf st).extract (P.length+X.length) (P.length+X.length+q)).toList:=by rw[ya];exact sY.sublist (VB _ _)
 have cf:∀y,((arrOf st).extract (P.length+X.length) (P.length+X.length+q))[0]? =some y->∀x∈((arrOf st).extract (P.length+k) (P.length+X.length)).toList,vl y<=vl x:=λy j x J=>by
  rw[←Qs,ya,Ub (by omega),←b5]at j;obtain rfl:y0=y:=by simpa using j
  rw[xa]at J;exact U3 (a4 x J)
 have cl:∀y∈((arrOf st).extract (P.length+X.length) (P.length+X.length+q)).toList,∀x,((arrOf st).extract (P.length+k) (P.length+X.length))[((arrOf st).extract (P.length+k) (P.length+X.length)).size-1]? =some x->vl y<=vl x:=λy j x J=>by
  rw[nx,←Qs,xa,Zt,show k+(X.length-k-1)=X.length-1 by omega,a0]at J;cases J;rw[ya]at j;exact U3 (a7 y j)
 have n1:1<=((arrOf st).extract (P.length+k) (P.length+X.length)).size:=by omega
 have I:1<=((arrOf st).extract (P.length+X.length) (P.length+X.length+q)).size:=by omega
 by_cases b2:X.length-k<=q
 case' pos=>
  rw[Pk b2];refine Pq (MT hk ix iy ux uy n1 I cf cl λr B F Z=>?_)
 case' neg=>
  rw[Pn b2];refine Pq (Oi hk ix iy ux uy n1 I cf cl λr B F Z=>?_)
 all_goals
  rw[xa,ya]at Z;have b0:=U r B (F.k.trans hk) (F.f.trans a1) F.p F.a Z;refine Pq (Wv (Pq (Wj (PB ?_))));show Q (R8 B).isNone _;rw[F.f.trans a1];exact b0
end
def Inc(xs:Array Keyed)(lo k:Nat):Prop:=∀i j,i<=j->j<k->K xs (lo+i)<=K xs (lo+j)
def Dec(xs:Array Keyed)(lo k:Nat):Prop:=∀i j,i<=j->j<k->K xs (lo+j)<=K xs (lo+i)
structure SB(a₀:Array Keyed)(lo:Nat)(st0 st:SortSt):Prop where
 perm:(arrOf st).Perm a₀
 kind:kindOf st=S6
 failed:R8 st=none
 pend:QH st=QH st0
 fr:∀i,i<lo->(arrOf st)[i]? =(arrOf st0)[i]?
section
variable{prog:Program}{w:World}{A:Around}{E:Value->Shared->Prop}{s:Shared}{a₀:Array Keyed}{st0 st:SortSt}{lo:Nat}
theorem SB.size(h:SB a₀ lo st0 st):(arrOf st).size=a₀.size:=h.perm.size_eq
theorem SB.rev(h:SB a₀ lo st0 st){i j:Nat}(hi:lo<=i)(F:j<=(arrOf st).size):SB a₀ lo st0 (XJ st (U6 (arrOf st) i j ((j-i) / 2))):=
 ⟨(WT _ _ _ _).trans h.perm,h.kind,h.failed,h.pend,λk J=>by
  show(U6 (arrOf st) i j ((j-i) / 2))[k]? =_;rw[Y5 F,Pn (by omega)];exact h.fr k J⟩
theorem SB.ltK(h:SB a₀ lo st0 st)(U:IntKeys a₀){i j:Nat}{Q:Option Bool->Ry->Prop}(hi:i<a₀.size)(F:j<a₀.size)(N:Q (some (decide (K (arrOf st) i<K (arrOf st) j))) st):wpS (model prog w) A E s (ltAt' i j) Q st:=by
 have Y:∀{i:Nat},i<a₀.size->∃t q,(arrOf st)[i]? =some (.int (K (arrOf st) i) t,q):=λ{i} hi=>by
  have B:i<(arrOf st).size:=by rw[h.size];exact hi
  obtain⟨n,t,hn⟩:=U _ ((RJ.mp h.perm).mem_iff.mp (by simp:(arrOf st)[i]∈(arrOf st).toList));refine⟨t,(arrOf st)[i].2,?_⟩;have e:(arrOf st)[i]? =some (arrOf st)[i]:=Qk _ i B;have e2:(arrOf st)[i]=(.int n t,(arrOf st)[i].2):=Prod.ext hn rfl;unfold K;rw[e,e2];rfl
 obtain⟨t,p,e1⟩:=Y hi;obtain⟨u,q,e2⟩:=Y F;exact wpS_ltAt h.kind e1 e2 N
theorem Nf{a0:Nat}{Q:Option Nat->Ry->Prop}(U:IntKeys a₀)(hn:lo+a0<=a₀.size)(h1:1<=a0)(hB:SB a₀ lo st0 st)
  (h:∀m B,SB a₀ lo st0 B->1<=m->m<=a0->Inc (arrOf B) lo m->Q (some m) B):wpS (model prog w) A E s (countRun' lo a0) Q st:=by
 rw[countRun'_eq];refine Pq (R9 (Q8 (I:=λx c B=>B=st/\c=(none,x)/\Inc (arrOf st) lo x)
  (Q:=λc B=>B=st/\∃n,c=(none,n)/\1<=n/\n<=a0/\Inc (arrOf st) lo n/\(n=a0∨K (arrOf st) (lo+n)<K (arrOf st) (lo+n-1))) ?_ ?_ ⟨rfl,rfl,λi j Z hj=>by rw[show i=j by omega];exact QQ _⟩) ?_)
 .rintro x c B hax hxn ⟨rfl,rfl,F⟩
  dsimp only;refine Pq (hB.ltK U (by omega) (by omega) ?_);by_cases Y:K (arrOf B) (lo+x)<K (arrOf B) (lo+x-1)
  .simp only[Y,Tz,Qf]
   exact PB ⟨rfl,x,rfl,hax,by omega,F,.inr Y⟩
  .simp only[Y,S7,PJ,Qv]
   refine PB ⟨rfl,rfl,λi j Z hj=>?_⟩;by_cases a9:j<x
   .exact F i j Z a9
   .obtain rfl:j=x:=by omega
    by_cases a5:i=j
    .subst a5;exact QQ _
    .have:=F i (j-1) (by omega) (by omega)
     rw[show lo+(j-1)=lo+j-1 by omega]at this;omega
 .rintro c B ⟨rfl,rfl,F⟩
  rw[show max 1 a0=a0 by omega]at F⊢;exact⟨rfl,a0,rfl,h1,Pg _,F,.inl rfl⟩
 rintro c B ⟨rfl,n,rfl,n1,n2,F,c2⟩;dsimp only;have hsz:=hB.size;by_cases b5:n=a0
 .rw[Pk (by simpa using b5)]
  exact PB (h n B hB n1 n2 F)
 rw[Pn (by simpa using b5)];have b7:=c2.resolve_left b5;by_cases c0:n>1
 case' pos=>
  rw[Pk c0];refine Pq (hB.ltK U (by omega) (by omega) ?_);by_cases b1:K (arrOf B) lo<K (arrOf B) (lo+n-1)
  .simp only[b1,Tz,Qf]
   exact PB (h n B hB n1 n2 F)
  simp only[b1,S7,PJ,Qv];have a7:∀k,lo<=k->k<lo+n->K (arrOf B) k=K (arrOf B) (lo+n-1):=λk c6 c5=>by
   have a1:=F 0 (k-lo) (by omega) (by omega);have a2:=F (k-lo) (n-1) (by omega) (by omega);rw[show lo+(k-lo)=k by omega,XC]at a1;rw[show lo+(k-lo)=k by omega,show lo+(n-1)=lo+n-1 by omega]at a2;omega
  refine Pq (Ym ?_);have b4:=hB.rev (i:=lo) (j:=lo+n) (Pg _) (by omega);have hD:Dec (arrOf (XJ B (U6 (arrOf B) lo (lo+n) ((lo+n-lo) / 2)))) lo (n+1):=λi j Z hj=>by
   show K (U6 (arrOf B) _ _ _) _<=K (U6 (arrOf B) _ _ _) _;rw[Vv (by omega) a7,Vv (by omega) a7];by_cases c4:j<n
   .rw[a7 (lo+i) (by omega) (by omega),a7 (lo+j) (by omega) (by omega)];exact QQ _
   .obtain rfl:j=n:=by omega
    by_cases a5:i=j
    .subst a5;exact QQ _
    .rw[a7 (lo+i) (by omega) (by omega)];exact U3 b7
  generalize XJ B (U6 (arrOf B) lo (lo+n) ((lo+n-lo) / 2))=st2 at b4 hD⊢
 case' neg=>
  rw[Pn c0];have b4:=hB;have hD:Dec (arrOf B) lo (n+1):=λi j Z hj=>by
   by_cases a5:i=j
   .subst a5;exact QQ _
   .obtain rfl:n=1:=by omega
    obtain rfl:i=0:=by omega
    obtain rfl:j=1:=by omega
    rw[Nat.add_sub_cancel]at b7;exact U3 b7
  generalize B=st2 at b4 hD⊢
 all_goals
  refine Pq (WN (Rz ⟨rfl,?_⟩));refine Pq (R9 (Q8 (I:=λx c B=>∃q,c=(none,x,q)/\SB a₀ lo st0 B/\Dec (arrOf B) lo x/\q+1<=x/\∀i,x-(q+1)<=i->i<x->K (arrOf B) (lo+i)=K (arrOf B) (lo+x-1))
   (Q:=λc B=>∃m q,c=(none,m,q)/\n+1<=m/\m<=a0/\SB a₀ lo st0 B/\Dec (arrOf B) lo m/\q+1<=m/\∀i,m-(q+1)<=i->i<m->K (arrOf B) (lo+i)=K (arrOf B) (lo+m-1)) ?_ ?_ ⟨0,rfl,b4,hD,by omega,λi h1 h2=>by congr 1;omega⟩) ?_)
  .rintro x c B hax hxn ⟨q,rfl,a3,a4,N,V⟩
   dsimp only;have b9:=a3.size;refine Pq (a3.ltK U (by omega) (by omega) ?_);by_cases Y:K (arrOf B) (lo+x)<K (arrOf B) (lo+x-1)
   .simp only[Y,Tz,Qf]
    have b0:∀xs:Array Keyed,(∀k,K xs k=K (arrOf B) k)->Dec xs lo (x+1):=by
     intro xs J i j Z hj;rw[J,J];by_cases a9:j<x
     .exact a4 i j Z a9
     .obtain rfl:j=x:=by omega
      by_cases a5:i=j
      .subst a5;exact QQ _
      .have:=a4 i (j-1) (by omega) (by omega)
       rw[show lo+(j-1)=lo+j-1 by omega]at this;omega
    by_cases a8:q>0
    .rw[Pk a8]
     refine Pq (Ym (PB ⟨0,rfl,a3.rev (by omega) (by omega),b0 _ (Vv (by omega) λk O k2=>?_),by omega,λi h1 h2=>by congr 1;omega⟩));have:=V (k-lo) (by omega) (by omega);rwa[show lo+(k-lo)=k by omega]at this
    .rw[Pn a8]
     exact PB ⟨0,rfl,a3,b0 _ (λ_=>rfl),by omega,λi h1 h2=>by congr 1;omega⟩
   .simp only[Y,S7,PJ,Qv]
    refine Pq (a3.ltK U (by omega) (by omega) ?_);by_cases a6:K (arrOf B) (lo+x-1)<K (arrOf B) (lo+x)
    .simp only[a6,Tz,Qf]
     exact PB ⟨x,q,rfl,hax,by omega,a3,a4,N,V⟩
    .simp only[a6,S7,PJ,Qv]
     have b8:K (arrOf B) (lo+x)=K (arrOf B) (lo+x-1):=by omega
     refine PB ⟨q+1,rfl,a3,λi j Z hj=>?_,by omega,λi h1 h2=>?_⟩
     .by_cases a9:j<x
      .exact a4 i j Z a9
      .obtain rfl:j=x:=by omega
       by_cases a5:i=j
       .subst a5;exact QQ _
       .have:=a4 i (j-1) (by omega) (by omega)
        rw[show lo+(j-1)=lo+j-1 by omega]at this;omega
     .rw[show lo+(x+1)-1=lo+x by omega]
      by_cases c1:i=x
      .subst c1;rfl
      .rw[b8];exact V i (by omega) (by omega)
  .rintro c B ⟨q,rfl,a3,a4,N,V⟩
   rw[show max (n+1) a0=a0 by omega]at a4 N V⊢;exact⟨a0,q,rfl,by omega,Pg _,a3,a4,N,V⟩
  rintro c B ⟨m,q,rfl,m1,m2,a3,a4,N,V⟩;dsimp only;have b9:=a3.size;by_cases a8:q>0
  case' pos=>
   rw[Pk a8];refine Pq (Ym ?_);have b2:=a3.rev (i:=lo+m-(q+1)) (j:=lo+m) (by omega) (by omega);have b3:Dec (arrOf (XJ B (U6 (arrOf B) (lo+m-(q+1)) (lo+m) ((lo+m-(lo+m-(q+1))) / 2)))) lo m:=λi j Z hj=>by
    have J:∀k,lo+m-(q+1)<=k->k<lo+m->K (arrOf B) k=K (arrOf B) (lo+m-1):=λk O k2=>by
     have:=V (k-lo) (by omega) (by omega);rwa[show lo+(k-lo)=k by omega]at this
    show K (U6 (arrOf B) _ _ _) _<=K (U6 (arrOf B) _ _ _) _;rw[Vv (by omega) J,Vv (by omega) J];exact a4 i j Z hj
   generalize XJ B (U6 (arrOf B) (lo+m-(q+1)) (lo+m) ((lo+m-(lo+m-(q+1))) / 2))=st3 at b2 b3⊢
  case' neg=>
   rw[Pn a8];have b2:=a3;have b3:=a4;generalize B=st3 at b2 b3⊢
  all_goals
   have c3:=b2.size;refine Pq (Ym ?_);have b6:=b2.rev (i:=lo) (j:=lo+m) (Pg _) (by omega);have hI:Inc (arrOf (XJ st3 (U6 (arrOf st3) lo (lo+m) ((lo+m-lo) / 2)))) lo m:=λi j Z hj=>by
    show K (U6 (arrOf st3) _ _ _) _<=K (U6 (arrOf st3) _ _ _) _;rw[K_mirror (by omega),K_mirror (by omega),Pk (by omega),Pk (by omega),show lo+(lo+m)-1-(lo+i)=lo+(m-1-i)by omega,show lo+(lo+m)-1-(lo+j)=lo+(m-1-j)by omega];exact b3 _ _ (by omega) (by omega)
   generalize XJ st3 (U6 (arrOf st3) lo (lo+m) ((lo+m-lo) / 2))=st4 at b6 hI⊢;refine Pq (R9 (Q8 (I:=λx c B=>B=st4/\c=(none,x)/\Inc (arrOf st4) lo x)
    (Q:=λc B=>B=st4/\∃r,c=(none,r)/\1<=r/\r<=a0/\Inc (arrOf st4) lo r) ?_ ?_ ⟨rfl,rfl,hI⟩) ?_)
   .rintro x c B hax hxn ⟨rfl,rfl,F⟩
    dsimp only;refine Pq (b6.ltK U (by omega) (by omega) ?_);by_cases Y:K (arrOf B) (lo+x)<K (arrOf B) (lo+x-1)
    .simp only[Y,Tz,Qf]
     exact PB ⟨rfl,x,rfl,by omega,by omega,F⟩
    .simp only[Y,S7,PJ,Qv]
     refine PB ⟨rfl,rfl,λi j Z hj=>?_⟩;by_cases a9:j<x
     .exact F i j Z a9
     .obtain rfl:j=x:=by omega
      by_cases a5:i=j
      .subst a5;exact QQ _
      .have:=F i (j-1) (by omega) (by omega)
       rw[show lo+(j-1)=lo+j-1 by omega]at this;omega
   .rintro c B ⟨rfl,rfl,F⟩
    rw[show max m a0=a0 by omega]at F⊢;exact⟨rfl,a0,rfl,h1,Pg _,F⟩
   .rintro c B ⟨rfl,r,rfl,r1,r2,F⟩
    exact PB (h r _ b6 r1 r2 F)
theorem Ob{n ok:Nat}{Q:Bool->Ry->Prop}(U:IntKeys a₀)(hn:lo+n<=a₀.size)(hok:ok<=n)(V:1<=ok)(O:SB a₀ lo st0 st)(F:Inc (arrOf st) lo ok)
  (h:∀B,SB a₀ lo st0 B->Inc (arrOf B) lo n->Q true B):wpS (model prog w) A E s (binarySort' lo n ok) Q st:=by
 rw[binarySort'_eq];rw[show max ok 1=ok by omega];refine Pq (R9 (Q8 (I:=λk c B=>c=(none,())/\SB a₀ lo st0 B/\Inc (arrOf B) lo k)
  (Q:=λc B=>c=(none,())/\SB a₀ lo st0 B/\Inc (arrOf B) lo n) ?_ ?_ ⟨rfl,O,F⟩) ?_)
 .rintro k c B hak hkn ⟨rfl,hB',hs'⟩
  have hsz:=hB'.size;refine Pq (R9 (Q8 (I:=λx c q=>q=B/\∃l r,c=(none,l,r)/\l<=r/\r<=k/\r-l<=k-x/\
    (∀i,i<l->K (arrOf B) (lo+i)<=K (arrOf B) (lo+k))/\(∀i,r<=i->i<k->K (arrOf B) (lo+k)<K (arrOf B) (lo+i)))
   (Q:=λc q=>q=B/\∃l r,c=(none,l,r)/\l<=k/\
    (∀i,i<l->K (arrOf B) (lo+i)<=K (arrOf B) (lo+k))/\(∀i,l<=i->i<k->K (arrOf B) (lo+k)<K (arrOf B) (lo+i))) ?_ ?_ ⟨rfl,0,k,rfl,by omega,by omega,by omega,λi hi=>by omega,λi h1 h2=>by omega⟩) ?_)
  .rintro x c q _ hxk ⟨rfl,l,r,rfl,hlr,hrk,hm,hlo,hhi⟩
   dsimp only;by_cases N:l>=r
   .rw[Pk N]
    obtain rfl:l=r:=by omega
    exact PB ⟨rfl,l,l,rfl,hrk,hlo,hhi⟩
   .rw[Pn N]
    refine Pq (hB'.ltK U (by omega) (by omega) ?_);by_cases Y:K (arrOf q) (lo+k)<K (arrOf q) (lo+(l+r) / 2)
    .simp only[Y,Tz,Qf]
     refine PB ⟨rfl,l,(l+r) / 2,rfl,by omega,by omega,by omega,hlo,λi h1 h2=>?_⟩;exact Zn Y (hs' _ _ h1 h2)
    .simp only[Y,S7,PJ,Qv]
     refine PB ⟨rfl,(l+r) / 2+1,r,rfl,by omega,by omega,by omega,λi h1=>?_,hhi⟩;exact Vs (hs' i ((l+r) / 2) (by omega) (by omega)) (Int.not_lt.mp Y)
  .rintro c q ⟨rfl,l,r,rfl,hlr,hrk,hm,hlo,hhi⟩
   obtain rfl:l=r:=by omega
   exact⟨rfl,l,l,rfl,hrk,hlo,hhi⟩
  .rintro c q ⟨rfl,l,r,rfl,hlk,hlo,hhi⟩
   dsimp only;rw[moveDown'_eq];have J:lo+k<(arrOf q).size:=by omega
   refine Pq (Wv (PB ⟨rfl,⟨(bubble_perm _ _ _).trans hB'.perm,hB'.kind,hB'.failed,hB'.pend,λi hi=>?_⟩,λi j Z hj=>?_⟩))
   .show(bubble (arrOf q) (lo+k) (lo+k-(lo+l)))[i]? =_
    rw[getElem?_bubble J _ (by omega),Pn (by omega),Pn (by omega)];exact hB'.fr i hi
   .show K (bubble (arrOf q) (lo+k) (lo+k-(lo+l))) (lo+i)<=K (bubble (arrOf q) (lo+k) (lo+k-(lo+l))) (lo+j)
    rw[K_bubble J (by omega),K_bubble J (by omega),show lo+k-(lo+k-(lo+l))=lo+l by omega]
    repeat' split
    all_goals first
     |(exfalso;omega)
     |exact QQ _
     |exact hlo _ (by omega)
     |(rw[show lo+j-1=lo+(j-1)by omega];exact U3 (hhi _ (by omega) (by omega)))
     |(rw[show lo+i-1=lo+(i-1)by omega,show lo+j-1=lo+(j-1)by omega];exact hs' _ _ (by omega) (by omega))
     |(rw[show lo+j-1=lo+(j-1)by omega];exact hs' _ _ (by omega) (by omega))
     |exact hs' _ _ (by omega) (by omega)
 .rintro c B ⟨rfl,hB',hs'⟩
  rw[show max ok n=n by omega]at hs';exact⟨rfl,hB',hs'⟩
 .rintro c B ⟨rfl,hB',hs'⟩
  exact PB (h B hB' hs')
end
def Seg:Nat->List (Nat×Nat×Nat)->List (List Keyed)->Prop
 |_,[],[]=>True
 |s,p::ps,g::gs=>p.1=s/\p.2.1=g.length/\g≠[]/\Srt vl g/\Seg (s+g.length) ps gs
 |_,_,_=>False
theorem Seg.len:∀{s:Nat}{ps:List (Nat×Nat×Nat)}{gs:List (List Keyed)},Seg s ps gs->ps.length=gs.length
 |_,[],[],_=>rfl
 |_,[],_::_,h=>h.elim
 |_,_::_,[],h=>h.elim
 |s,p::ps,g::gs,h=>by simp[Seg.len h.2.2.2.2]
theorem Seg.split:∀{j gs:List (List Keyed)}{s:Nat}{ps:List (Nat×Nat×Nat)},Seg s ps (j++gs)->∃q B,ps=q++B/\q.length=j.length/\Seg s q j/\Seg (s+j.flatten.length) B gs
 |[],gs,s,ps,h=>⟨[],ps,rfl,rfl,trivial,by simpa using h⟩
 |g::j,gs,s,[],h=>h.elim
 |g::j,gs,s,p::ps,h=>by
  obtain⟨h1,h2,N,V,I⟩:=h;obtain⟨q,B,rfl,e,O,J⟩:=Seg.split I;refine⟨p::q,B,rfl,by simp[e],⟨h1,h2,N,V,O⟩,?_⟩;rw[VN,Qx,←YX];exact J
theorem Seg.app:∀{j gs:List (List Keyed)}{s:Nat}{q B:List (Nat×Nat×Nat)},Seg s q j->Seg (s+j.flatten.length) B gs->Seg s (q++B) (j++gs)
 |[],gs,s,[],B,_,h=>by simpa using h
 |[],gs,s,_::_,B,h,_=>h.elim
 |g::j,gs,s,[],B,h,_=>h.elim
 |g::j,gs,s,p::q,B,h,k=>by
  obtain⟨h1,h2,N,V,I⟩:=h;refine⟨h1,h2,N,V,Seg.app I ?_⟩;rw[VN,Qx,←YX]at k;exact k
theorem Seg.mod(f:Nat×Nat×Nat->Nat×Nat×Nat)(O:∀p,(f p).1=p.1/\(f p).2.1=p.2.1):∀{gs:List (List Keyed)}{s i:Nat}{ps:List (Nat×Nat×Nat)},Seg s ps gs->Seg s (ps.modify i f) gs
 |[],s,i,[],h=>by simp[List.modify,List.modifyTailIdx];cases i<;>exact trivial
 |[],s,i,_::_,h=>h.elim
 |_::_,s,i,[],h=>h.elim
 |g::gs,s,0,p::ps,h=>by
  obtain⟨h1,h2,N,V,I⟩:=h;exact⟨(O p).1.trans h1,(O p).2.trans h2,N,V,I⟩
 |g::gs,s,i+1,p::ps,h=>by
  obtain⟨h1,h2,N,V,I⟩:=h;exact⟨h1,h2,N,V,Seg.mod f O I⟩
theorem Seg.ne:∀{gs:List (List Keyed)}{s:Nat}{ps:List (Nat×Nat×Nat)},Seg s ps gs->gs.length<=gs.flatten.length
 |[],s,ps,_=>by simp
 |g::gs,s,[],h=>h.elim
 |g::gs,s,p::ps,h=>by
  have:=Seg.ne h.2.2.2.2;have:=Ur.mpr h.2.2.1;rw[VN,Qx,QL];omega
structure Jr(a₀:Array Keyed)(st:SortSt)(gs:List (List Keyed))(R:List Keyed):Prop where
 kind:kindOf st=S6
 failed:R8 st=none
 perm:(arrOf st).Perm a₀
 seg:Seg 0 (QH st).toList gs
 l:(arrOf st).toList=gs.flatten++R
section
variable{prog:Program}{w:World}{A:Around}{E:Value->Shared->Prop}{s:Shared}{a₀:Array Keyed}{st:SortSt}{gs:List (List Keyed)}{R:List Keyed}
theorem Jr.size(h:Jr a₀ st gs R):(QH st).size=gs.length:=by rw[←Qh];exact h.seg.len
theorem Jr.ik(h:Jr a₀ st gs R)(U:IntKeys a₀):∀x∈(arrOf st).toList,Ik x:=λx J=>U x ((RJ.mp h.perm).mem_iff.mp J)
theorem Jv{i:Nat}{Q:Bool->Ry->Prop}(U:IntKeys a₀)(F:Jr a₀ st gs R)(hi:i+1<gs.length)(h:∀B a0,Jr a₀ B a0 R->a0.length+1=gs.length->a0.flatten.length=gs.flatten.length->Q true B):wpS (model prog w) A E s (mergeAt' i) Q st:=by
 obtain⟨G1,X,Y,G2,rfl,hG⟩:∃G1 X Y G2,gs=G1++X::Y::G2/\G1.length=i:=⟨gs.take i,gs[i],gs[i+1],gs.drop (i+2),by
  rw[←QX,←QX,Qj],by simp;omega⟩
 obtain⟨P1,P2,hP,Z,O,J⟩:=F.seg.split
 match P2,J with
 |p::q::P3,J=>
  obtain⟨x1,x2,x3,x4,y1,y2,y3,y4,k3⟩:=J;rw[SX]at x1 y1 k3;obtain⟨p1,p2,pw⟩:=p;obtain⟨q1,q2,qw⟩:=q;simp only at x1 x2 y1 y2;subst x1 x2 y1 y2;have a2:(QH st)[i]? =some (G1.flatten.length,X.length,pw):=by
   rw[←Qs,hP,Qz (by omega),show i-P1.length=0 by omega];rfl
  have a3:(QH st)[i+1]? =some (G1.flatten.length+X.length,Y.length,qw):=by
   rw[←Qs,hP,Qz (by omega),show i+1-P1.length=1 by omega];rfl
  refine N7 (P:=G1.flatten) (T:=G2.flatten++R) F.kind F.failed (F.ik U) (by rw[F.l];simp) a2 a3 x3 y3 x4 y4 λB a1 V j f3 f4 I f6=>h B (G1++a1::G2) ⟨V,j,?_,?_,by rw[f4];simp⟩ (by simp;omega) ?_
  .rw[RJ]
   refine List.Perm.trans ?_ (RJ.mp F.perm);rw[f4,F.l];simp only[Y8,VN,Qi];refine Yx _ ?_;rw[←Qi X];exact I.append_right _
  .have hs:(QH B).toList=P1++(G1.flatten.length,X.length+Y.length,pw)::P3:=by
    rw[f3,Array.toList_eraseIdxIfInBounds,Xd,hP,show i=P1.length by omega];simp[aat,List.eraseIdx_append];intro z;omega
   rw[hs];refine O.app ?_;rw[SX];have N:a1.length=X.length+Y.length:=by rw[I.length_eq];simp
   refine⟨rfl,N.symm,λz=>?_,f6,?_⟩
   .rw[z]at N
    have:=Ur.mpr x3;simp at N;omega
   .rw[N,←YX]
    exact k3
  .have N:a1.length=X.length+Y.length:=by rw[I.length_eq];simp
   simp[N];omega
 |[_],J=>exact J.2.2.2.2.elim
 |[],J=>exact J.elim
theorem O4{F R:List Keyed}{st B:Ry}(N:(arrOf st).toList=F++R)(hz:(arrOf B).size=(arrOf st).size)(fr:∀i,i<F.length->(arrOf B)[i]? =(arrOf st)[i]?):(arrOf B).toList=F++(arrOf B).toList.drop F.length/\((arrOf B).toList.drop F.length).length=R.length:=by
 have j:(arrOf st).size=F.length+R.length:=by rw[←Qh,N];simp
 refine⟨?_,by simp;omega⟩
 conv=>lhs;rw[←Qj F.length (arrOf B).toList]
 congr 1;refine ZM λi=>?_;by_cases h:i<F.length
 .rw[Ub h,Qs,fr i h,←Qs,N,Qu h]
 .rw[Sw (by simp;omega),Sw (by omega)]
theorem Ih{F R:List Keyed}{xs:Array Keyed}(N:xs.toList=F++R){i:Nat}(h:i<R.length):K xs (F.length+i)=vl R[i]:=by
 unfold K;rw[←Qs,N,Qz (by omega),show F.length+i-F.length=i by omega,Py h];rfl
theorem Hf{F R:List Keyed}{xs:Array Keyed}{m:Nat}(N:xs.toList=F++R)(V:m<=R.length)(h:Inc xs F.length m):Srt vl (R.take m):=by
 refine SJ.mpr λi j hi q Z=>?_;rw[Rm]at hi q;rw[VJ,VJ,←Ih N,←Ih N];exact h i j (by omega) (by omega)
theorem Ox{Q:Unit->Ry->Prop}(h0:IntKeys a₀)(h2:2<=a₀.size)(Y:(arrOf st).Perm a₀)(hk:kindOf st=S6)(O:R8 st=none)(c0:QH st= #[])
  (h:∀B,(arrOf B).Perm a₀->R8 B=none->SortedTo (arrOf B) a₀.size->Q () B):wpS (model prog w) A E s sortRuns' Q st:=by
 have hsz:(arrOf st).size=a₀.size:=Y.size_eq;rw[sortRuns'_eq];refine Pq (Wj ?_);dsimp only;rw[hsz];generalize minRun' a₀.size a₀.size 0=mr;refine Pq (R9 (Q8 (I:=λx c B=>∃lo gs R,c=(none,lo)/\Jr a₀ B gs R/\lo=gs.flatten.length/\x<=lo)
  (Q:=λc B=>∃lo gs,c=(none,lo)/\Jr a₀ B gs []/\a₀.size=gs.flatten.length) ?_ ?_ ⟨0,[],(arrOf st).toList,rfl,⟨hk,O,Y,by rw[c0];exact trivial,rfl⟩,rfl,Pg _⟩) ?_)
 .rintro x c B _ J ⟨lo,gs,R,rfl,hJ,N,hxl⟩
  have b0:lo+R.length=a₀.size:=by
   rw[N,←Qx,←hJ.l,Qh,hJ.perm.size_eq]
  dsimp only;by_cases b2:lo>=a₀.size
  .rw[Pk b2]
   obtain rfl:R=[]:=Rp (by omega);refine PB ⟨lo,gs,rfl,hJ,?_⟩;simp at b0;omega
  rw[Pn b2];have c2:SB a₀ lo B B:=⟨hJ.perm,hJ.kind,hJ.failed,rfl,λ_ _=>rfl⟩;refine Pq (Nf h0 (by omega) (by omega) c2 λm c3 b3 m1 m2 hI=>?_);dsimp only;by_cases b7:m<mr
  case' pos=>
   rw[Pk b7];refine Pq (WN (Rz ⟨rfl,?_⟩));refine Pq (Ob (n:=min (a₀.size-lo) mr) h0 (by omega) (by omega) m1 b3 hI λa5 a3 a6=>?_);simp only[Tg,PJ,Qv];have n1:1<=min (a₀.size-lo) mr:=by omega
   have n2:lo+min (a₀.size-lo) mr<=a₀.size:=by omega
   generalize min (a₀.size-lo) mr=n at a6 n1 n2⊢
  case' neg=>
   rw[Pn b7];have a3:=b3;have a6:=hI;have n1:=m1;have n2:lo+m<=a₀.size:=by omega
   generalize m=n at a6 n1 n2⊢;generalize c3=a5 at a3 a6⊢
  all_goals
   obtain⟨e1,e2⟩:=O4 hJ.l (by rw[a3.size,hJ.perm.size_eq]) (by rw[←N];exact a3.fr);generalize (arrOf a5).toList.drop gs.flatten.length=R' at e1 e2;have sg:Srt vl (R'.take n):=Hf e1 (by omega) (by rw[←N];exact a6);have a7:Jr a₀ a5 gs (R'.take n++R'.drop n):=⟨a3.kind,a3.failed,a3.perm,by rw[a3.pend];exact hJ.seg,by rw[Qj];exact e1⟩;have gl:(R'.take n).length=n:=by rw[Rm];omega
   generalize R'.take n=g at sg a7 gl;generalize R'.drop n=R2 at a7;refine Pq (Wj ?_);have a2:∀V a1,Jr a₀ V a1 (g++R2)->a1.flatten.length=lo->∃b1 b4 R',((none,lo+n):Option Unit×Nat)=(none,b1)/\Jr a₀ (setPending V ((QH V).push (lo,n,0))) b4 R'/\b1=b4.flatten.length/\x+1<=b1:=λV a1 a0 a4=>by
    refine⟨lo+n,a1++[g],R2,rfl,⟨a0.kind,a0.failed,a0.perm,?_,?_⟩,?_,by omega⟩
    .show Seg 0 ((QH V).push (lo,n,0)).toList _
     rw[VH];refine a0.seg.app ⟨?_,gl.symm,λz=>?_,sg,trivial⟩
     .rw[SX];exact a4.symm
     .rw[z]at gl;simp at gl;omega
    .rw[show arrOf (setPending V ((QH V).push (lo,n,0)))=arrOf V from rfl,a0.l]
     simp
    .rw[Y8,Qx,a4];simp[gl]
   cases U:(QH a5).back? with
   |none=>
    dsimp only;exact Pq (Wv (PB (a2 a5 gs a7 N.symm)))
   |some p=>
    obtain⟨Z,p1,w1⟩:=p;dsimp only;refine Pq (R9 (Q8 (I:=λ_ c B=>c=(none,())/\∃a1,Jr a₀ B a1 (g++R2)/\a1.flatten.length=lo) (Q:=λc B=>c=(none,())/\∃a1,Jr a₀ B a1 (g++R2)/\a1.flatten.length=lo) ?_ (λc B hh=>hh) ⟨rfl,gs,a7,N.symm⟩) ?_)
    .rintro y c V _ hy ⟨rfl,a1,a0,a4⟩
     refine Pq (Wj ?_);have hz:=a0.size;by_cases b6:(QH V).size>1
     .rw[Pk b6,Qk (QH V) _ (by omega)]
      generalize (QH V)[(QH V).size-2]=pp;obtain⟨pa,pb,pc⟩:=pp;dsimp only;split
      .exact PB ⟨rfl,a1,a0,a4⟩
      .refine Pq (Jv h0 a0 (by omega) λc1 a9 a8 b9 c5=>?_)
       simp only[Tg,PJ,Qv];exact PB ⟨rfl,a9,a8,by omega⟩
     .rw[Pn b6]
      exact PB ⟨rfl,a1,a0,a4⟩
    .rintro c V ⟨rfl,a1,a0,a4⟩
     dsimp only;refine Pq (Wv (Pq (Wv (PB (a2 _ a1 ⟨a0.kind,a0.failed,a0.perm,?_,a0.l⟩ a4)))));show Seg 0 ((QH V).modify _ _).toList a1;rw[Array.toList_modify];refine Seg.mod _ ?_ a0.seg;exact λ_=>⟨rfl,rfl⟩
 .rintro c B ⟨lo,gs,R,rfl,hJ,N,hxl⟩
  have b0:lo+R.length=a₀.size:=by
   rw[N,←Qx,←hJ.l,Qh,hJ.perm.size_eq]
  obtain rfl:R=[]:=Rp (by omega);exact⟨lo,gs,rfl,hJ,by simp at b0;omega⟩
 .rintro c B ⟨lo,gs,rfl,hJ,N⟩
  dsimp only;refine Pq (R9 (Q8 (I:=λx c B=>c=(none,())/\∃gs,Jr a₀ B gs []/\a₀.size=gs.flatten.length/\(gs.length<=1∨gs.length+x<=a₀.size)) (Q:=λc B=>c=(none,())/\∃gs,Jr a₀ B gs []/\a₀.size=gs.flatten.length/\gs.length<=1) ?_ ?_ ⟨rfl,gs,hJ,N,.inr (by have:=hJ.seg.ne;omega)⟩) ?_)
  .clear hJ N
   rintro x c B _ J ⟨rfl,gs,hJ,N,c4⟩;refine Pq (Wj ?_);have hz:=hJ.size;by_cases b8:(QH B).size<=1
   .rw[Pk b8]
    exact PB ⟨rfl,gs,hJ,N,by omega⟩
   .rw[Pn b8]
    refine Pq (Jv h0 hJ ?_ λc1 a9 a8 b9 c5=>?_)
    .have:∀(c:Prop)[Decidable c],(if c then(QH B).size-2-1 else(QH B).size-2)+1<gs.length:=λc _=>by split<;>omega
     exact this _
    .simp only[Tg,PJ,Qv]
     exact PB ⟨rfl,a9,a8,by omega,.inr (by omega)⟩
  .rintro c B ⟨rfl,gs,hJ,N,c4⟩
   exact⟨rfl,gs,hJ,N,by omega⟩
  .clear hJ N
   rintro c B ⟨rfl,gs,hJ,N,h1⟩;refine PB (h B hJ.perm hJ.failed ?_)
   match gs,hJ,N,h1 with
   |[],hJ,N,_=>rw[List.flatten_nil,Q6]at N;omega
   |[g],hJ,N,_=>
    have hg:Srt vl g:=by
     have:=hJ.seg
     match(QH B).toList,this with
     |_::_,q=>exact q.2.2.2.1
     |[],q=>exact q.elim
    have hl:(arrOf B).toList=[]++g:=by rw[hJ.l];simp
    have F:a₀.size=g.length:=by rw[N];simp
    intro i j c6 hj;have e1:=Ih hl (i:=i) (by omega);have e2:=Ih hl (i:=j) (by omega);rw[Q6,SX]at e1 e2;rw[e1,e2];by_cases b5:i=j
    .subst b5;exact QQ _
    .exact SJ.mp hg i j (by omega) (by omega) (by omega)
   |_::_::_,hJ,N,h1=>simp at h1
end
open PySem PySem.W PyProof.Rows
theorem xP{κ:Xw}{G:List Value->Prop}(a4:vs.length<=Px)(j:vs.length<2->G vs)
  (J:2<=vs.length->∀h':Heap,∀(E':Value->zc->Prop)(V:Xw->zc->Prop),V κ {s with heap:=h'}->wpAny (model prog w) A.in1.in1 (keyKind' vs.toArray) V E' {s with heap:=h'})
  (Z:2<=vs.length->∀h':Heap,∀E':Value->zc->Prop,wpAny (model prog w) A.in1.in1 (sortRuns'.run (SortSt.mk' κ (vs.toArray.zip vs.toArray) #[] 7 none)) (λr s'=>s'={s with heap:=h'}/\R8 r.2=none/\∃out,(arrOf r.2).map (·.2)=Vt out/\out.length=vs.length/\G out) E' {s with heap:=h'})
  (h:∀out:List Value,G out->∀(h':Heap)(c:Nat),(∀b o,s.heap.get? b=some o->h'.get? b=some o)->h'.get? s.heap.objs.size=some (Uv "list" out.toArray c)->Q (.ref s.heap.objs.size) {s with heap:=h'}) :
  wpAny (model prog w) A.in1 (Vf vs >>=λl=>Tt [l] (call (.builtin "list.sort") [l] []) >>=λ_=>ret l) (λU s'=>∃v,U= .done (.ret v)/\Q v s') E s:=by
 refine eH (Xa ?_ a4)
 let a:=s.heap.objs.size
 let G2:Heap:=s.heap.push (Uv "list" vs.toArray 0)
 have z2:G2.objs.size=s.heap.objs.size+1:=size_push' _ _;have a2:G2.get? a=some (Uv "list" vs.toArray 0):=Pz _ rfl;show wpAny _ _ (Tt _ _ >>=_) _ _ {s with heap:=G2};refine eH (Rf (Uc slot_list_sort ⟨_,a2,rfl⟩ entry_list_sort ?_ (args_list_sort _)))
 let G3:Heap:=G2.update a (SQ λ_=>#[])
 obtain⟨e1,F⟩:∃e1,G3.get? a=some (Uv "list" #[] e1):=⟨_,Ws a2 λ_=>#[]⟩
 let G5:Heap:=(G3.push (Uv "tuple" vs.toArray 0)).push (Uv "list" #[] 0)
 have a6:∀b o,G3.get? b=some o->G5.get? b=some o:=λb o q=>gD _ (gD _ q);have Y:∀b o,s.heap.get? b=some o->G5.get? b=some o:=λb o q=>by
  refine a6 b o ?_;show(G2.update _ _).get? b=_;rw[Vi _ _ _ _ (PN (Ph q))];exact gD _ q
 have a5:G5.get? a=some (Uv "list" #[] e1):=a6 a _ F;rw[list_sort_plain];refine eH (listItems_at a2 rfl ?_);refine eH (Xb a2 rfl ?_ (by rw[List.size_toArray];exact a4) (R0 _));refine eH (Yk F rfl ?_);refine eH (WM ?_ (by show vs.length<=_;exact a4));refine eH (Xa ?_ (R0 _));refine Rf ?_;show wpAny (model prog w) A.in1.in1 _ _ _ {s with heap:=G5};dsimp only;have U:∀(B:Ry)(out:List Value),(arrOf B).map (·.2)=Vt out->R8 B=none->out.length=vs.length->G out->
   wpAny (model prog w) A.in1.in1 (do
    let a1:=(arrOf B).map (·.2)
    let a0:=(←seqEpoch a)!=e1
    XR (.ref a) λ_=>a1
    if let some e:=R8 B then rule "list.sort.comparison-raised";throw e
    if a0 then rule "list.sort.modified";raiseError "ValueError" "list modified during sort"
    ret .none) (λU s'=>∃v,U= .done (.ret v)/\wpAny (model prog w) A.in1 (ret (.ref a)) (λU s'=>∃v,U= .done (.ret v)/\Q v s') E s') E {s with heap:=G5}:=λB out a3 O a7 hG=>by
  dsimp only;refine eH (Yk a5 rfl ?_);refine eH (Xb a5 rfl ?_ (R0 _) (by rw[a3,List.size_toArray];omega));rw[O];simp only[bne_self_eq_false,PJ,Qv];refine yr ⟨_,rfl,yr ⟨_,rfl,?_⟩⟩;rw[a3];refine h out hG _ _ (λb o q=>?_) (Ws a5 _);rw[Vi _ _ _ _ (PN (Ph q))];exact Y b o q
 by_cases I:vs.toArray.size<2
 .rw[Pk I,Pk I]
  rw[List.size_toArray]at I;refine eH (yr ?_);rw[aao];refine eH (yr ?_);exact U _ vs (by
   apply Xx.mp;simp[arrOf];exact aai (Pg _)) rfl rfl (j I)
 .rw[Pn I,Pn I]
  rw[List.size_toArray]at I;refine eH (J (by omega) G5 _ _ ?_);refine eH (Sq (Z (by omega) G5 _) ?_ λ_ _ e=>e);rintro⟨⟨⟩,B⟩ s' ⟨rfl,O,out,h1,h2,N⟩;exact U B out h1 O h2 N
theorem An(N:∀v∈vs,∃n t,v= .int n t)(a5:vs.length<=Px)
  (h:∀out:List Value,out.Perm vs->(out.map numOf).Pairwise (·<=·)->∀(h':Heap)(c:Nat),(∀b o,s.heap.get? b=some o->h'.get? b=some o)->h'.get? s.heap.objs.size=some (Uv "list" out.toArray c)->Q (.ref s.heap.objs.size) {s with heap:=h'}) :
  wpAny (model prog w) A.in1 (Vf vs >>=λl=>Tt [l] (call (.builtin "list.sort") [l] []) >>=λ_=>ret l) (λU s'=>∃v,U= .done (.ret v)/\Q v s') E s:=by
 have V:((vs.toArray.zip vs.toArray).toList.map (·.2))=vs:=by simp;exact aai (Pg _)
 have a0:∀p∈(vs.toArray.zip vs.toArray).toList,p.1=p.2/\p.1∈vs:=λp Y=>by
  rw[Array.toList_zip]at Y;obtain⟨i,hi,rfl⟩:=Rq Y;rw[List.getElem_zip];simp
 have hn:(vs.toArray.zip vs.toArray).size=vs.length:=by simp
 refine xP (κ:=S6) (G:=λout=>out.Perm vs/\(out.map numOf).Pairwise (·<=·)) a5 (λh2=>⟨Tu _,?_⟩) (λh2 h' E' Q' a4=>Xy (T:=.type "int") (by omega) (λv a3=>?_) rfl rfl a4) (λh2 h' E'=>?_) λout ⟨g1,O⟩=>h out g1 O
 .match vs,h2 with
  |[],_=>simp
  |[x],_=>simp
  |_::_::_,h2=>simp at h2;omega
 .obtain⟨n,t,rfl⟩:=N v a3
  exact Yu rfl
 .refine Sq (Ox (st:=SortSt.mk' S6 (vs.toArray.zip vs.toArray) #[] 7 none) (a₀:=vs.toArray.zip vs.toArray) (s:={s with heap:=h'})
   (Q:=λ_ B=>R8 B=none/\∃out,(arrOf B).map (·.2)=Vt out/\out.length=vs.length/\(out.Perm vs/\(out.map numOf).Pairwise (·<=·))) (λp Y=>?_) (by omega) (Array.Perm.refl _) rfl rfl rfl λB p1 p2 p3=>?_) (λr s' I=>I) λ_ _ e=>e
  .obtain⟨_,h2⟩:=a0 p Y
   exact N _ h2
  .have pl:=RJ.mp p1
   have q:=pl.map (λp:Keyed=>p.2);rw[V]at q;refine⟨p2,(arrOf B).toList.map (·.2),by apply Xx.mp;simp,q.length_eq,q,?_⟩;rw[Qp,Z0,SJ];intro i j hi F Z;have a2:(arrOf B).size=(vs.toArray.zip vs.toArray).size:=p1.size_eq;have hK:∀k,(J:k<(arrOf B).toList.length)->K (arrOf B) k=numOf (arrOf B).toList[k].2:=λk J=>by
    have a1:=a0 _ (pl.mem_iff.mp (RZ J));unfold K;rw[←Qs,Py J];show numOf _=_;rw[a1.1]
   have:=p3 i j (by omega) (by rw[←a2];simpa using F);rw[hK i hi,hK j F]at this;exact this
section
variable{X:Cx}{e:Expr}{t:TA}{p1 p2 q1 q2:Pos}
def keyOf:Value->Key
 |.int n _=>.inl n
 |.str x _=>.inr x
 |_=>.inl 0
theorem qd:∀{B:List Value},(∀u∈B,∃k,ni k u=true)->Vals ((B.map keyOf).map kV) B
 |[],_=>.nil
 |u::r,h=>by
  obtain⟨k,J⟩:=h u (by simp);refine .cons ?_ (qd λv N=>h v (by simp[N]));rcases bF J with⟨i,t,rfl,rfl⟩|⟨x,t,rfl,rfl⟩<;>exact⟨t,rfl⟩
theorem FW{k:Key}{v:Value}(h:ni k v=true):keyOf v=k:=by
 rcases bF h with⟨i,t,rfl,rfl⟩|⟨x,t,rfl,rfl⟩<;>rfl
theorem HB(ks:List Key):(uz ks).Nodup:=by
 have:=lw (f:=id) (λ_ _ h=>h) ks;rw[UL,UL]at this;rw[this];exact GJ ks
theorem Hr(ks:List Key):(uz ks).length<=ks.length:=by
 have:=lw (f:=id) (λ_ _ h=>h) ks;rw[UL,UL]at this;rw[this];exact wA ks
def Dj(K:Pu)(R:List Key->Hp->VK->Prop)(t:TA):TE:=λσ H Q=>t σ H λvs H1=>∃a ks,vs=[.ref a]/\SqL K H1 a (Qc kV ks)/\Uy ks<4000/\R ks H1 Q
theorem Inv.drw{pins:List (Addr×Obj)}{σ:L2.St}{H:Hp}{s:zc}{d:Drawn}(I:Inv X pins σ H s):Inv X pins σ H {s with drawn:=d}:=⟨I.ok,I.os,I.bare,I.base,I.loc,I.cell,I.free,I.freeC,I.pin,I.hok,I.len⟩
theorem wG:∀{B:List Value},(∀u∈B,∃n t,u= .int n t)->Vals ((B.map numOf).map V.int) B
 |[],_=>.nil
 |u::r,h=>by
  obtain⟨n,t,rfl⟩:=h u (by simp);exact .cons ⟨t,rfl⟩ (wG λv N=>h v (by simp[N]))
theorem uR:∀{zs:List Int}{B:List Value},Vals (zs.map V.int) B->B.map numOf=zs/\∀u∈B,∃n t,u= .int n t
 |[],_,.nil=>⟨rfl,by simp⟩
 |z::r,_,.cons h q=>by
  obtain⟨t,rfl⟩:=h;obtain⟨h1,h2⟩:=uR q;refine⟨by rw[PP,h1];rfl,λu J=>?_⟩;rcases Pj.mp J with rfl|J
  .exact⟨z,t,rfl⟩
  .exact h2 u J
theorem Ah{pins:List (Addr×Obj)}{σ:L2.St}{H:Hp}{s:zc}{zs:List Int}{its:List Value}{E:Value->zc->Prop}{Q:VK}(I:Inv X pins σ H s)(rv:Vals (zs.map V.int) its)(Z:zs.length<4000)
  (q:∀ys:List Int,QJ ys zs->ys.Pairwise (·<=·)->∀l,H l=none->Q (.ref l) (upd H l (.lst (ys.map V.int)))) :
  wpAny (model X.prog X.w) X.A.in1 (Vf its >>=λl=>V7 [l] (call (.builtin "list.sort") [l] []) >>=λ_=>ret l) (λU s'=>∃v,U= .done (.ret v)/\EP X pins σ Q v s') E s:=by
 have a0:4000<=Px:=by decide
 obtain⟨e,N⟩:=uR rv;have O:its.length=zs.length:=by rw[←e,Qe]
 refine An N (by omega) λout Y F h' c j B=>?_;refine⟨.ref s.heap.objs.size,upd H s.heap.objs.size (.lst ((out.map numOf).map V.int)),I.laid (t':=s.toks) j (Pg _) ⟨?_,out,c,wG λu J=>N u (Y.mem_iff.mp J),B⟩,rfl,q _ (by rw[←e];exact Y.map _) F _ (I.hok.fresh (Pg _))⟩;rw[Qe,Qe,Y.length_eq];omega
theorem w6{R:List Key->Hp->VK->Prop}(hR:∀{pins:List (Addr×Obj)}{σ:L2.St}{H:Hp}{s:zc}{ks zs:List Key}{its:List Value}{E:Value->zc->Prop}{Q:VK},R ks H Q->Inv X pins σ H s->QJ zs (uz ks)->zs.length<4000->Vals (zs.map kV) its->wpAny (model X.prog X.w) X.A.in1 (Vf its >>=λl=>V7 [l] (call (.builtin "list.sort") [l] []) >>=λ_=>ret l) (λb9 s'=>∃v,b9= .done (.ret v)/\EP X pins σ Q v s') E s)
  (hg:Gl X "sorted") (V:X.mg "sorted"=none) (b5:X.mg "set"=none) (O:PA X [e] t) (a7:Gl X "set":=by rfl) (F:PK [e] X.env=[(false,eval e X.env)]:=by rfl) (Y:X.calm=true:=by rfl) :
  PE X (.Call (.Name "sorted" p1) [.Call (.Name "set" p2) [e] [] q2] [] q1) (Dj X.K R t):=by
 intro pins s σ H Q I h;refine Uu (jr I hg V boot_sorted ?_);refine Yi rfl (YC ?_);show wpAny _ _ (spliced ((false,eval (.Call (.Name "set" p2) [e] [] q2) X.env)::SM q1 (PK [] X.env))) _ _ s;refine Zc ?_;refine Uu (jr I a7 b5 boot_set ?_);refine R_ (thn (O q2 pins s σ H _ I h) λus s1 ⟨vs,H1,I1,r1,b7⟩=>?_) F rfl;obtain⟨a,ks,ev,N,hz,q⟩:=b7;subst ev;obtain⟨u,rfl,ru⟩:=vals1 r1;cases ru;have hh:X.A.handled=none:=I1.ok.hd Y;obtain⟨its,rv,pl,c1⟩:=I1.list N;have a0:=rv.length;rw[Qe]at a0;refine Ax (its:=its) (ks:=ks) hh a0 (λj k v e1 e2=>?_) (by show its.length+1<4096;omega) pl.isList λs2 b1=>?_
 .obtain⟨w',h1,h2⟩:=rv.get (i:=j) (x:=kV k) (by rw[List.getElem?_map,e1];rfl)
  rw[e2]at h1;cases h1;exact h2
 refine ZF ?_;obtain⟨h',tk,rfl,hS,a6⟩:=b1;have I2:Inv X pins σ H1 {s1 with heap:=h',toks:=tk}:=I1.kept (t':=tk) a6;obtain⟨o,es,ep,tb,B,a8,hd,b6,a3,U,hf,hn,Z⟩:=hS;have c3:=Hr ks;have c0:4000<=Px:=by decide
 refine By λE' Q' b2=>PySem.collect_set (A:=X.A.in1) hh B a8 hd hf Z (by omega) λh2 a2 d2 L acc kp hL O=>?_;have I3:Inv X pins σ H1 {s1 with heap:=h2,drawn:=d2,toks:=a2}:=Inv.drw (d:=d2) (I2.kept (t':=a2) kp);have a1:acc.toList.length=(uz ks).length:=by rw[Qh,O.1,hn]
 have hv:Vals ((acc.toList.map keyOf).map kV) acc.toList:=qd λu hu=>by
  obtain⟨i,hi,rfl⟩:=Rq hu;obtain⟨c,b0⟩:=O.2 i _ (by rw[←Qs];exact Py hi);obtain⟨⟨k,b8,_⟩,_⟩:=b6 _ (hL.mem_iff.mp (QS b0));exact⟨k,b8⟩
 have b3:QJ (uz ks) (acc.toList.map keyOf):=by
  refine m_ (HB ks) (λx J=>?_) (by rw[Qe,a1];exact Pg _);obtain⟨⟨c,v⟩,h1,h2⟩:=(a3 x).mp (jH.mpr J);obtain⟨i,hi,b4⟩:=Rq (hL.mem_iff.mpr h1);have a9:i<acc.toList.length:=by
   rw[a1,←hn,←Qh,←hL.length_eq];exact hi
  obtain⟨c2,a4⟩:=O.2 i acc.toList[i] (by rw[←Qs];exact Py a9);rw[Py hi,b4]at a4;have a5:v=acc.toList[i]:=congrArg Prod.snd (QR a4);exact QF.mpr ⟨acc.toList[i],RZ _,by rw[←a5];exact FW h2⟩
 exact b2 _ _ (hR q I3 b3.symm (by rw[Qe,a1];omega) hv)
end
def rSS(A:Rh)(ks:List Key)(H:Hp)(Q:VK):Prop:=(∃ns:List Int,ks=ns.map Wc/\∀l,H l=none->Q (.ref l) (upd H l (.lst ((wL ns).map V.int))))∨∃xs:List Str,ks=xs.map T8/\(j5 xs).length<64/\A.units+2<cLine/\∀l,H l=none->Q (.ref l) (upd H l (.lst ((Eh (j5 xs)).map V.str)))
theorem perm_back{f:α->β}{g:β->α}(j:∀a,g (f a)=a){zs:List β}{l:List α}(h:QJ zs (l.map f)):zs=(zs.map g).map f/\QJ (zs.map g) l:=by
 refine⟨?_,?_⟩
 .rw[Qp]
  conv=>lhs;rw[←UL zs]
  refine Sg λz hz=>?_;obtain⟨a,_,rfl⟩:=QF.mp (h.mem_iff.mp hz);simp[j]
 .have:=h.map g
  rw[Qp]at this;rwa[show g∘f=id from funext j,UL]at this
variable{Q:VK}{H:Hp}
theorem M4{X:Cx}{σ:L2.St}{s:zc}{ks zs:List Key}{E:Value->zc->Prop}(h:rSS X.A ks H Q)(I:Inv X pins σ H s)(Y:QJ zs (uz ks))(Z:zs.length<4000)(N:Vals (zs.map kV) its):wpAny (model X.prog X.w) X.A.in1 (Vf its >>=λl=>V7 [l] (call (.builtin "list.sort") [l] []) >>=λ_=>ret l) (λU s'=>∃v,U= .done (.ret v)/\EP X pins σ Q v s') E s:=by
 rcases h with⟨ns,rfl,q⟩|⟨xs,rfl,a0,J,q⟩
 .rw[lw λa b h=>aaL h]at Y
  obtain⟨e1,hw⟩:=perm_back (g:=λk:Key=>(aaj id (λ_=>(0:Int)) k:Int)) (λa=>rfl) Y;rw[e1]at N Z;refine Ah I (zs:=zs.map λk:Key=>(aaj id (λ_=>(0:Int)) k:Int)) (by rw[Qp]at N;exact N) (by simpa using Z) λys j F l Z=>?_;rw[sO (j.trans (hw.trans (rz ns).symm)) F (G6 ns)];exact q l Z
 .rw[lw λa b h=>aaM h]at Y
  obtain⟨e1,hw⟩:=perm_back (g:=λk:Key=>(aaj (λ_=>("":Str)) id k:Str)) (λa=>rfl) Y;rw[e1]at N Z;generalize zs.map (λk:Key=>(aaj (λ_=>("":Str)) id k:Str))=ws at N Z hw;have B:ws.length<64:=by rw[hw.length_eq];exact a0
  refine Dq I (ys:=ws.map V.str) (ks:=ws.map λy=>[y]) (by rw[Qp]at N;exact N) (by simpa using B) J ⟨by simp,.inl λi k e=>?_⟩ λp j F l Z=>?_
  .rw[List.getElem?_map]at e⊢
   cases hi:ws[i]? with
   |none=>rw[hi]at e;cases e
   |some x=>rw[hi]at e;cases e;exact⟨x,rfl,rfl⟩
  .have hin:∀i∈p,i<ws.length:=λi hi=>by have:=RL.mp (j.mem_iff.mp hi);simpa using this
   have e2:(p.map λi=>(ws.map λy=>[y]).getD i [])=Aq ((j5 xs).map λy=>[y]):=by
    refine yL ?_ (Z0.mpr F) (yh _);have:=j.map λi=>(ws.map λy=>[y]).getD i ([]:List Str);rw[Qe,←Qe (f:=λy:Str=>[y]),xO]at this;exact this.trans ((hw.map _).trans (rO _).symm)
   have O:(p.map λi=>(ws.map V.str).getD i V.non)=(Eh (j5 xs)).map V.str:=by
    rw[v5 (z:=("":Str)) hin,Eh,←e2,v5 (z:=("":Str)) hin];simp only[Qp];rfl
   rw[O];exact q l Z
def gQ:List D->Option D
 |[.lst _ ds]=>if ds.length<4000 then(match o9 ds with
  |some ns=>some (.lst .own ((wL ns).map D.int))
  |none=>(strsOf ds).bind λxs=>if(j5 xs).length<64 then some (.lst .own ((Eh (j5 xs)).map D.str))else none)else none
 |_=>none
variable{G:Gc}{W:Wn}
theorem rJ:∀ns:List Int,aF G H W (ns.map D.int) (ns.map V.int) []
 |[]=>.nil
 |x::r=>aF.cons (M:=[]) (M':=[]) bU (rJ r)
variable{A:Rh}
theorem uU(J:A.units+2<cLine):CaV G (λvs H Q=>∃a ks,vs=[.ref a]/\SqL G.K H a (Qc kV ks)/\Uy ks<4000/\rSS A ks H Q) gQ:=λds d e xs H W j r nd hn w Q q=>by
 unfold gQ at e;split at e
 .split at e
  .rename_i m ds hl
   obtain⟨x,rfl,rx⟩:=r.inv1;rw[Rep]at rx;obtain⟨a,ys,M,rfl,Z,F⟩:=rx;cases h1:o9 ds with
   |some ns=>
    obtain rfl:D.lst .own ((wL ns).map D.int)=d:=by simpa[h1]using e
    have hd:=vA h1;subst hd;have N:=vd Z;subst N;exact⟨a,ns.map Wc,rfl,by rw[Qp];exact F.sq,by simpa using hl,.inl ⟨ns,rfl,λl B=>qz (rJ _) (λa O=>by cases O) List.nodup_nil hn B q⟩⟩
   |none=>
    cases h2:strsOf ds with
    |none=>simp[h1,h2]at e
    |some zs=>
     simp only[h1,h2,Pb]at e;by_cases I:(j5 zs).length<64
     case neg=>rw[Pn I]at e;cases e
     rw[Pk I]at e;obtain rfl:D.lst .own ((Eh (j5 zs)).map D.str)=d:=QR e;have hd:=sG h2;subst hd;have N:=wK Z;subst N;exact⟨a,zs.map T8,rfl,by rw[Qp];exact F.sq,by simpa using hl,.inr ⟨zs,rfl,I,J,λl B=>qz (uY _) (λa O=>by cases O) List.nodup_nil hn B q⟩⟩
  .cases e
 .cases e
variable{f:En->Option (List D)}{X:ι->Cx}
theorem yf{p1 p2 q1 q2:Pos}(A:Rh)(Z:∀c,(X c).A=A)(J:A.units+2<cLine)(j:∀c,Gl (X c) "sorted")(V:∀c,(X c).mg "sorted"=none)(B:∀c,(X c).mg "set"=none)(O:PVA X G ob [e] f)(q:∀c,Gl (X c) "set":=by intro _;rfl)(F:∀c,PK [e] (X c).env=[(false,eval e (X c).env)]:=by intro _;rfl)(Y:∀c,(X c).calm=true:=by intro _;rfl)(I:∀c,(X c).K=G.K:=by intro _;rfl) :
 PV X G ob (.Call (.Name "sorted" p1) [.Call (.Name "set" p2) [e] [] q2] [] q1) (eAp gQ f):=let⟨t,a1,a2⟩:=O.ex;⟨_,λc=>(by rw[←I c,←Z c];exact w6 M4 (j c) (V c) (B c) (a1 c) (q c) (F c) (Y c)),rC (uU J) a2⟩
def b_:List D->Option D:=fnP 2 4 ((bD (eQ (eC (.int 0)) (tgN 2))
 (bD (sIf (eB (e2 gLt (aC false 1) (eAp cW (ak (aC false 0) aG)))) (eQ (e2 gIx (aC false 0) (aC false 1)) (tgN 2)) gV)
 (bD (eQ (e2 gH (eAp qR (ak (aC false 2) aG)) (eAp uZ (ak (e2 gGe (eAp qR (ak (aC false 2) aG)) (e2 lr (eC (.int 10)) (eC (.int 18)))) aG))) (tgN 3))
 (gW (eAp bu (ak (aC false 3) (ak (e2 jA (e2 gH (e2 cB (e2 cB (e2 jA (aC false 2) (eC (.int 2147483647))) (e2 gH (eC (.int 7919)) (aC false 1))) (eC (.int 11))) (eC (.int 48271))) (eC (.int 2147483629))) aG))))))))
def aq:List D->Option (D×List D):=fnI (λi=>i==0) 2 4 ((bD (sIf (eB (e2 gGt (e2 gIx (aC true 0) (eC (.int 0))) (eC (.int 0)))) (bD (eQ (e2 jA (e2 gIx (aC true 0) (eC (.int 0))) (aC false 1)) (tgN 2))
 (bD (eQ (e2 qg (e2 gIx (aC true 0) (eC (.int 0))) (aC false 1)) (rW mY 0 (o8 0) (eC (.int 0))))
 (kJ 2))) gV)
 (bD (eQ (e2 jA (e2 cB (e2 gH (e2 gIx (aC true 0) (eC (.int 1))) (eC (.int 48271))) (eC (.int 39373))) (eC (.int 2147483647))) (rW mY 0 (o8 0) (eC (.int 1))))
 (bD (eQ (e2 jA (e2 gH (e2 gIx (aC true 0) (eC (.int 1))) (e2 cB (e2 jA (e2 gIx (aC true 0) (eC (.int 1))) (eC (.int 40009))) (eC (.int 7)))) (eC (.int 2147483587))) (tgN 3))
 (gW (e2 jA (e2 qg (aC false 3) (eC (.int 64))) (aC false 1)))))))
def cL:List D->Option (D×List D):=fnI (λi=>i==0) 1 4 ((bD (eQ (eMt pX (eC (.str "b aa zebra c quartzes ab m knows d mm likes z a ba abcdefgh y")) (ak (eC (.str " ")) aG)) (tgN 1))
 (bD (dw (eIo aq [0] (cu (ak (eC (.int 16)) aG))) (tgN 2))
 (bD (dw (ee2 gIx (mC bu (cA (eIo aq [0] (cu (ak (eC (.int 3)) aG))) (cA (ee2 cB (eUp (eC (.int 10))) (eIo aq [0] (cu (ak (eC (.int 5)) aG)))) (cA (ee2 cB (eUp (eC (.int 4))) (eIo aq [0] (cu (ak (eC (.int 5)) aG)))) (cu aG))))) (mC jP (cA (eUp (eC (.int 2))) (cA (eIo aq [0] (cu (ak (eC (.int 8)) aG))) (cu aG))))) (tgN 3))
 (gW (ir [none,some 1,some 2] (nO (ak (aC false 3) aG)) (tpN 0) eTT (e2 gIx (aC false 1) (e2 jA (e2 cB (aC false 2) (e2 gH (eC (.int 5)) (aC false 0))) (eC (.int 16))))))))))
def bG:List D->Option (D×List D):=fnI (λi=>i==0) 3 12 ((bD (eQ (eAp bu aG) (tgN 3))
 (bD (dw (ee2 gIx (eUp (eAp bu (ak (eC (.int 3)) (ak (eC (.int 3)) (ak (eC (.int 12)) (ak (eC (.int 12)) (ak (eC (.int 12)) (ak (e2 gH (eC (.int 4)) (e2 lr (eC (.int 10)) (eC (.int 11)))) aG)))))))) (eIo aq [0] (cu (ak (eC (.int 6)) aG)))) (tgN 4))
 (bD (dw (mC pZ (cA (qy [none,some 4,some 0] (itS (aC false 1)) (tgN 0) eTT (mC eU (cA (eUp (aC false 0)) (cA (ee2 je (eIo aq [2] (cu (ak (e2 gH (eC (.int 2)) (aC false 1)) aG))) (eUp (aC false 1))) (cu aG))))) (cu aG))) (tgN 5))
 (bD (dw (ee2 gIx (eUp (eAp bu (ak (eC (.int 0)) (ak (eC (.int 0)) (ak (eC (.int 3)) (ak (eC (.int 12)) aG)))))) (eIo aq [0] (cu (ak (eC (.int 4)) aG)))) (tgN 6))
 (bD (rH (vy (cA (eIo aq [0] (cu (ak (e2 cB (e2 gH (eC (.int 2)) (eAp cW (ak (aC false 1) aG))) (eC (.int 1))) aG))) (cu aG))) (tgN 7) (bD (qm (cA (ee2 gIx (eUp (aC false 1)) (eIo aq [0] (cu (ak (eAp cW (ak (aC false 1) aG)) aG)))) (cA (ee2 gIx (eUp (aC false 1)) (eIo aq [0] (cu (ak (eAp cW (ak (aC false 1) aG)) aG)))) (cu aG))) (aO (tgN 8) (aO (tgN 9) cQ)))
 (bD (dw (eIo aq [0] (cu (ak (eC (.int 9)) aG))) (tgN 10))
 (bD (sIf (eB (e2 gEq (aC false 10) (eC (.int 0)))) (eQ (aC false 8) (tgN 9)) gV)
 (bD (sIf (nR (eB (e2 gEq (aC false 10) (eC (.int 1)))) (eB (e2 gNe (aC false 3) (eAp bu aG)))) (dw (Fy (ee2 gIx (eUp (aC false 3)) (eIo aq [0] (cu (ak (eAp cW (ak (aC false 3) aG)) aG)))) m8 (lE (eC (.int 2)))) (tgT 2 (aO (tgN 8) (aO (tgN 9) cQ)))) gV)
 (bD (sIf (nR (eB (e2 gEq (aC false 10) (eC (.int 2)))) (eB (e2 gNe (aC false 3) (eAp bu aG)))) (dw (Fy (ee2 gIx (eUp (aC false 3)) (eIo aq [0] (cu (ak (eAp cW (ak (aC false 3) aG)) aG)))) m8 (lE (eC (.int 2)))) (tgT 2 (aO (tgN 9) (aO (tgN 8) cQ)))) gV)
 (bD (dw (ee2 cB (eUp (e2 je (e2 gIx (aC false 5) (aC false 9)) (e2 gIx (aC false 5) (aC false 8)))) (ee2 gH (eUp (aC false 2)) (ee2 je (eIo aq [0] (cu (ak (eC (.int 5)) aG))) (eUp (eC (.int 2)))))) (tgN 11))
 (bD (ur (pC (uE (eB (e2 gGt (aC false 6) (eC (.int 0))))) (eeB (ee2 gEq (eIo aq [0] (cu (ak (aC false 6) aG))) (eUp (eC (.int 0)))))) (dw (ee2 cB (eUp (aC false 11)) (ee2 gIx (eUp (eAp bu (ak (eC (.int 1)) (ak (e1 uc (eC (.int 1))) (ak (eC (.int 2)) (ak (e2 lr (eC (.int 10)) (eC (.int 11))) aG)))))) (eIo aq [0] (cu (ak (eC (.int 4)) aG))))) (tgN 11)) gV)
 (qM bC 3 (o8 3) (ak (eAp eU (ak (aC false 8) (ak (aC false 9) (ak (aC false 11) aG)))) aG))))))))))
 (kJ 3)))))))
def dh:List D->Option (D×List D):=fnI (λi=>i==0) 3 9 ((bD (eQ (eAp bu aG) (tgN 3))
 (bD (rH (Br (eIo bG [0] (cu (ak (aC false 1) (ak (aC false 2) aG))))) (tgT 3 (aO (tgN 4) (aO (tgN 5) (aO (tgN 6) cQ)))) (bD (dw (eIo aq [0] (cu (ak (eC (.int 10)) aG))) (tgN 7))
 (bD (ur (pC (uE (eB (e2 gNe (aC false 3) (eAp bu aG)))) (eeB (ee2 gEq (eIo aq [0] (cu (ak (eC (.int 3)) aG))) (eUp (eC (.int 0)))))) (dw (ee2 gIx (ee2 gIx (eUp (aC false 3)) (eIo aq [0] (cu (ak (eAp cW (ak (aC false 3) aG)) aG)))) (ee2 cB (eUp (eC (.int 3))) (eIo aq [0] (cu (ak (eC (.int 2)) aG))))) (tgN 7)) gV)
 (bD (dw (ee2 cB (eUp (aC false 7)) (ee2 gIx (mC bu (cA (ee2 cB (eUp (eC (.int 1))) (eIo aq [0] (cu (ak (eC (.int 6)) aG)))) (cA (ee2 cB (eUp (eC (.int 1))) (eIo aq [0] (cu (ak (eC (.int 6)) aG)))) (cu (ak (eC (.int 1)) (ak (e2 lr (eC (.int 10)) (eC (.int 7))) aG)))))) (eIo aq [0] (cu (ak (eC (.int 4)) aG))))) (tgN 8))
 (bD (ur (pC (uE (eB (e2 gNe (aC false 3) (eAp bu aG)))) (eeB (ee2 gEq (eIo aq [0] (cu (ak (eC (.int 4)) aG))) (eUp (eC (.int 0)))))) (dw (mC zM (cA (eUp (e2 cB (aC false 7) (eC (.int 1)))) (cA (ee2 gIx (ee2 gIx (eUp (aC false 3)) (eIo aq [0] (cu (ak (eAp cW (ak (aC false 3) aG)) aG)))) (eUp (eC (.int 4)))) (cu aG)))) (tgN 8)) gV)
 (qM bC 3 (o8 3) (ak (eAp eU (ak (aC false 4) (ak (aC false 5) (ak (aC false 6) (ak (aC false 7) (ak (aC false 8) aG)))))) aG)))))))
 (kJ 3))))
def bK:List D->Option D:=fnP 1 3 ((bD (eQ (eAp bu (ak (eC (.int 0)) aG)) (tgN 1))
 (bD (qT (itS (aC false 0)) (tgN 2) (bD (eQ (e2 cB (aC false 1) (eAp bu (ak (e2 gIx (aC false 2) (eC (.int 3))) (ak (e2 gIx (aC false 2) (eC (.int 4))) (ak (e2 je (e2 gIx (aC false 2) (eC (.int 4))) (eC (.int 1))) (ak (e2 cB (e2 gIx (aC false 2) (eC (.int 3))) (eC (.int 1))) aG)))))) (tgN 1))
 (sIf (eB (e2 gGt (e2 gIx (aC false 2) (eC (.int 3))) (eC (.int 0)))) (qM bC 1 (o8 1) (ak (e2 je (e2 gIx (aC false 2) (eC (.int 3))) (eC (.int 1))) aG)) gV)))
 (gW (eAp gQ (ak (aC false 1) aG))))))
def aU:List D->Option D:=fnP 2 2 ((gW (ir [none,none,none,none,none,none,some 1] (itE (ak (aC false 0) aG)) (tpT 2 (aO (tpN 0) (aO (tpT 5 (aO (tpN 1) (aO (tpN 2) (aO (tpN 3) (aO (tpN 4) (aO (tpN 5) cQ)))))) cQ))) (eB (jn gLe gLt (aC false 4) (aC false 6) (aC false 5))) (aC false 0))))
def cZ:List D->Option (D×List D):=fnI (λi=>i==0) 1 1 ((pB (ee2 gIx (eUp (eAp bu (ak (eC (.int 0)) (ak (eC (.int 0)) (ak (eC (.int 0)) (ak (eC (.int 2)) (ak (eC (.int 3)) (ak (eC (.int 7)) (ak (eC (.int 1000)) (ak (eC (.int 1)) aG)))))))))) (eIo aq [0] (cu (ak (eC (.int 8)) aG))))))
def dm:List D->Option D:=fnP 2 3 ((bD (eQ (ir [none,some 1,some 0] (nO (ak (eAp cW (ak (aC false 0) aG)) aG)) (tpN 0) (nR (lH (eB (e2 gLt (aC false 1) (e2 gIx (e2 gIx (aC false 2) (aC false 0)) (eC (.int 3)))))) (eB (e2 gLt (aC false 1) (e2 gIx (e2 gIx (aC false 2) (aC false 0)) (eC (.int 4)))))) (aC false 0)) (tgN 2))
 (sFz 2 (gW (eAp eU (ak (aC false 2) (ak (ir [none,some 0] (itS (aC false 2)) (tpN 0) eTT (eSl (e2 gIx (aC false 1) (aC false 0)) m8 (lE (eC (.int 3))))) aG)))))))
def aM(Frec:List D->Option D):List D->Option D:=fnP 2 2 ((bD (sIf (pH (eAp bV (ak (aC false 1) (ak (eAp eU (ak (eC (.ty "list")) (ak (eC (.ty "tuple")) aG))) aG)))) (bD (sIf (eOr (lH (pH (eAp bV (ak (aC false 0) (ak (eAp eU (ak (eC (.ty "list")) (ak (eC (.ty "tuple")) aG))) aG))))) (eB (e2 gNe (eAp bV (ak (aC false 0) (ak (eC (.ty "list")) aG))) (eAp bV (ak (aC false 1) (ak (eC (.ty "list")) aG)))))) (gW (eC (.bl false))) gV)
 (gW (vL (e2 gEq (eAp cW (ak (aC false 0) aG)) (eAp cW (ak (aC false 1) aG))) (eAp Et (ak (ir [none,none] (Cg (ak (aC false 0) (ak (aC false 1) aG))) (tpT 2 (aO (tpN 0) (aO (tpN 1) cQ))) eTT (eAp (cM Frec) (ak (aC false 0) (ak (aC false 1) aG)))) aG))))) gV)
 (bD (sIf (eOr (eB (e2 gIs (aC false 1) (eC .non))) (pH (eAp bV (ak (aC false 1) (ak (eC (.ty "str")) aG))))) (gW (vL (e2 gEq (aC false 0) (aC false 1)) (e2 gEq (eAp bV (ak (aC false 0) (ak (eC (.ty "str")) aG))) (eAp bV (ak (aC false 1) (ak (eC (.ty "str")) aG)))))) gV)
 (gW (vL (eAp bV (ak (aC false 0) (ak (eC (.ty "int")) aG))) (vL (e2 gEq (eAp bV (ak (aC false 0) (ak (eC (.ty "bool")) aG))) (eAp bV (ak (aC false 1) (ak (eC (.ty "bool")) aG)))) (e2 gEq (aC false 0) (aC false 1))))))))
def dg:List D->Option D:=(aM (aM (aM (aM (λ_=>none)))))
def iV:List D->Option D:=fnP 1 9 ((bD (qT (nO (ak (e2 cB (eC (.int 1)) (eAp jP (ak (eC (.int 8)) (ak (eAp cW (ak (aC false 0) aG)) aG)))) aG)) (tgN 1) (bD (eQ (eAp (cM b_) (ak (aC false 0) (ak (aC false 1) aG))) (tgN 2))
 (bD (dw (eIo cL [2] (cu aG)) (tgN 3))
 (bD (dw (eIo dh [2] (cA (eUp (aC false 3)) (cA (eIo cZ [2] (cu aG)) (cu aG)))) (tgN 4))
 (bD (sFz 4 (sFz 3 (eQ (eAp zf (ak (aC false 4) aG)) (tgN 5))))
 (bD (qT (itS (eAp (cM bK) (ak (aC false 4) aG))) (tgN 6) (bD (eQ (e2 gIx (eAp (cM dm) (ak (aC false 4) (ak (aC false 6) aG))) (eC (.int 0))) (tgN 7))
 (bD (eQ (eAp (cM aU) (ak (aC false 4) (ak (aC false 6) aG))) (tgN 8))
 (bD (sIf (lH (pH (eAp (cM dg) (ak (aC false 8) (ak (aC false 7) aG))))) (gW (eC (.bl false))) gV)
 (bD (qM bC 8 (o8 8) (ak (e1 uc (eC (.int 1))) aG))
 (sIf (lH (pH (eAp (cM dg) (ak (eAp (cM aU) (ak (eAp jY (ak (aC false 4) aG)) (ak (aC false 6) aG))) (ak (aC false 7) aG))))) (gW (eC (.bl false))) gV))))))
 (sIf (eB (e2 gNe (aC false 4) (aC false 5))) (gW (eC (.bl false))) gV)))))))
 (gW (e2 gEq (eAp (cM aU) (ak (eAp bu aG) (ak (eC (.int 5)) aG))) (eAp bu aG)))))
noncomputable abbrev tp(a b:Int):D:=.lst .own [.int a,.int b]
def Dr(a b m:Int)(q:D×List D):Prop:=∃r Y N:Int,q=(.int r,[tp Y N,.int m])/\0<=r/\r<m/\0<=Y
local macro_rules
 |`(tactic|simp_arith[$xs,*])=>`(tactic|simp[aL,uC,bh,dO,w_ite,Jg,eQ,dw,qm,sIf,ur,gW,pB,kJ,gV,qT,rH,sFz,qi,qM,xZ,upS,tgN,tgT,aO,cQ,rW,tpN,tpT,o8,Ou,aC,eC,aG,ak,eAp,eUp,uE,cu,ee2,cA,mC,e2,e1,eB,eeB,pH,nR,eOr,lH,pC,vL,eTT,isB,nO,itS,itE,vy,bW,ir,qy,eSl,Fy,Er,yq,m8,lE,eMt,Oz,eIo,objs,jm,cM,kO,gM,clean,aA,az,aB,aD,iD,iH,view,gf,mkV,mkF,fz,fzL,fzo,fY,mkO,fnP,fnI,en0,outs,iY,fH,obC,truth,$xs,*])
variable{a b:Int}
theorem Dc{m:Int}(O:0<=a)(V:0<m)(I:m<2 ^ 60):Wp (aq [tp a b,.int m]) (Dr a b m):=by
 have h2:m<18446744073709551616:=by omega
 have J:∀x:Int,-18446744073709551616<x % 40009+7/\x % 40009+7<18446744073709551616:=λx=>by omega
 by_cases h:0<a
 .simp_arith[aq,cB,je,gH,qg,jA,lr,uc,gLt,gGt,gGe,gIx,bu,eU,cW,qR,uZ,jP,gIs,wD,atI,ixN,bC,mY,gSl,De,jY,h,V,h2,J]
  exact⟨_,_,_,rfl,aau _ (by omega),Zu _ V,Int.ediv_nonneg O (by omega)⟩
 .simp_arith[aq,cB,je,gH,qg,jA,lr,uc,gLt,gGt,gGe,gIx,bu,eU,cW,qR,uZ,jP,gIs,wD,atI,ixN,bC,mY,gSl,De,jY,h,V,h2,J]
  exact⟨_,_,_,rfl,aau _ (by omega),Zu _ V,O⟩
theorem my{m:Int}(O:0<=a)(V:0<m)(I:m<2 ^ 60):∃r Y N,aq [tp a b,.int m]=some (.int r,[tp Y N,.int m])/\0<=r/\r<m/\0<=Y:=by
 obtain⟨q,e,r,Y,N,rfl,h⟩:=Dc (b:=b) O V I;exact⟨r,Y,N,e,h⟩
theorem cO{m:Int}{Q:D×List D->Prop}(O:0<=a)(V:0<m)(I:m<2 ^ 60)(h:∀r Y j,0<=r->r<m->0<=Y->Q (.int r,[tp Y j,.int m])):Wp (aq [tp a b,.int m]) Q:=by
 refine(Dc (b:=b) O V I).mono ?_;rintro _ ⟨r,Y,j,rfl,h1,h2,N⟩;exact h r Y j h1 h2 N
def Tn(q:D×List D):Prop:=∃t Y N:Int,q=(.int t,[tp Y N])/\0<=t/\t<=1000/\0<=Y
theorem Lq(O:0<=a):Wp (cZ [tp a b]) Tn:=by
 obtain⟨r,Y,j,e,h1,h2,N⟩:=my (b:=b) O (show(0:Int)<8 by decide) (by decide);have Z:r=0∨r=1∨r=2∨r=3∨r=4∨r=5∨r=6∨r=7:=by omega
 rcases Z with rfl|rfl|rfl|rfl|rfl|rfl|rfl|rfl<;>simp_arith[cZ,cB,je,gH,qg,jA,lr,uc,gLt,gGt,gGe,gIx,bu,eU,cW,qR,uZ,jP,gIs,wD,atI,ixN,bC,mY,gSl,De,jY,e]<;>exact⟨_,_,_,rfl,by decide,by decide,N⟩
def nZ:List Str:=["b","aa","zebra","c","quartzes","ab","m","knows","d","mm","likes","z","a","ba","abcdefgh","y"]
def Nm(q:D×List D):Prop:=∃(ns:List Str)(Y N:Int),q=(.lst .own (ns.map D.str),[tp Y N])/\(∀x∈ns,x∈nZ∨x="")/\ns.Nodup/\ns.length<=14/\0<=Y
theorem Hi:uq "b aa zebra c quartzes ab m knows d mm likes z a ba abcdefgh y" " "=some nZ:=by decide +kernel
theorem Km:∀m:Fin 16,((Qq 14).map λ(k:Nat)=>(nZ[(((m.val:Int)+5*(k:Int)) % 16).toNat]?).getD "").Nodup:=by decide +kernel
theorem Mh{r:Int}(U:0<=r)(Z:r<16)(hn:n<=14):((Qq n).map λ(k:Nat)=>(nZ[((r+5*(k:Int)) % 16).toNat]?).getD "").Nodup:=by
 obtain⟨m,rfl⟩:∃m:Nat,r=m:=⟨r.toNat,by omega⟩;have h:=Km ⟨m,by omega⟩;exact List.Nodup.sublist (List.Sublist.map _ (List.range_sublist.mpr hn)) h
theorem Gz(O:0<=a):Wp (cL [tp a b]) Nm:=by
 obtain⟨Y,U,Z,e1,a7,a0,a6⟩:=my (b:=b) O (show(0:Int)<16 by decide) (by decide);obtain⟨r2,a2,q,e2,b6,b9,a8⟩:=my (b:=Z) a6 (show(0:Int)<3 by decide) (by decide);obtain⟨I,a3,b3,e3,c3,c4,b7⟩:=my (b:=q) a8 (show(0:Int)<5 by decide) (by decide);obtain⟨F,a4,b4,e4,c5,c2,b8⟩:=my (b:=b3) b7 (show(0:Int)<5 by decide) (by decide);obtain⟨r5,a5,b5,e5,c1,c0,a9⟩:=my (b:=b4) b8 (show(0:Int)<8 by decide) (by decide);simp_arith[cL,pX,Hi,bu,cB,jP,e1,e2,e3,e4,e5];clear e1 e2 e3 e4 e5;obtain⟨n,hn,n0,N⟩:∃n:Int,gIx (D.lst Mk.own [D.int r2,D.int (10+I),D.int (4+F)]) (D.int (if r5<2 then r5 else 2))=some (.int n)/\0<=n/\n<=14:=by
  have:r5=0∨r5=1∨2<=r5:=by omega
  rcases this with rfl|rfl|h
  .exact⟨r2,rfl,b6,by omega⟩
  .exact⟨10+I,rfl,by omega,by omega⟩
  .rw[Pn (by omega)]
   exact⟨4+F,rfl,by omega,by omega⟩
 simp only[hn,eV,dJ,aL,view,aA,az,true_and];rw[Pk (by omega),aL];refine⟨by rw[oE];omega,?_⟩;rw[vh (p:=λ_=>true) (f:=λd=>match d with|.int k=>.str ((nZ[((Y+5*k) % 16).toNat]?).getD "")|_=>.non)]
 .rw[aL,filter_tt,Gw]
  have e:(Qq n.toNat).map (λ(k:Nat)=>D.str ((nZ[((Y+5*(k:Int)) % 16).toNat]?).getD ""))=((Qq n.toNat).map λ(k:Nat)=>(nZ[((Y+5*(k:Int)) % 16).toNat]?).getD "").map D.str:=by rw[Qp];rfl
  show(aB ((Qq n.toNat).map (λ(k:Nat)=>D.str ((nZ[((Y+5*(k:Int)) % 16).toNat]?).getD "")))=true/\aD ((Qq n.toNat).map (λ(k:Nat)=>D.str ((nZ[((Y+5*(k:Int)) % 16).toNat]?).getD "")))=true)/\Nm (D.lst Mk.own ((Qq n.toNat).map (λ(k:Nat)=>D.str ((nZ[((Y+5*(k:Int)) % 16).toNat]?).getD ""))),[tp a5 b5]);rw[e];refine⟨⟨eV _,dJ _⟩,_,_,_,rfl,λx J=>?_,Mh a7 a0 (by omega),by simp;omega,a9⟩;obtain⟨k,_,rfl⟩:=QF.mp J;cases j:nZ[((Y+5*(k:Int)) % 16).toNat]? with
  |none=>exact .inr rfl
  |some y=>exact .inl (QS j)
 .intro d hd
  obtain⟨k,hk,rfl⟩:=HD hd;have V:(-18446744073709551616:Int)<5:=by decide
  obtain⟨x,J,B,b0⟩:=gY (f:=D.str) (l:=nZ) (i:=(Y+5*(k:Int)) % 16) (by omega) (by show _<(16:Int);omega);simp[tpN,aL,eTT,e2,aC,view,dW,eC,gH,cB,jA,gIx,B,b0]
def Jo(ns:List Str)(t:Int)(q:D×List D):Prop:=∃(js:List Jt)(Y N:Int),q=(.lst .own (js.map jD),[tp Y N,.lst .frz (ns.map D.str),.int t])/\(∀j∈js,j.1∈ns/\j.2.1∈ns)/\js.length<=2*ns.length/\0<=Y/\∀j∈js,j.2.2.natAbs<=1000000000000
def JoI(ns:List Str)(t w:Int)(k:Nat)(acc:List D)(ρ:En):Prop:=∃(ps:List (Str×Int))(Y N:Int),acc=ps.map pD/\ps.map (·.1)=ns.take k/\(∀p∈ps,p.2.natAbs<=400000000000)/\0<=Y/\ρ=[some (tp Y N),some (D.lst Mk.frz (Qc D.str ns)),some (D.int t),some (D.lst Mk.own []),some (D.int w),none,none,none,none,none,none,none]
def JoF(ns:List Str)(t w sl:Int)(ks:List Key)(ds:List D)(k:Nat)(ρ:En):Prop:=∃(js:List Jt)(Y N:Int)(B F J I q:Option D),ρ=[some (tp Y N),some (D.lst Mk.frz (Qc D.str ns)),some (D.int t),some (D.lst Mk.own (js.map jD)),some (D.int w),some (D.dct .own ks ds),some (D.int sl),B,F,J,I,q]/\(∀j∈js,j.1∈ns/\j.2.1∈ns)/\js.length<=k/\0<=Y/\∀j∈js,j.2.2.natAbs<=1000000000000
theorem Ds{ps:List (Str×Int)}{B:Nat}(Z:ps.length<=50000)(U:∀p∈ps,p.2.natAbs<=B):Wp (pZ [.lst .own (ps.map pD)]) λd=>(∃ks ds,d= .dct .own ks ds/\(∀e∈ds,∃i:Int,e= .int i/\i.natAbs<=B)/\∀x∈ps.map (·.1),∃(j:Nat)(i:Int),jf ks (.inr x)=some j/\ds[j]? =some (.int i))/\clean d=true:=by
 simp only[pZ];rw[Pk ⟨rfl,by simpa using Z⟩,yu];refine aL.mpr ?_;have hok:=pU (es:=ps.map λp=>((T8 p.1:Key),D.int p.2)) (ks:=[]) (ds:=[]) rfl;have I:=mQ (λd=>∃i:Int,d= .int i/\i.natAbs<=B) (es:=ps.map λp=>((T8 p.1:Key),D.int p.2)) (ks:=[]) (ds:=[]) (by simp) (λq N=>by obtain⟨p,Y,rfl⟩:=QF.mp N;exact⟨p.2,rfl,U p Y⟩);refine⟨⟨_,_,rfl,I,λx J=>?_⟩,Af (di λd hd=>by obtain⟨i,rfl,_⟩:=I d hd;rfl) (cP λd hd=>by obtain⟨i,rfl,_⟩:=I d hd;rfl)⟩;obtain⟨p,Y,rfl⟩:=QF.mp J;obtain⟨j,h1,h2⟩:=IK ((hok.2 (T8 p.1)).mpr (.inr ⟨_,QF.mpr ⟨p,Y,rfl⟩,rfl⟩));have V:j<(cV [] [] (ps.map λp=>((T8 p.1:Key),D.int p.2))).2.length:=by rw[←hok.1];exact h2
 obtain⟨i,hi,_⟩:=I _ (RZ V);exact⟨j,i,h1,by rw[Py V,hi]⟩
variable{t:Int}
theorem xW{ns:List Str}(O:0<=a)(f7:ns.length<=1000)(ht:0<=t/\t<=1000):Wp (bG [tp a b,.lst .frz (ns.map D.str),.int t]) (Jo ns t):=by
 simp only[bG,fnI,en0,QL,Q6,PP,Ru,R3,Qf,bh,Nat.reduceAdd,Nat.reduceSub,RC,RT];refine bB (λρ=>ρ=[some (tp a b),some (D.lst Mk.frz (Qc D.str ns)),some (D.int t),some (D.lst Mk.own []),none,none,none,none,none,none,none,none]) (λQ q=>?_) ?_
 .simp_arith[bu]
  exact q _ rfl
 rintro _ rfl;refine bB (λρ=>∃(w a1 b1:Int),3<=w/\w<=400000000000/\0<=a1/\ρ=[some (tp a1 b1),some (D.lst Mk.frz (Qc D.str ns)),some (D.int t),some (D.lst Mk.own []),some (D.int w),none,none,none,none,none,none,none]) (λQ q=>?_) ?_
 .simp_arith[bu,gH,lr]
  refine cO O (by omega) (by omega) λr1 a1 b1 p1 q1 Z=>?_;obtain⟨w,V,w0,w1⟩:∃w:Int,gIx (D.lst Mk.own [D.int 3,D.int 3,D.int 12,D.int 12,D.int 12,D.int 400000000000]) (D.int r1)=some (.int w)/\3<=w/\w<=400000000000:=by
   have:r1=0∨r1=1∨r1=2∨r1=3∨r1=4∨r1=5:=by omega
   rcases this with rfl|rfl|rfl|rfl|rfl|rfl<;>exact⟨_,rfl,by decide,by decide⟩
  simp_arith[V];exact q _ ⟨w,a1,b1,w0,w1,Z,rfl⟩
 rintro _ ⟨w,a1,b1,w0,w1,Z,rfl⟩;refine bB (λρ=>∃(ks:List Key)(ds:List D)(a' b':Int),0<=a'/\(∀e∈ds,∃i:Int,e= .int i/\i.natAbs<=400000000000)/\(∀x∈ns,∃(j:Nat)(i:Int),jf ks (.inr x)=some j/\ds[j]? =some (.int i))/\ρ=[some (tp a' b'),some (D.lst Mk.frz (Qc D.str ns)),some (D.int t),some (D.lst Mk.own []),some (D.int w),some (D.dct .own ks ds),none,none,none,none,none,none]) (λQ q=>?_) ?_
 .simp_arith[dW,iM,eV,dJ]
  refine⟨by omega,Dh (JoI ns t w) ⟨[],a1,b1,rfl,rfl,by simp,Z,rfl⟩ ?_ ?_⟩
  .rintro i d acc ρ hi ⟨ps,a2,b2,rfl,hps,hpb,s2,rfl⟩
   rw[List.getElem?_map]at hi;cases J:ns[i]? with
   |none=>simp[J]at hi
   |some x=>
    obtain rfl:D.str x=d:=by simpa[J]using hi
    simp_arith[gH,eU];refine cO s2 (by omega) (by omega) λr3 a3 b3 p3 q3 s3=>?_;simp_arith[je];exact⟨ps++[(x,r3-w)],_,_,by simp[pD],by rw[Sd,hps,VM,J];rfl,λp Y=>(Mz.mp Y).elim (hpb p) λz=>by rw[PQ.mp z];show(r3-w).natAbs<=_;omega,s3,rfl⟩
  .rintro ys ρ ⟨ps,a2,b2,rfl,hps,hpb,s2,rfl⟩
   rw[Qe,XH]at hps;have e0:aD (ps.map pD)=true:=cP λd hd=>by obtain⟨x,_,rfl⟩:=QF.mp hd;rfl
   have g5:ps.length=ns.length:=by rw[←hps];simp
   refine⟨e0,Wp.mono (Ds (by omega) hpb) ?_⟩;rintro _ ⟨⟨ks,ds,rfl,c2,c3⟩,d5⟩;rw[hps]at c3;have c9:(aA (D.dct .own ks ds)=true/\az (D.dct .own ks ds)=true):=by simpa[clean]using d5
   exact⟨c9,q _ ⟨ks,ds,a2,b2,s2,c2,c3,rfl⟩⟩
 rintro _ ⟨ks,ds,a2,b2,s2,c2,c3,rfl⟩;refine bB (λρ=>∃(sl a' b':Int),0<=sl/\sl<=12/\0<=a'/\ρ=[some (tp a' b'),some (D.lst Mk.frz (Qc D.str ns)),some (D.int t),some (D.lst Mk.own []),some (D.int w),some (D.dct .own ks ds),some (D.int sl),none,none,none,none,none]) (λQ q=>?_) ?_
 .simp_arith[bu]
  refine cO s2 (by omega) (by omega) λr4 a4 b4 p4 q4 s4=>?_;obtain⟨sl,d7,d2,d3⟩:∃w:Int,gIx (D.lst Mk.own [D.int 0,D.int 0,D.int 3,D.int 12]) (D.int r4)=some (.int w)/\0<=w/\w<=12:=by
   have:r4=0∨r4=1∨r4=2∨r4=3:=by omega
   rcases this with rfl|rfl|rfl|rfl<;>exact⟨_,rfl,by decide,by decide⟩
  simp_arith[d7];exact q _ ⟨sl,a4,b4,d2,d3,s4,rfl⟩
 rintro _ ⟨sl,a4,b4,d2,d3,s4,rfl⟩;refine bB (JoF ns t w sl ks ds (2*ns.length)) (λQ q=>?_) ?_
 .simp_arith[cW,dW,cB,gH]
  refine cO s4 (by omega) (by omega) λr5 a5 b5 p5 q5 s5=>?_;simp_arith[aL];refine⟨by omega,qG (JoF ns t w sl ks ds) ⟨[],a5,b5,_,_,_,_,_,rfl,by simp,by simp,s5,by simp⟩ ?_ ?_⟩
  .rintro k d ρ hk ⟨js,a6,b6,x7,x8,x9,c5,a0,rfl,b0,c7,s6,c1⟩
   obtain⟨g3,rfl⟩:=yJ hk;have hn:0<ns.length:=by omega
   simp only[tgN,clean,aA,az,Ti,Qf,aL,Qy,QT];refine bB (λρ=>∃(x y:Str)(a' b':Int),x∈ns/\y∈ns/\0<=a'/\ρ=[some (tp a' b'),some (D.lst Mk.frz (Qc D.str ns)),some (D.int t),some (D.lst Mk.own (js.map jD)),some (D.int w),some (D.dct .own ks ds),some (D.int sl),some (D.int k),some (D.str x),some (D.str y),c5,a0]) (λQ q=>?_) ?_
   .simp_arith[eV,dJ,dW,fX,iM,nF,mX,qW,rR,pW,yc,zT,Bh,Bw,zR,sS,mz,len_strs,jG,gK,xV,Ao,eq_int,lL]
    refine cO s6 (by omega) (by omega) λr7 a7 b7 p7 q7 s7=>?_;obtain⟨x,J,_,e4⟩:=gY (f:=D.str) (l:=ns) p7 q7;simp_arith[eV,dJ,dW,fX,iM,nF,mX,qW,rR,pW,yc,zT,Bh,Bw,zR,sS,mz,len_strs,jG,gK,xV,Ao,eq_int,lL,e4];refine cO s7 (by omega) (by omega) λr8 a8 b8 p8 q8 s8=>?_;obtain⟨y,hy,_,e6⟩:=gY (f:=D.str) (l:=ns) p8 q8;simp_arith[eV,dJ,dW,fX,iM,nF,mX,qW,rR,pW,yc,zT,Bh,Bw,zR,sS,mz,len_strs,jG,gK,xV,Ao,eq_int,lL,e6];exact q _ ⟨x,y,_,_,J,hy,s8,rfl⟩
   rintro _ ⟨x,y,a7,b7,J,hy,s7,rfl⟩;refine bB (λρ=>∃(v:Int)(a' b':Int),0<=a'/\ρ=[some (tp a' b'),some (D.lst Mk.frz (Qc D.str ns)),some (D.int t),some (D.lst Mk.own (js.map jD)),some (D.int w),some (D.dct .own ks ds),some (D.int sl),some (D.int k),some (D.str x),some (D.str y),some (D.int v),a0]) (λQ q=>?_) ?_
   .simp_arith[aL]
    refine cO s7 (by omega) (by omega) λr8 a8 b8 p8 q8 s8=>?_;simp_arith[aL];exact q _ ⟨_,_,_,s8,rfl⟩
   rintro _ ⟨v,a8,b8,s8,rfl⟩;refine bB (λρ=>∃(y:Str),y∈ns/\ρ=[some (tp a8 b8),some (D.lst Mk.frz (Qc D.str ns)),some (D.int t),some (D.lst Mk.own (js.map jD)),some (D.int w),some (D.dct .own ks ds),some (D.int sl),some (D.int k),some (D.str x),some (D.str y),some (D.int v),a0]) (λQ q=>?_) ?_
   .simp_arith[eq_int]
    split
    .exact q _ ⟨x,J,rfl⟩
    .exact q _ ⟨y,hy,rfl⟩
   clear hy y;rintro _ ⟨y,hy,rfl⟩;have two:∀{Q:Fl->Prop}{a8 b8:Int}{x y:Str}(c:Int)(sw:Bool),x∈ns->y∈ns->0<=a8->(∀x y a' b',x∈ns->y∈ns->0<=a'->Q (.nx [some (tp a' b'),some (D.lst Mk.frz (Qc D.str ns)),some (D.int t),some (D.lst Mk.own (js.map jD)),some (D.int w),some (D.dct .own ks ds),some (D.int sl),some (D.int k),some (D.str x),some (D.str y),some (D.int v),a0]))->
     Wp (sIf (nR (eB (e2 gEq (aC false 10) (eC (.int c)))) (eB (e2 gNe (aC false 3) (eAp bu aG)))) (dw (Fy (ee2 gIx (eUp (aC false 3)) (eIo aq [0] (cu (ak (eAp cW (ak (aC false 3) aG)) aG)))) m8 (lE (eC (.int 2)))) (tgT 2 (if sw then aO (tgN 9) (aO (tgN 8) cQ)else aO (tgN 8) (aO (tgN 9) cQ)))) gV [some (tp a8 b8),some (D.lst Mk.frz (Qc D.str ns)),some (D.int t),some (D.lst Mk.own (js.map jD)),some (D.int w),some (D.dct .own ks ds),some (D.int sl),some (D.int k),some (D.str x),some (D.str y),some (D.int v),a0]) Q:=by
    intro Q a8 b8 x y c sw J hy s8 q;simp_arith[eV,dJ,dW,fX,iM,nF,mX,qW,rR,pW,yc,zT,Bh,Bw,zR,sS,mz,len_strs,jG,gK,xV,Ao,eq_int,lL,bu];split
    .by_cases hjn:js=[]
     .subst hjn
      simp;exact q _ _ _ _ J hy s8
     .have hjp:0<js.length:=Ur.mpr hjn
      simp_arith[hjn,eV,dJ,dW,fX,iM,nF,mX,qW,rR,pW,yc,zT,Bh,Bw,zR,sS,mz,len_strs,jG,gK,xV,Ao,eq_int,lL];refine cO s8 (by omega) (by omega) λr9 a9 b9 p9 q9 s9=>?_;obtain⟨j,F,_,d8⟩:=gY (f:=jD) (l:=js) p9 q9;cases sw<;>simp_arith[eV,dJ,dW,fX,iM,nF,mX,qW,rR,pW,yc,zT,Bh,Bw,zR,sS,mz,len_strs,jG,gK,xV,Ao,eq_int,lL,d8]
      .exact q _ _ _ _ (b0 j F).1 (b0 j F).2 s9
      .exact q _ _ _ _ (b0 j F).2 (b0 j F).1 s9
    .exact q _ _ _ _ J hy s8
   refine bB (λρ=>∃(x y:Str)(a' b':Int),x∈ns/\y∈ns/\0<=a'/\ρ=[some (tp a' b'),some (D.lst Mk.frz (Qc D.str ns)),some (D.int t),some (D.lst Mk.own (js.map jD)),some (D.int w),some (D.dct .own ks ds),some (D.int sl),some (D.int k),some (D.str x),some (D.str y),some (D.int v),a0]) (λQ q=>two 1 false J hy s8 λx y a' b' h1 h2 N=>q _ ⟨x,y,a',b',h1,h2,N,rfl⟩) ?_;clear J hy x y;rintro _ ⟨x,y,a9,b9,J,hy,s9,rfl⟩;refine bB (λρ=>∃(x y:Str)(a' b':Int),x∈ns/\y∈ns/\0<=a'/\ρ=[some (tp a' b'),some (D.lst Mk.frz (Qc D.str ns)),some (D.int t),some (D.lst Mk.own (js.map jD)),some (D.int w),some (D.dct .own ks ds),some (D.int sl),some (D.int k),some (D.str x),some (D.str y),some (D.int v),a0]) (λQ q=>two 2 true J hy s9 λx y a' b' h1 h2 N=>q _ ⟨x,y,a',b',h1,h2,N,rfl⟩) ?_;clear J hy x y;rintro _ ⟨x,y,f2,f5,J,hy,e3,rfl⟩;obtain⟨jx,ix,d6,d4⟩:=c3 x J;obtain⟨jy,iy,f0,d0⟩:=c3 y hy;have bx:ix.natAbs<=400000000000:=by obtain⟨i,e,h⟩:=c2 _ (QS d4);cases e;exact h
   have bY:iy.natAbs<=400000000000:=by obtain⟨i,e,h⟩:=c2 _ (QS d0);cases e;exact h
   have e1:gf false ds=ds:=by
    rw[dH]
    conv=>rhs;rw[←UL ds]
    exact Sg λd hd=>by obtain⟨i,rfl,_⟩:=c2 d hd;rfl
   refine bB (λρ=>∃(st:Int)(a' b':Int),st.natAbs<=800000002000/\0<=a'/\ρ=[some (tp a' b'),some (D.lst Mk.frz (Qc D.str ns)),some (D.int t),some (D.lst Mk.own (js.map jD)),some (D.int w),some (D.dct .own ks ds),some (D.int sl),some (D.int k),some (D.str x),some (D.str y),some (D.int v),some (D.int st)]) (λQ q=>?_) ?_
   .have ht1: -18446744073709551616<t/\t<18446744073709551616:=by omega
    simp_arith[gIx,kY,e1,d6,d4,f0,d0,je];refine cO e3 (by omega) (by omega) λc0 d9 e5 g0 f1 c6=>?_;simp_arith[je,gH,cB,ht1];have U:(t*(c0-2)).natAbs<=2000:=by
     have I:c0=0∨c0=1∨c0=2∨c0=3∨c0=4:=by omega
     rcases I with rfl|rfl|rfl|rfl|rfl<;>omega
    exact q _ ⟨_,_,_,by omega,c6,rfl⟩
   rintro _ ⟨st,d9,e5,f9,c6,rfl⟩;refine bB (λρ=>∃(st:Int)(a' b':Int),st.natAbs<=1000000000000/\0<=a'/\ρ=[some (tp a' b'),some (D.lst Mk.frz (Qc D.str ns)),some (D.int t),some (D.lst Mk.own (js.map jD)),some (D.int w),some (D.dct .own ks ds),some (D.int sl),some (D.int k),some (D.str x),some (D.str y),some (D.int v),some (D.int st)]) (λQ q=>?_) ?_
   .simp_arith[gGt]
    split
    .refine cO c6 (by omega) (by omega) λf8 e8 e7 f3 g2 c8=>?_
     simp_arith[eq_int];split
     .simp_arith[bu,uc,lr]
      refine cO c8 (by omega) (by omega) λc4 g4 g1 f4 f6 e9=>?_;have:c4=0∨c4=1∨c4=2∨c4=3:=by omega
      rcases this with rfl|rfl|rfl|rfl<;>simp_arith[gIx,atI,ixN,cB]<;>exact q _ ⟨_,_,_,by omega,e9,rfl⟩
     .exact q _ ⟨_,_,_,by omega,c8,rfl⟩
    .exact q _ ⟨_,_,_,by omega,c6,rfl⟩
   rintro _ ⟨B,e8,e7,d1,c8,rfl⟩;simp_arith[bC,eU];refine⟨by omega,⟨js++[(x,y,B)],_,_,_,_,_,_,_,by rw[Sd];rfl,?_,by simp;omega,c8,λj F=>(Mz.mp F).elim (c1 j) λz=>by rw[PQ.mp z];exact d1⟩⟩;intro j F;rcases Mz.mp F with z|z
   .exact b0 j z
   .obtain rfl:j=(x,y,B):=by simpa using z
    exact⟨J,hy⟩
  .rintro ρ ⟨js,a6,b6,x7,x8,x9,c5,a0,rfl,b0,c7,s6,c1⟩
   rw[oE]at c7;exact q _ ⟨js,a6,b6,x7,x8,x9,c5,a0,rfl,b0,by omega,s6,c1⟩
 rintro _ ⟨js,a6,b6,x7,x8,x9,c5,a0,rfl,b0,c7,s6,c1⟩;simp[kJ,aL,outs,dO];exact⟨js,a6,b6,rfl,b0,c7,s6,c1⟩
inductive Tyd:D->Prop
 |non:Tyd .non
 |bl (b:Bool):Tyd (.bl b)
 |int (i:Int):Tyd (.int i)
 |str (x:Str):Tyd (.str x)
 |tup {ds:List D}:(∀e∈ds,Tyd e)->Tyd (.tup ds)
 |lst {ds:List D}:(∀e∈ds,Tyd e)->Tyd (.lst .frz ds)
variable{ds:List D}
theorem eZ{f:D->D}(h:∀e∈ds,f e=e):ds.map f=ds:=by
 conv=>rhs;rw[←UL ds]
 exact Sg h
variable{d:D}
theorem Tyd.all(h:Tyd d):fz d=d/\fzo d=d/\(∀b,view b d=d)/\aA d=true/\az d=true/\jk d=true:=by
 induction h with
 |non=>exact⟨rfl,rfl,λ_=>rfl,rfl,rfl,rfl⟩
 |bl b=>exact⟨rfl,rfl,λ_=>rfl,rfl,rfl,rfl⟩
 |int b=>exact⟨rfl,rfl,λ_=>rfl,rfl,rfl,rfl⟩
 |str b=>exact⟨rfl,rfl,λ_=>rfl,rfl,rfl,rfl⟩
 |@tup ds _ F=>
  have hd:∀l:List D,(∀e∈l,jk e=true)->iB l=true:=λl=>by
   induction l with
   |nil=>intro _;rfl
   |cons x r j=>intro z;simp[iB,z x (by simp),j λe V=>z e (by simp[V])]
  exact⟨by rw[fz,gF,eZ λe V=>(F e V).1],by rw[fzo,eY,eZ λe V=>(F e V).2.1],λb=>by rw[view,dH,eZ λe V=>(F e V).2.2.1 b],by rw[aA];exact di λe V=>(F e V).2.2.2.1,by rw[az];exact cP λe V=>(F e V).2.2.2.2.1,by rw[jk];exact hd ds λe V=>(F e V).2.2.2.2.2⟩
 |@lst ds _ F=>
  have hd:∀l:List D,(∀e∈l,jk e=true)->iB l=true:=λl=>by
   induction l with
   |nil=>intro _;rfl
   |cons x r j=>intro z;simp[iB,z x (by simp),j λe V=>z e (by simp[V])]
  refine⟨by rw[fz,gF,eZ λe V=>(F e V).1];rfl,by rw[fzo,eY,eZ λe V=>(F e V).2.1];rfl,λb=>by rw[view,dH,eZ λe V=>(F e V).2.2.1 b];cases b<;>rfl,?_,?_,by rw[jk];exact hd ds λe V=>(F e V).2.2.2.2.2⟩
  .simp[aA,di λe V=>(F e V).2.2.2.1]
  .simp[az,cP λe V=>(F e V).2.2.2.2.1]
theorem Tyd.ofL(h:∀e∈ds,Tyd e):fzL ds=ds/\fY ds=ds/\(∀b,gf b ds=ds)/\aB ds=true/\aD ds=true:=
 ⟨by rw[gF,eZ λe V=>(h e V).all.1],by rw[eY,eZ λe V=>(h e V).all.2.1],λb=>by rw[dH,eZ λe V=>(h e V).all.2.2.1 b],di λe V=>(h e V).all.2.2.2.1,cP λe V=>(h e V).all.2.2.2.2.1⟩
theorem zq(f:D->Bool):∀ds:List D,yd (ds.map λd=>.bl (f d))=some (ds.map f)
 |[]=>rfl
 |d::r=>by simp[yd,zq f r]
theorem all_map(f:D->Bool)(ds:List D):Et [.lst .own (ds.map λd=>.bl (f d))]=some (.bl (ds.all f)):=by
 simp[Et,zq,Zk]
abbrev Pt:=Int×Int
def lst(h:Str):List Str->Str
 |[]=>h
 |x::r=>lst x r
def tot(js:List Jt):List Pt->Int
 |[]=>0
 |p::r=>p.2*((js[p.1.toNat]?).map λj=>j.2.2).getD 0+tot js r
theorem Ja{a b:Bool}:gEq (.bl a) (.bl b)=some (.bl (a==b)):=by
 unfold gEq;rw[Pk ⟨rfl,rfl,.sc (.bl a b)⟩];simp[dt,eqD]
def one(n:Nat):Str:=⟨#[n]⟩
variable{ρ:En}
theorem OD{j:Int}(h:f ρ=some [.int j])(h1: -(2 ^ 62)<=j)(h2:j<2 ^ 62):nO f ρ=some (true,eO 0 j.toNat):=by
 unfold nO;rw[h];simp only[Pb];rw[Pk ⟨h1,h2⟩]
theorem Ek(h:f ρ=some [.int n])(hn:n<=100):nO f ρ=some (true,eO 0 n):=by
 have h1:(n:Int)<=100:=by omega
 have:=OD h (Vs (by decide) (Int.natCast_nonneg n)) (Int.lt_of_le_of_lt h1 (by decide));rw[R7]at this;exact this
theorem gG(b:Bool)(l:List Int):gf b (l.map D.int)=l.map D.int:=by rw[dH,Qp];rfl
theorem yD(l:List Int):fzL (l.map D.int)=l.map D.int:=by rw[gF,Qp];rfl
def Tw(d:D):Prop:=∃a b:Int,d=tp a b/\0<=a
theorem Lw{k:Int}(J:0<=k)(j:k<=100)(Z:ns.length<=63):Wp (b_ [.lst .scr (ns.map D.int),.int k]) Tw:=by
 have B:cW [.lst .scr (ns.map D.int)]=some (.int ns.length):=by simp[cW]
 have F:∀c:Int,∀Q:Fl->Prop,(∀a b I,0<=a->Q (.ret (tp a b) I))->Wp (bD (eQ (e2 gH (eAp qR (ak (aC false 2) aG)) (eAp uZ (ak (e2 gGe (eAp qR (ak (aC false 2) aG)) (e2 lr (eC (.int 10)) (eC (.int 18)))) aG))) (tgN 3)) (gW (eAp bu (ak (aC false 3) (ak (e2 jA (e2 gH (e2 cB (e2 cB (e2 jA (aC false 2) (eC (.int 2147483647))) (e2 gH (eC (.int 7919)) (aC false 1))) (eC (.int 11))) (eC (.int 48271))) (eC (.int 2147483629))) aG)))) [some (.lst .scr (ns.map D.int)),some (.int k),some (.int c),none]) Q:=by
  intro c Q q;simp_arith[qR,lr,gGe,uZ,gH,jA,cB,bu];have N:(0:Int)<=if c<0 then -c else c:=by split<;>omega
  generalize (if c<0 then -c else c)=u at N⊢;refine⟨.inr ?_,q _ _ _ ?_⟩
  .split<;>omega
  .split
   .omega
   .omega
 by_cases h:k<(ns.length:Int)
 .obtain⟨c,_,_,hc⟩:=gY (f:=D.int) (l:=ns) (i:=k) J h
  simp only[b_,fnP,en0,QL,Q6,PP,Ru,R3,Qf,bh,Nat.reduceAdd,Nat.reduceSub,RC,RT];refine bB (λρ=>ρ=[some (.lst .scr (ns.map D.int)),some (.int k),some (.int 0),none]) (λQ q=>by simp_arith[aL];exact q _ rfl) ?_;rintro _ rfl;refine bB (λρ=>ρ=[some (.lst .scr (ns.map D.int)),some (.int k),some (.int c),none]) (λQ q=>by simp_arith[gG,B,gLt,h,xV,hc];exact q _ rfl) ?_;rintro _ rfl;exact F c _ λa b I O=>aL.mpr ⟨a,b,rfl,O⟩
 .simp only[b_,fnP,en0,QL,Q6,PP,Ru,R3,Qf,bh,Nat.reduceAdd,Nat.reduceSub,RC,RT]
  refine bB (λρ=>ρ=[some (.lst .scr (ns.map D.int)),some (.int k),some (.int 0),none]) (λQ q=>by simp_arith[aL];exact q _ rfl) ?_;rintro _ rfl;refine bB (λρ=>ρ=[some (.lst .scr (ns.map D.int)),some (.int k),some (.int 0),none]) (λQ q=>by simp_arith[gG,B,gLt,h];exact q _ rfl) ?_;rintro _ rfl;exact F 0 _ λa b I O=>aL.mpr ⟨a,b,rfl,O⟩
def fr(g:List Str):D:=.lst .frz (g.map D.str)
def MF(g:List Str):List Str:=(Aq (g.map λx=>[x])).map λk=>k.headD ""
def Con(js:List Jt)(g:List Str):Prop:=∀P:Str->Prop,(∃x∈g,P x)->(∃y∈g,¬P y)->∃j∈js,j.1∈g/\j.2.1∈g/\((P j.1/\¬P j.2.1)∨(¬P j.1/\P j.2.1))
structure Prt(js:List Jt)(ns:List Str)(gs:List (List Str)):Prop where
 p:QJ gs.flatten ns
 e:∀g∈gs,g≠[]
 c:∀g∈gs,Con js g
def Nt(js:List Jt)(gs:List (List Str)):Prop:=∀j∈js,∃g∈gs,j.1∈g/\j.2.1∈g
variable{es:List D}
theorem Mp:bV [.lst .frz es,.tup [.ty "list",.ty "tuple"]]=some (.bl true)/\bV [.lst .frz es,.ty "list"]=some (.bl true):=⟨rfl,rfl⟩
variable{x:Int}
theorem NK:bV [.int x,.tup [.ty "list",.ty "tuple"]]=some (.bl false)/\bV [.int x,.ty "str"]=some (.bl false)/\bV [.int x,.ty "int"]=some (.bl true)/\bV [.int x,.ty "bool"]=some (.bl false):=⟨rfl,rfl,rfl,rfl⟩
theorem Io:gIs (.int x) .non=some (.bl false):=rfl
theorem LQ{a b:Bool}:gNe (.bl a) (.bl b)=some (.bl (!(a==b))):=by
 unfold gNe;rw[Pk ⟨rfl,rfl,.sc (.bl a b)⟩];simp[dt,eqD]
theorem JT{Fr:List D->Option D}:aM Fr [.int x,.int x]=some (.bl true):=by
 apply Wp.eq;simp_arith[aM,eU,NK.1,NK.2,eq_int,Ja,Io]
theorem rY:∀es:List D,uN es es=es.map λe=>.tup [e,e]
 |[]=>rfl
 |e::r=>by have:=rY r;unfold uN at this⊢;simp[this]
theorem FQ{Fr:List D->Option D}:∀{es:List D},(∀e∈es,Tyd e/\Fr [e,e]=some (.bl true))->eE (tpT 2 (aO (tpN 0) (aO (tpN 1) cQ))) eTT (eAp (cM Fr) (ak (aC false 0) (ak (aC false 1) aG))) [none,none] (es.map λe=>.tup [e,e])=some (es.map λ_=>.bl true)
 |[],_=>rfl
 |e::r,h=>by
  obtain⟨h1,h2⟩:=h e (by simp);obtain⟨V,j,F,Z,I,q⟩:=h1.all;rw[PP,eE,FQ λx J=>h x (by simp[J])];simp[tpT,aO,tpN,cQ,eTT,eAp,cM,ak,aG,aC,F,fzL,V,h2,aB,aD,Z,I,clean,aA,az]
theorem J7{Fr:List D->Option D}(h:∀e∈es,Tyd e/\Fr [e,e]=some (.bl true))(Z:es.length<=1000):aM Fr [.lst .frz es,.lst .frz es]=some (.bl true):=by
 obtain⟨I,O,J,q,j⟩:=Tyd.ofL λe V=>(h e V).1;have hz:=FQ h;apply Wp.eq;simp_arith[aM,eU,cW,Mp.1,Mp.2,eq_int,Ja,LQ,Cg,itZ,zm,O,J,q,j,rY,hz];refine⟨by omega,?_⟩;rw[all_map (λ_=>true) es,aL];simp[aA,az]
theorem Ey:∀l:List Jt,cH (l.map jD)=true
 |[]=>rfl
 |j::r=>by simp[cH,jD,dN,Ey r]
def Can(js:List Jt)(ns:List Str)(I:List (List Str)):Prop:=∃gs,I=Aq (gs.map MF)/\Prt js ns gs/\Nt js gs
theorem call_of{F:List D->Option D}(h:F (fzL ds)=some d)(B:dN d=true):cM F ds=some d:=by
 unfold cM;rw[h,Pb,B,Bool.or_true,Pk rfl]
abbrev Rw:=Jt×Int×Int
def r5(r:Rw):D:=.tup [.str r.1.1,.str r.1.2.1,.int r.1.2.2,.int r.2.1,.int r.2.2]
theorem jo(l:List Rw):aB (l.map r5)=true:=di λd hd=>by obtain⟨x,_,rfl⟩:=QF.mp hd;rfl
theorem jB(l:List Rw):aD (l.map r5)=true:=cP λd hd=>by obtain⟨x,_,rfl⟩:=QF.mp hd;rfl
theorem jb(b:Bool)(l:List Rw):gf b (l.map r5)=l.map r5:=by rw[dH,Qp];rfl
theorem yM(l:List Rw):fzL (l.map r5)=l.map r5:=by rw[gF,Qp];rfl
theorem yo(l:List Rw):fY (l.map r5)=l.map r5:=by rw[eY,Qp];rfl
structure RR(R:D)(rs:List Rw):Prop where
 f:fz R=R
 v:∀b,view b R=R
 b:aA R=true
 o:az R=true
 l:cW [R]=some (.int rs.length)
 x:∀i,gIx R (.int i)=atI (rs.map r5) i
 s:bW R=some (true,rs.map r5)
 e:itE (λ_=>some [R]) []=some (true,fG 0 (rs.map r5))
theorem RR.lst(I:List Rw):RR (.lst .frz (I.map r5)) I:=⟨by simp[fz,yM,mkF],λb=>by cases b<;>simp[view,jb,mkV],by simp[aA,jo],by simp[az,jB],by simp[cW],λ_=>rfl,by simp[bW,clean,aA,az,jo,jB,yo],by simp[itE,bW,clean,aA,az,jo,jB,yo]⟩
theorem RR.tup(I:List Rw):RR (.tup (I.map r5)) I:=⟨by simp[fz,yM],λb=>by simp[view,jb],by simp[aA,jo],by simp[az,jB],by simp[cW],λ_=>rfl,by simp[bW,clean,aA,az,jo,jB,yo],by simp[itE,bW,clean,aA,az,jo,jB,yo]⟩
theorem fV(l:List Int):aB (l.map D.int)=true:=di λd hd=>by obtain⟨x,_,rfl⟩:=QF.mp hd;rfl
theorem fW(l:List Int):aD (l.map D.int)=true:=cP λd hd=>by obtain⟨x,_,rfl⟩:=QF.mp hd;rfl
theorem CJ:∀l:List Int,o9 (l.map D.int)=some l
 |[]=>rfl
 |i::r=>by rw[PP,o9,CJ r];rfl
variable{m:Mk}
theorem Ab(h:ns.length<4000):gQ [.lst m (ns.map D.int)]=some (.lst .own ((wL ns).map D.int)):=by
 simp only[gQ,Qe,h,Qf,CJ,QZ]
def std(t:Int)(r:Rw):Bool:=decide (r.2.1<=t/\t<r.2.2)
def bR(t:Int):Nat->List Rw->List Int
 |_,[]=>[]
 |n,r::q=>if std t r then(n:Int)::bR t (n+1) q else bR t (n+1) q
def stand(t:Int)(I:List Rw):List Jt:=(I.filter (std t)).map (·.1)
theorem Jd(t:Int):∀(l:List Rw)(n:Nat),eE (tpT 2 (aO (tpN 0) (aO (tpT 5 (aO (tpN 1) (aO (tpN 2) (aO (tpN 3) (aO (tpN 4) (aO (tpN 5) cQ)))))) cQ))) (eB (jn gLe gLt (aC false 4) (aC false 6) (aC false 5))) (aC false 0) [none,none,none,none,none,none,some (.int t)] (fG n (l.map r5))=some ((bR t n l).map D.int)
 |[],_=>rfl
 |r::q,n=>by
  rw[PP,fG,eE,Jd t q (n+1),show bR t n (r::q)=if std t r then(n:Int)::bR t (n+1) q else bR t (n+1) q from rfl];by_cases h1:r.2.1<=t
  .by_cases h2:t<r.2.2
   .simp[tpT,aO,tpN,cQ,eB,jn,aC,gLe,gLt,r5,view,Bj,isB,aB,aD,aA,az,clean,std,h1,h2]
   .simp[tpT,aO,tpN,cQ,eB,jn,aC,gLe,gLt,r5,view,Bj,isB,aB,aD,aA,az,clean,std,h1,h2]
  .simp[tpT,aO,tpN,cQ,eB,jn,aC,gLe,gLt,r5,view,Bj,isB,aB,aD,aA,az,clean,std,h1]
theorem uH(t:Int):∀(l:List Rw)(n:Nat),(bR t n l).length<=l.length
 |[],_=>Pg _
 |r::q,n=>by
  unfold bR;have:=uH t q (n+1);split<;>simp<;>omega
variable{R:D}{I:List Rw}
theorem j6(U:RR R I)(Z:I.length<=1000):aU [R,.int t]=some (.lst .own ((bR t 0 I).map D.int)):=by
 apply Wp.eq;have V:itE (ak (aC false 0) aG) [some R,some (.int t)]=some (true,fG 0 (I.map r5)):=by
  have:=U.e;simpa[itE,ak,aC,aG,U.v]using this
 have j:∀(l:List D)(n:Nat),(fG n l).length=l.length:=by
  intro l
  induction l with
  |nil=>intro n;rfl
  |cons a r F=>intro n;simp[fG,F]
 have O:(fG 0 (I.map r5)).length<=1000000:=by rw[j];simp;omega
 simp only[aU,fnP,en0,QL,Q6,PP,Ru,R3,Qf,bh,Nat.reduceAdd,Nat.reduceSub,RC,RT];simp only[gW,ir,V,Pb,QZ,O,Qf,iY,PP,Ru,XM,Qd,PX,id,Jd,bh,dO,aL,clean,aA,az,fV,fW,Vd];simp[aL]
theorem JG(r:Rw):gSl (r5 r) none (some 3)=some (jD r.1):=rfl
theorem Dw{j q:List Rw}{r:Rw}(e:I=j++r::q):atI (I.map r5) (j.length:Int)=some (r5 r):=by
 obtain⟨x,_,h2,N⟩:=gY (f:=r5) (l:=I) (i:=(j.length:Int)) (by omega) (by rw[e];simp;omega);rw[N];rw[e]at h2;simp at h2;rw[h2]
theorem Oe{t:Int}(U:RR R I):∀(l j:List Rw),I=j++l->eE (tpN 0) eTT (eSl (e2 gIx (aC false 1) (aC false 0)) m8 (lE (eC (.int 3)))) [none,some R] ((bR t j.length l).map D.int)=some ((stand t l).map jD)
 |[],j,e=>rfl
 |r::q,j,e=>by
  have F:=Oe (t:=t) U q (j++[r]) (by rw[e];simp);rw[Qx,Wh]at F;rw[show bR t j.length (r::q)=if std t r then(j.length:Int)::bR t (j.length+1) q else bR t (j.length+1) q from rfl];have J:gIx R (.int (j.length:Int))=some (r5 r):=by rw[U.x];exact Dw e
  by_cases h:std t r
  .have hj:=yc r.1
   rw[Pk h,PP,eE,F];have es:stand t (r::q)=r.1::stand t q:=by simp[stand,h]
   rw[es];simp[tpN,eTT,eSl,Er,e2,aC,m8,lE,eC,U.v,show ∀x:Int,view false (.int x)= .int x from λ_=>rfl,J,JG,clean,jD,aA,az,aB,aD]
  .have es:stand t (r::q)=stand t q:=by simp[stand,h]
   rw[Pn h,es];exact F
def cls(js:List Jt)(ns:List Str):List (List Str):=Classical.epsilon λj=>Can js ns j
def p2(b:Int×Int):D:=.tup [.int b.1,.int b.2]
theorem uD:∀l:List Rw,iB (l.map r5)=true
 |[]=>rfl
 |j::r=>by simp[iB,r5,jk,uD r]
theorem oh{l:List Rw}:gNe (.lst m (l.map r5)) (.lst .own [])=some (.bl (!l.isEmpty)):=by
 unfold gNe;have h1:=uD l;rw[Pk ⟨by simpa[jk]using h1,rfl,.lst (by simp[dtL])⟩];cases l with
 |nil=>rfl
 |cons j r=>rfl
theorem Kc(l:List Rw):cH (l.map r5)=true:=by
 induction l with
 |nil=>rfl
 |cons j r F=>simp[cH,r5,dN,F]
def tB(k:Nat)(r:Rw):Prop:=(0<=r.2.1/\r.2.1<=20000000*k)/\0<=r.2.2/\r.2.2<=20000000*k
def Ro(ns:List Str)(t:Int)(q:D×List D):Prop:=∃(I:List Rw)(Y N:Int),q=(.lst .own (I.map r5),[tp Y N,.lst .frz (ns.map D.str),.int t])/\(∀r∈I,r.1.1∈ns/\r.1.2.1∈ns)/\I.length<=2*ns.length/\0<=Y/\(∀r∈I,r.1.2.2.natAbs<=1000000000000)/\∀r∈I,tB I.length r
def RoI(ns:List Str)(t:Int)(js:List Jt)(k:Nat)(ρ:En):Prop:=∃(I:List Rw)(Y N:Int)(J O q B F:Option D),ρ=[some (tp Y N),some (D.lst Mk.frz (Qc D.str ns)),some (D.int t),some (D.lst Mk.own (I.map r5)),J,O,q,B,F]/\I.map (·.1)=js.take k/\I.length=k/\0<=Y/\∀r∈I,tB k r
theorem Ka{ns:List Str}(O:0<=a)(c9:ns.length<=1000)(U:0<=t/\t<=1000):Wp (dh [tp a b,.lst .frz (ns.map D.str),.int t]) (Ro ns t):=by
 simp only[dh,fnI,en0,QL,Q6,PP,Ru,R3,Qf,bh,Nat.reduceAdd,Nat.reduceSub,RC,RT];refine bB (λρ=>ρ=[some (tp a b),some (D.lst Mk.frz (Qc D.str ns)),some (D.int t),some (D.lst Mk.own []),none,none,none,none,none]) (λQ hQ=>?_) ?_
 .simp_arith[bu]
  exact hQ _ rfl
 rintro _ rfl;refine bB (λρ=>∃js:List Jt,RoI ns t js js.length ρ/\(∀j∈js,j.1∈ns/\j.2.1∈ns)/\js.length<=2*ns.length/\∀j∈js,j.2.2.natAbs<=1000000000000) (λQ hQ=>?_) ?_
 .have hjo:=xW (a:=a) (b:=b) (t:=t) (ns:=ns) O c9 U
  simp_arith[Br,dW,fX,dJ,eV];refine Wp.mono hjo ?_;rintro _ ⟨js,a5,b5,rfl,c0,c6,s5,B⟩;simp_arith[Br,dN,cH,Ey,nF,mX,pW];refine qG (RoI ns t js) ⟨[],a5,b5,none,none,none,none,none,rfl,rfl,rfl,s5,by simp⟩ ?_ ?_
  .rintro k d ρ hk ⟨I,a6,b6,x4,x5,x6,x7,x8,rfl,a4,c2,s6,a2⟩
   have d8:k<js.length:=by
    have:=(Mx.mp hk).1;simpa using this
   rw[List.getElem?_map]at hk;cases J:js[k]? with
   |none=>simp[J]at hk
   |some j=>
   obtain rfl:jD j=d:=by simpa[J]using hk
   obtain⟨x,y,s⟩:=j;simp only[tgT,aO,cQ,jD,tgN,clean,aA,az,Ti,Qf,aL,bh,Pb,Qy,QT,QL,Q6,aD,aB,and_self];have d6:∀l:List Rw,view false (.lst .own (l.map r5))= .lst .brw (l.map r5):=λl=>by simp only[view,jb];rfl
   have b0:bu []=some (.lst .own []):=rfl;refine bB (λρ=>∃(p:Int)(Y N:Int),0<=p/\p<10/\0<=Y/\ρ=[some (tp Y N),some (D.lst Mk.frz (Qc D.str ns)),some (D.int t),some (D.lst Mk.own (I.map r5)),some (D.str x),some (D.str y),some (D.int s),some (D.int p),x8]) (λQ hQ=>?_) ?_
   .simp_arith[aL]
    refine cO s6 (by omega) (by omega) λr7 a7 b7 p7 q7 s7=>?_;simp_arith[aL];exact hQ _ ⟨_,_,_,p7,q7,s7,rfl⟩
   rintro _ ⟨p0,a7,b7,c8,d9,s7,rfl⟩;refine bB (λρ=>∃(p:Int)(Y N:Int),0<=p/\p<=20000000*k+10/\0<=Y/\ρ=[some (tp Y N),some (D.lst Mk.frz (Qc D.str ns)),some (D.int t),some (D.lst Mk.own (I.map r5)),some (D.str x),some (D.str y),some (D.int s),some (D.int p),x8]) (λQ hQ=>?_) ?_
   .cases he:I.isEmpty with
    |true=>
     simp_arith[jb,b0,oh,he];exact hQ _ ⟨p0,a7,b7,c8,by omega,s7,rfl⟩
    |false=>
    have d3:0<I.length:=by cases I with|nil=>cases he|cons _ _=>exact Nat.succ_pos _
    simp_arith[jb,b0,oh,he];refine cO s7 (by omega) (by omega) λr8 a8 b8 p8 q8 s8=>?_;simp_arith[eq_int];split
    .simp_arith[jb,cW]
     refine cO s8 (by omega) (by omega) λr9 a9 b9 p9 q9 s9=>?_;obtain⟨j,F,_,b4⟩:=gY (f:=r5) (l:=I) p9 q9;have b2:gIx (.lst .brw (I.map r5)) (.int r9)=some (r5 j):=by simp only[gIx,b4]
     have B:=a2 j F;simp_arith[jb,jo,jB,b2];refine cO s9 (by omega) (by omega) λa3 b3 c1 c5 c3 a0=>?_;have:a3=0∨a3=1:=by omega
     rcases this with rfl|rfl
     .simp_arith[cB,r5,gIx,atI,ixN]
      exact hQ _ ⟨_,_,_,B.1.1,by have:=B.1.2;omega,a0,rfl⟩
     .simp_arith[cB,r5,gIx,atI,ixN]
      exact hQ _ ⟨_,_,_,B.2.1,by have:=B.2.2;omega,a0,rfl⟩
    .exact hQ _ ⟨p0,_,_,c8,by omega,s8,rfl⟩
   rintro _ ⟨p,a8,b8,d2,d7,s8,rfl⟩;refine bB (λρ=>∃(q:Int)(Y N:Int),0<=q/\q<=p+10000000/\0<=Y/\ρ=[some (tp Y N),some (D.lst Mk.frz (Qc D.str ns)),some (D.int t),some (D.lst Mk.own (I.map r5)),some (D.str x),some (D.str y),some (D.int s),some (D.int p),some (D.int q)]) (λQ hQ=>?_) ?_
   .simp_arith[lr]
    refine cO s8 (by omega) (by omega) λr9 a9 b9 p9 q9 s9=>?_;simp_arith[cB];refine cO s9 (by omega) (by omega) λa3 b3 c1 c5 c3 a0=>?_;simp_arith[cB,bu];refine cO a0 (by omega) (by omega) λa1 d5 d4 c7 c4 b1=>?_;have:a1=0∨a1=1∨a1=2∨a1=3:=by omega
    rcases this with rfl|rfl|rfl|rfl<;>simp_arith[gIx,atI,ixN,cB]<;>exact hQ _ ⟨_,_,_,by omega,by omega,b1,rfl⟩
   rintro _ ⟨q,a9,b9,q0,q1,s9,rfl⟩;refine bB (λρ=>∃(q:Int)(Y N:Int),0<=q/\q<=20000000*(k+1)/\0<=Y/\ρ=[some (tp Y N),some (D.lst Mk.frz (Qc D.str ns)),some (D.int t),some (D.lst Mk.own (I.map r5)),some (D.str x),some (D.str y),some (D.int s),some (D.int p),some (D.int q)]) (λQ hQ=>?_) ?_
   .cases he:I.isEmpty with
    |true=>
     simp_arith[jb,b0,oh,he];exact hQ _ ⟨_,_,_,q0,by omega,s9,rfl⟩
    |false=>
    have d3:0<I.length:=by cases I with|nil=>cases he|cons _ _=>exact Nat.succ_pos _
    simp_arith[jb,b0,oh,he];refine cO s9 (by omega) (by omega) λa3 b3 c1 c5 c3 a0=>?_;simp_arith[eq_int];split
    .simp_arith[jb,cW,cB]
     refine cO a0 (by omega) (by omega) λa1 d5 d4 c7 c4 b1=>?_;obtain⟨j,F,_,b4⟩:=gY (f:=r5) (l:=I) c7 c4;have b2:gIx (.lst .brw (I.map r5)) (.int a1)=some (r5 j):=by simp only[gIx,b4]
     have B:=a2 j F;have d0:gIx (r5 j) (.int 4)=some (.int j.2.2):=rfl;have d1:az (r5 j)=true:=rfl;simp_arith[jb,jo,jB,b2,d0,d1,zM];have h1:=B.2.2;have h2:=B.2.1;refine hQ _ ⟨_,_,_,?_,?_,b1,rfl⟩<;>split<;>omega
    .exact hQ _ ⟨_,_,_,q0,by omega,a0,rfl⟩
   rintro _ ⟨q',b3,c1,q2,q3,a0,rfl⟩;simp_arith[bC,eU];refine⟨by omega,⟨I++[((x,y,s),p,q')],_,_,_,_,_,_,_,by rw[Sd];rfl,?_,by simp;omega,a0,?_⟩⟩
   .rw[Sd,a4,VM,J];rfl
   .intro r Z
    rcases Mz.mp Z with z|z
    .obtain⟨⟨h1,h2⟩,h3,h4⟩:=a2 r z
     refine⟨⟨h1,?_⟩,h3,?_⟩<;>push_cast<;>omega
    .obtain rfl:r=((x,y,s),p,q'):=by simpa using z
     refine⟨⟨d2,?_⟩,q2,?_⟩<;>push_cast<;>omega
  .rintro ρ h
   rw[Qe]at h;exact hQ _ ⟨js,h,c0,c6,B⟩
 rintro _ ⟨js,⟨I,a6,b6,x4,x5,x6,x7,x8,rfl,a4,c2,s6,a2⟩,c0,c6,B⟩;rw[XH]at a4;simp[kJ,aL,outs,dO];have V:∀r∈I,r.1∈js:=λr Z=>by rw[←a4];exact QF.mpr ⟨r,Z,rfl⟩
 exact⟨I,a6,b6,rfl,λr Z=>c0 _ (V r Z),by omega,s6,λr Z=>B _ (V r Z),by rw[c2];exact a2⟩
theorem Fd(lo:Int)(n:Nat):eO lo (n+1)= .int lo::eO (lo+1) n:=by
 unfold eO;rw[V3,PP,Qp];congr 1
 .simp
 .exact Sg λk _=>by simp;omega
theorem LK{t:Int}(U:RR R I):∀(l j:List Rw),I=j++l->eE (tpN 0) (nR (lH (eB (e2 gLt (aC false 1) (e2 gIx (e2 gIx (aC false 2) (aC false 0)) (eC (.int 3)))))) (eB (e2 gLt (aC false 1) (e2 gIx (e2 gIx (aC false 2) (aC false 0)) (eC (.int 4)))))) (aC false 0) [none,some (.int t),some R] (eO j.length l.length)=some ((bR t j.length l).map D.int)
 |[],j,e=>rfl
 |r::q,j,e=>by
  have F:=LK (t:=t) U q (j++[r]) (by rw[e];simp);rw[Qx,Wh]at F;have J:gIx R (.int (j.length:Int))=some (r5 r):=by rw[U.x];exact Dw e
  have N:gIx (r5 r) (.int 3)=some (.int r.2.1):=rfl;have V:gIx (r5 r) (.int 4)=some (.int r.2.2):=rfl;rw[show bR t j.length (r::q)=if std t r then(j.length:Int)::bR t (j.length+1) q else bR t (j.length+1) q from rfl];rw[QL,Fd,eE]
  push_cast at F
  have B:∀x:Int,view false (.int x)= .int x:=λ_=>rfl;by_cases h1:t<r.2.1
  .simp[tpN,nR,lH,eB,e2,aC,eC,U.v,B,J,N,V,gLt,isB,h1,clean,aA,az,F,std,show ¬r.2.1<=t by omega]
  .by_cases h2:t<r.2.2
   .simp[tpN,nR,lH,eB,e2,aC,eC,U.v,B,J,N,V,gLt,isB,h1,h2,clean,aA,az,F,std,show r.2.1<=t by omega]
   .simp[tpN,nR,lH,eB,e2,aC,eC,U.v,B,J,N,V,gLt,isB,h1,h2,clean,aA,az,F,std]
theorem OJ(U:RR R I)(Z:I.length<=90):dm [R,.int t]=some (.tup [.lst .frz ((bR t 0 I).map D.int),.lst .own ((stand t I).map jD)]):=by
 apply Wp.eq;have vi:∀x:Int,view false (.int x)= .int x:=λ_=>rfl;have j:nO (ak (eAp cW (ak (aC false 0) aG)) aG) [some R,some (.int t),none]=some (true,eO 0 I.length):=by
  refine Ek ?_ (by omega);simp only[ak,eAp,aC,aG,PX,U.v,Pb,U.l]
 have J:(eO 0 I.length).length<=1000000:=by rw[oE];omega
 have Y:=LK (t:=t) U I [] rfl;change eE _ _ _ _ (eO 0 I.length)=some ((bR t 0 I).map D.int)at Y;simp only[dm,fnP,en0,QL,Q6,PP,Ru,R3,Qf,bh,Nat.reduceAdd,Nat.reduceSub,RC,RT];have B:(Mk.own !=Mk.brw&&Mk.own !=Mk.bro)=true:=rfl;refine bB (λρ=>ρ=[some R,some (.int t),some (.lst .own ((bR t 0 I).map D.int))]) (λQ q=>?_) ?_
 .simp only[eQ,ir,j,Qd,PX,Pb,QZ,J,Qf,iY,PP,Ru,XM,id,Y,bh,dO,aL,tgN,clean,aA,az,fV,fW,Vd,B,Qy,QT]
  exact q _ rfl
 rintro _ rfl;have hi:=uH t I 0;have O:((bR t 0 I).map D.int).length<=1000000:=by simp;omega
 have N:fY ((bR t 0 I).map D.int)=(bR t 0 I).map D.int:=by rw[eY,Qp];rfl
 have V:fzL ((bR t 0 I).map D.int)=(bR t 0 I).map D.int:=by rw[gF,Qp];rfl
 have a0:view false (.lst .frz ((bR t 0 I).map D.int))= .lst .frz ((bR t 0 I).map D.int):=by simp only[view,gG];rfl
 have F:=Oe (t:=t) U I [] rfl;rw[Q6]at F;have a1:bW (.lst .frz ((bR t 0 I).map D.int))=some (true,(bR t 0 I).map D.int):=by simp[bW,clean,aA,az,fV,fW,N]
 simp only[sFz,qi,Qd,PX,fz,V,mkF,Qy,QT,bh,aL,dO,Pb,QZ];simp only[gW,ir,itS,eAp,ak,aG,aC,Qd,PX,a0,a1,Pb,QZ,O,Qf,iY,PP,Ru,XM,id,F,bh,dO,aL];simp[eU,aL,clean,aA,az,aB,aD,nF,mX,fV,fW]
theorem Dz:∀l:List Rw,∀p∈(dtL (l.map r5)).zip (dtL (l.map r5)),Flt p.1 p.2
 |[],p,h=>by simp[dtL]at h
 |r::q,p,h=>by
  rw[PP,dtL,Zv,Pj]at h;rcases h with rfl|h
  .refine⟨_,_,rfl,rfl,λz hz=>?_⟩
   simp only[dtL,dt,Zv,List.zip_nil_right,Pj,Rn,UG]at hz;rcases hz with rfl|rfl|rfl|rfl|rfl
   .exact .str _ _
   .exact .str _ _
   .exact .int _ _
   .exact .int _ _
   .exact .int _ _
  .exact Dz q p h
theorem Mf{n:Mk}(l:List Rw):gNe (.lst m (l.map r5)) (.lst n (l.map r5))=some (.bl false):=by
 unfold gNe;have h1:=uD l;rw[Pk ⟨by simpa[jk]using h1,by simpa[jk]using h1,.deep (Dz l)⟩];simp[dt,vo]
theorem O2:gEq (.lst .own []) (.lst .own [])=some (.bl true):=by
 unfold gEq;rw[Pk ⟨rfl,rfl,.lst (by simp[dtL])⟩];rfl
theorem H9(l:List Int):fY (l.map D.int)=l.map D.int:=by rw[eY,Qp];rfl
theorem Gg{n:Mk}{l:List Int}(Z:l.length<=1000)(j:mkF m= .frz)(hn:mkF n= .frz):cM dg [.lst m (l.map D.int),.lst n (l.map D.int)]=some (.bl true):=by
 refine call_of ?_ rfl;simp only[fzL,fz,yD,j,hn,dg];refine J7 (λe V=>?_) (by simpa using Z);obtain⟨x,_,rfl⟩:=QF.mp V;exact⟨.int _,JT⟩
def TmI(R:D)(k:Nat)(ρ:En):Prop:=∃(F:List Int)(I:Option D),ρ=[some R,some (.lst .own (F.map D.int)),I]/\F.length<=1+5*k
def Tms(d:D):Prop:=∃F:List Int,d= .lst .own (F.map D.int)/\F.length<=1000
theorem NT(hR:RR R I)(Z:I.length<=31):Wp (bK [R]) Tms:=by
 simp only[bK,fnP,en0,QL,Q6,PP,Ru,R3,Qf,bh,Nat.reduceAdd,Nat.reduceSub,RC,RT];refine bB (TmI R 0) (λQ q=>?_) ?_
 .simp_arith[bu]
  exact q _ ⟨[0],none,rfl,by simp⟩
 rintro _ ⟨t0,y2,rfl,a5⟩;have B:(Mk.own !=Mk.brw&&Mk.own !=Mk.bro)=true:=rfl;refine bB (TmI R I.length) (λQ q=>?_) ?_
 .simp only[qT,itS,aC,PX,hR.v,hR.s,Pb,bh,aL,w_ite,Qf]
  refine qG (TmI R) ⟨t0,y2,rfl,a5⟩ ?_ (λρ h=>q _ (by rw[Qe]at h;exact h));rintro k d ρ J ⟨F,x2,rfl,a3⟩;have O:k<I.length:=by
   have:=(Mx.mp J).1;simpa using this
  rw[List.getElem?_map]at J;cases a2:I[k]? with
  |none=>simp[a2]at J
  |some r=>
   obtain rfl:r5 r=d:=by simpa[a2]using J
   have a1:view false (r5 r)=r5 r:=rfl;have N:gIx (r5 r) (.int 3)=some (.int r.2.1):=rfl;have V:gIx (r5 r) (.int 4)=some (.int r.2.2):=rfl;have a0:∀l:List Int,view false (.lst .own (l.map D.int))= .lst .brw (l.map D.int):=λl=>by simp only[view,gG];rfl
   have a9:aA (r5 r)=true/\az (r5 r)=true:=⟨rfl,rfl⟩;have a7:bu [.int r.2.1,.int r.2.2,.int (r.2.2-1),.int (r.2.1+1)]=some (.lst .own (([r.2.1,r.2.2,r.2.2-1,r.2.1+1]:List Int).map D.int)):=rfl;have a6:cB (.lst .brw (F.map D.int)) (.lst .own (([r.2.1,r.2.2,r.2.2-1,r.2.1+1]:List Int).map D.int))=some (.lst .own ((F++[r.2.1,r.2.2,r.2.2-1,r.2.1+1]).map D.int)):=by
    simp only[cB,Sd];rw[Pk ⟨by decide,by decide,by simp;omega⟩]
   have a8:je (.int r.2.2) (.int 1)=some (.int (r.2.2-1)):=rfl;have U:je (.int r.2.1) (.int 1)=some (.int (r.2.1-1)):=rfl;have Y:cB (.int r.2.1) (.int 1)=some (.int (r.2.1+1)):=rfl;simp only[tgN,clean,a9,Ti,Qf,aL,Qy,QT];refine bB (λρ=>ρ=[some R,some (.lst .own ((F++[r.2.1,r.2.2,r.2.2-1,r.2.1+1]).map D.int)),some (r5 r)]) (λQ q=>?_) ?_
   .simp only[eQ,e2,eAp,ak,aG,eC,aC,Qd,PX,a0,a1,N,V,a8,Y,a7,a6,Pb,bh,dO,aL,tgN,clean,aA,az,fV,fW,Vd,B,Qf,Qy,QT]
    exact q _ rfl
   rintro _ rfl;have b0:(F++[r.2.1,r.2.2,r.2.2-1,r.2.1+1]).length<=1+5*k+4:=by simp;omega
   generalize F++[r.2.1,r.2.2,r.2.2-1,r.2.1+1]=us at b0⊢;have a4:bC (.lst .own (us.map D.int)) [.int (r.2.1-1)]=some (.lst .own ((us++[r.2.1-1]).map D.int),.non):=by
    simp only[bC,Sd,PP,Ru];rw[Pk (by simp;omega)]
   by_cases j:r.2.1>0
   .simp only[sIf,eB,e2,eC,aC,Qd,PX,a1,N,gGt,isB,j,Tz,Qf,qM,xZ,o8,upS,kO,gM,ak,aG,U,a4,aB,aD,aA,az,Ti,and_self,Pb,QZ,bh,dO,aL,Qy,QT]
    exact⟨_,_,rfl,by simp;omega⟩
   .simp only[sIf,eB,e2,eC,aC,Qd,PX,a1,N,gGt,isB,j,S7,PJ,Qv,gV,Pb,QZ,bh,dO,aL]
    exact⟨_,_,rfl,by omega⟩
 rintro _ ⟨F,x2,rfl,a3⟩;have b1:∀m:Mk,gQ [.lst m (F.map D.int)]=some (.lst .own ((wL F).map D.int)):=λm=>Ab (by omega);have a0:view false (.lst .own (F.map D.int))= .lst .brw (F.map D.int):=by simp only[view,gG];rfl
 simp only[gW,eAp,ak,aG,aC,Qd,PX,a0,b1,Pb,bh,dO,aL,clean,aA,az,fV,fW,Vd,B,Qf];exact⟨wL F,rfl,by have:=wA F;rw[(rz F).length_eq];omega⟩
noncomputable abbrev scD(j:List Int):D:=.lst .scr (j.map D.int)
def LwI(j:List Int)(k:Nat)(ρ:En):Prop:=∃(x1 I N J O q B F:Option D),ρ=[some (scD j),x1,I,N,J,O,q,B,F]
def LwJ(I U V N J j:Option D)(k:Nat)(ρ:En):Prop:=∃(q B F:Option D),ρ=[I,U,V,N,J,j,q,B,F]
theorem Gh(sc:List Int)(hl:sc.length<=63):iV [.lst .scr (sc.map D.int)]=some (.bl true):=by
 apply Wp.eq;have a9:cW [.lst .scr (sc.map D.int)]=some (.int sc.length):=by simp[cW]
 have d0:aB (sc.map D.int)=true:=fV sc;have c4:aD (sc.map D.int)=true:=fW sc;have j:nO (ak (e2 cB (eC (.int 1)) (eAp jP (ak (eC (.int 8)) (ak (eAp cW (ak (aC false 0) aG)) aG)))) aG) [some (.lst .scr (sc.map D.int)),none,none,none,none,none,none,none,none]=some (true,eO 0 (1+min 8 sc.length)):=by
  refine Ek ?_ (by omega);simp only[ak,e2,eC,eAp,aC,aG,PX,view,mkV,gG,Pb,a9,jP,cB];congr 3;split<;>omega
 have vi:∀x:Int,view false (.int x)= .int x:=λ_=>rfl;have B:(Mk.own !=Mk.brw&&Mk.own !=Mk.bro)=true:=rfl;simp only[iV,fnP,en0,QL,Q6,PP,Ru,R3,Qf,bh,Nat.reduceAdd,Nat.reduceSub,RC,RT];refine bB (LwI sc (1+min 8 sc.length)) (λQ q=>?_) ?_
 .simp only[qT,j,bh,aL,w_ite,Qf]
  refine qG (LwI sc) ⟨none,none,none,none,none,none,none,none,rfl⟩ ?_ (λρ h=>q _ (by rw[oE]at h;exact h));rintro k d ρ J ⟨x1,x2,x3,x4,x5,x6,x7,x8,rfl⟩;obtain⟨e3,rfl⟩:=yJ J;simp only[tgN,clean,aA,az,Ti,Qf,aL,Qy,QT];refine bB (λρ=>∃a b:Int,0<=a/\ρ=[some (scD sc),some (.int k),some (tp a b),x3,x4,x5,x6,x7,x8]) (λQ q=>?_) ?_
  .simp_arith[gG,yD,d0,c4]
   refine Wp.mono (Lw (by omega) (by omega) hl) ?_;rintro _ ⟨a,b,rfl,O⟩;simp_arith[aL];exact q _ ⟨a,b,O,rfl⟩
  rintro _ ⟨U,b1,Z,rfl⟩;refine bB (λρ=>∃(ns:List Str)(a b:Int),ns.length<=14/\0<=a/\ρ=[some (scD sc),some (.int k),some (tp a b),some (.lst .own (ns.map D.str)),x4,x5,x6,x7,x8]) (λQ q=>?_) ?_
  .simp_arith[aL]
   refine Wp.mono (Gz Z) ?_;rintro _ ⟨ns,V,b2,rfl,e9,e6,b0,F⟩;simp_arith[eV,dJ];exact q _ ⟨ns,_,_,b0,F,rfl⟩
  rintro _ ⟨ns,V,b2,b0,F,rfl⟩;refine bB (λρ=>∃(I:List Rw)(a b:Int),I.length<=30/\ρ=[some (scD sc),some (.int k),some (tp a b),some (.lst .own (ns.map D.str)),some (.lst .own (I.map r5)),x5,x6,x7,x8]) (λQ q=>?_) ?_
  .simp_arith[dW,fX,dJ]
   refine Wp.mono (Lq F) ?_;rintro _ ⟨t,a3,b3,rfl,t0,t1,Y⟩;have c0:=Ka (b:=b3) (t:=t) (ns:=ns) Y (by omega) ⟨t0,t1⟩;simp_arith[dW,fX,dJ];refine Wp.mono c0 ?_;rintro _ ⟨I,a5,b5,rfl,e8,b8,s5,e4,e5⟩;simp_arith[dN,cH,Kc,jo,jB];exact q _ ⟨I,_,_,by omega,rfl⟩
  rintro _ ⟨I,a5,b5,b8,rfl⟩;have a0:=RR.lst I;have b7:fz (.lst .own (ns.map D.str))= .lst .frz (ns.map D.str):=by simp[fz,fX,mkF]
  have b4:fz (.lst .own (I.map r5))= .lst .frz (I.map r5):=by simp[fz,yM,mkF]
  obtain⟨N,d4⟩:∃N,N=D.lst .frz (ns.map D.str):=⟨_,rfl⟩;obtain⟨R,a4⟩:∃R,R=D.lst .frz (I.map r5):=⟨_,rfl⟩;obtain⟨K,a6⟩:∃K,K=D.lst .own (I.map r5):=⟨_,rfl⟩;have c8:zf [R]=some K:=by rw[a4,a6];rfl
  have d5:jY [R]=some (.tup (I.map r5)):=by rw[a4];rfl
  have c6:aA K=true/\az K=true:=by rw[a6];simp[aA,az,jo,jB]
  have d8:gNe R (view false K)=some (.bl false):=by rw[a4,a6];simp only[view,jb];exact Mf I
  rw[←d4]at b7;rw[←a4]at a0 b4;refine bB (λρ=>ρ=[some (scD sc),some (.int k),some (tp a5 b5),some N,some R,some K,x6,x7,x8]) (λQ q=>?_) ?_
  .simp only[sFz,qi,Qd,PX,b7,b4,Qy,QT,bh,aL,dO,Pb,QZ]
   simp[eQ,eAp,ak,aG,aC,a0.v,c8,c6,bh,dO,aL,tgN,clean];exact q _ rfl
  rintro _ rfl;obtain⟨_,hT,T,rfl,e7⟩:=NT a0 (by omega);have d1:cM bK [R]=some (.lst .own (T.map D.int)):=by
   simp[cM,fzL,a0.f,hT,aB,aD,a0.b,a0.o]
  have c5:bW (.lst .own (T.map D.int))=some (true,T.map D.int):=by simp[bW,clean,aA,az,fV,fW,H9]
  refine bB (LwJ (some (scD sc)) (some (.int k)) (some (tp a5 b5)) (some N) (some R) (some K) T.length) (λQ q=>?_) ?_
  .simp only[qT,itS,eAp,ak,aG,aC,Qd,PX,a0.v,d1,c5,Pb,bh,aL,w_ite,Qf]
   refine qG (LwJ (some (scD sc)) (some (.int k)) (some (tp a5 b5)) (some N) (some R) (some K)) ⟨x6,x7,x8,rfl⟩ ?_ (λρ h=>q _ (by rw[Qe]at h;exact h));rintro i d ρ hi ⟨y6,y7,y8,rfl⟩;rw[List.getElem?_map]at hi;cases b6:T[i]? with
   |none=>simp[b6]at hi
   |some t=>
   obtain rfl:D.int t=d:=by simpa[b6]using hi
   have d9:cM dm [R,.int t]=some (.tup [.lst .frz ((bR t 0 I).map D.int),.lst .own ((stand t I).map jD)]):=by
    simp[cM,fzL,fz,a0.f,OJ (t:=t) a0 (by omega),aB,aD,aA,az,a0.b,a0.o]
   have d3:cM aU [R,.int t]=some (.lst .own ((bR t 0 I).map D.int)):=by
    simp[cM,fzL,fz,a0.f,j6 (t:=t) a0 (by omega),aB,aD,aA,az,a0.b,a0.o]
   have d6:=RR.tup I;have a8:cM aU [.tup (I.map r5),.int t]=some (.lst .own ((bR t 0 I).map D.int)):=by
    have:=j6 (t:=t) d6 (by omega);simp[cM,fzL,fz,yM,this,aB,aD,aA,az,jo,jB]
   have c2:gIx (.tup [.lst .frz ((bR t 0 I).map D.int),.lst .own ((stand t I).map jD)]) (.int 0)=some (.lst .frz ((bR t 0 I).map D.int)):=rfl;have f0:=uH t I 0;have c9:=Gg (m:=.brw) (n:=.frz) (l:=bR t 0 I) (by omega) rfl rfl;have c7:=Gg (m:=.own) (n:=.frz) (l:=bR t 0 I) (by omega) rfl rfl;have a7:view false (.lst .frz ((bR t 0 I).map D.int))= .lst .frz ((bR t 0 I).map D.int):=by simp only[view,gG];rfl
   have b9:view false (.lst .own ((bR t 0 I).map D.int))= .lst .brw ((bR t 0 I).map D.int):=by simp only[view,gG];rfl
   have d7:aA (.lst .frz ((bR t 0 I).map D.int))=true/\az (.lst .frz ((bR t 0 I).map D.int))=true:=by simp[aA,az,fV,fW]
   have c3:aA (.lst .own ((bR t 0 I).map D.int))=true/\az (.lst .own ((bR t 0 I).map D.int))=true:=by simp[aA,az,fV,fW]
   have c1:bC (.lst .own ((bR t 0 I).map D.int)) [.int (-1)]=some (.lst .own ((bR t 0 I).map D.int++[.int (-1)]),.non):=by
    simp only[bC];rw[Pk (by simp;omega)]
   generalize (bR t 0 I).map D.int=X at *
   simp only[tgN,clean,aA,az,Ti,Qf,aL,Qy,QT];refine bB (λρ=>ρ=[some (scD sc),some (.int k),some (tp a5 b5),some N,some R,some K,some (.int t),some (.lst .frz X),y8]) (λQ q=>?_) ?_
   .simp only[eQ,e2,eAp,ak,aG,eC,aC,Qd,PX,a0.v,vi,d9,c2,Pb,bh,dO,aL,tgN,clean,d7,Ti,Qf,Qy,QT]
    exact q _ rfl
   rintro _ rfl;refine bB (λρ=>ρ=[some (scD sc),some (.int k),some (tp a5 b5),some N,some R,some K,some (.int t),some (.lst .frz X),some (.lst .own X)]) (λQ q=>?_) ?_
   .simp only[eQ,eAp,ak,aG,aC,Qd,PX,a0.v,vi,d3,Pb,bh,dO,aL,tgN,clean,c3,Ti,Qf,Qy,QT]
    exact q _ rfl
   rintro _ rfl;refine bB (λρ=>ρ=[some (scD sc),some (.int k),some (tp a5 b5),some N,some R,some K,some (.int t),some (.lst .frz X),some (.lst .own X)]) (λQ q=>?_) ?_
   .simp only[sIf,lH,pH,eAp,ak,aG,aC,Qd,PX,b9,a7,c9,truth,Pb,QZ,bh,dO,aL,w_ite,gV,Tg,PJ,Qv]
    exact q _ rfl
   rintro _ rfl;have e0:uc (.int 1)=some (.int (-1)):=rfl;refine bB (λρ=>ρ=[some (scD sc),some (.int k),some (tp a5 b5),some N,some R,some K,some (.int t),some (.lst .frz X),some (.lst .own (X++[.int (-1)]))]) (λQ q=>?_) ?_
   .simp only[qM,xZ,o8,upS,kO,gM,ak,aG,e1,eC,Qd,PX,e0,c1,aB,aD,aA,az,Ti,and_self,Qf,Pb,QZ,bh,dO,aL,Qy,QT]
    exact q _ rfl
   rintro _ rfl;simp only[sIf,lH,pH,eAp,ak,aG,aC,Qd,PX,a0.v,vi,a7,d5,a8,c7,truth,Pb,QZ,bh,dO,aL,w_ite,gV,Tg,PJ,Qv];exact⟨_,_,_,rfl⟩
  rintro _ ⟨y6,y7,y8,rfl⟩;simp only[sIf,eB,e2,aC,Qd,PX,a0.v,d8,isB,Pb,QZ,bh,dO,aL,w_ite,gV,PJ,Qv];exact⟨_,_,_,_,_,_,_,_,rfl⟩
 rintro _ ⟨x1,x2,x3,x4,x5,x6,x7,x8,rfl⟩;have h1:cM aU [.lst .own [],.int 5]=some (.lst .own []):=call_of (j6 (t:=5) (RR.lst []) (by simp)) rfl;have d2:bu []=some (.lst .own []):=rfl;simp only[gW,e2,eAp,ak,eC,aG,d2,h1,O2,Pb,QZ,bh,dO,aL];simp[aL,clean,aA,az]
def top(i:Nat):Stmt:=Yd.main.body.getD i (.Pass ⟨0,0,0,0⟩)
local macro_rules
 |`(tactic|trivial)=>`(tactic|exact⟨rfl,by decide +kernel,by decide +kernel,by decide +kernel,rfl,by decide +kernel⟩)
open PySem.W (Frag nsIn fnOf keepIn codeIn mg_of mg_none_of)
abbrev nl0:List Str:=["_law_found","_law_due"]
abbrev nl1:List Str:=["_law_tape_here"]
abbrev nl2:List Str:=["_law_tape_here","_law_names_here","_law_turn_here"]
abbrev nl3:List Str:=["rows","time"]
abbrev nl4:List Str:=["_law_script","_law_k"]
abbrev nl5:List Str:=["_law_tape_here","_law_many"]
abbrev nl6:List Str:=["_law_rows_here"]
abbrev nl7:List Str:=["_law_rows_here","_law_time"]
abbrev nl8:List Str:=["_law_script"]
abbrev nl9:List Str:=["_law_rows_here","_law_time","_law_numbers"]
abbrev MJ:List Str:=["_law_tape_here","_law_some","_law_first","_law_many"]
abbrev Nr:List Str:=["_law_k","_law_some","_law_first"]
abbrev NP:List Str:=["_law_tape_here","_law_names_here","_law_turn_here","_law_found","_law_wide","_law_kept","_law_slips","_law_turn_by","_law_one","_law_other","_law_way","_law_step"]
abbrev NQ:List Str:=["_law_name","_law_wide","_law_tape_here"]
noncomputable abbrev M3:List Str:=["number","one","other","step","begin","end","time"]
abbrev Nk:List Str:=["_law_n","_law_time","_law_rows_here"]
abbrev ob0:Nat->Bool:=λi=>i==0
abbrev gm(P:QG)(w:World)(K:Frag)(mg:Str->Option Value)(base:Heap):Prop:=Cal P w K mg base 1 "_law_draw" nl5 (spI ⟨K,mg⟩ ob0 ob0 aq)
abbrev iZ(P:QG)(w:World)(K:Frag)(mg:Str->Option Value)(base:Heap):Prop:=Cal P w K mg base 2 "_law_joinings" nl2 (spI ⟨K,mg⟩ ob0 ob0 bG)
abbrev mZ(P:QG)(w:World)(K:Frag)(mg:Str->Option Value)(base:Heap):Prop:=Cal P w K mg base 1 "_law_tape" nl4 (spP ⟨K,mg⟩ b_)
abbrev j8(P:QG)(w:World)(K:Frag)(mg:Str->Option Value)(base:Heap):Prop:=Cal P w K mg base 2 "_law_names" nl1 (spI ⟨K,mg⟩ ob0 ob0 cL)
abbrev mR(P:QG)(w:World)(K:Frag)(mg:Str->Option Value)(base:Heap):Prop:=Cal P w K mg base 3 "_law_rows" nl2 (spI ⟨K,mg⟩ ob0 ob0 dh)
abbrev lC(P:QG)(w:World)(K:Frag)(mg:Str->Option Value)(base:Heap):Prop:=Cal P w K mg base 1 "_law_times" nl6 (spP ⟨K,mg⟩ bK)
abbrev jQ(P:QG)(w:World)(K:Frag)(mg:Str->Option Value)(base:Heap):Prop:=Cal P w K mg base 1 "standing_at" nl3 (spP ⟨K,mg⟩ aU)
abbrev mW(P:QG)(w:World)(K:Frag)(mg:Str->Option Value)(base:Heap):Prop:=Cal P w K mg base 2 "_law_turn" nl1 (spI ⟨K,mg⟩ ob0 ob0 cZ)
abbrev rN(P:QG)(w:World)(K:Frag)(mg:Str->Option Value)(base:Heap):Prop:=Cal P w K mg base 1 "_law_at" nl7 (spP ⟨K,mg⟩ dm)
abbrev mV(P:QG)(w:World)(K:Frag)(mg:Str->Option Value)(base:Heap):Prop:=Cal P w K mg base 4 "_law_same" nl0 (spP ⟨K,mg⟩ dg)
noncomputable abbrev fQ:Stmt:=top 3
noncomputable abbrev fP:Stmt:=top 4
noncomputable abbrev dF:Stmt:=top 6
noncomputable abbrev bL:Stmt:=top 8
noncomputable abbrev fJ:Stmt:=top 9
noncomputable abbrev d_:Stmt:=top 11
noncomputable abbrev cD:Stmt:=top 1
noncomputable abbrev fO:Stmt:=top 7
noncomputable abbrev gk:Stmt:=top 10
noncomputable abbrev d9:Stmt:=top 5
noncomputable abbrev lJ:Stmt:=top 12
structure Blt(mg:Str->Option Value):Prop where
 abs:mg "abs"=none
 all:mg "all"=none
 bool_:mg "bool"=none
 dict:mg "dict"=none
 enumerate:mg "enumerate"=none
 int_:mg "int"=none
 isinstance:mg "isinstance"=none
 len:mg "len"=none
 list_:mg "list"=none
 max:mg "max"=none
 min:mg "min"=none
 range:mg "range"=none
 set_:mg "set"=none
 sorted:mg "sorted"=none
 str_:mg "str"=none
 tuple:mg "tuple"=none
 zip:mg "zip"=none
theorem aP(r:gA k A):A.units+1<cLine:=by have:=r.units;omega
theorem Hv(r:gA k A):A.units+2<cLine:=by have:=r.units;omega
section
variable{P:Program}{w:World}{K:Frag}{mg:Str->Option Value}{base:Heap}
theorem nu:cI ["_law_script","_law_k","_law_cell","_law_digits"] nl4 (aJ fQ):=⟨rfl,rfl,rfl,by decide +kernel,rfl,by decide +kernel,by decide +kernel⟩
theorem wO{f:Addr}{fd:Rj}(F:Fun K "_law_tape" "_law_tape" fQ f fd)(B:Blt mg):fK P w K mg base CX0 1 f fd nl4 (spP ⟨K,mg⟩ b_):=by
 have nd:∀_:Unit,_:=λ_=>nu.nd;refine okP (k:=0) (ob:=(λi=>false)) (Pr:=λ_=>false) F nu λJ A outer s H E Z=>?_;exact(aH (cT 2 nd au)
  (aH (gw (cJ zB (ao false 1) (aV dU (λ_=>rfl) (λ_=>B.len) Um (aa (ao false 0) aj))) (aW (cT 2 nd (dM (ixb (λ_=>aP Z)) (ao false 0) (ao false 1)))) cY)
  (aH (cT 3 nd (bA ig (aV yR (λ_=>rfl) (λ_=>B.abs) boot_abs (aa (ao false 2) aj)) (lW Hc (λ_=>rfl) (λ_=>B.int_) boot_int (aa (j7 Mi (aV yR (λ_=>rfl) (λ_=>B.abs) boot_abs (aa (ao false 2) aj)) (bA t6 au au)) aj))))
  (aW (dB (d7 (aa (ao false 3) (aa (bA jl (bA ig (bA dq (bA dq (bA jl (ao false 2) au) (bA ig au (ao false 1))) au) au) au) aj))))))))
theorem nA:cI ["_law_tape_here","_law_many","_law_found","_law_once"] nl5 (aJ fP):=⟨rfl,rfl,rfl,by decide +kernel,rfl,by decide +kernel,by decide +kernel⟩
theorem vp{f:Addr}{fd:Rj}(F:Fun K "_law_draw" "_law_draw" fP f fd)(B:Blt mg):fK P w K mg base CX0 1 f fd nl5 (spI ⟨K,mg⟩ ob0 ob0 aq):=by
 have nd:∀_:Unit,_:=λ_=>nA.nd;refine okI (k:=0) (ob:=ob0) (pr:=ob0) F nA λJ A outer s H E Z=>?_;exact(aH (gw (cJ DX (dM (ixb (λ_=>aP Z)) (ao true 0) au) au) (aH (cT 2 nd (bA jl (dM (ixb (λ_=>aP Z)) (ao true 0) au) (ao false 1)))
  (aH (zG (bA zg (dM (ixb (λ_=>aP Z)) (ao true 0) au) (ao false 1)) (yU (yS (λ_=>aP Z)) (jE 0) au))
  (aW (oM 2)))) cY)
  (aH (zG (bA jl (bA dq (bA ig (dM (ixb (λ_=>aP Z)) (ao true 0) au) au) au) au) (yU (yS (λ_=>aP Z)) (jE 0) au))
  (aH (cT 3 nd (bA jl (bA ig (dM (ixb (λ_=>aP Z)) (ao true 0) au) (bA dq (bA jl (dM (ixb (λ_=>aP Z)) (ao true 0) au) au) au)) au))
  (aW (dB (bA jl (bA zg (ao false 3) au) (ao false 1)))))))
theorem kW:cI MJ nl1 (aJ dF):=⟨rfl,rfl,rfl,by decide +kernel,rfl,by decide +kernel,by decide +kernel⟩
def nY:Scope:={kind:=.function,names:=[(".0",.local),("_law_k",.local),("_law_first",.free),("_law_some",.free)],isGenerator:=false,isCoroutine:=false}
theorem ph:(Nr:List Str).Nodup:=by decide +kernel
theorem qD:d8 (aJ dF) MJ Nr nY [none,some 1,some 2]:=by trivial
theorem tO{f:Addr}{fd:Rj}(F:Fun K "_law_names" "_law_names" dF f fd)(B:Blt mg)(j:gm P w K mg base):fK P w K mg base CX0 2 f fd nl1 (spI ⟨K,mg⟩ ob0 ob0 cL):=by
 have nd:∀_:Unit,_:=λ_=>kW.nd;refine okI (k:=1) (ob:=ob0) (pr:=ob0) F kW λJ A outer s H E Z=>?_;exact(aH (cT 1 nd (Od Bt PySem.F.plainAttrs_str PySem.F.slot_str_split PySem.F.type_str_split Dm (aa Dm aj)))
  (aH (cg 2 nd (a_ [0] (λ_=>j) (λ_=>Z.mono (by decide)) (aY 0 (aX (aN (aa au aj))))))
  (aH (cg 3 nd (e_ (ixb (λ_=>aP Z)) (yX (bf (a_ [0] (λ_=>j) (λ_=>Z.mono (by decide)) (aY 0 (aX (aN (aa au aj))))) (bf (gU dq (bj au) (a_ [0] (λ_=>j) (λ_=>Z.mono (by decide)) (aY 0 (aX (aN (aa au aj)))))) (bf (gU dq (bj au) (a_ [0] (λ_=>j) (λ_=>Z.mono (by decide)) (aY 0 (aX (aN (aa au aj)))))) (aN aj))))) (rK (vf (λ_=>rfl)) (λ_=>rfl) (λ_=>B.min) boot_min (bf (bj au) (bf (a_ [0] (λ_=>j) (λ_=>Z.mono (by decide)) (aY 0 (aX (aN (aa au aj))))) (aN aj))))))
  (aW (dB (oH [none,some 1,some 2] ob0 (λ_=>rfl) (λ_=>rfl) (λ_=>qD) (jJ rfl) (xU (λ_=>rfl) (λ_=>B.range) (aa (ao false 3) aj)) (cN 0 (λ_=>ph)) kh (dM (ixb (λ_=>aP Z)) (ao false 1) (bA jl (bA dq (ao false 2) (bA ig au (ao false 0))) au))))))))
theorem jd:cI NP nl2 (aJ bL):=⟨rfl,rfl,rfl,by decide +kernel,rfl,by decide +kernel,by decide +kernel⟩
def jX:Scope:={kind:=.function,names:=[(".0",.local),("_law_name",.local),("_law_draw",.globalImplicit),("_law_tape_here",.free),("_law_wide",.free)],isGenerator:=false,isCoroutine:=false}
theorem lg:(NQ:List Str).Nodup:=by decide +kernel
theorem lA:d8 (aJ bL) NP NQ jX [none,some 4,some 0]:=by trivial
theorem nQ{f:Addr}{fd:Rj}(F:Fun K "_law_joinings" "_law_joinings" bL f fd)(B:Blt mg)(j:gm P w K mg base):fK P w K mg base CX0 2 f fd nl2 (spI ⟨K,mg⟩ ob0 ob0 bG):=by
 have nd:∀_:Unit,_:=λ_=>jd.nd;refine okI (k:=1) (ob:=ob0) (pr:=ob0) F jd λJ A outer s H E Z=>?_;exact(aH (cT 3 nd (d7 aj))
  (aH (cg 4 nd (e_ (ixb (λ_=>aP Z)) (bj (d7 (aa au (aa au (aa au (aa au (aa au (aa (bA ig au (bA t6 au au)) aj)))))))) (a_ [0] (λ_=>j) (λ_=>Z.mono (by decide)) (aY 0 (aX (aN (aa au aj)))))))
  (aH (cg 5 nd (xY (Df (λ_=>rfl)) (λ_=>rfl) (λ_=>B.dict) boot_dict (bf (Gp [none,some 4,some 0] ob0 (λ_=>rfl) (λ_=>rfl) (λ_=>lA) (Hz rfl) (jJ rfl) (oJ (ao false 1)) (Bk 0 (λ_=>lg)) kh (Ie (bf (bj (ao false 0)) (bf (gU oK (a_ [2] (λ_=>j) (λ_=>Z.mono (by decide)) (aY 2 (aX (aN (aa (bA ig au (ao false 1)) aj))))) (bj (ao false 1))) (aN aj))))) (aN aj))))
  (aH (cg 6 nd (e_ (ixb (λ_=>aP Z)) (bj (d7 (aa au (aa au (aa au (aa au aj)))))) (a_ [0] (λ_=>j) (λ_=>Z.mono (by decide)) (aY 0 (aX (aN (aa au aj)))))))
  (aH (wJ (λ_=>Vm) (λ_=>rfl) (G7 (λ_=>rfl) (λ_=>B.range) (bf (a_ [0] (λ_=>j) (λ_=>Z.mono (by decide)) (aY 0 (aX (aN (aa (bA dq (bA ig au (aV dU (λ_=>rfl) (λ_=>B.len) Um (aa (ao false 1) aj))) au) aj))))) (aN aj))) (dG 7 nd) (aH (EY 8 9 (λ_=>rfl) nd (bf (e_ (ixb (λ_=>aP Z)) (bj (ao false 1)) (a_ [0] (λ_=>j) (λ_=>Z.mono (by decide)) (aY 0 (aX (aN (aa (aV dU (λ_=>rfl) (λ_=>B.len) Um (aa (ao false 1) aj)) aj)))))) (bf (e_ (ixb (λ_=>aP Z)) (bj (ao false 1)) (a_ [0] (λ_=>j) (λ_=>Z.mono (by decide)) (aY 0 (aX (aN (aa (aV dU (λ_=>rfl) (λ_=>B.len) Um (aa (ao false 1) aj)) aj)))))) (aN aj))))
  (aH (cg 10 nd (a_ [0] (λ_=>j) (λ_=>Z.mono (by decide)) (aY 0 (aX (aN (aa au aj))))))
  (aH (gw (cJ (cb_eq _ (λ_=>rfl) Z.units) (ao false 10) au) (aW (cT 9 nd (ao false 8))) cY)
  (aH (gw (wj (uQ (cJ (cb_eq _ (λ_=>rfl) Z.units) (ao false 10) au) (qt (cJ (sV _ (λ_=>rfl) Z.units) (ao false 3) (d7 aj))))) (aW (vJ (sW slb (e_ (ixb (λ_=>aP Z)) (bj (ao false 3)) (a_ [0] (λ_=>j) (λ_=>Z.mono (by decide)) (aY 0 (aX (aN (aa (aV dU (λ_=>rfl) (λ_=>B.len) Um (aa (ao false 3) aj)) aj)))))) pI (pO au)) (ud (λ_=>rfl) (fU (dG 8 nd) (fU (dG 9 nd) pL))))) cY)
  (aH (gw (wj (uQ (cJ (cb_eq _ (λ_=>rfl) Z.units) (ao false 10) au) (qt (cJ (sV _ (λ_=>rfl) Z.units) (ao false 3) (d7 aj))))) (aW (vJ (sW slb (e_ (ixb (λ_=>aP Z)) (bj (ao false 3)) (a_ [0] (λ_=>j) (λ_=>Z.mono (by decide)) (aY 0 (aX (aN (aa (aV dU (λ_=>rfl) (λ_=>B.len) Um (aa (ao false 3) aj)) aj)))))) pI (pO au)) (ud (λ_=>rfl) (fU (dG 9 nd) (fU (dG 8 nd) pL))))) cY)
  (aH (cg 11 nd (gU dq (bj (bA oK (dM (ixb (λ_=>aP Z)) (ao false 5) (ao false 9)) (dM (ixb (λ_=>aP Z)) (ao false 5) (ao false 8)))) (gU ig (bj (ao false 2)) (gU oK (a_ [0] (λ_=>j) (λ_=>Z.mono (by decide)) (aY 0 (aX (aN (aa au aj))))) (bj au)))))
  (aH (uF (wU (oU (tH (cJ DX (ao false 6) au)) (lN (o_ (cb_eq _ (λ_=>rfl) Z.units) (a_ [0] (λ_=>j) (λ_=>Z.mono (by decide)) (aY 0 (aX (aN (aa (ao false 6) aj))))) (bj au))))) (aW (cg 11 nd (gU dq (bj (ao false 11)) (e_ (ixb (λ_=>aP Z)) (bj (d7 (aa au (aa (I_ Cp au) (aa au (aa (bA t6 au au) aj)))))) (a_ [0] (λ_=>j) (λ_=>Z.mono (by decide)) (aY 0 (aX (aN (aa au aj))))))))) cY)
  (aW (ou iT Us Uo Uq (jE 3) (aa (pY (aa (ao false 8) (aa (ao false 9) (aa (ao false 11) aj)))) aj)))))))))))
  (aW (oM 3)))))))
theorem nq:cI ["_law_tape_here","_law_names_here","_law_turn_here","_law_found","_law_one","_law_other","_law_step","_law_begin","_law_end"] nl2 (aJ fJ):=⟨rfl,rfl,rfl,by decide +kernel,rfl,by decide +kernel,by decide +kernel⟩
theorem vz{f:Addr}{fd:Rj}(F:Fun K "_law_rows" "_law_rows" fJ f fd)(B:Blt mg)(q:iZ P w K mg base)(j:gm P w K mg base):fK P w K mg base CX0 3 f fd nl2 (spI ⟨K,mg⟩ ob0 ob0 dh):=by
 have nd:∀_:Unit,_:=λ_=>nq.nd;refine okI (k:=2) (ob:=ob0) (pr:=ob0) F nq λJ A outer s H E Z=>?_;exact(aH (cT 3 nd (d7 aj))
  (aH (wJ (λ_=>Vm) (λ_=>rfl) (Fz (a_ [0] (λ_=>q) (λ_=>Z.mono (by decide)) (aY 0 (aX (aN (aa (ao false 1) (aa (ao false 2) aj))))))) (ud (λ_=>rfl) (fU (dG 4 nd) (fU (dG 5 nd) (fU (dG 6 nd) pL)))) (aH (cg 7 nd (a_ [0] (λ_=>j) (λ_=>Z.mono (by decide)) (aY 0 (aX (aN (aa au aj))))))
  (aH (uF (wU (oU (tH (cJ (sV _ (λ_=>rfl) Z.units) (ao false 3) (d7 aj))) (lN (o_ (cb_eq _ (λ_=>rfl) Z.units) (a_ [0] (λ_=>j) (λ_=>Z.mono (by decide)) (aY 0 (aX (aN (aa au aj))))) (bj au))))) (aW (cg 7 nd (e_ (ixb (λ_=>aP Z)) (e_ (ixb (λ_=>aP Z)) (bj (ao false 3)) (a_ [0] (λ_=>j) (λ_=>Z.mono (by decide)) (aY 0 (aX (aN (aa (aV dU (λ_=>rfl) (λ_=>B.len) Um (aa (ao false 3) aj)) aj)))))) (gU dq (bj au) (a_ [0] (λ_=>j) (λ_=>Z.mono (by decide)) (aY 0 (aX (aN (aa au aj))))))))) cY)
  (aH (cg 8 nd (gU dq (bj (ao false 7)) (e_ (ixb (λ_=>aP Z)) (yX (bf (gU dq (bj au) (a_ [0] (λ_=>j) (λ_=>Z.mono (by decide)) (aY 0 (aX (aN (aa au aj)))))) (bf (gU dq (bj au) (a_ [0] (λ_=>j) (λ_=>Z.mono (by decide)) (aY 0 (aX (aN (aa au aj)))))) (aN (aa au (aa (bA t6 au au) aj)))))) (a_ [0] (λ_=>j) (λ_=>Z.mono (by decide)) (aY 0 (aX (aN (aa au aj))))))))
  (aH (uF (wU (oU (tH (cJ (sV _ (λ_=>rfl) Z.units) (ao false 3) (d7 aj))) (lN (o_ (cb_eq _ (λ_=>rfl) Z.units) (a_ [0] (λ_=>j) (λ_=>Z.mono (by decide)) (aY 0 (aX (aN (aa au aj))))) (bj au))))) (aW (cg 8 nd (rK (DG (λ_=>rfl)) (λ_=>rfl) (λ_=>B.max) boot_max (bf (bj (bA dq (ao false 7) au)) (bf (e_ (ixb (λ_=>aP Z)) (e_ (ixb (λ_=>aP Z)) (bj (ao false 3)) (a_ [0] (λ_=>j) (λ_=>Z.mono (by decide)) (aY 0 (aX (aN (aa (aV dU (λ_=>rfl) (λ_=>B.len) Um (aa (ao false 3) aj)) aj)))))) (bj au)) (aN aj)))))) cY)
  (aW (ou iT Us Uo Uq (jE 3) (aa (pY (aa (ao false 4) (aa (ao false 5) (aa (ao false 6) (aa (ao false 7) (aa (ao false 8) aj)))))) aj))))))))
  (aW (oM 3))))
theorem km:cI ["_law_rows_here","_law_some","_law_row"] nl6 (aJ d_):=⟨rfl,rfl,rfl,by decide +kernel,rfl,by decide +kernel,by decide +kernel⟩
theorem uA{f:Addr}{fd:Rj}(F:Fun K "_law_times" "_law_times" d_ f fd)(B:Blt mg):fK P w K mg base CX0 1 f fd nl6 (spP ⟨K,mg⟩ bK):=by
 have nd:∀_:Unit,_:=λ_=>km.nd;refine okP (k:=0) (ob:=(λi=>false)) (Pr:=λ_=>false) F km λJ A outer s H E Z=>?_;exact(aH (cT 1 nd (d7 (aa au aj)))
  (aH (t8 (λ_=>Vm) (λ_=>rfl) (oJ (ao false 0)) (dG 2 nd) (aH (cT 1 nd (bA dq (ao false 1) (d7 (aa (dM (ixb (λ_=>aP Z)) (ao false 2) au) (aa (dM (ixb (λ_=>aP Z)) (ao false 2) au) (aa (bA oK (dM (ixb (λ_=>aP Z)) (ao false 2) au) au) (aa (bA dq (dM (ixb (λ_=>aP Z)) (ao false 2) au) au) aj)))))))
  (aW (gw (cJ DX (dM (ixb (λ_=>aP Z)) (ao false 2) au) au) (aW (ou iT Us Uo Uq (jE 1) (aa (bA oK (dM (ixb (λ_=>aP Z)) (ao false 2) au) au) aj))) cY))))
  (aW (dB (yf _ (λ_=>rfl) (Hv Z) (λ_=>rfl) (λ_=>B.sorted) (λ_=>B.set_) (aa (ao false 1) aj))))))
theorem ji:cI nl3 nl3 (aJ cD):=⟨rfl,rfl,rfl,by decide +kernel,rfl,by decide +kernel,by decide +kernel⟩
def lD:Scope:={kind:=.function,names:=[(".0",.local),("number",.local),("one",.local),("other",.local),("step",.local),("begin",.local),("end",.local),("time",.free)],isGenerator:=false,isCoroutine:=false}
theorem bJ:(M3:List Str).Nodup:=by decide +kernel
theorem mK:d8 (aJ cD) nl3 M3 lD [none,none,none,none,none,none,some 1]:=by trivial
theorem pq{f:Addr}{fd:Rj}(F:Fun K "standing_at" "standing_at" cD f fd)(B:Blt mg):fK P w K mg base CX0 1 f fd nl3 (spP ⟨K,mg⟩ aU):=by
 have nd:∀_:Unit,_:=λ_=>ji.nd;refine okP (k:=0) (ob:=(λi=>false)) (Pr:=λ_=>false) F ji λJ A outer s H E Z=>?_;exact(aW (dB (oH [none,none,none,none,none,none,some 1] (λi=>i==0||i==1||i==2||i==3||i==4||i==5) (λ_=>rfl) (λ_=>rfl) (λ_=>mK) (jJ rfl) (Ec (λ_=>rfl) (λ_=>B.enumerate) (aa (ao false 0) aj)) (qF (λ_=>rfl) (cR (cN 0 (λ_=>bJ)) (cR (qF (λ_=>rfl) (cR (cN 1 (λ_=>bJ)) (cR (cN 2 (λ_=>bJ)) (cR (cN 3 (λ_=>bJ)) (cR (cN 4 (λ_=>bJ)) (cR (cN 5 (λ_=>bJ)) mj)))))) mj))) (wI (Bc Oh zB (ao false 4) (ao false 6) (ao false 5))) (ao false 0))))
theorem m6:cI nl1 nl1 (aJ fO):=⟨rfl,rfl,rfl,by decide +kernel,rfl,by decide +kernel,by decide +kernel⟩
theorem uX{f:Addr}{fd:Rj}(F:Fun K "_law_turn" "_law_turn" fO f fd)(B:Blt mg)(j:gm P w K mg base):fK P w K mg base CX0 2 f fd nl1 (spI ⟨K,mg⟩ ob0 ob0 cZ):=by
 have nd:∀_:Unit,_:=λ_=>m6.nd;refine okI (k:=1) (ob:=ob0) (pr:=ob0) F m6 λJ A outer s H E Z=>?_;exact(aW (B_ (e_ (ixb (λ_=>aP Z)) (bj (d7 (aa au (aa au (aa au (aa au (aa au (aa au (aa au (aa au aj)))))))))) (a_ [0] (λ_=>j) (λ_=>Z.mono (by decide)) (aY 0 (aX (aN (aa au aj))))))))
theorem rm:cI nl9 nl7 (aJ gk):=⟨rfl,rfl,rfl,by decide +kernel,rfl,by decide +kernel,by decide +kernel⟩
def tY:Scope:={kind:=.function,names:=[(".0",.local),("_law_n",.local),("_law_rows_here",.free),("_law_time",.free)],isGenerator:=false,isCoroutine:=false}
theorem vP:(Nk:List Str).Nodup:=by decide +kernel
theorem vU:d8 (aJ gk) nl9 Nk tY [none,some 1,some 0]:=by trivial
def tV:Scope:={kind:=.function,names:=[(".0",.local),("_law_n",.local),("_law_rows_here",.free)],isGenerator:=false,isCoroutine:=false}
theorem vX:(["_law_n","_law_rows_here"]:List Str).Nodup:=by decide +kernel
theorem wz:d8 (aJ gk) nl9 ["_law_n","_law_rows_here"] tV [none,some 0]:=by trivial
theorem Bl{f:Addr}{fd:Rj}(F:Fun K "_law_at" "_law_at" gk f fd)(B:Blt mg):fK P w K mg base CX0 1 f fd nl7 (spP ⟨K,mg⟩ dm):=by
 have nd:∀_:Unit,_:=λ_=>rm.nd;refine okP (k:=0) (ob:=(λi=>false)) (Pr:=λ_=>false) F rm λJ A outer s H E Z=>?_;exact(aH (BP 2 [none,some 1,some 0] ob0 nd (λ_=>rfl) (λ_=>rfl) (λ_=>vU) (jJ rfl) (xU (λ_=>rfl) (λ_=>B.range) (aa (aV dU (λ_=>rfl) (λ_=>B.len) Um (aa (ao false 0) aj)) aj)) (cN 0 (λ_=>vP)) (wI (wj (uQ (oF (cJ zB (ao false 1) (dM (ixb (λ_=>aP Z)) (dM (ixb (λ_=>aP Z)) (ao false 2) (ao false 0)) au))) (qt (cJ zB (ao false 1) (dM (ixb (λ_=>aP Z)) (dM (ixb (λ_=>aP Z)) (ao false 2) (ao false 0)) au)))))) (ao false 0))
  (aW (xN 2 (dB (pY (aa (ao false 2) (aa (oH [none,some 0] ob0 (λ_=>rfl) (λ_=>rfl) (λ_=>wz) (jJ rfl) (oJ (ao false 2)) (cN 0 (λ_=>vX)) kh (CP slb (dM (ixb (λ_=>aP Z)) (ao false 1) (ao false 0)) pI (pO au))) aj)))))))
theorem m7:cI nl0 nl0 (aJ d9):=⟨rfl,rfl,rfl,by decide +kernel,rfl,by decide +kernel,by decide +kernel⟩
def qp:Scope:={kind:=.function,names:=[(".0",.local),("_law_one",.local),("_law_other",.local),("_law_same",.globalImplicit)],isGenerator:=false,isCoroutine:=false}
theorem jT:(["_law_one","_law_other"]:List Str).Nodup:=by decide +kernel
theorem qL:d8 (aJ d9) nl0 ["_law_one","_law_other"] qp [none,none]:=by trivial
theorem g_{f:Addr}{fd:Rj}{n:Nat}{Frec:List D->Option D}(F:Fun K "_law_same" "_law_same" d9 f fd)(B:Blt mg)(N:Cal P w K mg base (0+n) "_law_same" nl0 (spP ⟨K,mg⟩ Frec)):fK P w K mg base CX0 (0+n+1) f fd nl0 (spP ⟨K,mg⟩ (aM Frec)):=by
 have nd:∀_:Unit,_:=λ_=>m7.nd;refine okP (k:=0+n) (ob:=(λi=>false)) (Pr:=λ_=>false) F m7 λJ A outer s H E Z=>?_;exact(aH (gw (j_ (aV cC (λ_=>rfl) (λ_=>B.isinstance) RV (aa (ao false 1) (aa (pY (aa (i_ (λ_=>rfl) (λ_=>B.list_) Ye) (aa (i_ (λ_=>rfl) (λ_=>B.tuple) boot_tuple) aj))) aj)))) (aH (gw (wj (Cj (oF (j_ (aV cC (λ_=>rfl) (λ_=>B.isinstance) RV (aa (ao false 0) (aa (pY (aa (i_ (λ_=>rfl) (λ_=>B.list_) Ye) (aa (i_ (λ_=>rfl) (λ_=>B.tuple) boot_tuple) aj))) aj))))) (zF (cJ (sV _ (λ_=>rfl) Z.units) (aV cC (λ_=>rfl) (λ_=>B.isinstance) RV (aa (ao false 0) (aa (i_ (λ_=>rfl) (λ_=>B.list_) Ye) aj))) (aV cC (λ_=>rfl) (λ_=>B.isinstance) RV (aa (ao false 1) (aa (i_ (λ_=>rfl) (λ_=>B.list_) Ye) aj))))))) (aW (dB zK)) cY)
  (aW (dB (uB (j7 (cb_eq _ (λ_=>rfl) Z.units) (aV dU (λ_=>rfl) (λ_=>B.len) Um (aa (ao false 0) aj)) (aV dU (λ_=>rfl) (λ_=>B.len) Um (aa (ao false 1) aj))) (xJ (aV (Im (λ_=>rfl)) (λ_=>rfl) (λ_=>B.all) boot_all (aa (oH [none,none] (λi=>i==0||i==1) (λ_=>rfl) (λ_=>rfl) (λ_=>qL) (jJ rfl) (Do (λ_=>rfl) (λ_=>B.zip) (aa (ao false 0) (aa (ao false 1) aj))) (qF (λ_=>rfl) (cR (cN 0 (λ_=>jT)) (cR (cN 1 (λ_=>jT)) mj))) kh (iC (λ_=>N) (λ_=>Z.mono (by omega)) (aa (ao false 0) (aa (ao false 1) aj)))) aj))))))) cY)
  (aH (gw (wj (Cj (cJ Oc (ao false 1) JL) (zF (j_ (aV cC (λ_=>rfl) (λ_=>B.isinstance) RV (aa (ao false 1) (aa (i_ (λ_=>rfl) (λ_=>B.str_) boot_str) aj))))))) (aW (dB (uB (j7 (cb_eq _ (λ_=>rfl) Z.units) (ao false 0) (ao false 1)) (xJ (j7 (cb_eq _ (λ_=>rfl) Z.units) (aV cC (λ_=>rfl) (λ_=>B.isinstance) RV (aa (ao false 0) (aa (i_ (λ_=>rfl) (λ_=>B.str_) boot_str) aj))) (aV cC (λ_=>rfl) (λ_=>B.isinstance) RV (aa (ao false 1) (aa (i_ (λ_=>rfl) (λ_=>B.str_) boot_str) aj)))))))) cY)
  (aW (dB (uB (aV cC (λ_=>rfl) (λ_=>B.isinstance) RV (aa (ao false 0) (aa (i_ (λ_=>rfl) (λ_=>B.int_) boot_int) aj))) (uB (j7 (cb_eq _ (λ_=>rfl) Z.units) (aV cC (λ_=>rfl) (λ_=>B.isinstance) RV (aa (ao false 0) (aa (i_ (λ_=>rfl) (λ_=>B.bool_) boot_bool) aj))) (aV cC (λ_=>rfl) (λ_=>B.isinstance) RV (aa (ao false 1) (aa (i_ (λ_=>rfl) (λ_=>B.bool_) boot_bool) aj)))) (xJ (j7 (cb_eq _ (λ_=>rfl) Z.units) (ao false 0) (ao false 1)))))))))
theorem Ft:cI ["_law_script","_law_k","_law_tape_here","_law_names_here","_law_rows_here","_law_kept","_law_time","_law_due","_law_found"] nl8 (aJ lJ):=⟨rfl,rfl,rfl,by decide +kernel,rfl,by decide +kernel,by decide +kernel⟩
theorem J6{f:Addr}{fd:Rj}(F:Fun K "law" "law" lJ f fd)(B:Blt mg)(U:mZ P w K mg base)(j:j8 P w K mg base)(O:mR P w K mg base)(q:lC P w K mg base)(I:jQ P w K mg base)(V:mW P w K mg base)(Y:rN P w K mg base)(N:mV P w K mg base):fK P w K mg base CX0 5 f fd nl8 (spP ⟨K,mg⟩ iV):=by
 have nd:∀_:Unit,_:=λ_=>Ft.nd;refine okP (k:=4) (ob:=(λi=>i==2)) (Pr:=λ_=>false) F Ft λJ A outer s H E Z=>?_;exact(aH (t8 (λ_=>Vm) (λ_=>rfl) (xU (λ_=>rfl) (λ_=>B.range) (aa (bA dq au (aV (vf (λ_=>rfl)) (λ_=>rfl) (λ_=>B.min) boot_min (aa au (aa (aV dU (λ_=>rfl) (λ_=>B.len) Um (aa (ao false 0) aj)) aj)))) aj)) (dG 1 nd) (aH (cT 2 nd (iC (λ_=>U) (λ_=>Z.mono (by decide)) (aa (ao false 0) (aa (ao false 1) aj))))
  (aH (cg 3 nd (a_ [2] (λ_=>j) (λ_=>Z.mono (by decide)) (aY 2 (aX (aN aj)))))
  (aH (cg 4 nd (a_ [2] (λ_=>O) (λ_=>Z.mono (by decide)) (aY 2 (aX (bf (bj (ao false 3)) (bf (a_ [2] (λ_=>V) (λ_=>Z.mono (by decide)) (aY 2 (aX (aN aj)))) (aN aj)))))))
  (aH (xN 4 (xN 3 (cT 5 nd (lW Gr (λ_=>rfl) (λ_=>B.list_) Ye (aa (ao false 4) aj)))))
  (aH (t8 (λ_=>Vm) (λ_=>rfl) (oJ (iC (λ_=>q) (λ_=>Z.mono (by decide)) (aa (ao false 4) aj))) (dG 6 nd) (aH (cT 7 nd (dM (ixb (λ_=>aP Z)) (iC (λ_=>Y) (λ_=>Z.mono (by decide)) (aa (ao false 4) (aa (ao false 6) aj))) au))
  (aH (cT 8 nd (iC (λ_=>I) (λ_=>Z.mono (by decide)) (aa (ao false 4) (aa (ao false 6) aj))))
  (aH (gw (oF (j_ (iC (λ_=>N) (λ_=>Z.mono (by decide)) (aa (ao false 8) (aa (ao false 7) aj))))) (aW (dB zK)) cY)
  (aH (ou iT Us Uo Uq (jE 8) (aa (I_ Cp au) aj))
  (aW (gw (oF (j_ (iC (λ_=>N) (λ_=>Z.mono (by decide)) (aa (iC (λ_=>I) (λ_=>Z.mono (by decide)) (aa (lW Bb (λ_=>rfl) (λ_=>B.tuple) boot_tuple (aa (ao false 4) aj)) (aa (ao false 6) aj))) (aa (ao false 7) aj))))) (aW (dB zK)) cY)))))))
  (aW (gw (cJ (sV _ (λ_=>rfl) Z.units) (ao false 4) (ao false 5)) (aW (dB zK)) cY))))))))
  (aW (dB (j7 (cb_eq _ (λ_=>rfl) Z.units) (iC (λ_=>I) (λ_=>Z.mono (by decide)) (aa (d7 aj) (aa au aj))) (d7 aj)))))
end
theorem ww:∀ns:List Int,aF G H W (ns.map D.int) (ns.map V.int) []
 |[]=>.nil
 |x::r=>aF.cons (M:=[]) (M':=[]) bU (ww r)
theorem K_{K:Frag}{a:Addr}{E:XK}(Z:ns.length<=63)(B:SqL K H a (ns.map V.int))(q:∀H',Q (.bl true) H'):spP ⟨K,mg⟩ iV [.ref a] H Q E:=by
 refine⟨[.lst .scr (ns.map D.int)],λ_=>False,?_,?_,?_,λ_ z=>z.elim,.bl true,Gh ns Z,λv H' L s r fr nd c=>?_⟩
 .refine aF.one (M:=[]) ?_
  rw[Rep];refine⟨a,_,[],rfl,ww ns,?_,rfl,rfl⟩;rcases B with z|z
  .exact .inl ⟨z,⟨λz=>z,λz=>z,λz=>z⟩⟩
  .exact .inr ⟨_,rfl,z⟩
 .simp[aB,aA,di (ds:=ns.map D.int) (by simp[aA])]
 .simp[aD,az,cP (ds:=ns.map D.int) (by simp[az])]
 .rw[(iR r).1];exact q H'
variable{P:List Value->Prop}
theorem un1(h:∀I,P [I]):∀B:List Value,B.length=1->P B
 |[I],_=>h I
theorem un2(h:∀I U,P [I,U]):∀B:List Value,B.length=2->P B
 |[I,U],_=>h I U
theorem un3(h:∀I U V,P [I,U,V]):∀B:List Value,B.length=3->P B
 |[I,U,V],_=>h I U V
def Ge(K:Frag):Sp:=λvs H Q _=>∃(a:Addr)(ns:List Int),vs=[.ref a]/\SqL K H a (ns.map V.int)/\ns.length<=63/\∀H',Q (.bl true) H'
variable{l:X6}
theorem all_mk{K:Frag}{fa V f2 f3 f4 f5 f6 f7 f8 f9 e0 e1:Addr}(X:K.In h)(G:h.Ns Qa mg)(j0:mg "law"=some (.ref fa))
  {o0 j1 n7 o5 m1 r6 r4 o8 n8 j5 p7 s3 k0 o2 p3 o1 p4 j2 e4 g6 h0 d5:Option Addr} {q0 r0 q7 h7 r2 s4 m3 i4 s0 g3 g1:Array (Option Value)} {h5 m5 q5 m9 g4 p9 n1 q9 n9 i7 g0 m2 n4 i9 q8 o6 e8 i5 j9 n5 r8 n6 g8 m0 m6 q6 q4 o9 g2 l0 r9 s2 p5 h6 e7 h4 p6 s5 p0 r3 e9 h9 p8 n2 r5 h3 g5 j6 m4 h8 r1 r7 e2 i3 e3 g9 g7 e5 d8 e6 f0 d3 d7 d4 d2 d6:Value}
  (U:nsIn K Qa "_law_tape"=some (some (.ref V))) (l1:K.lookup V=some ⟨h5,o0,.func (fnOf "_law_tape" "_law_tape" (cG fQ) (bH fQ) (aJ fQ) .none m5 q5 m9 j1 g4 p9),q0⟩) (c1:codeIn K g4 "_law_tape"=true) (O:keepIn K (.ref V)=true)
  (a2:nsIn K Qa "_law_draw"=some (some (.ref f2))) (l2:K.lookup f2=some ⟨n1,n7,.func (fnOf "_law_draw" "_law_draw" (cG fP) (bH fP) (aJ fP) .none q9 n9 i7 o5 g0 m2),r0⟩) (Y:codeIn K g0 "_law_draw"=true) (J:keepIn K (.ref f2)=true)
  (a3:nsIn K Qa "_law_names"=some (some (.ref f3))) (l3:K.lookup f3=some ⟨n4,m1,.func (fnOf "_law_names" "_law_names" (cG dF) (bH dF) (aJ dF) .none i9 q8 o6 r6 e8 i5),q7⟩) (c3:codeIn K e8 "_law_names"=true) (k3:keepIn K (.ref f3)=true)
  (a4:nsIn K Qa "_law_joinings"=some (some (.ref f4))) (l4:K.lookup f4=some ⟨j9,r4,.func (fnOf "_law_joinings" "_law_joinings" (cG bL) (bH bL) (aJ bL) .none n5 r8 n6 o8 g8 m0),h7⟩) (c4:codeIn K g8 "_law_joinings"=true) (k4:keepIn K (.ref f4)=true)
  (a5:nsIn K Qa "_law_rows"=some (some (.ref f5))) (l5:K.lookup f5=some ⟨m6,n8,.func (fnOf "_law_rows" "_law_rows" (cG fJ) (bH fJ) (aJ fJ) .none q6 q4 o9 j5 g2 l0),r2⟩) (c5:codeIn K g2 "_law_rows"=true) (k5:keepIn K (.ref f5)=true)
  (a6:nsIn K Qa "_law_times"=some (some (.ref f6))) (l6:K.lookup f6=some ⟨r9,p7,.func (fnOf "_law_times" "_law_times" (cG d_) (bH d_) (aJ d_) .none s2 p5 h6 s3 e7 h4),s4⟩) (c6:codeIn K e7 "_law_times"=true) (k6:keepIn K (.ref f6)=true)
  (a7:nsIn K Qa "standing_at"=some (some (.ref f7))) (l7:K.lookup f7=some ⟨p6,k0,.func (fnOf "standing_at" "standing_at" (cG cD) (bH cD) (aJ cD) .none s5 p0 r3 o2 e9 h9),m3⟩) (c7:codeIn K e9 "standing_at"=true) (k7:keepIn K (.ref f7)=true)
  (a8:nsIn K Qa "_law_turn"=some (some (.ref f8))) (l8:K.lookup f8=some ⟨p8,p3,.func (fnOf "_law_turn" "_law_turn" (cG fO) (bH fO) (aJ fO) .none n2 r5 h3 o1 g5 j6),i4⟩) (c8:codeIn K g5 "_law_turn"=true) (k8:keepIn K (.ref f8)=true)
  (a9:nsIn K Qa "_law_at"=some (some (.ref f9))) (l9:K.lookup f9=some ⟨m4,p4,.func (fnOf "_law_at" "_law_at" (cG gk) (bH gk) (aJ gk) .none h8 r1 r7 j2 e2 i3),s0⟩) (c9:codeIn K e2 "_law_at"=true) (k9:keepIn K (.ref f9)=true)
  (d1:nsIn K Qa "_law_same"=some (some (.ref e0))) (j4:K.lookup e0=some ⟨e3,e4,.func (fnOf "_law_same" "_law_same" (cG d9) (bH d9) (aJ d9) .none g9 g7 e5 g6 d8 e6),g3⟩) (n3:codeIn K d8 "_law_same"=true) (c0:keepIn K (.ref e0)=true)
  (m7:nsIn K Qa "law"=some (some (.ref e1))) (o7:K.lookup e1=some ⟨f0,h0,.func (fnOf "law" "law" (cG lJ) (bH lJ) (aJ lJ) .none d3 d7 d4 d5 d2 d6),g1⟩) (i0:codeIn K d2 "law"=true) (i6:keepIn K (.ref e1)=true)
  (F:nsIn K Qa "abs"=some none)
  (z2:nsIn K Qa "all"=some none)
  (z3:nsIn K Qa "bool"=some none)
  (z4:nsIn K Qa "dict"=some none)
  (z5:nsIn K Qa "enumerate"=some none)
  (z6:nsIn K Qa "int"=some none)
  (z7:nsIn K Qa "isinstance"=some none)
  (z8:nsIn K Qa "len"=some none)
  (z9:nsIn K Qa "list"=some none)
  (q3:nsIn K Qa "max"=some none)
  (s1:nsIn K Qa "min"=some none)
  (n0:nsIn K Qa "range"=some none)
  (m8:nsIn K Qa "set"=some none)
  (j7:nsIn K Qa "sorted"=some none)
  (i8:nsIn K Qa "str"=some none)
  (j3:nsIn K Qa "tuple"=some none)
  (o4:nsIn K Qa "zip"=some none) :
  ∃fd:Rj,(∀(s:zc)(v:Value),Yp s fd ⟨[v],[]⟩ [("_law_script",v)])/\∀base:Heap,K.In base->base.Ns Qa mg->fK l.prog w K mg base CX0 5 fa fd nl8 (Ge K):=by
 have e:=j0.symm.trans (mg_of X G m7);cases e;have B:Blt mg:=⟨mg_none_of X G F,mg_none_of X G z2,mg_none_of X G z3,mg_none_of X G z4,mg_none_of X G z5,mg_none_of X G z6,mg_none_of X G z7,mg_none_of X G z8,mg_none_of X G z9,mg_none_of X G q3,mg_none_of X G s1,mg_none_of X G n0,mg_none_of X G m8,mg_none_of X G j7,mg_none_of X G i8,mg_none_of X G j3,mg_none_of X G o4⟩;have F1:=gR (st:=fQ) l1 c1 O;have F2:=gR (st:=fP) l2 Y J;have F3:=gR (st:=dF) l3 c3 k3;have F4:=gR (st:=bL) l4 c4 k4;have F5:=gR (st:=fJ) l5 c5 k5;have F6:=gR (st:=d_) l6 c6 k6;have F7:=gR (st:=cD) l7 c7 k7;have F8:=gR (st:=fO) l8 c8 k8;have F9:=gR (st:=gk) l9 c9 k9;have b5:=gR (st:=d9) j4 n3 c0;have o3:=gR (st:=lJ) o7 i0 i6;refine⟨fnOf "law" "law" (cG lJ) (bH lJ) (aJ lJ) .none d3 d7 d4 d5 d2 d6,λs v=>.of_eq rfl,λbase _ _=>?_⟩;have b8:mZ l.prog w K mg base:=⟨_,_,wO F1 B,mg_of X G U,O,F1.binds (ps:=nl4) λ_ _ _ _ _ _=>un2 λ_ _=>rfl⟩;have j:gm l.prog w K mg base:=⟨_,_,vp F2 B,mg_of X G a2,J,F2.binds (ps:=nl5) λ_ _ _ _ _ _=>un2 λ_ _=>rfl⟩;have b6:j8 l.prog w K mg base:=⟨_,_,tO F3 B j,mg_of X G a3,k3,F3.binds (ps:=nl1) λ_ _ _ _ _ _=>un1 λ_=>rfl⟩;have a0:iZ l.prog w K mg base:=⟨_,_,nQ F4 B j,mg_of X G a4,k4,F4.binds (ps:=nl2) λ_ _ _ _ _ _=>un3 λ_ _ _=>rfl⟩;have b7:mR l.prog w K mg base:=⟨_,_,vz F5 B a0 j,mg_of X G a5,k5,F5.binds (ps:=nl2) λ_ _ _ _ _ _=>un3 λ_ _ _=>rfl⟩;have b4:lC l.prog w K mg base:=⟨_,_,uA F6 B,mg_of X G a6,k6,F6.binds (ps:=nl6) λ_ _ _ _ _ _=>un1 λ_=>rfl⟩;have I:jQ l.prog w K mg base:=⟨_,_,pq F7 B,mg_of X G a7,k7,F7.binds (ps:=nl3) λ_ _ _ _ _ _=>un2 λ_ _=>rfl⟩;have b9:mW l.prog w K mg base:=⟨_,_,uX F8 B j,mg_of X G a8,k8,F8.binds (ps:=nl1) λ_ _ _ _ _ _=>un1 λ_=>rfl⟩;have d0:rN l.prog w K mg base:=⟨_,_,Bl F9 B,mg_of X G a9,k9,F9.binds (ps:=nl7) λ_ _ _ _ _ _=>un2 λ_ _=>rfl⟩;have b1:Cal l.prog w K mg base (0+0) "_law_same" nl0 (spP ⟨K,mg⟩ (λ_=>none)):=⟨_,_,CT,mg_of X G d1,c0,b5.binds (ps:=nl0) λ_ _ _ _ _ _=>un2 λ_ _=>rfl⟩;have b3:Cal l.prog w K mg base (0+1) "_law_same" nl0 (spP ⟨K,mg⟩ (aM (λ_=>none))):=⟨_,_,g_ (n:=0) b5 B  b1,mg_of X G d1,c0,b5.binds (ps:=nl0) λ_ _ _ _ _ _=>un2 λ_ _=>rfl⟩;have b0:Cal l.prog w K mg base (0+2) "_law_same" nl0 (spP ⟨K,mg⟩ (aM (aM (λ_=>none)))):=⟨_,_,g_ (n:=1) b5 B  b3,mg_of X G d1,c0,b5.binds (ps:=nl0) λ_ _ _ _ _ _=>un2 λ_ _=>rfl⟩;have b2:Cal l.prog w K mg base (0+3) "_law_same" nl0 (spP ⟨K,mg⟩ (aM (aM (aM (λ_=>none))))):=⟨_,_,g_ (n:=2) b5 B  b0,mg_of X G d1,c0,b5.binds (ps:=nl0) λ_ _ _ _ _ _=>un2 λ_ _=>rfl⟩;have N:mV l.prog w K mg base:=⟨_,_,g_ (n:=3) b5 B  b2,mg_of X G d1,c0,b5.binds (ps:=nl0) λ_ _ _ _ _ _=>un2 λ_ _=>rfl⟩;exact fK.imp (J6 o3 B b8 b6 b7 b4 I b9 d0 N) λvs H Q E ⟨a,ns,e,hS,Z,q⟩=>by subst e;exact K_ Z hS q
theorem walk{q:QG}{N:(Str->Option Value)->Heap->Prop}{I:World->Heap->Prop}{d:DefRec}{K:Params->Frag}(hn:l.most=some 63)(j:d.params.defaults=[])
  (O:∀(w:World)(h:Heap),I w h->(K w.params).In h)
  (F:∀(w:World)(mg:Str->Option Value)(fa:Addr)(h:Heap),(K w.params).In h->h.Ns Qa mg->mg d.name=some (.ref fa)->
   ∃fd:Rj,(∀(s:zc)(u:Value),Yp s fd ⟨[u],[]⟩ [("_law_script",u)])/\∀base:Heap,(K w.params).In base->base.Ns Qa mg->fK l.prog w (K w.params) mg base CX0 5 fa fd nl8 (Ge (K w.params))) :
  aaE q J N I l.row.toRowW d [] (λf vs=>aam f vs):=
 L2.walk_of (n:=63) (k:=5) (x:="_law_script") (CX:=λ_=>CX0) (sp:=λw=>Ge (K w.params)) hn (by decide) j ⟨rfl,by decide,by decide,rfl⟩ O F (λ_ _ a ns Z _ B=>⟨a,ns,rfl,B,Z,λ_=>rfl⟩) λ_ _ _ _ _ z=>z
end Jb
end
namespace PySem.W.Fast
def tw5277271592737494488:=0
def tw8786247813364828022:=0
def tw594470968326779193:=0
def tw9585063185804981345:=0
def tw15869985942231355375:=0
def tw11537754043523243328:=0
def tw13847885004897604527:=0
def tw3194513072159937117:=0
def tw14066358597248041518:=0
def tw472361332673607338:=0
def tw15689278827233848306:=0
def tw12741809023083807460:=0
def tw14472431912969792180:=0
def tw5083731838647942150:=0
def tw10217841400550136011:=0
def tw15090628217602577035:=0
def tw17361021786356574984:=0
def tw10169438262313526644:=0
def tw15534073526426258372:=0
def tw17490773615591377079:=0
def tw16114883924220797039:=0
def tw8525592088794124580:=0
def tw3804907739346762911:=0
def tw4900373132860262959:=0
def tw11204815017182468104:=0
def tw6339605322917065564:=0
def tw9955994998792271712:=0
def tw5813490952434437825:=0
def tw7837029138942465775:=0
def tw12768889165712983488:=0
def tw16714162087141209687:=0
def tw11711904949559430644:=0
def tw5510897575639415084:=0
def tw2754889932082929393:=0
def tw8028878759099355512:=0
def tw17622960813564398994:=0
def tw14493042350159069742:=0
def tw10857493181782805353:=0
def tw10206149932461393461:=0
def tw3609631412746686091:=0
def tw7782620137864139304:=0
def tw2325343835377584032:=0
def tw2460867070405591277:=0
def tw12063614863413356602:=0
def tw10848861471948488272:=0
def tw13570229390485230580:=0
def tw3181689434657061153:=0
def tw3643273971023112472:=0
def tw3373286082559214507:=0
def tw17327300882958013436:=0
def tw3671192824527785083:=0
def tw9431534652001813620:=0
def tw16984361019265689288:=0
def tw16251282413049030246:=0
def tw15645816556146202578:=0
def tw13916795300518658993:=0
def tw18312374756097351402:=0
def tw492618153277166338:=0
def tw13330830298927462512:=0
def tw5180102469001751840:=0
def tw2173561037885930810:=0
def tw8490612762017977885:=0
def tw6412712246030355077:=0
def tw17768450296294588478:=0
def tw12828365783647135964:=0
def tw16379166114692153535:=0
def tw13668965875411638450:=0
def tw11918943948298825412:=0
def tw17709591067762981842:=0
def tw3709887630162683609:=0
end PySem.W.Fast
open PySem PySem.W PyProof.Rows
set_option maxRecDepth 100000 in
set_option maxHeartbeats 0 in
theorem PySem.Challenge.cw_joinback_k40_standing_rows_holds : PySem.Challenge.rw_joinback_k40_standing_rows.Holds := by
 w_on;o_law;k_head;(case hw=>w_witness2)
 k_fill
 refine Jb.walk (l:=PySem.Challenge.rw_joinback_k40_standing_rows) rfl rfl (λw h Y=>PySem.W.kIn_of Y) ?F
 case F=>
  intro w mg fa h KX G hmg;refine' Jb.all_mk KX G hmg ?_ ?_ ?_ ?_ ?_ ?_ ?_ ?_ ?_ ?_ ?_ ?_ ?_ ?_ ?_ ?_ ?_ ?_ ?_ ?_ ?_ ?_ ?_ ?_ ?_ ?_ ?_ ?_ ?_ ?_ ?_ ?_ ?_ ?_ ?_ ?_ ?_ ?_ ?_ ?_ ?_ ?_ ?_ ?_ ?_ ?_ ?_ ?_ ?_ ?_ ?_ ?_ ?_ ?_ ?_ ?_ ?_ ?_ ?_ ?_ ?_
  any_goals k_is
