import PyProof.Rows.All
import Wide.All
import OpenK.AllK
import Wide.FinOn
import Lean
import PyProof.EqAt
import PyProof.EqKinds
import PyProof.TupleCall
import KE.KDictList
import KE.KMinBuiltin
import KE.KSortTup
import PyProof.AttrMissHeap
import PyProof.NeKinds
import PyProof.Rows.CallKwBuiltin
import PyProof.StrWalks
import PyProof.TupleIter
import PyProof.TupleOfSeq
import PySem.Challenge.RW_joinback_k61_whole_looks_stay_few
set_option Elab.async false
set_option linter.all false
set_option compiler.extract_closed false
set_option maxRecDepth 100000
open Lean.Parser.Command Lean.Parser.Term in
local macro_rules
 |`(command|def $i:declId $s:optDeclSig := $v)=>`(command|noncomputable def $i $s := $v)
 |`(command|def $i:declId $s:optDeclSig $[$a:matchAlt]*)=>`(command|noncomputable def $i $s:optDeclSig $[$a:matchAlt]*)
section
def Uo:=@if_pos
def Uq:=@if_neg
def U9:=@decide_eq_false
def Vj:=@if_true
def VN:=@if_false
def WK:=@beq_eq_false_iff_ne
def W8:=@getElem?_pos
def XF:=@decide_eq_true_eq
def Yo:=@decide_eq_true
def YB:=@beq_iff_eq
open PySem renaming wpAny_bind->gD,wpAny_pure->yr,Shared->T7,sizeLine->Ui,starEach->Ul,mainGlobals->Uv,compareOp->U4,wpAny_holding->U6,Program->U_,wpAny_newObj_type->Vf,FuncData->Vk,assignEach->Vm,codeAny_builtin->Vp,Around->Vu,codeAny_call_builtin->VL,wpAny_callSpecial?_slot->V0,backTo->V3,binaryOp->V6,rawInt->V7,wpAny_mono->V9,plainId_quiet->Wb,codeAny->Wf,scanBound->Wl,wpAny_Call_Name_kw->Ws,holding->Wu,foldedSetIterable->Ww,wpAny_pyIter_list->Wx,codeAny_mono->WM,bootBuiltins->W2,wpAny_rule->W3,wpAny_setState_of->Xa,attributeBase->Xb,mem_of_lookup->Xd,wpAny_pyNext_list_item->Xh,tupleKind_room_in1->Xl,wpAny_setField_rec->Xm,wpAny_passesOwn->Xn,wpAny_pyNext_list_end->Xo,wpAny_standAt->Xw,swapsWithSole->Xx
open PySem renaming boot_len->Xz,wpAny_truthy_bool->XC,sysModules->XH,keywordEach->XN,wpAny_of_eq->XQ,pyNext->X3,wpAny_typeOf->X4,wpAny_isInstance->X5,SetTable->X8,wpAny_askSetting->X_,swappedStores->Yc,swapsWith->Yd,pickOrder->Ye,IsPart->Ym,firstArgMember->Yp,builtinLookup_eq_fast->Yq,wpAny_tryCatch->Yr,wpAny_seqItems->Ys,bindName->Yy,wpAny_call_entry->YC,assign->YG,assignInOrder->YH,behindInMarks->YJ,sliceBounds->YQ,letOwnedTupleGo->YZ,wpAny_updateSeq->Y5,getMethod->Y6,backToKw->Y9,wpAny_comprehension_free->Y_,seqItems?->Za,standAt->Zh,wpAny_bindName->Zi,wpAny_pyIter_enum->Zr,pyIter->Zx,wpAny_field->ZC,wpAny_throw->ZD,wpAny_attempt->ZK,NameKind->ZL,tupleKind->ZS,weight_type_call_type->Z2
open PySem renaming wpAny_execs_nil->Z4,wpAny_load->Z5,Result->Z6,call_meetsIn->Z8,typeLookup_type->Z9,codeAny_of_tree->aaa,getItem->aag,isSubtype_type->aai,wpAny_runValue->aak,unsupported->aal,wpAny_pyIter_tuple->aas,wpAny_letOwnedTupleGo_enum->aaC,wpAny_handled->aaD,wpAny_call->aaR,PlainAttrs->aaS,valueAt->aaY,callerA->aaZ,Operator->aa0,noFill_tuple_add->aa2,check_set_init_1->aa8,relayAll->aa9,callWith->aba,wpAny_pyNext_tuple_item->abb,exec_Assign_arm->abi,Fin->abo,wpAny_ite_split->abp,wpAny_pyNext_tuple_end->abr,sizeLine_eq->abt,wpAny_letGo->abA,isTrue->abC,setItem->abD,BindsTo->abE,Keyword->abG,newList->abH,wpAny_setAddHashed_of->abK,setNext->abM,typeLookup->abS,wpAny_newFunctionEnv->abW,attributeErrorLeaves->abX,seq_tuple_add->ab3
open PySem renaming holding->ab8,wpAny_dictSet_pairs->acb,Within->acg,PassesOwn->aci,concat_meets->acp,seqIndex_neg->acq,updateSeq->acv,list_append->acF,unpackItems->acK,seqIndex_of->acL,call->acU
open PySem.Heap renaming get?_push_of_some->T8,lt_size->Uc,get?_push_size->Ue,size_push->Ve,get?_update_other->Vv,SameBut->WL,get?_update_self->Xp
open List renaming mem_append_right->T9,mem_append->T_,getElem?_eq_getElem->Ug,mem_append_left->Uh,mem_cons->Uj,map_cons->Um,nodup_append->Ur,mem_cons_of_mem->Ut,nodup_cons->Uu,mem_map->Uw,length_map->Ux,length_cons->Uy,map->Uz,mem_singleton->UG,append_nil->UJ,getElem?_set_ne->UW,cons_append->U8,nodup_nil->Va,mem_cons_self->Vb,getElem?_append_left->Vc,mem_of_getElem?->Vd,map_map->Vg,findIdx?_eq_some_iff_getElem->Vl,length_nil->Vn,nil_append->Vq,map_append->Vr,replicate->Vt,sublist_append_right->Vx,map_nil->Vy,Perm->Vz,mem_iff_getElem?->VD,getElem?_append_right->VF,range->V1,Sublist->V5,length_append->We,drop_eq_getElem_cons->Wo,findIdx?_eq_none_iff->Wq,foldl_cons->Wr,filter_cons->Wt,getElem?_inj->Wy
open List renaming eraseIdx_append_of_length_le->WN,length_take->WR,getElem_mem->WT,findIdx?_cons->WW,length->WX,find?_cons->W5,sublist_append_left->W6,forall_mem_cons->W9,map_congr_left->Xf,drop_length->Xg,take_of_length_le->Xi,getElem?_eq_none->Xv,lookup->Yg,getElem_cons_drop->Yj,eq_nil_of_length_eq_zero->Yk,drop_zero->Yt,take_length->YD,all_cons->YK,map_id->YS,filterMap_cons->YT,getElem_of_mem->YW,set_cons_succ->Zc,pairwise_cons->Zd,mem_range->Zg,getElem?_cons_succ->Zk,append_assoc->Zt,ext_getElem?->Zu,getElem?_set_self->Zw,drop_eq_nil_of_le->ZF,any_cons->ZJ,nil_sublist->ZM,any_eq_true->ZP,not_mem_nil->ZR,length_filter_le->ZW,take_append_drop->ZX,set_append_right->ZZ,mem_filter->Z3,pairwise_append->aab,getElem?_range->aad,mem_filterMap->aan
open List renaming idxOf_lt_length_of_mem->aax,set_comm->aaA,length_range->aaK,getElem?_set->aaL,take_add_one->aaP,mem_take_iff_getElem->aaV,mem_of_find?_eq_some->aaW,length_drop->aa3,lookup_cons->aa4,set_eq_of_length_le->aa5,getElem?_replicate->abd,eraseIdx_cons_succ->abe,of_mem_zip->abl,range_succ_eq_map->abx,pairwise_lt_range->aby,length_pos_of_mem->abB,eraseIdx_sublist->abJ,getElem?_toArray->abN,eq_nil_or_concat->abQ,concat_eq_append->abR,length_dropLast->abU,getElem?_of_mem->abY,length_eraseIdx->ab1,mem_of_mem_take->ab2,findIdx?->ab7,map_take->ab9,take_succ_cons->acd,find?_eq_none->acy,getElem_idxOf->acz,set_cons_zero->acA,take_sublist->acE,append_inj'->acT
open Option renaming bind_some->Ua,map_some->W7,getD_some->ZQ,isSome_map->aaJ,isSome_iff_exists->aa1,map_eq_some_iff->abw,getD_none->acQ
open PySem.W renaming Frag->Ub,findIn->UV,isFn->Wc,kia_one->Wd,emptyDict->Wj,instObj->WY,keepIn->Yl,plainGet->Yz,fnOf->Y7,hasDictIn->Zm,kitx_list->Zn,kitx_dict->Zo,plainGet_of->aac,lookIn->aae,kitOne->aaf,kitAny->aah,callWith_K->aap,methodObj->aaG,plainOver->aaI,takerIn->abj,makesIn->abk,OpenLaw->abn,cellsFrom_some->abu,codeIn->abF,methodCall_KW->abP,kitx_float->acj,kitx_tuple->ack,kitx_none->acC,kitx_bool->acD,handedIn->acM,kitx_int->acN,kitx_str->acO,kitx_own->acP,WalkO->ac3
open Nat renaming ne_of_lt->Ud,le_refl->Uk,lt_of_lt_of_le->Us,lt_succ_of_lt->Vo,lt_succ_self->VM,le_trans->V2,lt_irrefl->Wa,ne_of_gt->Xk,zero_le->XM,le_of_lt->XX,sub_self->X7,le_succ->YM,zero_add->Z_,eq_zero_or_pos->acs,lt_or_ge->acx,succ_ne_self->acS,not_lt_zero->acV
open PySem.Value renaming ref->UL,none->VB,type->VP,int->V8,str->Yv,bool->aaQ,float->abq,isStrOf->ac2
open Bool renaming and_eq_true->UT,false_eq_true->U0,false_ne_true->Vs,or_eq_true->Y0,eq_iff_iff->Y4,and_eq_true_iff->abV,not_true->ab5,and_assoc->acZ
open Ne renaming symm->U3
open Sum renaming inr->U5,inl->XR
open Array renaming getD_eq_getD_getElem?->U7,length_toList->VR,getElem?_toList->Xq,getElem_toList->YF,toList_push->aaN,getElem?_eq_none->abz
open PySem.F renaming called_set->Vh,slot_tuple_iterator_next->Wh,plain_max_loop->Wi,slot_dict_get->Xr,slot_list_getattribute->X6,plainAttrs_list->Yb,entry_dict_get->Yi,args_tuple_add_2->Y8,slot_list_append->Ze,type_list_append->Zf,entry_tuple_add->Zj,slot_tuple_add->Zz,entry_max_loop->ZG,args_tuple_iterator_next_1->aaj,entry_tuple_iterator_next->aar,entry_type_call->aaM,slot_dict_delitem->aaT,plain_extend_loop->aaU,typeCall_set_1->aa6,entry_set_init->aa7,args_dict_get_2->abf,args_dict_get_3->abg,args_list_append_2->abT,sub_list_frozenset->abZ,entry_list_append->aca,slot_list_append->acr,plain_list_iadd->acI
open PySem.Around renaming under_plainId->Vi,under_plain->aav,under->acn
open Option.some renaming inj->Vw,injEq->XD
open PyProof.Rows.F renaming plain_set_update_loop->VG,entry_set_update_loop->Wv
open PySem.Builtin.Slice renaming sliceAdjust->VH,slicePlaces->VJ,sliceApplied->Xy
open PyProof.Rows renaming slot_tuple_getitem->VV,callWith_type1->Wz,assignInOrder_cons->Xj,envOfC->Zy,AllBare->ZV,setObjOf_fresh->aat,assignInOrder_nil->aaH,IntsAre->aaX,subscriptTail_builtinR->abv,seqObj->abO,entry_tuple_getitem->ab_
open True renaming intro->V4
open Int renaming toNat_natCast->V_,emod_lt_of_pos->acw,emod_nonneg->acX
open Or renaming inr->Wg,inl->Xe
open PySem.Obj renaming mapSeq->Wm,data_mapFields->aaq,isFreed_of_fields->abI,cls_mapFields->acG,putSet->acW
open PySem.PassesOwn renaming never->WD
open False renaming elim->WQ
open PySem.Builtin.Tuple renaming tupleExact->W4,tupleItemsOf->aaB
open List.Sublist renaming refl->W_
open PySem.Builtin.Str renaming occurrences->Xc
open ForInStep renaming yield->Xu
open PySem.Builtin.SmallTypes renaming nextOf->XJ,stopIteration->aaE,ownedTupleFields->acB,newRecord->acY
open PySem.SetTable renaming grown->XS,insertAt->acH,Probe->ac0,fits->ac6
open PySem.Calls renaming callWith_builtin->Yh,spliced_nil->Zq,evalArgs_plain->Z7,spliced_cons->aao,Name_function_global->aaz
open PySem.Str renaming ofString->Yn
open PySem.Builtin.Frozenset renaming updateFrom->Yu,newClass->ac5,addrOf->ac7,sizeOf->ac8,slot0->ac9
open PySem.Builtin.List renaming listLengthHint->Yw,listExtendWith->Yx,listSameRef->aa_
open PySem.Shared renaming TypeIs->YL
open PySem.Heap.SameBut renaming update->YX
open PySem.SetTable.below renaming go->Zv
open PySem.Code renaming quiet_builtin->aau,isFrame->aco
open PySem.Builtin.Builtins renaming bindParams->aaw
open PySem.Paired renaming length->aay
open PySem.Challenge renaming pw_joinback_k61_whole_looks_stay_few->aaF
open PySem.SetTable.probe renaming go->aaO
open PySem.Builtin.Dict renaming updateFrom->abh
open PySem.Heap.DictOf renaming new->abm
open List.Perm renaming refl->abL
open PySem.Walks renaming list->ab0
open PySem.NameKind renaming free->ab4
open Prod.mk renaming injEq->ab6
open PySem.SeqAt.EqAt renaming int_str->ace,str_int->acf,same->ac1
open PySem.Flow renaming next->ach
open PySem.pickOrder renaming go->acu
open Function renaming comp_def->acJ,comp->ac4
open PySem.IsL renaming update->acR
open Sum.inl renaming inj->ac_
open Sum.inr renaming inj->ada
open PySem
variable{XP:(Str->Option Value)->Heap->Prop}{a it f C dx sl l S:Addr}{A:Around}{g':Array GenState}{xs:Array Nat}{items:Array Value}{b led:Bool}{op:CmpOp}{d' d:Drawn}{env:Env}{e c tg value elt target:Expr}{h h' base:Heap}{g:Int->Int->Int}{pins:List (Addr×Obj)}{kw:List (Str×Value)}{ch M fp J L:List Addr}{outer:List Env}{es ifs elts:List Expr}{zs:List Int}{p js:List Nat}{Y:List Stmt}{N ns ps N' fl ys pre:List Str}{us its:List Value}{t' i j n tk x1 ep:Nat}{ob oc pr:Nat->Bool}{tn:Nat->Heap->Prop}{o:Obj}{pos pos' px py tpos apos p2 cpos pos2 p1 q1 q2:Pos}{prog:Program}{scope:Scope}{s:Shared}{x y a0 name:Str}{vs:Str->Int}{P:Str->Nat}{mA mg:Str->Option Value}{q:Str->Option ZL}{R:Str->Str}{T:String}{s':T7}{κ α β ι:Type}{u v z:Value}{RR:Value->Addr->Z6->T7->Prop}{E:Value->Shared->Prop}{Q:Value->T7->Prop}{fd:Vk}{w:World}{YP:World->Heap->Prop}{pl:ι->Sem Bool}
namespace L2
open PySem PySem.Spec PyProof.Rows
abbrev Key:=Sum Int Str
def rC:Key->Value->Bool
 |.inl k,v=>Value.isInt k v
 |.inr x,v=>ac2 x v
def Tt(w:World):Key->Int
 |.inl k=>hashInt k
 |.inr x=>hashStr w x
theorem cO:∀{k:Key}{v:Value},rC k v=true->(∃i t,k=XR i/\v=V8 i t)∨(∃x t,k=U5 x/\v=Yv x t)
 |.inl i,v,h=>by
  obtain⟨t,e⟩:=Value.isInt_shape (k:=i) (v:=v) h;exact .inl ⟨i,t,rfl,e⟩
 |.inr x,v,h=>by
  obtain⟨t,e⟩:=Value.isStrOf_shape (x:=x) (v:=v) h;exact .inr ⟨x,t,rfl,e⟩
theorem Er(i:Int)(t:Tok):rC (.inl i) (.int i t)=true:=by simp[rC,Value.isInt]
theorem DG(x:Str)(t:Tok):rC (.inr x) (.str x t)=true:=by simp[rC,ac2]
theorem Ou(a b:Int):decide ((XR a:Key)=XR b)=(a==b):=by
 by_cases e:a=b
 .subst e;simp
 .have h:¬(XR a:Key)=XR b:=λq=>e (ac_ q)
  rw[U9 h];exact(WK.mpr e).symm
theorem P_(a b:Str):decide ((U5 a:Key)=U5 b)=decide (a=b):=by
 by_cases e:a=b
 .subst e;simp
 .have h:¬(U5 a:Key)=U5 b:=λq=>e (ada q)
  rw[U9 h,U9 e]
theorem PP(a:Int)(b:Str):decide ((XR a:Key)=U5 b)=false:=U9 (λq=>nomatch q)
theorem Pn(a:Str)(b:Int):decide ((U5 a:Key)=XR b)=false:=U9 (λq=>nomatch q)
noncomputable def aR(prog:U_)(w:World):PySem.KeyKind prog w Key where
 is:=rC
 hash:=Tt w
 inj:=λv a b Y U=>by
  rcases cO Y with⟨i,t,rfl,rfl⟩|⟨x,t,rfl,rfl⟩
  .rcases cO U with⟨j,u,rfl,e⟩|⟨y,u,rfl,e⟩
   .injection e with e1 _;rw[e1]
   .exact nomatch e
  .rcases cO U with⟨j,u,rfl,e⟩|⟨y,u,rfl,e⟩
   .exact nomatch e
   .injection e with e1 _;rw[e1]
 byValue:=λk v h=>by
  rcases cO h with⟨i,t,rfl,rfl⟩|⟨x,t,rfl,rfl⟩<;>rfl
 pyHash:=λq h=>by
  rcases cO q with⟨i,t,rfl,rfl⟩|⟨x,t,rfl,rfl⟩
  .exact wpAny_pyHash_int h
  .exact wpAny_pyHash_str h
 eqBool:=λO q h=>by
  rcases cO O with⟨i,t,rfl,rfl⟩|⟨x,t,rfl,rfl⟩
  .rcases cO q with⟨j,u,rfl,rfl⟩|⟨y,u,rfl,rfl⟩
   .rw[Ou]at h;exact wpAny_eqBool_int h
   .rw[PP]at h;exact ace i t y u _ _ _ _ h
  .rcases cO q with⟨j,u,rfl,rfl⟩|⟨y,u,rfl,rfl⟩
   .rw[Pn]at h;exact acf x t j u _ _ _ _ h
   .rw[P_]at h;exact wpAny_eqBool_str h
 «strs»:=λk x t v h=>by
  rcases cO h with⟨i,u,rfl,e⟩|⟨y,u,rfl,e⟩
  .exact nomatch e
  .injection e with e1 _
   subst e1;cases v<;>rfl
theorem yw(prog:U_)(w:World)(i:Int)(t:Tok):(aR prog w).is (.inl i) (.int i t)=true:=Er i t
theorem xV(prog:U_)(w:World)(x:Str)(t:Tok):(aR prog w).is (.inr x) (.str x t)=true:=DG x t
inductive V where
 |non|bl (b:Bool)|int (i:Int)|str (x:Str)|byt (b:Array UInt8)|flt (b:UInt64)|ref (a:Addr)|ty (n:String)
 deriving DecidableEq
def RelV:V->Value->Prop
 |.non,u=>u=VB
 |.bl b,u=>u=aaQ b
 |.int i,u=>∃t,u=V8 i t
 |.str x,u=>∃t,u=Yv x t
 |.byt b,u=>∃t,u=Value.bytes b t
 |.flt b,u=>∃t,u=abq b t
 |.ref a,u=>u=UL a
 |.ty n,u=>u=VP n
noncomputable abbrev Vals:List V->List Value->Prop:=Paired RelV
variable{xs:List V}
theorem Vals.length(r:Vals xs us):xs.length=us.length:=aay r
theorem Vals.get:∀{xs:List V}{us:List Value}{i:Nat}{x:V},Vals xs us->xs[i]? =some x->∃u,us[i]? =some u/\RelV x u
 |_,_,_,_,.nil,e=>by simp at e
 |_,_,0,_,.cons r _,e=>by simp at e;subst e;exact⟨_,rfl,r⟩
 |_,_,i+1,x,.cons _ t,e=>by
  obtain⟨u,h1,h2⟩:=Vals.get (i:=i) (x:=x) t (by simpa using e);exact⟨u,by simpa using h1,h2⟩
theorem Vals.set{x:V}(r:RelV x u):∀{xs:List V}{us:List Value}(i:Nat),Vals xs us->Vals (xs.set i x) (us.set i u)
 |_,_,_,.nil=>.nil
 |_,_,0,.cons _ t=>.cons r t
 |_,_,i+1,.cons q t=>.cons q (Vals.set r i t)
theorem Vals.append:∀{xs ys:List V}{us q:List Value},Vals xs us->Vals ys q->Vals (xs++ys) (us++q)
 |_,_,_,_,.nil,s=>s
 |_,_,_,_,.cons r t,s=>.cons r (Vals.append t s)
theorem Vals.take:∀{xs:List V}{us:List Value}(n:Nat),Vals xs us->Vals (xs.take n) (us.take n)
 |_,_,0,_=>.nil
 |_,_,_+1,.nil=>.nil
 |_,_,n+1,.cons r t=>.cons r (Vals.take n t)
theorem Vals.drop:∀{xs:List V}{us:List Value}(n:Nat),Vals xs us->Vals (xs.drop n) (us.drop n)
 |_,_,0,r=>r
 |_,_,_+1,.nil=>.nil
 |_,_,n+1,.cons _ t=>Vals.drop n t
def lX:Option V->Option Value->Prop
 |some v,some u=>RelV v u
 |none,none=>True
 |_,_=>False
def KV:List (κ×V)->List (κ×Value)->Prop:=Paired λ(p:κ×V)(q:κ×Value)=>p.1=q.1/\RelV p.2 q.2
def kV:Key->V
 |.inl i=>.int i
 |.inr x=>.str x
inductive HO where
 |lst (xs:List V)
 |tup (xs:List V)
 |dK (kvs:List (Key×V))|dT (kvs:List (List Key×V))
 |set (S:Int->Bool) (n:Nat)
 |ins (C dx:Addr) (fs:List (Str×V))
 |own (x:Addr)
 |xd (fs:List (Str×V))
 |met (f x:Addr)
 |rng (lo hi:Int)
 |frz (o:Obj) (u:HO)
 |tbl (ps:Array Value)
 |ext (φ:Heap->Prop)
abbrev Hp:=Addr->Option HO
def upd(H:Hp)(a:Addr)(o:HO):Hp:=λb=>if b=a then some o else H b
variable{H:Hp}{o:HO}
theorem aZ:upd H a o a=some o:=by unfold upd;rw[Uo rfl]
variable{b:Addr}
theorem aK(h:b≠a):upd H a o b=H b:=by unfold upd;rw[Uq h]
theorem Bv{u:HO}:upd (upd H a o) a u=upd H a u:=by
 funext b;unfold upd;split<;>rfl
theorem Ay{u:HO}(h:H a=some o)(h':H b=some u)(d:o≠u):a≠b:=by
 intro e;subst e;rw[h]at h';exact d (Vw h')
theorem aP(h:H a=some o)(h':H b=none):a≠b:=by
 intro e;subst e;rw[h]at h';cases h'
def oO(h:Heap)(a:Addr)(items:Array Value):Prop:=∃o,h.get? a=some o/\o.cls= .type "tuple"/\∃n,o.data= .seq items n/\o.dict=none
theorem oO.new(h:Heap)(items:Array Value):oO (h.push {cls:=.type "tuple",data:=.seq items}) h.objs.size items:=⟨_,Ue _ rfl,rfl,_,rfl,rfl⟩
theorem oO.t(x:oO h a items):IsTup h a items:=let⟨o,e,c,n,d,_⟩:=x;⟨o,e,c,n,d⟩
section
variable(P:Program)(w:World)
def cF(H:Hp)(h:Heap)(a:Addr):HO->Prop
 |.lst xs=>xs.length<=Ui/\∃(its:List Value)(n:Nat),Vals xs its/\h.get? a=some {cls:=.type "list",data:=.seq its.toArray n}
 |.tup xs=>xs.length<=Ui/\∃its:List Value,Vals xs its/\oO h a its.toArray
 |.dK kvs=>kvs.length<=Ui/\(a==XH)=false/\∃vs,KV kvs vs/\h.DictOf (aR P w) a vs
 |.dT kvs=>kvs.length<=Ui/\(a==XH)=false/\∃xs:List (List Key×Addr×Value),
  Paired (λ(p:List Key×V)(q:List Key×Addr×Value)=>p.1=q.1/\H q.2.1=some (.tup (p.1.map kV))/\RelV p.2 q.2.2) kvs xs/\
  ∃o es ep,h.get? a=some o/\o.ExactDict/\o.data= .dict es ep/\es.toList=xs.map (entryOfKey (ZS (aR P w)))/\(xs.map (·.1)).Nodup
 |.set S n=>h.SetOf (intKind P w) a S n
 |.ins C dx fs=>H dx=some (.own a)/\fs.length<=1000/\dx≠a/\h.get? a=some (WY C dx)/\
  ∃mA,h.Ns1 dx mA/\(∀f,lX (fs.lookup f) (mA f))/\acg mA (fs.map (·.1))
 |.own _=>∃o,h.get? a=some o
 |.xd fs=>∃mA,h.Ns1 a mA/\∀f,lX (fs.lookup f) (mA f)
 |.rng lo hi=>∃t u v,h.get? a=some {cls:=.type "range",data:=.fields #[.int lo t,.int hi u,.int 1 v]}
 |.frz o u=>h.get? a=some o/\cF H h a u
 |.tbl ps=>h.get? a=some {cls:=.none,data:=.fields ps}
 |.met f x=>h.get? a=some (aaG (.ref f) (.ref x))
 |.ext J=>J h/\(∃o,h.get? a=some o)/\∀h1 h2:Heap,J h1->(∀o,h1.get? a=some o->h2.get? a=some o)->J h2
def HOk(H:Hp)(h:Heap):Prop:=∀a o,H a=some o->cF P w H h a o
end
variable{P:Program}
theorem cF.lt(x:cF P w H h a o):a<h.objs.size:=by
 cases o with
 |lst xs=>obtain⟨_,_,_,_,e⟩:=x;exact Uc e
 |tup xs=>obtain⟨_,_,_,p⟩:=x;exact p.t.lt
 |dK kvs=>obtain⟨_,_,_,_,o,_,_,e,_⟩:=x;exact Uc e
 |dT kvs=>obtain⟨_,_,_,_,o,_,_,e,_⟩:=x;exact Uc e
 |set S n=>obtain⟨o,_,_,_,e,_⟩:=x;exact Uc e
 |ins C dx fs=>obtain⟨_,_,_,e,_⟩:=x;exact Uc e
 |own y=>obtain⟨_,e⟩:=x;exact Uc e
 |xd fs=>obtain⟨_,⟨_,_,_,e,_⟩,_⟩:=x;exact Uc e
 |rng lo hi=>obtain⟨_,_,_,e⟩:=x;exact Uc e
 |frz ob u=>obtain⟨e,_⟩:=x;exact Uc e
 |tbl ps=>exact Uc (show h.get? a=some _ from x)
 |met f y=>exact Uc (show h.get? a=some _ from x)
 |ext J=>obtain⟨_,⟨_,e⟩,_⟩:=x;exact Uc e
theorem Paired.mapP{F G:α->β->Prop}:∀{q:List α}{z:List β},Paired F q z->(∀a b,F a b->G a b)->Paired G q z
 |_,_,.nil,_=>.nil
 |_,_,.cons r t,f=>.cons (f _ _ r) (Paired.mapP t f)
variable{H':Hp}
theorem cF.stay(x:cF P w H h a o)(k:∀b u,(b=a∨H b=some (.own a))->h.get? b=some u->h'.get? b=some u)
  (O:∀b,H b=some (.own a)->H' b=some (.own a)) (Y:∀b xs,H b=some (.tup xs)->H' b=some (.tup xs)):cF P w H' h' a o:=by
 induction o with
 |lst xs=>obtain⟨z,its,n,r,e⟩:=x;exact⟨z,its,n,r,k _ _ (.inl rfl) e⟩
 |tup xs=>obtain⟨z,its,r,ob,e,c⟩:=x;exact⟨z,its,r,ob,k _ _ (.inl rfl) e,c⟩
 |dK kvs=>obtain⟨z,y,vs,r,ob,es,ep,e,c⟩:=x;exact⟨z,y,vs,r,ob,es,ep,k _ _ (.inl rfl) e,c⟩
 |dT kvs=>
  obtain⟨z,y,xs,r,ob,es,ep,e,c⟩:=x;exact⟨z,y,xs,Paired.mapP r λp q z=>⟨z.1,Y _ _ z.2.1,z.2.2⟩,ob,es,ep,k _ _ (.inl rfl) e,c⟩
 |set S n=>obtain⟨ob,es,ep,t,e,c⟩:=x;exact⟨ob,es,ep,t,k _ _ (.inl rfl) e,c⟩
 |ins C dx fs=>
  obtain⟨d,z,U,e,mA,⟨F,es,ep,e2,c⟩,r⟩:=x;exact⟨O _ d,z,U,k _ _ (.inl rfl) e,mA,⟨F,es,ep,k _ _ (.inr d) e2,c⟩,r⟩
 |own y=>obtain⟨ob,e⟩:=x;exact⟨ob,k _ _ (.inl rfl) e⟩
 |xd fs=>obtain⟨mA,⟨F,es,ep,e,c⟩,r⟩:=x;exact⟨mA,⟨F,es,ep,k _ _ (.inl rfl) e,c⟩,r⟩
 |rng lo hi=>obtain⟨t,u,v,e⟩:=x;exact⟨t,u,v,k _ _ (.inl rfl) e⟩
 |frz ob u Z=>obtain⟨e,q⟩:=x;exact⟨k _ _ (.inl rfl) e,Z q⟩
 |tbl ps=>
  have e:h.get? a=some {cls:=.none,data:=.fields ps}:=x;show h'.get? a=some {cls:=.none,data:=.fields ps};exact k a _ (.inl rfl) e
 |met f y=>
  have e:h.get? a=some (aaG (.ref f) (.ref y)):=x;show h'.get? a=some (aaG (.ref f) (.ref y));exact k a _ (.inl rfl) e
 |ext J=>obtain⟨p,⟨o,e⟩,st⟩:=x;exact⟨st _ _ p λo q=>k _ _ (.inl rfl) q,⟨o,k _ _ (.inl rfl) e⟩,st⟩
theorem HOk.lt(x:HOk P w H h)(e:H a=some o):a<h.objs.size:=(x a o e).lt
theorem HOk.fresh(x:HOk P w H h)(e:h.objs.size<=a):H a=none:=by
 cases q:H a with
 |none=>rfl
 |some u=>exact absurd (Us (x.lt q) e) (Wa _)
theorem HOk.kept(x:HOk P w H h)(k:∀b u,h.get? b=some u->h'.get? b=some u):HOk P w H h':=λa o e=>
 (x a o e).stay (λb u _ q=>k b u q) (λ_ q=>q) λ_ _ q=>q
theorem HOk.laid(x:HOk P w H h)(k:∀b u,h.get? b=some u->h'.get? b=some u)(V:h.objs.size<=a)(new:cF P w (upd H a o) h' a o):HOk P w (upd H a o) h':=λb u e=>by
 have N:=x.fresh V;by_cases U:b=a
 .subst U;rw[aZ]at e;cases e;exact new
 .rw[aK U]at e
  exact(x b u e).stay (λc v _ q=>k c v q) (λc q=>by rw[aK (aP q N)];exact q) λc xs q=>by rw[aK (aP q N)];exact q
def Rd(H:Hp)(a:Addr)(u:HO):Prop:=H a=some u∨∃o,H a=some (.frz o u)
theorem Rd.ok{P:U_}{u:HO}(r:Rd H a u)(x:HOk P w H h):cF P w H h a u:=by
 rcases r with r|⟨o,r⟩
 .exact x a u r
 .obtain⟨_,q⟩:=x a _ r
  exact q
def Mut:Option HO->Prop
 |some (.lst _)=>True
 |some (.dK _)=>True
 |some (.dT _)=>True
 |some (.set _ _)=>True
 |some (.ins _ _ _)=>True
 |some (.ext _)=>True
 |_=>False
variable{x e:Addr}{o':HO}
theorem HOk.write(ok:HOk P w H h)(mu:Mut (H x))(N:e=x∨H e=some (.own x))(k:∀b u,b≠e->h.get? b=some u->h'.get? b=some u)(Y:∃u,h'.get? e=some u)
  (new:cF P w (upd H x o') h' x o'):HOk P w (upd H x o') h':=λb u q=>by
 have F:∀c y,H c=some (.own y)->c≠x:=λc y r z=>by subst z;rw[r]at mu;exact mu
 have V:∀c xs,H c=some (.tup xs)->c≠x:=λc xs r z=>by subst z;rw[r]at mu;exact mu
 by_cases U:b=x
 .subst U;rw[aZ]at q;cases q;exact new
 .rw[aK U]at q
  by_cases O:b=e
  .have q':H b=some (.own x):=by
    rcases N with z|z
    .exact absurd (O.trans z) U
    .rw[O];exact z
   rw[q]at q';cases q';obtain⟨v,Z⟩:=Y;exact⟨v,by rw[O];exact Z⟩
  .refine(ok b u q).stay (λc v J r=>k c v ?_ r) (λc r=>by rw[aK (F c b r)];exact r) λc xs r=>by rw[aK (V c xs r)];exact r
   rcases J with rfl|J
   .exact O
   .rintro rfl
    rcases N with z|z
    .exact F c b J z
    .rw[J]at z;cases z;exact U rfl
structure Un(fs ex:List Addr)(H H':Hp)(h h':Heap):Prop where
 keep:∀b o,h.get? b=some o->H b=none->b∉fs->b∉ex->h'.get? b=some o
 slot:∀b o,h.get? b=some o->H b=none->b∈fs->b∉ex->∃sl,h'.get? b=some {o with slots:=sl}
 free:∀b o,h.get? b=some o->H b=none->b∉ex->H' b=none
 there:∀b o,h.get? b=some o->b∉ex->∃o',h'.get? b=some o'
 tups:∀b xs,H b=some (.tup xs)->H' b=some (.tup xs)
 frzs:∀b o u,H b=some (.frz o u)->H' b=some (.frz o u)
 tbls:∀b ps,H b=some (.tbl ps)->∃more,H' b=some (.tbl (ps++more))
section
variable{fs fs' ex ex':List Addr}{H H1 H2:Hp}{h h1 h2 h':Heap}{a x e:Addr}{o:HO}
theorem Un.any(u:Un fs ex H H1 h h1){b:Addr}{ob:Obj}(q:h.get? b=some ob)(n:H b=none)(F:b∉ex):∃sl,h1.get? b=some {ob with slots:=sl}:=by
 by_cases U:b∈fs
 .exact u.slot b ob q n U F
 .exact⟨ob.slots,u.keep b ob q n U F⟩
theorem Un.kept(k:∀b u,h.get? b=some u->h'.get? b=some u):Un fs ex H H h h':=
 ⟨λb ob q _ _ _=>k b ob q,λb ob q _ _ _=>⟨ob.slots,k b ob q⟩,λ_ _ _ n _=>n,λb ob q _=>⟨ob,k b ob q⟩,λ_ _ q=>q,λ_ _ _ q=>q,λ_ ps q=>⟨#[],by rw[q];simp⟩⟩
theorem Un.refl:Un fs ex H H h h:=Un.kept λ_ _ q=>q
theorem Un.laid(k:∀b u,h.get? b=some u->h'.get? b=some u)(V:h.objs.size<=a)(N:H a=none):Un fs ex H (upd H a o) h h' where
 keep:=λb u q _ _ _=>k b u q
 slot:=λb u q _ _ _=>⟨u.slots,k b u q⟩
 free:=λb u q n _=>by rw[aK (Ud (Us (Uc q) V))];exact n
 there:=λb u q _=>⟨u,k b u q⟩
 tups:=λb xs q=>by rw[aK (aP q N)];exact q
 frzs:=λb u xs q=>by rw[aK (aP q N)];exact q
 tbls:=λb ps q=>⟨#[],by rw[aK (aP q N),q];simp⟩
theorem Un.write(mu:Mut (H x))(N:e=x∨H e=some (.own x))(k:∀b u,b≠e->h.get? b=some u->h'.get? b=some u)(Y:∃u,h'.get? e=some u):Un fs ex H (upd H x o) h h':=by
 have F:∀b,H b=none->b≠x:=λb n z=>by subst z;rw[n]at mu;exact mu
 have U:∀b,H b=none->b≠e:=λb n z=>by
  subst z;rcases N with r|r
  .exact F b n r
  .rw[n]at r;cases r
 have V:∀b u,H b=some u->¬Mut (some u)->b≠x:=λb u q Z z=>by subst z;rw[q]at mu;exact Z mu
 refine⟨λb u q n _ _=>k b u (U b n) q,λb u q n _ _=>⟨u.slots,k b u (U b n) q⟩,λb u q n _=>by rw[aK (F b n)];exact n,λb u q _=>?_,
  λb xs q=>by rw[aK (V b _ q λz=>z)];exact q,λb u xs q=>by rw[aK (V b _ q λz=>z)];exact q,λb ps q=>⟨#[],by rw[aK (V b _ q λz=>z),q];simp⟩⟩
 by_cases O:b=e
 .subst O;exact Y
 .exact⟨u,k b u O q⟩
end
def trk(h:Heap)(H:Hp):List Addr:=(V1 h.objs.size).filter λa=>(H a).isSome
def xP(h:Heap)(H:Hp):Heap:=PySem.W.hideAll h (trk h H)
theorem Et(h:Heap)(H:Hp):(xP h H).objs.size=h.objs.size:=PySem.W.hideAll_size _ _
variable{o:Obj}
theorem G4(e:h.get? b=some o)(n:H b=none):(xP h H).get? b=some o:=
 PySem.W.hideAll_get _ e λV=>by
  have q:(H b).isSome=true:=(Z3.mp V).2;rw[n]at q;simp at q
theorem Lw(e:(xP h H).get? b=some o):h.get? b=some o/\H b=none:=by
 have Z:h.get? b=some o:=PySem.W.of_hideAll (trk h H) e;refine⟨Z,?_⟩;cases q:H b with
 |none=>rfl
 |some x=>
  have V:b∈trk h H:=Z3.mpr ⟨Zg.mpr (Uc Z),by simp[q]⟩;have z:(xP h H).get? b=none:=PySem.W.hideAll_none (trk h H) V;rw[z]at e;cases e
def JH(g h:Heap)(L:Addr):List (Addr×Obj):=(V1 h.objs.size).filterMap λa=>if a=L∨(g.get? a).isSome=true then none else(h.get? a).map λo=>(a,o)
def rest(g h:Heap)(L d:Addr):List (Addr×Obj):=(JH g h L).filter λp=>decide (p.1≠d)
structure Mod(K:PySem.W.Frag)(mg:Str->Option Value)(base:Heap):Prop where
 kin:K.In base
 glob:base.Ns Uv mg
 blt:∃mb,base.Ns builtinsNs mb/\∀x:Str,x≠"__name__"->mb x=W2 x
 nolimit:base.NoLimit
structure Cx where
 prog:U_
 w:World
 K:Ub
 mg:Str->Option Value
 base:Heap
 A:Vu
 N:List Str
 s₀:T7
 H₀:Hp
 env:Env
 outer:List Env
 stack:List Env
 ex:List Addr
 fn:Str->Bool
 calm:Bool
 pn:List (Addr×Obj)
 xe:Value->T7->Prop
def frs(l:List Env):List Addr:=l.filterMap (·.frame)
noncomputable abbrev Cx.fs(X:Cx):List Addr:=frs X.outer
def Vis(z:Scope)(x:Str):Prop:=z.names.lookup x=some .local∨z.names.lookup x=some .cell∨z.names.lookup x=some .free
def Loc(z:Scope)(x:Str):Prop:=z.names.lookup x=some .local∨z.names.lookup x=some .cell
def Look(env:Env)(h:Heap)(m:Str->Option Value)(x:Str)(u:Value):Prop:=
 (env.kindOf x=some .local/\m x=some u)∨((env.kindOf x=some .cell∨env.kindOf x=some .free)/\∃c,env.cells.lookup x=some c/\h.IsCell c (some u))
structure Cx.Ok(X:Cx):Prop where
 mod:Mod X.K X.mg X.base
 kind:X.env.scope.kind= .function
 glob:X.env.globals=Uv
 blt:X.env.builtins=builtinsNs
 above:X.s₀.heap.objs.size<=X.env.locals
 inj:∀x y c,X.env.cells.lookup x=some c->X.env.cells.lookup y=some c->x=y
 has:∀x,(X.env.kindOf x=some .cell∨X.env.kindOf x=some .free)->∃c,X.env.cells.lookup x=some c
 cab:∀x c,X.fn x=true->X.env.cells.lookup x=some c->X.s₀.heap.objs.size<=c
 hd:X.calm=true->X.A.handled=none
 frames:X.A.frames=some X.stack
 stk:X.stack=X.outer∨(X.stack=X.env::X.outer/\X.env.frame=some X.env.locals)
 exf:∀b∈X.ex,b≠X.env.locals/\∀x c,X.env.cells.lookup x=some c->c≠b
 bs:∀b o,X.base.get? b=some o->X.s₀.heap.get? b=some o/\X.H₀ b=none
 bsz:X.base.objs.size<=X.s₀.heap.objs.size
 noex:∀b o,X.base.get? b=some o->b∉X.ex
 exfs:∀b∈X.ex,b∉X.fs
 funs:X.s₀.heap.FunFrames X.base X.outer
 frf:∀b∈X.fs,X.H₀ b=none
structure Inv(X:Cx)(pins:List (Addr×Obj))(σ:List (Option V))(H:Hp)(s:Shared):Prop where
 ok:X.Ok
 os:s.os=X.s₀.os
 bare:ZV s.gens
 base:Un X.fs X.ex X.H₀ H X.s₀.heap s.heap
 loc:∃m,s.heap.Ns X.env.locals m/\∀(i:Nat)(x:Str)(v:V),X.N[i]? =some x->σ[i]? =some (some v)->Vis X.env.scope x->∃u,RelV v u/\Look X.env s.heap m x u
 cell:∀x c,X.env.cells.lookup x=some c->∃v,s.heap.IsCell c v
 free:H X.env.locals=none
 freeC:∀x c,X.env.cells.lookup x=some c->H c=none
 pin:∀p∈X.pn++pins,s.heap.get? p.1=some p.2/\H p.1=none/\p.1≠X.env.locals/\p.1∉X.fs/\∀v,p.2.data≠.cell v
 hok:HOk X.prog X.w H s.heap
 len:σ.length=X.N.length
variable{X:Cx}
theorem Cx.Ok.nofr(ok:X.Ok)(e:X.base.get? b=some o):b∉X.fs:=λU=>by
 have:=(ok.funs.mem U).1;rw[e]at this;cases this
variable{σ:List (Option V)}
theorem Inv.bs(I:Inv X pins σ H s):∀b o,X.base.get? b=some o->s.heap.get? b=some o/\H b=none:=λb o e=>
 ⟨I.base.keep b o (I.ok.bs b o e).1 (I.ok.bs b o e).2 (I.ok.nofr e) (I.ok.noex b o e),I.base.free b o (I.ok.bs b o e).1 (I.ok.bs b o e).2 (I.ok.noex b o e)⟩
theorem Inv.bk(I:Inv X pins σ H s):∀b o,X.base.get? b=some o->s.heap.get? b=some o:=λb o e=>(I.bs b o e).1
theorem Inv.mod(I:Inv X pins σ H s):Mod X.K X.mg X.base:=I.ok.mod
theorem Inv.kIn(I:Inv X pins σ H s):X.K.In s.heap:=I.ok.mod.kin.keeps I.bk
theorem Inv.lt(I:Inv X pins σ H s):X.env.locals<s.heap.objs.size:=let⟨_,hn,_⟩:=I.loc;hn.lt
theorem Inv.sz(I:Inv X pins σ H s):X.s₀.heap.objs.size<=s.heap.objs.size:=V2 I.ok.above (XX I.lt)
theorem Inv.nofs(I:Inv X pins σ H s)(h:s.heap.objs.size<=a):a∉X.fs:=λU=>by
 obtain⟨_,o,O,_⟩:=I.ok.funs.mem U;exact absurd (Us (Uc O) (V2 I.sz h)) (Wa _)
theorem Inv.cne(I:Inv X pins σ H s):∀x c,X.env.cells.lookup x=some c->c≠X.env.locals:=λx c e z=>by
 obtain⟨v,o,O,hd⟩:=I.cell x c e;obtain⟨m,⟨o',es,ep,q,N,_⟩,_⟩:=I.loc;rw[z,q]at O;cases O;rw[N]at hd;cases hd
theorem Inv.funs(I:Inv X pins σ H s):s.heap.FunFrames X.base X.outer:=by
 have all:∀(l:List Env),(∀b∈frs l,b∈X.fs)->X.s₀.heap.FunFrames X.base l->s.heap.FunFrames X.base l:=by
  intro l
  induction l with
  |nil=>intro _ _;trivial
  |cons env r V=>
   intro O Y;obtain⟨q,⟨L,o,J,N,ho,hd⟩,Z⟩:=Y;have F:L∈X.fs:=O L (by unfold frs;rw[YT,J];exact Vb);obtain⟨sl,e⟩:=I.base.slot L o ho (I.ok.frf L F) F λz=>I.ok.exfs L z F;exact⟨q,⟨L,_,J,N,e,hd⟩,V (λb U=>O b (by unfold frs;rw[YT,J];exact Ut _ U)) Z⟩
 exact all X.outer (λ_ U=>U) I.ok.funs
theorem Inv.stack(I:Inv X pins σ H s):s.heap.FunFrames X.base X.stack:=by
 rcases I.ok.stk with e|⟨e,Z⟩
 .rw[e];exact I.funs
 .rw[e]
  obtain⟨m,N,_⟩:=I.loc;refine .cons (by rw[I.ok.kind];decide) Z N ?_ I.funs;exact Heap.get?_none_of_le (V2 I.ok.bsz I.ok.above)
theorem Inv.stkSub(I:Inv X pins σ H s):∀b∈frs X.stack,b∈X.env.locals::X.fs:=λb U=>by
 rcases I.ok.stk with e|⟨e,Z⟩
 .rw[e]at U;exact Ut _ U
 .rw[e]at U
  unfold frs at U;rw[YT,Z]at U;exact U
theorem Inv.stkFree(I:Inv X pins σ H s):∀b∈frs X.stack,H b=none:=λb U=>by
 rcases Uj.mp (I.stkSub b U)with e|U
 .rw[e];exact I.free
 .obtain⟨_,o,ho,_⟩:=I.ok.funs.mem U
  exact I.base.free b o ho (I.ok.frf b U) λz=>I.ok.exfs b z U
theorem Inv.step(I:Inv X pins σ H s)
  (Y:∀b∈ch,(b∈X.ex∨X.s₀.heap.objs.size<=b)/\b≠X.env.locals/\(∀x c,X.env.cells.lookup x=some c->c≠b)/\∀p∈X.pn++pins,p.1≠b)
  (keep:∀b o,b≠X.env.locals->b∉X.fs->b∉ch->s.heap.get? b=some o->H b=none->h'.get? b=some o)
  (slot:∀b o,b≠X.env.locals->b∈X.fs->b∉ch->s.heap.get? b=some o->H b=none->∃sl,h'.get? b=some {o with slots:=sl}) (free:∀b o,b∉ch->s.heap.get? b=some o->H b=none->H' b=none)
  (there:∀b o,b∉ch->s.heap.get? b=some o->∃o',h'.get? b=some o')
  (tups:∀b xs,H b=some (.tup xs)->H' b=some (.tup xs)) (frzs:∀b o u,H b=some (.frz o u)->H' b=some (.frz o u)) (tbls:∀b ps,H b=some (.tbl ps)->∃a4,H' b=some (.tbl (ps++a4)))
  (ns:∀m,s.heap.Ns X.env.locals m->h'.Ns X.env.locals m) (hok:HOk X.prog X.w H' h') (hg:ZV g') :
  Inv X pins σ H' {s with heap:=h',gens:=g',drawn:=d',toks:=t'}:=by
 have a3:∀b o,X.s₀.heap.get? b=some o->b≠X.env.locals:=λb o e=>Ud (Us (Uc e) I.ok.above);have a2:∀b o,X.s₀.heap.get? b=some o->b∉X.ex->b∉ch:=λb o e F U=>by
  rcases(Y b U).1 with z|z
  .exact F z
  .exact absurd (Us (Uc e) z) (Wa _)
 have a1:∀x c,X.env.cells.lookup x=some c->∀v,s.heap.IsCell c v->h'.IsCell c v:=λx c e v ⟨o,O,hd⟩=>by
  have a0:c∉ch:=λz=>(Y c z).2.2.1 x c e rfl;by_cases J:c∈X.fs
  .obtain⟨sl,q⟩:=slot c o (I.cne x c e) J a0 O (I.freeC x c e)
   exact⟨_,q,hd⟩
  .exact⟨o,keep c o (I.cne x c e) J a0 O (I.freeC x c e),hd⟩
 refine⟨I.ok,I.os,hg,⟨λb o e n U F=>?_,λb o e n U F=>?_,λb o e n F=>?_,λb o e F=>?_,λb xs e=>tups b xs (I.base.tups b xs e),λb o xs e=>frzs b o xs (I.base.frzs b o xs e),λb ps e=>?_⟩,?_,λx c e=>?_,?_,λx c e=>?_,λp V=>?_,hok,I.len⟩
 .exact keep b o (a3 b o e) U (a2 b o e F) (I.base.keep b o e n U F) (I.base.free b o e n F)
 .obtain⟨sl,e1⟩:=I.base.slot b o e n U F
  obtain⟨a5,e2⟩:=slot b _ (a3 b o e) U (a2 b o e F) e1 (I.base.free b o e n F);exact⟨a5,e2⟩
 .obtain⟨o',e1⟩:=I.base.there b o e F
  exact free b o' (a2 b o e F) e1 (I.base.free b o e n F)
 .obtain⟨o',e1⟩:=I.base.there b o e F
  exact there b o' (a2 b o e F) e1
 .obtain⟨m1,e1⟩:=I.base.tbls b ps e
  obtain⟨N,e2⟩:=tbls b _ e1;exact⟨m1++N,by rw[e2,Array.append_assoc]⟩
 .obtain⟨m,hn,hl⟩:=I.loc
  refine⟨m,ns m hn,λi x v e1 e2 Z=>?_⟩;obtain⟨u,r,l⟩:=hl i x v e1 e2 Z;refine⟨u,r,?_⟩;rcases l with l|⟨k,c,e,z⟩
  .exact .inl l
  .exact .inr ⟨k,c,e,a1 x c e _ z⟩
 .obtain⟨v,z⟩:=I.cell x c e
  exact⟨v,a1 x c e v z⟩
 .obtain⟨m,⟨o,_,_,O,_⟩,_⟩:=I.loc
  exact free _ o (λz=>(Y _ z).2.1 rfl) O I.free
 .obtain⟨v,o,O,hd⟩:=I.cell x c e
  exact free c o (λz=>(Y c z).2.2.1 x c e rfl) O (I.freeC x c e)
 .obtain⟨e,n,ne,nf,d⟩:=I.pin p V
  have a0:p.1∉ch:=λz=>(Y p.1 z).2.2.2 p V rfl;exact⟨keep p.1 p.2 ne nf a0 e n,free p.1 p.2 a0 e n,ne,nf,d⟩
theorem Inv.un(I:Inv X pins σ H s)(u:Un X.fs [] H H' s.heap h')(hok:HOk X.prog X.w H' h'):Inv X pins σ H' {s with heap:=h',toks:=t'}:=by
 obtain⟨m,⟨o,es,ep,O,r⟩,_⟩:=id I.loc;obtain⟨sl,F⟩:=u.any O I.free (by simp);exact I.step (g':=s.gens) (d':=s.drawn) (ch:=[]) (λ_ z=>nomatch z) (λb o _ U _ e n=>u.keep b o e n U (by simp)) (λb o _ U _ e n=>u.slot b o e n U (by simp)) (λb o _ e n=>u.free b o e n (by simp)) (λb o _ e=>u.there b o e (by simp)) u.tups u.frzs u.tbls (λY V=>by
  obtain⟨o',J,Z,q,N⟩:=V;rw[O]at q;cases q;exact⟨_,J,Z,F,N⟩) hok I.bare
theorem Inv.call(I:Inv X pins σ H s)(u:Un (frs X.stack) ch H H' s.heap h')(hok:HOk X.prog X.w H' h')(hg:ZV g')
  (Y:∀b∈ch,(b∈X.ex∨X.s₀.heap.objs.size<=b)/\b≠X.env.locals/\(∀x c,X.env.cells.lookup x=some c->c≠b)/\∀p∈X.pn++pins,p.1≠b) :
  Inv X pins σ H' {s with heap:=h',gens:=g',drawn:=d',toks:=t'}:=by
 obtain⟨m,⟨o,es,ep,O,r⟩,_⟩:=id I.loc;obtain⟨sl,F⟩:=u.any O I.free λz=>(Y _ z).2.1 rfl;exact I.step (ch:=ch) Y (λb o F U J e n=>u.keep b o e n (λz=>(Uj.mp (I.stkSub b z)).elim F U) J) (λb o _ _ J e n=>u.any e n J) (λb o J e n=>u.free b o e n J) (λb o J e=>u.there b o e J) u.tups u.frzs u.tbls (λm' V=>by
  obtain⟨o',a0,Z,q,N⟩:=V;rw[O]at q;cases q;exact⟨_,a0,Z,F,N⟩) hok hg
theorem Inv.turned(I:Inv X pins σ H s)(k:∀b o,b≠it->s.heap.get? b=some o->h'.get? b=some o)(N:H it=none)(Y:it≠X.env.locals)
  (h1:it∈X.ex∨X.s₀.heap.objs.size<=it) (h2:∀x c,X.env.cells.lookup x=some c->c≠it) (F:∀p∈X.pn++pins,p.1≠it):Inv X pins σ H {s with heap:=h',toks:=t'}:=by
 have O:∀b u,H b=some u->b≠it:=λb u e z=>by rw[z,N]at e;cases e
 refine I.step (g':=s.gens) (d':=s.drawn) (ch:=[it]) (λb U=>?_) (λb o _ _ J e _=>k b o (λz=>J (by simp[z])) e) (λb o _ _ J e _=>⟨o.slots,k b o (λz=>J (by simp[z])) e⟩) (λ_ _ _ _ n=>n)
  (λb o J e=>⟨o,k b o (λz=>J (by simp[z])) e⟩) (λ_ _ e=>e) (λ_ _ _ e=>e) (λb ps e=>⟨#[],by rw[e];simp⟩) (λm V=>?_) (λb u e=>?_) I.bare
 .have e:b=it:=by simpa using U
  subst e;exact⟨h1,Y,h2,F⟩
 .obtain⟨o,es,ep,ho,r⟩:=V
  exact⟨o,es,ep,k _ o (U3 Y) ho,r⟩
 .refine(I.hok b u e).stay (λc v J q=>k c v ?_ q) (λ_ q=>q) λ_ _ q=>q
  rcases J with z|z
  .rw[z];exact O b u e
  .exact O c _ z
theorem Inv.tok(I:Inv X pins σ H s)(t:Nat):Inv X pins σ H {s with toks:=t}:=I.un (h':=s.heap) (t':=t) Un.refl I.hok
theorem Inv.kept(I:Inv X pins σ H s)(k:∀b u,s.heap.get? b=some u->h'.get? b=some u):Inv X pins σ H {s with heap:=h',toks:=t'}:=I.un (Un.kept k) (I.hok.kept k)
theorem Inv.laid{o:HO}(I:Inv X pins σ H s)(k:∀b u,s.heap.get? b=some u->h'.get? b=some u)(V:s.heap.objs.size<=a)(new:cF X.prog X.w (upd H a o) h' a o) :
 Inv X pins σ (upd H a o) {s with heap:=h',toks:=t'}:=I.un (Un.laid k V (I.hok.fresh V)) (I.hok.laid k V new)
theorem Inv.write{o:HO}(I:Inv X pins σ H s)(mu:Mut (H x))(N:e=x∨H e=some (.own x))(k:∀b u,b≠e->s.heap.get? b=some u->h'.get? b=some u)(Y:∃u,h'.get? e=some u)
 (new:cF X.prog X.w (upd H x o) h' x o):Inv X pins σ (upd H x o) {s with heap:=h',toks:=t'}:=I.un (Un.write mu N k Y) (I.hok.write mu N k Y new)
theorem Inv.weak{F:List (Option V)}(I:Inv X pins σ H s)(Y:F.length=σ.length)(w:∀(i:Nat) v,F[i]? =some (some v)->σ[i]? =some (some v)):Inv X pins F H s:=
 ⟨I.ok,I.os,I.bare,I.base,let⟨m,hn,hl'⟩:=I.loc;⟨m,hn,λi x v e1 e2 Z=>hl' i x v e1 (w i v e2) Z⟩,I.cell,I.free,I.freeC,I.pin,I.hok,Y.trans I.len⟩
theorem Inv.pins_of{q:List (Addr×Obj)}(I:Inv X pins σ H s)(h:∀p∈q,s.heap.get? p.1=some p.2/\H p.1=none/\p.1≠X.env.locals/\p.1∉X.fs/\∀v,p.2.data≠.cell v):Inv X q σ H s:=
 ⟨I.ok,I.os,I.bare,I.base,I.loc,I.cell,I.free,I.freeC,λp V=>(T_.mp V).elim (λz=>I.pin p (Uh _ z)) (h p),I.hok,I.len⟩
variable{x:Str}
theorem yu(q:N.Nodup)(a:N[i]? =some x)(b:N[j]? =some x):i=j:=by
 obtain⟨h1,e1⟩:=List.getElem?_eq_some_iff.mp a;obtain⟨h2,e2⟩:=List.getElem?_eq_some_iff.mp b;exact(List.getElem_inj q).mp (e1.trans e2.symm)
variable{M:Model}{A:Vu}{E:Value->T7->Prop}{v:V}{Q:Unit->T7->Prop}
theorem C_(I:Inv X pins σ H s)(hN:X.N.Nodup)(hi:X.N[i]? =some x)(F:Loc X.env.scope x)(r:RelV v u)
  (h:∀s',Inv X pins (σ.set i (some v)) H s'->(∃a,WL a s.heap s'.heap/\(a=X.env.locals∨X.env.cells.lookup x=some a))->Q () s') (Z:X.fn x=true∨X.env.scope.names.lookup x=some .local:=by first|exact .inl rfl|exact .inr rfl|assumption):wpAny M A (storeName X.env x u) Q E s:=by
 obtain⟨m,hn,hl⟩:=id I.loc;have a6:(X.env.scope.kind== .class||(X.env.scope.kind== .module&&X.env.locals !=X.env.globals))=false:=by rw[I.ok.kind];rfl
 have a2:i<σ.length:=by rw[I.len];exact(List.getElem?_eq_some_iff.mp hi).1
 have cne:=I.cne;have a0:∀{a:Addr}{h':Heap},(∃o,s.heap.get? a=some o/\H a=none)->WL a s.heap h'->HOk X.prog X.w H h':=λ{a h'} Y O b ob e=>by
  obtain⟨_,_,a1⟩:=Y;refine(I.hok b ob e).stay (λc w' J q=>(O.2 c ?_).trans q) (λ_ q=>q) λ_ _ q=>q;rintro rfl;rcases J with rfl|J
  .rw[a1]at e;cases e
  .rw[a1]at J;cases J
 rcases F with hk|hk
 .refine wpAny_storeName_local hk hn (λh' a8 O=>?_) a6
  obtain⟨oL,_,_,a7,_⟩:=id hn;refine h _ ⟨I.ok,I.os,I.bare,⟨λb o e n U F=>?_,λb o e n U F=>?_,I.base.free,λb o e F=>?_,I.base.tups,I.base.frzs,I.base.tbls⟩,⟨_,a8,λj y v' e1 e2 e3=>?_⟩,λy c e=>?_,I.free,I.freeC,λp hp=>?_,a0 ⟨oL,a7,I.free⟩ O,by simpa using I.len⟩ ⟨_,O,.inl rfl⟩
  .exact(O.2 b (Ud (Us (Uc e) I.ok.above))).trans (I.base.keep b o e n U F)
  .obtain⟨sl,e1⟩:=I.base.slot b o e n U F
   exact⟨sl,(O.2 b (Ud (Us (Uc e) I.ok.above))).trans e1⟩
  .obtain⟨o',e1⟩:=I.base.there b o e F
   exact⟨o',(O.2 b (Ud (Us (Uc e) I.ok.above))).trans e1⟩
  .by_cases hj:j=i
   .subst hj
    rw[hi]at e1;cases e1;rw[Zw a2]at e2;cases e2;exact⟨u,r,.inl ⟨hk,by simp⟩⟩
   .rw[UW (U3 hj)]at e2
    obtain⟨u',r',q⟩:=hl j y v' e1 e2 e3;refine⟨u',r',?_⟩;rcases q with⟨k,e⟩|⟨k,c,e,z⟩
    .refine .inl ⟨k,?_⟩
     have:y≠x:=λe=>hj (yu hN e1 (e▸hi));simp[this,e]
    .exact .inr ⟨k,c,e,z.sameBut O (cne y c e)⟩
  .obtain⟨w',z⟩:=I.cell y c e
   exact⟨w',z.sameBut O (cne y c e)⟩
  .obtain⟨e,n,ne,nf,d⟩:=I.pin p hp
   exact⟨(O.2 p.1 ne).trans e,n,ne,nf,d⟩
 .have hfn:X.fn x=true:=by
   rcases Z with z|z
   .exact z
   .rw[z]at hk;cases hk
  obtain⟨c,J⟩:=I.ok.has x (.inl hk);obtain⟨w',z⟩:=I.cell x c J;refine wpAny_storeName_cell I.ok.kind hk J z (λh' a4 O=>?_);obtain⟨oc,a3,a5⟩:=id z;refine h {s with heap:=h'} ⟨I.ok,I.os,I.bare,⟨λb o e n U F=>?_,λb o e n U F=>?_,I.base.free,λb o e F=>?_,I.base.tups,I.base.frzs,I.base.tbls⟩,⟨m,hn.sameBut O (U3 (cne x c J)),λj y v' e1 e2 e3=>?_⟩,λy c' e=>?_,I.free,I.freeC,λp hp=>?_,a0 ⟨oc,a3,I.freeC x c J⟩ O,by simpa using I.len⟩ ⟨c,O,.inr J⟩
  .exact(O.2 b (Ud (Us (Uc e) (I.ok.cab x c hfn J)))).trans (I.base.keep b o e n U F)
  .obtain⟨sl,e1⟩:=I.base.slot b o e n U F
   exact⟨sl,(O.2 b (Ud (Us (Uc e) (I.ok.cab x c hfn J)))).trans e1⟩
  .obtain⟨o',e1⟩:=I.base.there b o e F
   exact⟨o',(O.2 b (Ud (Us (Uc e) (I.ok.cab x c hfn J)))).trans e1⟩
  .by_cases hj:j=i
   .subst hj
    rw[hi]at e1;cases e1;rw[Zw a2]at e2;cases e2;exact⟨u,r,.inr ⟨.inl hk,c,J,a4⟩⟩
   .rw[UW (U3 hj)]at e2
    obtain⟨u',r',q⟩:=hl j y v' e1 e2 e3;refine⟨u',r',?_⟩;rcases q with q|⟨k,c',e,z'⟩
    .exact .inl q
    .refine .inr ⟨k,c',e,z'.sameBut O ?_⟩
     rintro rfl;exact hj (yu hN e1 (I.ok.inj _ _ _ e J▸hi))
  .by_cases hcc:c'=c
   .subst hcc;exact⟨_,a4⟩
   .obtain⟨w2,z2⟩:=I.cell y c' e
    exact⟨w2,z2.sameBut O hcc⟩
  .obtain⟨e,n,ne,nf,d⟩:=I.pin p hp
   refine⟨(O.2 p.1 ?_).trans e,n,ne,nf,d⟩;intro q;rw[q,a3]at e;have q':oc=p.2:=Vw e;exact d w' (by rw[←q'];exact a5)
theorem iR(I:Inv X pins σ H s)(q:X.N.Nodup)(hi:X.N[i]? =some x)(F:Loc X.env.scope x)(r:RelV v u)
  (h:∀s',Inv X pins (σ.set i (some v)) H s'->Q () s') (Z:X.fn x=true∨X.env.scope.names.lookup x=some .local:=by first|exact .inl rfl|exact .inr rfl|assumption):wpAny M A (storeName X.env x u) Q E s:=
 C_ I q hi F r (λs' O _=>h s' O) Z
theorem Inv.call'(I:Inv X pins σ H s)(O:s'.os=s.os)(u:Un (frs X.stack) ch H H' s.heap s'.heap)(hok:HOk X.prog X.w H' s'.heap)(z:ZV s'.gens)
  (Y:∀b∈ch,(b∈X.ex∨X.s₀.heap.objs.size<=b)/\b≠X.env.locals/\(∀x c,X.env.cells.lookup x=some c->c≠b)/\∀p∈X.pn++pins,p.1≠b):Inv X pins σ H' s':=by
 obtain⟨h',g',d',t',o'⟩:=s';have e:o'=s.os:=O;subst e;exact I.call (g':=g') (t':=t') (d':=d') u hok z Y
abbrev XK:=Value->Option Addr->Hp->Prop
abbrev St:=List (Option V)
abbrev VK:=V->Hp->Prop
abbrev TE:=St->Hp->VK->Prop
abbrev TT:=St->Hp->(Bool->Hp->Prop)->Prop
abbrev TA:=St->Hp->(List V->Hp->Prop)->Prop
structure Ends where
 nx:St->Hp->Prop
 rt:VK
 bk:St->Hp->Prop:=λ_ _=>False
 ct:St->Hp->Prop:=λ_ _=>False
abbrev TS:=Ends->St->Hp->Prop
def EP(X:Cx)(pins:List (Addr×Obj))(σ:St)(Q:VK)(u:Value)(s':T7):Prop:=∃v H',Inv X pins σ H' s'/\RelV v u/\Q v H'
def TP(X:Cx)(pins:List (Addr×Obj))(σ:St)(Q:Bool->Hp->Prop)(b:Bool)(s':T7):Prop:=∃H',Inv X pins σ H' s'/\Q b H'
def AP(X:Cx)(pins:List (Addr×Obj))(σ:St)(Q:List V->Hp->Prop)(us:List Value)(s':T7):Prop:=∃vs H',Inv X pins σ H' s'/\Vals vs us/\Q vs H'
def SP(X:Cx)(pins:List (Addr×Obj))(D:Ends)(f:Flow)(s':T7):Prop:=
 match f with
 |.next=>∃F H',Inv X pins F H' s'/\D.nx F H'
 |.brk=>∃F H',Inv X pins F H' s'/\D.bk F H'
 |.cont=>∃F H',Inv X pins F H' s'/\D.ct F H'
 |.ret u=>∃v F H',Inv X pins F H' s'/\RelV v u/\D.rt v H'
def PE(X:Cx)(e:Expr)(t:TE):Prop:=
 ∀(pins:List (Addr×Obj))(s:T7)(σ:St)(H:Hp)(Q:VK),Inv X pins σ H s->t σ H Q->wpAny (model X.prog X.w) X.A (eval e X.env) (EP X pins σ Q) X.xe s
def PT(X:Cx)(e:Expr)(t:TT):Prop:=
 ∀(pins:List (Addr×Obj))(s:T7)(σ:St)(H:Hp)(Q:Bool->Hp->Prop),Inv X pins σ H s->t σ H Q->wpAny (model X.prog X.w) X.A (abC e X.env (eval e X.env)) (TP X pins σ Q) X.xe s
def PW(X:Cx)(e:Expr)(t:TT):Prop:=
 ∀(q:Sem Value)(pins:List (Addr×Obj))(s:T7)(σ:St)(H:Hp)(Q:Bool->Hp->Prop),Inv X pins σ H s->t σ H Q->wpAny (model X.prog X.w) X.A (abC e X.env q) (TP X pins σ Q) X.xe s
variable{e:Expr}
theorem PW.pt{t:TT}(h:PW X e t):PT X e t:=h _
def PA(X:Cx)(es:List Expr)(t:TA):Prop:=
 ∀(pos:Pos)(pins:List (Addr×Obj))(s:T7)(σ:St)(H:Hp)(Q:List V->Hp->Prop),Inv X pins σ H s->t σ H Q->wpAny (model X.prog X.w) X.A (spliced (V3 pos (Ul es X.env))) (AP X pins σ Q) X.xe s
def PS(X:Cx)(st:Stmt)(t:TS):Prop:=
 ∀(pins:List (Addr×Obj))(s:T7)(σ:St)(H:Hp)(D:Ends),Inv X pins σ H s->t D σ H->wpAny (model X.prog X.w) X.A (exec st X.env) (SP X pins D) X.xe s
def PSs(X:Cx)(st:List Stmt)(t:TS):Prop:=
 ∀(pins:List (Addr×Obj))(s:T7)(σ:St)(H:Hp)(D:Ends),Inv X pins σ H s->t D σ H->wpAny (model X.prog X.w) X.A (execs st X.env) (SP X pins D) X.xe s
theorem thn{t:Sem α}{Q N:α->T7->Prop}{s:T7}(h:wpAny M A t Q E s)(J:∀a s,Q a s->N a s):wpAny M A t N E s:=V9 h J λ_ _ x=>x
section
variable{X:Cx}
def Ep(i:Nat):TE:=λσ H Q=>∃v,σ[i]? =some (some v)/\Q v H
def tC(v:V):TE:=λ_ H Q=>Q v H
theorem Qm{i:Nat}{x:Str}{pos:Pos}(hN:X.N[i]? =some x)(U:Vis X.env.scope x)(hd:(x==("__debug__":Str))=false:=by decide)(O:(x==("__classdict__":Str))=false:=by decide):PE X (.Name x pos) (Ep i):=by
 intro pins s σ H Q I h;obtain⟨v,e,h⟩:=h;obtain⟨m,Z,Y⟩:=I.loc;obtain⟨u,r,l⟩:=Y i x v hN e U;have z:EP X pins σ Q u s:=⟨v,H,I,r,h⟩;rcases l with⟨q,V⟩|⟨q,c,J,F⟩
 .exact wpAny_Name (wpAny_loadName_local I.ok.kind q Z V z) hd
 .rcases q with q|q
  .exact wpAny_Name (wpAny_loadName_cell I.ok.kind q J F z) hd
  .exact wpAny_Name (wpAny_loadName_free I.ok.kind q J F z O) hd
theorem Qi{i j pos}:PE X (.Constant (.int i) j pos) (tC (.int i)):=λ_ _ _ H _ I h=>wpAny_Constant_int ⟨.int i,H,I.tok _,⟨_,rfl⟩,h⟩
theorem Su{b j pos}:PE X (.Constant (.bool b) j pos) (tC (.bl b)):=λ_ _ _ H _ I h=>Constant_bool ⟨.bl b,H,I,rfl,h⟩
theorem QB{j pos}:PE X (.Constant .none j pos) (tC .non):=λ_ _ _ H _ I h=>Constant_none ⟨.non,H,I,rfl,h⟩
theorem Oa{x j pos}:PE X (.Constant (.str x) j pos) (tC (.str x)):=λ_ _ _ H _ I h=>Calls.Constant_str ⟨.str x,H,I.tok _,⟨_,rfl⟩,h⟩
def Gl(X:Cx)(x:Str):Prop:=X.env.kindOf x=some .globalImplicit
theorem xx{E:Value->T7->Prop}{pins:List (Addr×Obj)}{s:T7}{σ:St}{H:Hp}{x:Str}{u:Value}{pos:Pos}{Q:Value->T7->Prop}(I:Inv X pins σ H s)(z:Gl X x)(V:X.mg x=some u)(h:Q u s)
  (hd:(x==("__debug__":Str))=false:=by decide):wpAny (model X.prog X.w) X.A (eval (.Name x pos) X.env) Q E s:=
 aaz I.ok.kind z (Calls.loadGlobal_global (by rw[I.ok.glob];exact I.mod.glob.keeps I.bk) V h) hd
theorem lu{E:Value->T7->Prop}{pins:List (Addr×Obj)}{s:T7}{σ:St}{H:Hp}{x:Str}{u:Value}{pos:Pos}{Q:Value->T7->Prop}(I:Inv X pins σ H s)(z:Gl X x)(V:X.mg x=none)(U:W2 x=some u)(h:Q u s)
  (N:x≠"__name__":=by decide) (hd:(x==("__debug__":Str))=false:=by decide):wpAny (model X.prog X.w) X.A (eval (.Name x pos) X.env) Q E s:=by
 obtain⟨q,h1,h2⟩:=I.mod.blt;exact aaz I.ok.kind z (Calls.loadGlobal_builtin (by rw[I.ok.glob];exact I.mod.glob.keeps I.bk) V (by rw[I.ok.blt];exact h1.keeps I.bk) ((h2 x N).trans U) h) hd
theorem Bm{x:Str}{v:V}{u:Value}{pos:Pos}(z:Gl X x)(q:X.mg x=some u)(r:RelV v u)(hd:(x==("__debug__":Str))=false:=by decide):PE X (.Name x pos) (tC v):=
 λ_ _ _ H _ I h=>xx I z q ⟨v,H,I,r,h⟩ hd
theorem Js{x:Str}{v:V}{u:Value}{pos:Pos}(z:Gl X x)(q:X.mg x=none)(U:W2 x=some u)(r:RelV v u)(N:x≠"__name__":=by decide)(hd:(x==("__debug__":Str))=false:=by decide):PE X (.Name x pos) (tC v):=
 λ_ _ _ H _ I h=>lu I z q U ⟨v,H,I,r,h⟩ N hd
variable{a b:Expr}{ta tb:TE}{pos:Pos}
variable{tA tB':TT}{rest:List Expr}
def RT(t u:TT):TT:=λσ H Q=>t σ H λc H1=>if c=true then u σ H1 Q else Q false H1
def tOr(t u:TT):TT:=λσ H Q=>t σ H λc H1=>if c=true then Q true H1 else u σ H1 Q
def Rw(t:TT):TT:=λσ H Q=>t σ H λc H1=>Q (!c) H1
theorem JQ(Y:PT X a tA):PW X (.BoolOp .And [a] pos) tA:=by
 intro q pins s σ H Q I h;refine isTrue_and (thn (Y pins s σ H Q I h) λc Z e=>?_);cases c with
 |true=>exact isTrue_and_nil e
 |false=>exact e
theorem Hc(Y:PT X a tA):PW X (.BoolOp .Or [a] pos) tA:=by
 intro q pins s σ H Q I h;refine isTrue_or (thn (Y pins s σ H Q I h) λc Z e=>?_);cases c with
 |false=>exact isTrue_or_nil e
 |true=>exact e
theorem QK(Y:PT X a tA)(U:PW X (.BoolOp .And (b::rest) pos) tB'):PW X (.BoolOp .And (a::b::rest) pos) (RT tA tB'):=by
 intro q pins s σ H Q I h;refine isTrue_and (thn (Y pins s σ H _ I h) λc Z ⟨H1,F,q1⟩=>?_);cases c with
 |true=>exact U q pins Z σ H1 Q F q1
 |false=>exact⟨H1,F,q1⟩
theorem Ni(Y:PT X a tA)(U:PW X (.BoolOp .Or (b::rest) pos) tB'):PW X (.BoolOp .Or (a::b::rest) pos) (tOr tA tB'):=by
 intro q pins s σ H Q I h;refine isTrue_or (thn (Y pins s σ H _ I h) λc Z ⟨H1,F,q1⟩=>?_);cases c with
 |true=>exact⟨H1,F,q1⟩
 |false=>exact U q pins Z σ H1 Q F q1
theorem Qc(Y:PT X a tA):PT X (.UnaryOp .Not a pos) (Rw tA):=by
 intro pins s σ H Q I h;exact isTrue_not (Y pins s σ H (λc H1=>Q (!c) H1) I h)
def tIf(t:TT)(ta tb:TE):TE:=λσ H Q=>t σ H λc H1=>if c=true then ta σ H1 Q else tb σ H1 Q
theorem yF{c:Expr}(J:PT X c tA)(Y:PE X a ta)(U:PE X b tb):PE X (.IfExp c a b pos) (tIf tA ta tb):=by
 intro pins s σ H Q I h;refine wpAny_IfExp (thn (J pins s σ H _ I h) λd Z ⟨H1,F,q1⟩=>?_);cases d with
 |true=>exact Y pins Z σ H1 Q F q1
 |false=>exact U pins Z σ H1 Q F q1
end
def SqL(K:Ub)(H:Hp)(a:Addr)(xs:List V):Prop:=
 Rd H a (.lst xs)∨
  ∃(o:Obj)(its:Array Value)(n:Nat),K.lookup a=some o/\o.cls= .type "list"/\o.dict=none/\o.data= .seq its n/\its.size<=Ui/\Vals xs its.toList
def SqT(K:Ub)(H:Hp)(a:Addr)(xs:List V):Prop:=
 Rd H a (.tup xs)∨
  ∃(o:Obj)(its:Array Value)(n:Nat),K.lookup a=some o/\o.cls= .type "tuple"/\o.data= .seq its n/\its.size<=Ui/\Vals xs its.toList
def Td:Value->Option V
 |.none=>some .non
 |.bool b=>some (.bl b)
 |.int i _=>some (.int i)
 |.str x _=>some (.str x)
 |.bytes b _=>some (.byt b)
 |.float b _=>some (.flt b)
 |.ref a=>some (.ref a)
 |.type n=>some (.ty n)
 |_=>none
theorem RelV.abs{x:V}(r:RelV x u):Td u=some x:=by
 cases x with
 |non=>cases r;rfl
 |bl _=>cases r;rfl
 |int _=>obtain⟨t,rfl⟩:=r;rfl
 |str _=>obtain⟨t,rfl⟩:=r;rfl
 |byt _=>obtain⟨t,rfl⟩:=r;rfl
 |flt _=>obtain⟨t,rfl⟩:=r;rfl
 |ref _=>cases r;rfl
 |ty _=>cases r;rfl
theorem RelV.inj{x y:V}(r:RelV x u)(q:RelV y u):x=y:=Vw (r.abs.symm.trans q.abs)
theorem Vals.inj:∀{xs ys:List V}{us:List Value},Vals xs us->Vals ys us->xs=ys
 |_,_,_,.nil,.nil=>rfl
 |_,_,_,.cons r t,.cons r' t'=>by rw[r.inj r',Vals.inj t t']
theorem SqL.of{K:Ub}(h:H a=some (.lst xs)):SqL K H a xs:=.inl (.inl h)
theorem SqT.of{K:Ub}(h:H a=some (.tup xs)):SqT K H a xs:=.inl (.inl h)
variable{σ:St}
theorem Inv.list(I:Inv X pins σ H s)(h:SqL X.K H a xs):∃its:List Value,Vals xs its/\PlainL s.heap a its.toArray/\xs.length<=Ui:=by
 rcases h with h|⟨o,its,n,q,J,hd,O,hz,r⟩
 .obtain⟨z,its,n,r,e⟩:=h.ok I.hok
  exact⟨its,r,⟨_,n,e,rfl,rfl,rfl⟩,z⟩
 .refine⟨its.toList,r,⟨o,n,I.kIn a o q,J,hd,by simpa using O⟩,?_⟩
  have e:=r.length;simp only[VR]at e;omega
theorem Inv.tuple(I:Inv X pins σ H s)(h:SqT X.K H a xs):∃its:List Value,Vals xs its/\IsTup s.heap a its.toArray/\xs.length<=Ui:=by
 rcases h with h|⟨o,its,n,q,J,O,hz,r⟩
 .obtain⟨z,its,r,p⟩:=h.ok I.hok
  exact⟨its,r,p.t,z⟩
 .refine⟨its.toList,r,⟨o,I.kIn a o q,J,n,by simpa using O⟩,?_⟩
  have e:=r.length;simp only[VR]at e;omega
variable{ys:List V}
theorem Inv.list_inj(I:Inv X pins σ H s)(h:SqL X.K H a xs)(h':SqL X.K H a ys):xs=ys:=by
 obtain⟨its,r,⟨o,n,e,_,_,d⟩,_⟩:=I.list h;obtain⟨its',N,⟨o',z,Z,_,_,d'⟩,_⟩:=I.list h';rw[e]at Z;cases Z;rw[d]at d';injection d' with d1 _;have:its=its':=by simpa using congrArg Array.toList d1
 subst this;exact r.inj N
theorem Inv.tuple_inj(I:Inv X pins σ H s)(h:SqT X.K H a xs)(h':SqT X.K H a ys):xs=ys:=by
 obtain⟨its,r,⟨o,e,_,n,d⟩,_⟩:=I.tuple h;obtain⟨its',N,⟨o',Z,_,z,d'⟩,_⟩:=I.tuple h';rw[e]at Z;cases Z;rw[d]at d';injection d' with d1 _;have:its=its':=by simpa using congrArg Array.toList d1
 subst this;exact r.inj N
abbrev Cx.wish(X:Cx)(E:Value->T7->Prop):Cx:={X with xe:=E}
abbrev Cx.nox(X:Cx):Cx:=X.wish λ_ _=>False
theorem Cx.Ok.wish(ok:X.Ok)(E:Value->T7->Prop):(X.wish E).Ok:=
 ⟨ok.mod,ok.kind,ok.glob,ok.blt,ok.above,ok.inj,ok.has,ok.cab,ok.hd,ok.frames,ok.stk,ok.exf,ok.bs,ok.bsz,ok.noex,ok.exfs,ok.funs,ok.frf⟩
theorem Cx.Ok.unwish(ok:(X.wish E).Ok):X.Ok:=
 ⟨ok.mod,ok.kind,ok.glob,ok.blt,ok.above,ok.inj,ok.has,ok.cab,ok.hd,ok.frames,ok.stk,ok.exf,ok.bs,ok.bsz,ok.noex,ok.exfs,ok.funs,ok.frf⟩
theorem Inv.wish(I:Inv X pins σ H s)(E:Value->T7->Prop):Inv (X.wish E) pins σ H s:=⟨I.ok.wish E,I.os,I.bare,I.base,I.loc,I.cell,I.free,I.freeC,I.pin,I.hok,I.len⟩
variable{E:Value->Shared->Prop}
theorem Inv.unwish(I:Inv (X.wish E) pins σ H s):Inv X pins σ H s:=⟨I.ok.unwish,I.os,I.bare,I.base,I.loc,I.cell,I.free,I.freeC,I.pin,I.hok,I.len⟩
theorem SP.unwish{D:Ends}{f:Flow}(h:SP (X.wish E) pins D f s'):SP X pins D f s':=by
 cases f with
 |next=>obtain⟨F,H',I,q⟩:=h;exact⟨F,H',I.unwish,q⟩
 |brk=>obtain⟨F,H',I,q⟩:=h;exact⟨F,H',I.unwish,q⟩
 |cont=>obtain⟨F,H',I,q⟩:=h;exact⟨F,H',I.unwish,q⟩
 |ret u=>obtain⟨v,F,H',I,r,q⟩:=h;exact⟨v,F,H',I.unwish,r,q⟩
theorem PSs.nox{st:List Stmt}{t:TS}(h:PSs X.nox st t):PSs X st t:=λpins s σ H D I V=>
 V9 (h pins s σ H D (I.wish _) V) (λ_ _ q=>q.unwish) λ_ _ z=>WQ z
section
variable{X:Cx}{st:Stmt}{rest:List Stmt}{t u:TS}{e:Expr}{te:TE}{pos:Pos}
def Mj:TS:=λD σ H=>D.nx σ H
def SN(t u:TS):TS:=λD σ H=>t {D with nx:=u D} σ H
theorem JW:PSs X [] Mj:=λ_ _ σ H _ I h=>Z4 ⟨σ,H,I,h⟩
theorem FW(h1:PS X st t)(h2:PSs X rest u):PSs X (st::rest) (SN t u):=by
 intro pins s σ H D I h;refine wpAny_execs_cons (thn (h1 pins s σ H {D with nx:=u D} I h) λf Z q=>?_);cases f with
 |next=>
  obtain⟨F,H',O,q⟩:=q;exact h2 pins Z F H' D O q
 |ret v=>exact q
 |brk=>exact q
 |cont=>exact q
theorem K8(h1:PS X st t):PSs X [st] t:=by
 intro pins s σ H D I h;refine wpAny_execs_cons (thn (h1 pins s σ H D I h) λf Z q=>?_);cases f with
 |next=>exact Z4 q
 |ret v=>exact q
 |brk=>exact q
 |cont=>exact q
theorem Inv.quiet{pins:List (Addr×Obj)}{σ:St}{H:Hp}{s:T7}(I:Inv X pins σ H s):interactive X.env=false:=by simp[interactive,I.ok.kind]
def HY(te:TE):TS:=λD σ H=>te σ H λ_ H1=>D.nx σ H1
theorem A_(N:PE X e te)(O:Yd e none pos.line X.env=pure false:=by rfl):PS X (.Expr e pos) (HY te):=by
 intro pins s σ H D I h;exact wpAny_Expr_any (thn (N pins s σ H _ I h) λv Z ⟨x,H1,F,J,q1⟩=>⟨σ,H1,F,q1⟩) I.quiet O
def Og(te:TE):TS:=λD σ H=>te σ H D.rt
theorem Af(N:PE X e te):PS X (.Return (some e) pos) (Og te):=by
 intro pins s σ H D I h;exact wpAny_Return_some (thn (N pins s σ H _ I h) λv Z ⟨x,H1,F,J,q1⟩=>⟨x,σ,H1,F,J,q1⟩)
def RD(c:TT)(t u:TS):TS:=λD σ H=>c σ H λb H1=>if b=true then t D σ H1 else u D σ H1
theorem Mm{c:Expr}{a b:List Stmt}{tc:TT}(J:PT X c tc)(Y:PSs X a t)(U:PSs X b u):PS X (.If c a b pos) (RD tc t u):=by
 intro pins s σ H D I h;refine wpAny_If (thn (J pins s σ H _ I h) λd Z ⟨H1,F,q1⟩=>?_);cases d with
 |true=>exact Y pins Z σ H1 D F q1
 |false=>exact U pins Z σ H1 D F q1
def Pa:TS:=λ_ _ _=>False
theorem Fz:PS X st Pa:=λ_ _ _ _ _ _ h=>h.elim
end
abbrev TG:=V->St->Hp->(St->Hp->Prop)->Prop
abbrev TGs:=List V->St->Hp->(St->Hp->Prop)->Prop
def PG(X:Cx)(target:Expr)(t:TG):Prop:=
 ∀(pins:List (Addr×Obj))(s:T7)(σ:St)(H:Hp)(v:V)(u:Value)(Q:St->Hp->Prop),Inv X pins σ H s->RelV v u->t v σ H Q->
  wpAny (model X.prog X.w) X.A (YG target X.env u) (λ_ s'=>∃F H',Inv X pins F H' s'/\Q F H') X.xe s
def PGs(X:Cx)(q:List Expr)(t:TGs):Prop:=
 ∀(pins:List (Addr×Obj))(s:T7)(σ:St)(H:Hp)(vs:List V)(us:List Value)(Q:St->Hp->Prop),Inv X pins σ H s->Vals vs us->t vs σ H Q->
  wpAny (model X.prog X.w) X.A (YH ((Vm q X.env).map (·.2)) us) (λ_ s'=>∃F H',Inv X pins F H' s'/\Q F H') X.xe s
abbrev Ew:=V->V->V->Hp->(Hp->Prop)->Prop
def K4(X:Cx)(t:Ew):Prop:=
 ∀(pins:List (Addr×Obj))(s:T7)(σ:St)(H:Hp)(o i v:V)(z J u:Value)(Q:Hp->Prop),Inv X pins σ H s->RelV o z->RelV i J->RelV v u->t o i v H Q->
  wpAny (model X.prog X.w) X.A (abD z J u) (λ_ s'=>∃H',Inv X pins σ H' s'/\Q H') X.xe s
def yZ(i:Nat):TG:=λv σ H Q=>Q (σ.set i (some v)) H
theorem Bo(q:X.N.Nodup)(hi:X.N[i]? =some x)(F:Loc X.env.scope x)(Z:X.fn x=true∨X.env.scope.names.lookup x=some .local:=by first|exact .inl rfl|exact .inr rfl|assumption):PG X (.Name x pos) (yZ i):=by
 intro pins s σ H v u Q I r h;exact wpAny_assign_Name (iR I q hi F r (λs' O=>⟨_,H,O,h⟩) Z)
def J_:TGs:=λvs σ H Q=>vs=[]/\Q σ H
def Ht(t:TG)(u:TGs):TGs:=λvs σ H Q=>∃v r,vs=v::r/\t v σ H λF H'=>u r F H' Q
theorem Ci:PGs X [] J_:=by
 intro pins s σ H vs us Q I r h;obtain⟨e,h⟩:=h;subst e;cases r;exact aaH ⟨σ,H,I,h⟩
theorem yl{t:TG}{u:TGs}(h1:PG X e t)(h2:PGs X es u)
  (O:(Vm (e::es) X.env).map (·.2)=YG e X.env::(Vm es X.env).map (·.2):=by rfl):PGs X (e::es) (Ht t u):=by
 intro pins s σ H vs us Q I r h;obtain⟨v,q,e1,h⟩:=h;subst e1;cases r with
 |cons r U=>
  rw[O];refine Xj (thn (h1 pins s σ H _ _ _ I r h) λ_ Z ⟨N,H1,F,q1⟩=>?_);exact h2 pins Z N H1 _ _ Q F U q1
def QF(K:Ub)(n:Nat)(t:TGs):TG:=λv σ H Q=>∃a xs,v= .ref a/\SqT K H a xs/\xs.length=n/\t xs σ H Q
variable{k:Nat}
theorem Gj{t:TGs}(J:X.calm=true)(h:PGs X es t)
  (N:(Vm es X.env).length=n:=by rfl) (q:(Vm es X.env).findIdx? (·.1)=none:=by rfl):PG X (.Tuple es k pos) (QF X.K n t):=by
 intro pins s σ H v u Q I r V;obtain⟨a,xs,e1,O,Y,V⟩:=V;subst e1;cases r;obtain⟨its,Z,z,hz⟩:=I.tuple O;refine assign_Tuple_tuple (I.ok.hd J) z (by simp[N,←Y,Z.length]) q λh' F=>?_;have U:Inv X pins σ H {s with heap:=h'}:=I.kept (t':=s.toks) λb o e=>F b o (Ud (Uc e)) e;exact h pins _ σ H xs _ Q U (by simpa using Z) V
def sO(to q:TE)(t:Ew):TG:=λv σ H Q=>to σ H λo H1=>q σ H1 λi H2=>t o i v H2 λz=>Q σ z
theorem QQ{o i:Expr}{to ti:TE}{t:Ew}(ho:PE X o to)(hi:PE X i ti)(O:K4 X t)
  (Y:∀v,YG (.Subscript o i pos) X.env v=(do
   let ov ←Wu [v] (eval o X.env)
   let iv ←Wu [v,ov] (eval i X.env)
   Zh pos
   Wu [v,ov,iv] (abD ov iv v)
   release [v,ov,iv] []):=by intro _;rfl):PG X (.Subscript o i pos) (sO to ti t):=by
 intro pins s σ H v u Q I r h;rw[Y];refine gD (U6 (thn (ho pins s σ H _ I h) λov Z ⟨x,H1,F,J,q1⟩=>?_));refine gD (U6 (thn (hi pins Z σ H1 _ F q1) λiv N ⟨y,H2,I2,q,q2⟩=>?_));refine gD (Xw (gD (U6 (thn (O pins N σ H2 x y v ov iv u _ I2 J q r q2) λ_ U ⟨z,V,q3⟩=>?_))));exact wpAny_release ⟨σ,z,V,q3⟩
def JR(te:TE)(g:TG):TS:=λD σ H=>te σ H λx H1=>g x σ H1 D.nx
variable{te:TE}
theorem Gz{g:TG}(N:PE X e te)(z:PG X tg g)(O:Xx [tg] e pos.line X.env=pure false:=by rfl)(V:Yc [tg] e X.env=pure none:=by rfl)
  (h1:(Vm [tg] X.env).map (·.2)=[YG tg X.env]:=by rfl):PS X (.Assign [tg] e pos) (JR te g):=by
 intro pins s σ H D I h;refine wpAny_Assign_stores (thn (N pins s σ H _ I h) λv Z ⟨x,H1,F,J,q1⟩=>?_) O V;rw[h1];exact thn (z pins Z σ H1 x v _ F J q1) λ_ U q=>q
theorem Ia(q:X.N.Nodup)(hi:X.N[i]? =some x)(F:Loc X.env.scope x)(U:PE X e te)(O:Yd e (some (.Name x pos')) pos.line X.env=pure false:=by rfl)(V:X.fn x=true∨X.env.scope.names.lookup x=some .local:=by first|exact .inl rfl|exact .inr rfl|assumption) :
  PS X (.Assign [.Name x pos'] e pos) (JR te (yZ i)):=by
 intro pins s σ H D I h;refine wpAny_Assign_Name (thn (U pins s σ H _ I h) λv Z ⟨y,H1,Y,J,q1⟩=>?_) O;exact iR Y q hi F J (λs2 z=>⟨_,H1,z,q1⟩) V
def RW(i j:Nat)(ta:TA):TS:=λD σ H=>ta σ H λvs H1=>∃v w,vs=[v,w]/\D.nx ((σ.set i (some v)).set j (some w)) H1
variable{a:Expr}{ta:TA}
theorem Qx{b:Expr}{pt:Pos}{kt k2 pt2}(J:X.calm=true)(hN:X.N.Nodup)(hi:X.N[i]? =some x)(U:X.N[j]? =some y)(a2:i≠j)
  (F:X.env.scope.names.lookup x=some .local) (hy:X.env.scope.names.lookup y=some .local) (Y:PA X [a,b] ta)
  (V:Yc [.Tuple [.Name x px,.Name y py] kt pt] (.Tuple [a,b] k2 pt2) X.env=pure (some [x,y]))
  (O:Xx [.Tuple [.Name x px,.Name y py] kt pt] (.Tuple [a,b] k2 pt2) pos.line X.env=pure false:=by rfl) :
  PS X (.Assign [.Tuple [.Name x px,.Name y py] kt pt] (.Tuple [a,b] k2 pt2) pos) (RW i j ta):=by
 intro pins s σ H D I h;rw[abi];refine gD (Xw ?_);rw[O];refine gD (yr ?_);rw[Uq (by decide)];refine gD (Tuple_ (thn (Y _ pins s σ H _ I h) λus Z ⟨vs,H1,I1,r1,q1⟩=>?_));obtain⟨v,w,e1,q1⟩:=q1;subst e1;obtain⟨u1,u2,rfl,rv,a0⟩:∃u1 u2,us=[u1,u2]/\RelV v u1/\RelV w u2:=by
  cases r1 with
  |cons p q=>
   cases q with
   |cons p' q'=>
    cases q';exact⟨_,_,rfl,p,p'⟩
 refine Vf ?_ (by show 2<=Ui;decide);have z:Inv X pins σ H1 {Z with heap:=Z.heap.push {cls:=.type "tuple",data:=.seq [u1,u2].toArray}}:=I1.kept (t':=Z.toks) λb o e=>T8 _ e;rw[V];refine gD (yr ?_);show wpAny (model X.prog X.w) X.A (do rule "assign.swapped-stores";let items ←acK (.ref Z.heap.objs.size) 2 none;YH [λv=>Yy X.env y v,λv=>Yy X.env x v] items.reverse;pure ach) _ _ _;refine gD (W3 (gD (unpackItems_tuple (items:=#[u1,u2]) (I.ok.hd J) (IsTup.new Z.heap _) λh' a1=>?_)));have I3:=z.kept (h':=h') (t':=Z.toks) λb o e=>a1 b o (Ud (Uc e)) e;show wpAny _ _ (YH [λv=>Yy X.env y v,λv=>Yy X.env x v] [u2,u1] >>=λ_=>pure ach) _ _ _;refine gD (Xj (Zi (iR I3 hN U (.inl hy) a0 (λs2 I4=>?_) (.inr hy))));refine Xj (Zi (iR I4 hN hi (.inl F) rv (λs3 I5=>aaH (yr ?_)) (.inr F)));rw[aaA _ _ (U3 a2)]at I5;exact⟨_,H1,I5,q1⟩
def Ft(c:TT)(tb:TS):TS:=λD σ H=>∃W:Nat->St->Hp->Prop,(∃m,W m σ H)/\∀m σ H,W m σ H->
 c σ H λb H1=>if b=true then ∃N:St->Hp->Prop,(∀F H',N F H'->∃O,O<m/\W O F H')/\tb {D with nx:=N,ct:=N,bk:=D.nx} σ H1 else D.nx σ H1
variable{tb:TS}
theorem GP{tc:TT}(V:aci (model X.prog X.w) X.A X.env X.xe)(J:PT X c tc)(U:PSs X Y tb):PS X (.While c Y [] pos) (Ft tc tb):=by
 intro pins s σ H D I h;obtain⟨W,⟨m0,w0⟩,a2⟩:=h;refine wpAny_While (codeAny_whileLoop (λn s'=>∃F H',Inv X pins F H' s'/\W n F H') ?_ m0 ⟨σ,H,I,w0⟩);rintro n Z ⟨a1,H1,I1,w1⟩;refine Xn V (thn (J pins Z a1 H1 _ I1 (a2 n a1 H1 w1)) λb s2 ⟨H2,I2,q2⟩=>?_);cases b with
 |true=>
  obtain⟨N,q,q2⟩:=q2;rw[Uo rfl];refine Xn V (thn (U pins s2 a1 H2 _ I2 q2) λf s3 O=>?_);cases f with
  |next=>
   obtain⟨a0,z,I3,n3⟩:=O;obtain⟨m',hm,w3⟩:=q a0 z n3;exact⟨m',hm,a0,z,I3,w3⟩
  |cont=>
   obtain⟨a0,z,I3,n3⟩:=O;obtain⟨m',hm,w3⟩:=q a0 z n3;exact⟨m',hm,a0,z,I3,w3⟩
  |brk=>exact O
  |ret v=>exact O
 |false=>
  rw[Uq Vs];exact Z4 ⟨a1,H2,I2,q2⟩
structure It where
 go:Nat->Hp->Prop
 yld:Nat->Hp->V->Hp->Prop
 stop:Nat->Hp->Prop
def j9(X:Cx)(pins:List (Addr×Obj))(H:Hp)(b:Addr):Prop:=
 H b=none/\b≠X.env.locals/\b∉X.fs/\(b∈X.ex∨X.s₀.heap.objs.size<=b)/\(∀x c,X.env.cells.lookup x=some c->c≠b)/\∀p∈X.pn++pins,p.1≠b
variable{s:T7}
theorem Inv.fpOk(I:Inv X pins σ H s)(U:s.heap.objs.size<=b)(N:H' b=none):j9 X pins H' b:=by
 refine⟨N,Xk (Us I.lt U),I.nofs U,.inr (V2 I.sz U),λx c e z=>?_,λp V z=>?_⟩
 .obtain⟨v,q⟩:=I.cell x c e
  exact absurd (Us q.lt (by rw[z];exact U)) (Wa _)
 .exact absurd (Us (Uc (I.pin p V).1) (by rw[z];exact U)) (Wa _)
structure Turn(P:Program)(w:World)(K:PySem.W.Frag)(tg:Expr)(J:It)(fp:List Addr)(it:Addr)(tn:Nat->Heap->Prop):Prop where
 mem:it∈fp
 obj:∀i h,tn i h->∀b∈fp,∃o,h.get? b=some o/\∀v,o.data≠.cell v
 keep:∀i h h',tn i h->(∀b∈fp,∀o,h.get? b=some o->h'.get? b=some o)->tn i h'
 item:∀(X:Cx),X.prog=P->X.w=w->X.K=K->X.calm=true->∀(i:Nat)(pins:List (Addr×Obj))(s:T7)(σ:St)(H:Hp)(E:Value->T7->Prop),Inv X pins σ H s->(∀b∈fp,j9 X pins H b)->tn i s.heap->J.go i H->
  wpAny (model P w) X.A (X3 (.ref it)) (λr s1=>∃u,r=some u/\
   wpAny (model P w) X.A (YZ tg (.ref it) u) (λ_ s2=>∃x H',Inv X pins σ H' s2/\RelV x u/\J.yld i H x H'/\tn (i+1) s2.heap/\∀b∈fp,H' b=none) E s1) E s
 done:∀(X:Cx),X.prog=P->X.w=w->X.K=K->X.calm=true->∀(i:Nat)(pins:List (Addr×Obj))(s:T7)(σ:St)(H:Hp)(E:Value->T7->Prop),Inv X pins σ H s->(∀b∈fp,j9 X pins H b)->tn i s.heap->J.stop i H->
  wpAny (model P w) X.A (X3 (.ref it)) (λr s1=>r=none/\Inv X pins σ H s1) E s
 self:∀(A:Vu)(i:Nat)(s:T7)(Q:Value->T7->Prop)(E:Value->T7->Prop),tn i s.heap->Q (.ref it) s->wpAny (model P w) A (Zx (.ref it)) Q E s
abbrev TI:=St->Hp->(It->Hp->Prop)->Prop
def PIE(X:Cx)(pins:List (Addr×Obj))(σ:St)(tg:Expr)(R:It->Hp->Prop)(z:Value)(N:T7):Prop:=
 ∃(it:Addr)(fp:List Addr)(q:Nat->Heap->Prop)(J:It)(H':Hp),z= .ref it/\Inv X pins σ H' N/\Turn X.prog X.w X.K tg J fp it q/\q 0 N.heap/\(∀b∈fp,j9 X pins H' b)/\R J H'
def PI(X:Cx)(tg iter:Expr)(wi:TI):Prop:=
 ∀(pins:List (Addr×Obj))(s:T7)(σ:St)(H:Hp)(R:It->Hp->Prop),Inv X pins σ H s->wi σ H R->
  wpAny (model X.prog X.w) X.A (eval iter X.env) (λv Z=>wpAny (model X.prog X.w) X.A (Zx v) (PIE X pins σ tg R) X.xe Z) X.xe s
theorem Cu   {E:Value->T7->Prop}      {n:String} {vs:Array Value}  (O:s.heap.get? it=some o) (J:o.cls = .type n) (hd:o.data = .fields vs)
    (N:["enumerate", "zip", "dict_itemiterator", "dict_reverseitemiterator", "odict_iterator", "itertools.zip_longest", "itertools.pairwise"].contains n=false) (q:Q () s):wpAny M A (YZ tg (.ref it) u) Q E s:=by
  unfold YZ
  cases tg <;> first
    | exact yr q
    | (cases u <;> first
        | exact yr q
        | (refine gD (Z5 O ?_)
           rw [J,hd]
           show wpAny M A (if (["enumerate", "zip", "dict_itemiterator", "dict_reverseitemiterator", "odict_iterator", "itertools.zip_longest", "itertools.pairwise"].contains n && vs[0]? == some (V7 _))=true then _ else _) Q E s
           rw [Uq (by intro h; rw [N,Bool.false_and] at h; cases h)]
           exact yr q))
def Itl(K:Ub)(a:Addr):It:=
 ⟨λi H=>∃xs x,SqL K H a xs/\xs[i]? =some x,λi H x H'=>H'=H/\∀xs,SqL K H a xs->xs[i]? =some x,λi H=>∃xs,SqL K H a xs/\xs.length<=i⟩
def Itt(K:Ub)(a:Addr):It:=
 ⟨λi H=>∃xs x,SqT K H a xs/\xs[i]? =some x,λi H x H'=>H'=H/\∀xs,SqT K H a xs->xs[i]? =some x,λi H=>∃xs,SqT K H a xs/\xs.length<=i⟩
def Itr(lo:Int)(n:Nat):It:=⟨λi _=>i<n,λi H x H'=>H'=H/\x= .int (lo+i),λi _=>n<=i⟩
variable{P:U_}
theorem CG{K:Ub}(a it:Addr):Turn P w K tg (Itl K a) [it] it (λi h=>h.IsListIter it a i)where
 mem:=by simp
 obj:=λi h st b U=>by
  have e:b=it:=by simpa using U
  subst e;obtain⟨o,e,c,d⟩:=st;exact⟨o,e,λv z=>by rw[d]at z;cases z⟩
 keep:=λi h h' st k=>st.at λo e=>k it (by simp) o e
 item:=by
  intro X N V hK J i pins s σ H E I Z st hg;subst N V hK;obtain⟨xs,x,O,F⟩:=hg;obtain⟨its,rv,p,hz⟩:=I.list O;obtain⟨u,hu,ru⟩:=rv.get F;obtain⟨f0,f1,q,f3,f4,f5⟩:=Z it (by simp);refine Xh st p.isList (x:=u) (by simpa using hu) λh' a0 sb=>?_;have I1:Inv X pins σ H {s with heap:=h'}:=I.turned (t':=s.toks) (λb o U e=>(sb.2 b U).trans e) f0 f1 f3 f4 f5;obtain⟨o,e,c,d⟩:=id a0;exact⟨u,rfl,Cu (s:={s with heap:=h'}) e c d (by decide) ⟨x,H,I1,ru,⟨rfl,λys hy=>by rw[I.list_inj hy O];exact F⟩,a0,λb U=>(Z b U).1⟩⟩
 done:=by
  intro X N V hK J i pins s σ H E I Z st hg;subst N V hK;obtain⟨xs,O,F⟩:=hg;obtain⟨its,rv,p,hz⟩:=I.list O;obtain⟨f0,f1,q,f3,f4,f5⟩:=Z it (by simp);have Y:=rv.length;exact Xo (I.ok.hd J) st p.isList (by simp;omega) λh' eb=>⟨rfl,I.turned (t':=s.toks) (λb o U e=>eb b o U e) f0 f1 f3 f4 f5⟩
 self:=λ_ _ _ _ _ st h=>wpAny_pyIter_listiter st h
theorem zp{K:Ub}(a it:Addr):Turn P w K tg (Itt K a) [it] it (λi h=>h.IsTupleIter it a i)where
 mem:=by simp
 obj:=λi h st b U=>by
  have e:b=it:=by simpa using U
  subst e;obtain⟨o,e,c,d⟩:=st;exact⟨o,e,λv z=>by rw[d]at z;cases z⟩
 keep:=λi h h' st k=>st.at λo e=>k it (by simp) o e
 item:=by
  intro X N V hK J i pins s σ H E I Z st hg;subst N V hK;obtain⟨xs,x,O,F⟩:=hg;obtain⟨its,rv,p,hz⟩:=I.tuple O;obtain⟨u,hu,ru⟩:=rv.get F;obtain⟨f0,f1,q,f3,f4,f5⟩:=Z it (by simp);refine abb st (show s.heap.IsTuple a its.toArray from p) (x:=u) (by simpa using hu) λh' a0 sb=>?_;have I1:Inv X pins σ H {s with heap:=h'}:=I.turned (t':=s.toks) (λb o U e=>(sb.2 b U).trans e) f0 f1 f3 f4 f5;obtain⟨o,e,c,d⟩:=id a0;exact⟨u,rfl,Cu (s:={s with heap:=h'}) e c d (by decide) ⟨x,H,I1,ru,⟨rfl,λys hy=>by rw[I.tuple_inj hy O];exact F⟩,a0,λb U=>(Z b U).1⟩⟩
 done:=by
  intro X N V hK J i pins s σ H E I Z st hg;subst N V hK;obtain⟨xs,O,F⟩:=hg;obtain⟨its,rv,p,hz⟩:=I.tuple O;obtain⟨f0,f1,q,f3,f4,f5⟩:=Z it (by simp);have Y:=rv.length;exact abr (I.ok.hd J) st (show s.heap.IsTuple a its.toArray from p) (by simp;omega) λh' eb=>⟨rfl,I.turned (t':=s.toks) (λb o U e=>eb b o U e) f0 f1 f3 f4 f5⟩
 self:=λ_ _ _ _ _ st h=>wpAny_pyIter_tupleiter st h
theorem Ak{K:Ub}(it:Addr)(lo:Int)(n:Nat):Turn P w K tg (Itr lo n) [it] it (λi h=>IsRangeIter h it (lo+(i:Nat)*1) ((n:Int)-(i:Nat)) 1)where
 mem:=by simp
 obj:=λi h st b U=>by
  have e:b=it:=by simpa using U
  subst e;exact⟨_,st,λv z=>by
   have z':Data.fields _=Data.cell v:=z;cases z'⟩
 keep:=λi h h' st k=>k it (by simp) _ st
 item:=by
  intro X N V hK J i pins s σ H E I Z st hg;subst N V hK;obtain⟨f0,f1,q,Y,f4,f5⟩:=Z it (by simp);have W:=Walks.range (prog:=X.prog) (w:=X.w) (I.ok.hd J) it lo 1 n;refine W.item i s _ _ hg st λv h' tk hv O kk=>?_;obtain⟨t,rfl⟩:=hv;have F:Inv X pins σ H {s with heap:=h',toks:=tk}:=I.turned (λb o U e=>kk b o (by simpa using U) e) f0 f1 Y f4 f5;refine⟨_,rfl,Cu (s:={s with heap:=h',toks:=tk}) (n:="range_iterator") O rfl rfl (by decide) ⟨.int (lo+i),H,F,⟨t,?_⟩,⟨rfl,rfl⟩,O,λb U=>(Z b U).1⟩⟩;rw[Int.mul_one]
 done:=by
  intro X N V hK J i pins s σ H E I Z st hg;subst N V hK;obtain⟨f0,f1,q,Y,f4,f5⟩:=Z it (by simp);exact wpAny_pyNext_range_end (I.ok.hd J) st (by have:n<=i:=hg;omega) λh' eb=>⟨rfl,I.turned (t':=s.toks) (λb o U e=>eb b o U e) f0 f1 Y f4 f5⟩
 self:=λ_ _ _ _ _ st h=>wpAny_pyIter_rangeiter st h
theorem Jf{R:It->Hp->Prop}{E:Value->T7->Prop}{lo hi:Int}{t u v:Tok}(I:Inv X pins σ H s)(h1: -(2 ^ 62)<=lo)(h2:lo<2 ^ 62)(F: -(2 ^ 62)<=hi)(V:hi<2 ^ 62)
  (q:R (Itr lo (hi-lo).toNat) H):wpAny (model X.prog X.w) X.A (Zx (.ref s.heap.objs.size)) (PIE X pins σ tg R) E {s with heap:=s.heap.push {cls:=.type "range",data:=.fields #[.int lo t,.int hi u,.int 1 v]},toks:=tk}:=by
 refine wpAny_pyIter_range (IsRange.new ..) (small_one h1 h2 F V) ?_;have z:Inv X pins σ H {s with heap:=s.heap.push {cls:=.type "range",data:=.fields #[.int lo t,.int hi u,.int 1 v]},toks:=tk}:=I.kept λb o e=>T8 _ e;refine⟨(s.heap.push {cls:=.type "range",data:=.fields #[.int lo t,.int hi u,.int 1 v]}).objs.size,[(s.heap.push {cls:=.type "range",data:=.fields #[.int lo t,.int hi u,.int 1 v]}).objs.size],_,_,H,rfl,
  z.kept (t':=tk) λb o e=>T8 _ e,Ak _ lo (hi-lo).toNat,?_,λb U=>?_,q⟩
 .have e1:lo+((0:Nat):Int)*1=lo:=by simp
  have e2:(((hi-lo).toNat:Nat):Int)-((0:Nat):Int)=Builtin.Range.rangeSize lo hi 1:=by rw[rangeSize_one];split<;>omega
  show IsRangeIter _ _ (lo+((0:Nat):Int)*1) ((((hi-lo).toNat:Nat):Int)-((0:Nat):Int)) 1;rw[e1,e2];exact Ue _ rfl
 .have e:b=(s.heap.push {cls:=.type "range",data:=.fields #[.int lo t,.int hi u,.int 1 v]}).objs.size:=by simpa using U
  subst e;exact z.fpOk (Uk _) (z.hok.fresh (Uk _))
def Ms(ta:TA):TI:=λσ H R=>ta σ H λvs H1=>∃j:Int,vs=[.int j]/\-(2 ^ 62)<=j/\j<2 ^ 62/\R (Itr 0 j.toNat) H1
theorem El{p:Pos}(z:Gl X "range")(V:X.mg "range"=none)(Y:PA X [a] ta)(O:Ul [a] X.env=[(false,eval a X.env)]:=by rfl):PI X tg (.Call (.Name "range" p) [a] [] pos) (Ms ta):=by
 intro pins s σ H R I h;refine Call_ (lu I z V boot_range (Wz (thn (Y pos pins s σ H _ I h) λus Z ⟨vs,H1,F,J,q1⟩=>?_) O rfl));obtain⟨j,e,q1,q2,q⟩:=q1;subst e;cases J with
 |cons r U=>
  cases U;obtain⟨t,rfl⟩:=r;exact call_range_1 (Jf F (by omega) (by omega) q1 q2 (by simpa using q))
def SJ(wi:TI)(g:TG)(tb:TS):TS:=λD σ H=>wi σ H λJ H1=>∃W:Nat->Nat->St->Hp->Prop,(∃m,W 0 m σ H1)/\∀i m σ H,W i m σ H->
 (J.stop i H/\D.nx σ H)∨(J.go i H/\∃N:St->Hp->Prop,(∀F H',N F H'->∃O,O<m/\W (i+1) O F H')/\∀x H',J.yld i H x H'->g x σ H' λσ2 H2=>tb {D with nx:=N,ct:=N,bk:=D.nx} σ2 H2)
def j8(fp:List Addr)(h:Heap):List (Addr×Obj):=fp.filterMap λb=>(h.get? b).map λo=>(b,o)
theorem dF(U:b∈fp)(e:h.get? b=some o):(b,o)∈j8 fp h:=aan.mpr ⟨b,U,by rw[e];rfl⟩
theorem qD{p:Addr×Obj}(V:p∈j8 fp h):p.1∈fp/\h.get? p.1=some p.2:=by
 obtain⟨b,U,e⟩:=aan.mp V;cases q:h.get? b with
 |none=>rw[q]at e;cases e
 |some o=>
  rw[q]at e;have Z:(b,o)=p:=Vw e;subst Z;exact⟨U,q⟩
theorem Inv.pinned(I:Inv X pins σ H s)(Z:∀b∈fp,j9 X pins H b)(O:∀b∈fp,∃o,s.heap.get? b=some o/\∀v,o.data≠.cell v):Inv X (pins++j8 fp s.heap) σ H s:=
 I.pins_of λp V=>(T_.mp V).elim (λz=>I.pin p (T9 _ z)) λz=>by
  obtain⟨U,e⟩:=qD z;obtain⟨F,N,q,_⟩:=Z p.1 U;obtain⟨o,J,d⟩:=O p.1 U;rw[e]at J;cases J;exact⟨e,F,N,q,d⟩
theorem Inv.unpinned{pl:List (Addr×Obj)}(I:Inv X (pins++pl) σ H s):Inv X pins σ H s:=I.pins_of λp V=>I.pin p (T9 _ (Uh _ V))
theorem PJ{iter:Expr}{wi:TI}{g:TG}(V:aci (model X.prog X.w) X.A X.env X.xe)(hc:X.calm=true)(hi:PI X tg iter wi)(z:PG X tg g)(U:PSs X Y tb)
  (O:∀x,Ww iter X.env x=pure x:=by intro _;rfl):PS X (.For tg iter Y [] pos) (SJ wi g tb):=by
 intro pins s σ H D I h;refine wpAny_For (thn (hi pins s σ H _ I h) λv s1 h1=>thn h1 λb2 s2 h2=>?_) O;obtain⟨it,fp,tn,J,H2,e,I2,T,b1,q,W,⟨m0,w0⟩,a6⟩:=h2;subst e;have a3:∀{H':Hp},(∀b∈fp,H' b=none)->∀b∈fp,j9 X pins H' b:=λhn b U=>⟨hn b U,(q b U).2⟩;refine codeAny_forLoop_any (λn s'=>∃i F H',Inv X pins F H' s'/\tn i s'.heap/\(∀b∈fp,H' b=none)/\W i n F H') ?_ m0 ⟨0,σ,H2,I2,b1,λb U=>(q b U).1,w0⟩;rintro n s3 ⟨i,a1,H3,I3,a7,a5,w3⟩;rcases a6 i n a1 H3 w3 with⟨stop,qn⟩|⟨go,N,hN,step⟩
 .refine Xn V (thn (T.done X rfl rfl rfl hc i pins s3 a1 H3 X.xe I3 (a3 a5) a7 stop) λr s4 ⟨Z,I4⟩=>?_)
  subst Z;exact Z4 ⟨a1,H3,I4,qn⟩
 .refine Xn V (thn (T.item X rfl rfl rfl hc i pins s3 a1 H3 X.xe I3 (a3 a5) a7 go) λr s4 ⟨u,Z,h4⟩=>?_)
  subst Z;refine Xn V (thn h4 λ_ s5 ⟨x,H5,I5,r5,y5,a4,a8⟩=>?_);have a9:=I5.pinned (a3 a8) (T.obj _ _ a4);refine Xn V (thn (z _ s5 a1 H5 x u _ a9 r5 (step x H5 y5)) λ_ s6 ⟨b0,H6,I6,q6⟩=>?_);refine Xn V (thn (U _ s6 b0 H6 _ I6 q6) λf s7 q7=>?_);have a2:∀{a0:St}{H7:Hp},Inv X (pins++j8 fp s5.heap) a0 H7 s7->N a0 H7->∃m,m<n/\∃i F H',Inv X pins F H' s7/\tn i s7.heap/\(∀b∈fp,H' b=none)/\W i m F H':=λ{a0 H7} I7 n7=>by
   obtain⟨m',hm,w7⟩:=hN a0 H7 n7;refine⟨m',hm,i+1,a0,H7,I7.unpinned,T.keep _ _ _ a4 λb U o e=>(I7.pin (b,o) (T9 _ (T9 _ (dF U e)))).1,λb U=>?_,w7⟩;obtain⟨o,e,d⟩:=T.obj _ _ a4 b U;exact(I7.pin (b,o) (T9 _ (T9 _ (dF U e)))).2.1
  cases f with
  |next=>obtain⟨a0,H7,I7,n7⟩:=q7;exact a2 I7 n7
  |cont=>obtain⟨a0,H7,I7,n7⟩:=q7;exact a2 I7 n7
  |brk=>obtain⟨a0,H7,I7,q7⟩:=q7;exact⟨a0,H7,I7.unpinned,q7⟩
  |ret v=>obtain⟨x7,a0,H7,I7,r7,q7⟩:=q7;exact⟨x7,a0,H7,I7.unpinned,r7,q7⟩
abbrev R2:=V->V->Hp->VK->Prop
def OpR(X:Cx)(f:Value->Value->Sem Value)(r:R2):Prop:=
 ∀(pins:List (Addr×Obj))(s:T7)(σ:St)(H:Hp)(x y:V)(v u:Value)(Q:VK),Inv X pins σ H s->RelV x v->RelV y u->r x y H Q->
  wpAny (model X.prog X.w) X.A (f v u) (EP X pins σ Q) X.xe s
def UnR(X:Cx)(f:Value->Sem Value)(r:V->Hp->VK->Prop):Prop:=
 ∀(pins:List (Addr×Obj))(s:T7)(σ:St)(H:Hp)(x:V)(v:Value)(Q:VK),Inv X pins σ H s->RelV x v->r x H Q->
  wpAny (model X.prog X.w) X.A (f v) (EP X pins σ Q) X.xe s
def eU(X:Cx)(f:Value)(r:List V->Hp->VK->Prop):Prop:=
 ∀(pins:List (Addr×Obj))(s:T7)(σ:St)(H:Hp)(xs:List V)(us:List Value)(Q:VK),Inv X pins σ H s->Vals xs us->r xs H Q->
  wpAny (model X.prog X.w) X.A (call f us) (EP X pins σ Q) X.xe s
def Tf(X:Cx)(r:V->Hp->(Bool->Hp->Prop)->Prop):Prop:=
 ∀(pins:List (Addr×Obj))(s:T7)(σ:St)(H:Hp)(x:V)(v:Value)(Q:Bool->Hp->Prop),Inv X pins σ H s->RelV x v->r x H Q->
  wpAny (model X.prog X.w) X.A (truthy v) (TP X pins σ Q) X.xe s
def tOp(r:R2)(ta tb:TE):TE:=λσ H Q=>ta σ H λx H1=>tb σ H1 λy H2=>r x y H2 Q
def tUn(r:V->Hp->VK->Prop)(ta:TE):TE:=λσ H Q=>ta σ H λx H1=>r x H1 Q
def rI(C:Int->Int->Prop)(g:Int->Int->V):R2:=λx y H Q=>∃i j,x= .int i/\y= .int j/\C i j/\Q (g i j) H
def rI0(g:Int->Int->V):R2:=λx y H Q=>∃i j,x= .int i/\y= .int j/\Q (g i j) H
def rU(g:Int->V):V->Hp->VK->Prop:=λx H Q=>∃i,x= .int i/\Q (g i) H
variable{b:Expr}{f:Value->Value->Sem Value}{ta tb:TE}
theorem NQ(Y:PE X a ta)(U:PE X b tb){R:V->V->Hp->Prop}(I:Inv X pins σ H s)
  (h:ta σ H λx H1=>tb σ H1 λy H2=>R x y H2) {Q:Value->T7->Prop} 
  (hf:∀v u N x y H2,Inv X pins σ H2 N->RelV x v->RelV y u->R x y H2->wpAny (model X.prog X.w) X.A (f v u) Q X.xe N) :
  wpAny (model X.prog X.w) X.A (eval a X.env) (λv J=>wpAny (model X.prog X.w) X.A (eval b X.env) (λu O=>wpAny (model X.prog X.w) X.A (f v u) Q X.xe O) X.xe J) X.xe s:=by
 refine thn (Y pins s σ H _ I h) λv Z ⟨x,H1,F,r1,q1⟩=>?_;refine thn (U pins Z σ H1 _ F q1) λu N ⟨y,H2,z,q,q2⟩=>?_;exact hf v u N x y H2 z r1 q q2
variable{r:R2}
theorem Mt{op:aa0}(O:OpR X (V6 op) r)(Y:PE X a ta)(U:PE X b tb):PE X (.BinOp a op b pos) (tOp r ta tb):=by
 intro pins s σ H Q I h;exact wpAny_BinOp (NQ Y U I h λv u N x y H2 z rx J q=>O pins N σ H2 x y v u Q z rx J q)
theorem Sx{op:UnaryOp}{r:V->Hp->VK->Prop}(O:UnR X (unaryOp op) r)(Y:PE X a ta):PE X (.UnaryOp op a pos) (tUn r ta):=by
 intro pins s σ H Q I h;exact UnaryOp_ (thn (Y pins s σ H _ I h) λv Z ⟨x,H1,F,J,q1⟩=>O pins Z σ H1 x v Q F J q1)
theorem opI{C:Int->Int->Prop}
  (z:∀(i j:Int)(t u:Tok)(s:T7)(Q:Value->T7->Prop)(E:Value->T7->Prop),C i j->Q (.int (g i j) s.toks) {s with toks:=s.toks+1}->wpAny (model X.prog X.w) X.A (f (.int i t) (.int j u)) Q E s) :
  OpR X f (rI C λi j=>.int (g i j)):=by
 intro pins s σ H x y v u Q I rx F h;obtain⟨i,j,rfl,rfl,J,q⟩:=h;obtain⟨t,rfl⟩:=rx;obtain⟨t',rfl⟩:=F;exact z i j t t' s _ _ J ⟨.int (g i j),H,I.tok _,⟨_,rfl⟩,q⟩
theorem Ss
  (z:∀(i j:Int)(t u:Tok)(s:T7)(Q:Value->T7->Prop)(E:Value->T7->Prop),Q (.int (g i j) s.toks) {s with toks:=s.toks+1}->wpAny (model X.prog X.w) X.A (f (.int i t) (.int j u)) Q E s) :
  OpR X f (rI0 λi j=>.int (g i j)):=by
 intro pins s σ H x y v u Q I rx J h;obtain⟨i,j,rfl,rfl,q⟩:=h;obtain⟨t,rfl⟩:=rx;obtain⟨t',rfl⟩:=J;exact z i j t t' s _ _ ⟨.int (g i j),H,I.tok _,⟨_,rfl⟩,q⟩
theorem J9{g:Int->Int->Bool}
  (z:∀(i j:Int)(t u:Tok)(s:T7)(Q:Value->T7->Prop)(E:Value->T7->Prop),Q (.bool (g i j)) s->wpAny (model X.prog X.w) X.A (f (.int i t) (.int j u)) Q E s) :
  OpR X f (rI0 λi j=>.bl (g i j)):=by
 intro pins s σ H x y v u Q I rx J h;obtain⟨i,j,rfl,rfl,q⟩:=h;obtain⟨t,rfl⟩:=rx;obtain⟨t',rfl⟩:=J;exact z i j t t' s _ _ ⟨.bl (g i j),H,I,rfl,q⟩
def Tu(i j:Int):Prop:=0<=j/\j<=1000000/\i.natAbs<2 ^ 64
def PX(i j:Int):Prop:=(-(2 ^ 64)<i/\i<2 ^ 64)∨(-(2 ^ 64)<j/\j<2 ^ 64)
theorem PX.ok{i j:Int}(h:PX i j):IntMulOk i j:=by
 rcases h with⟨h1,h2⟩|⟨h1,h2⟩
 .exact .of_left (intBits_le_64 h1 h2)
 .exact .of_right (intBits_le_64 h1 h2)
theorem Nx:OpR X (V6 .Add) (rI0 λi j=>.int (i+j)):=Ss λ_ _ _ _ _ _ _ q=>add_int q
theorem N6:OpR X (V6 .Sub) (rI0 λi j=>.int (i-j)):=Ss λ_ _ _ _ _ _ _ q=>sub_int q
theorem Oe:OpR X (V6 .Mult) (rI PX λi j=>.int (i*j)):=opI λ_ _ _ _ _ _ _ J q=>mul_int q J.ok
theorem Qu:OpR X (V6 .Mod) (rI (λ_ j=>0<j) λi j=>.int (i % j)):=opI λi j _ _ _ _ _ J q=>by
 have h1:(0:Int)<j:=J;exact mod_int' (by omega) (by rw[Int.fmod_eq_emod_of_nonneg i (by omega)];exact q)
theorem QJ:OpR X (V6 .Pow) (rI Tu λi j=>.int (i ^ j.toNat)):=opI λ_ _ _ _ _ _ _ J q=>pow_int_small J.1 J.2.1 J.2.2 q
theorem unI{f:Value->Sem Value}{g:Int->Int}
  (z:∀(i:Int)(t:Tok)(s:T7)(Q:Value->T7->Prop)(E:Value->T7->Prop),Q (.int (g i) s.toks) {s with toks:=s.toks+1}->wpAny (model X.prog X.w) X.A (f (.int i t)) Q E s) :
  UnR X f (rU λi=>.int (g i)):=by
 intro pins s σ H x v Q I rx h;obtain⟨i,rfl,q⟩:=h;obtain⟨t,rfl⟩:=rx;exact z i t s _ _ ⟨.int (g i),H,I.tok _,⟨_,rfl⟩,q⟩
theorem N7:UnR X (unaryOp .USub) (rU λi=>.int (-i)):=unI λ_ _ _ _ _ q=>neg_int q
theorem wu{Q:VK}{k F:Bool}(I:Inv X pins σ H s)(q:Q (.bl k) H)(e:k=F):EP X pins σ Q (.bool F) s:=by
 subst e;exact⟨.bl k,H,I,rfl,q⟩
theorem R3:OpR X (U4 .Lt) (rI0 λi j=>.bl (decide (i<j))):=J9 λ_ _ _ _ _ _ _ q=>lt_int q
theorem Rb:OpR X (U4 .LtE) (rI0 λi j=>.bl (decide (i<=j))):=J9 λ_ _ _ _ _ _ _ q=>le_int q
theorem Q7:OpR X (U4 .Gt) (rI0 λi j=>.bl (decide (j<i))):=J9 λ_ _ _ _ _ _ _ q=>gt_int q
theorem Rt:OpR X (U4 .GtE) (rI0 λi j=>.bl (decide (j<=i))):=J9 λ_ _ _ _ _ _ _ q=>ge_int q
theorem Ds:OpR X (U4 .Lt) (λx y H Q=>∃i j,x= .str i/\y= .str j/\Q (.bl (decide (i.cps.toList<j.cps.toList))) H):=by
 intro pins s σ H x y v u Q I rx J h;obtain⟨i,j,rfl,rfl,q⟩:=h;obtain⟨t,rfl⟩:=rx;obtain⟨t',rfl⟩:=J;exact lt_str (wu I q rfl)
theorem De:OpR X (U4 .In) (λx y H Q=>∃i j,x= .str i/\y= .str j/\Q (.bl (!(Xc j i 0 j.length 1).isEmpty)) H):=by
 intro pins s σ H x y v u Q I rx J h;obtain⟨i,j,rfl,rfl,q⟩:=h;obtain⟨t,rfl⟩:=rx;obtain⟨t',rfl⟩:=J;exact in_str (wu I q rfl)
theorem Qd:OpR X (U4 .Is) (λx y H Q=>y= .non/\Q (.bl (decide (x= .non))) H):=by
 intro pins s σ H x y v u Q I rx J h;obtain⟨rfl,q⟩:=h;cases J;refine is_none_gen (wu I q ?_);cases x<;>first
  |(cases rx;rfl)
  |(obtain⟨t,rfl⟩:=rx;rfl)
theorem Jq:OpR X (U4 .IsNot) (λx y H Q=>y= .non/\Q (.bl (!decide (x= .non))) H):=by
 intro pins s σ H x y v u Q I rx J h;obtain⟨rfl,q⟩:=h;cases J;refine isnot_none_gen (wu I q ?_);cases x<;>first
  |(cases rx;rfl)
  |(obtain⟨t,rfl⟩:=rx;rfl)
theorem Ck(O:OpR X (U4 op) r)(Y:PE X a ta)(U:PE X b tb)(V:YJ op b=false):PE X (.Compare a [op] [b] pos) (tOp r ta tb):=by
 intro pins s σ H Q I h;exact wpAny_Compare1 (NQ Y U I h λv u N x y H2 z rx J q=>O pins N σ H2 x y v u Q z rx J q) V
def Be(t:TE):TT:=λσ H Q=>t σ H λx H'=>∃k,x= .bl k/\Q k H'
theorem Cd(O:OpR X (U4 op) r)(Y:PE X a ta)(U:PE X b tb)(V:YJ op b=false):PT X (.Compare a [op] [b] pos) (Be (tOp r ta tb)):=by
 intro pins s σ H Q I h;refine wpAny_isTrue_Compare1 (thn (Y pins s σ H _ I h) λv Z ⟨x,H1,F,J,q1⟩=>thn (U pins Z σ H1 _ F q1) λu N ⟨y,H2,I2,q,q2⟩=>
  thn (O pins N σ H2 x y v u _ I2 J q q2) λc s3 ⟨z,H3,I3,r3,k,e,q3⟩=>?_) V
 subst e;cases r3;exact XC ⟨H3,I3,q3⟩
def Iw(r N:R2)(ta tb tc:TE):TE:=λσ H Q=>ta σ H λx H1=>tb σ H1 λy H2=>r x y H2 λz q=>∃k,z= .bl k/\
 (if k=true then tc σ q λY F=>N y Y F Q else Q (.bl false) q)
variable{tc:TE}
theorem HN{a0:CmpOp}{r':R2}(O:OpR X (U4 op) r)(a1:OpR X (U4 a0) r')(Y:PE X a ta)(U:PE X b tb)(J:PE X c tc)
  (V:lastMarks [op,a0] [b,c]=false:=by with_unfolding_all rfl):PT X (.Compare a [op,a0] [b,c] pos) (Be (Iw r r' ta tb tc)):=by
 intro pins s σ H Q I h;refine isTrue_chain (thn (Y pins s σ H _ I h) λv Z ⟨x,H1,F,r1,q1⟩=>test_link (thn (U pins Z σ H1 _ F q1) λu N ⟨y,H2,I2,q,q2⟩=>
  thn (O pins N σ H2 x y v u _ I2 r1 q q2) λd s3 ⟨z,H3,I3,r3,k,e,q3⟩=>?_)) V
 subst e;cases r3;refine XC ?_;cases k with
 |false=>
  obtain⟨k',e',q'⟩:=q3;cases e';exact ite_ff ⟨H3,I3,q'⟩
 |true=>
  refine ite_tt (test_last (thn (J pins s3 σ H3 _ I3 q3) λw' s4 ⟨z',H4,I4,r4,q4⟩=>thn (a1 pins s4 σ H4 y z' u w' _ I4 q r4 q4) λd' s5 ⟨z2,H5,I5,r5,k2,e2,q5⟩=>?_));subst e2;cases r5;exact XC ⟨H5,I5,q5⟩
def Lb(K:Ub)(x:V)(H:Hp)(k:Bool):Prop:=
 match x with
 |.non=>k=false
 |.bl b=>k=b
 |.int i=>k=(i !=0)
 |.str y=>y.length<=Ui/\k=((y.length:Int)!=0)
 |.byt y=>y.size<=Ui/\k=((y.size:Int)!=0)
 |.ref p=>(∃xs,SqL K H p xs/\k= !xs.isEmpty)∨(∃xs,SqT K H p xs/\k= !xs.isEmpty)∨∃kvs,H p=some (.dK kvs)/\k= !kvs.isEmpty
 |_=>False
theorem z_{kvs:List (κ×V)}{vs:List (κ×Value)}(r:KV kvs vs):(!vs.isEmpty)= !kvs.isEmpty:=by
 cases r<;>rfl
theorem sZ(r:Vals xs its):(!its.toArray.isEmpty)= !xs.isEmpty:=by
 cases r<;>simp
theorem oJ:(Ui:Nat)<2 ^ 63:=by rw[abt];decide
theorem O4:Tf X (λx H Q=>∃k,Lb X.K x H k/\Q k H):=by
 intro pins s σ H x v Q I rx h;obtain⟨k,e,q⟩:=h;have Y:=oJ;have O:Ui=16777216:=abt;cases x with
 |non=>
  cases rx;have Z:k=false:=e;subst Z;exact truthy_none ⟨H,I,q⟩
 |bl b=>
  cases rx;have Z:k=b:=e;subst Z;exact XC ⟨H,I,q⟩
 |int i=>
  obtain⟨t,rfl⟩:=rx;have Z:k=(i !=0):=e;subst Z;exact PySem.P.truthy_int ⟨H,I,q⟩
 |str y=>
  obtain⟨t,rfl⟩:=rx;obtain⟨z,Z⟩:y.length<=Ui/\k=((y.length:Int)!=0):=e;subst Z;exact PySem.P.truthy_str (by omega) ⟨H,I.tok _,q⟩
 |byt y=>
  obtain⟨t,rfl⟩:=rx;obtain⟨z,Z⟩:y.size<=Ui/\k=((y.size:Int)!=0):=e;subst Z;exact PySem.W.truthy_bytes (by omega) ⟨H,I.tok _,q⟩
 |ref p=>
  cases rx;have Z:(∃xs,SqL X.K H p xs/\k= !xs.isEmpty)∨(∃xs,SqT X.K H p xs/\k= !xs.isEmpty)∨∃kvs,H p=some (.dK kvs)/\k= !kvs.isEmpty:=e;rcases Z with⟨xs,F,Z⟩|⟨xs,F,Z⟩|⟨kvs,F,Z⟩
  .subst Z
   obtain⟨its,r,pl,hz⟩:=I.list F;have U:=r.length;exact wpAny_truthy_list pl.isList (by simp only[List.size_toArray];omega) ⟨H,I.tok _,by rw[sZ r];exact q⟩
  .subst Z
   obtain⟨its,r,pl,hz⟩:=I.tuple F;have U:=r.length;exact truthy_tuple pl (by simp only[List.size_toArray];omega) ⟨H,I.tok _,by rw[sZ r];exact q⟩
  .subst Z
   obtain⟨hz,J,vs,r,m⟩:kvs.length<=Ui/\(p==XH)=false/\∃vs,KV kvs vs/\s.heap.DictOf (aR X.prog X.w) p vs:=I.hok p _ F;have U:kvs.length=vs.length:=aay r;exact wpAny_truthy_dict J m (by omega) ⟨H,I.tok _,by rw[z_ r];exact q⟩
 |_=>exact(show False from e).elim
theorem Jl(Y:PE X a ta)(N:∀q,abC a X.env q=(do let v ←q;Zh a.pos;Wu [v] (truthy v))) :
  PT X a (λσ H Q=>ta σ H λx H'=>∃k,Lb X.K x H' k/\Q k H'):=by
 intro pins s σ H Q I h;exact isTrue_plain (thn (Y pins s σ H _ I h) λv Z ⟨x,H1,F,J,q1⟩=>O4 pins Z σ H1 x v Q F J q1) (N _)
theorem zA:OpR X (V6 .Add) (λx y H Q=>∃i j,x= .str i/\y= .str j/\i.length+j.length<=Ui/\Q (.str (i++j)) H):=by
 intro pins s σ H x y v u Q I rx J h;obtain⟨i,j,rfl,rfl,hz,q⟩:=h;obtain⟨t,rfl⟩:=rx;obtain⟨t',rfl⟩:=J;exact add_str (λt' tk=>⟨.str (i++j),H,I.tok _,⟨_,rfl⟩,q⟩) hz
theorem vals1{x:V}(r:Vals [x] us):∃u,us=[u]/\RelV x u:=by
 cases r with
 |cons J q=>cases q;exact⟨_,rfl,J⟩
theorem vals2{x y:V}(r:Vals [x,y] us):∃u Y,us=[u,Y]/\RelV x u/\RelV y Y:=by
 cases r with
 |cons J q=>
  cases q with
  |cons z F=>cases F;exact⟨_,_,rfl,J,z⟩
theorem Iz:eU X (.builtin "abs") (λxs H Q=>∃i,xs=[.int i]/\Q (.int (if i<0 then -i else i)) H):=by
 intro pins s σ H xs us Q I r h;obtain⟨i,rfl,q⟩:=h;obtain⟨u,rfl,t,rfl⟩:=vals1 r;exact call_abs_int λu tk=>⟨.int (if i<0 then -i else i),H,I.tok _,⟨_,rfl⟩,q⟩
theorem Dg(J:X.calm=true):eU X (.builtin "max") (λxs H Q=>∃i j,xs=[.int i,.int j]/\Q (.int (if j>i then j else i)) H):=by
 intro pins s σ H xs us Q I r h;obtain⟨i,j,rfl,q⟩:=h;obtain⟨u,Y,rfl,⟨t,rfl⟩,⟨t',rfl⟩⟩:=vals2 r;refine max_two_ints (I.ok.hd J) λh' tk k=>⟨_,H,I.kept k,?_,q⟩;by_cases U:j>i
 .rw[Uo U,Uo U];exact⟨_,rfl⟩
 .rw[Uq U,Uq U];exact⟨_,rfl⟩
theorem Ec(J:X.calm=true):eU X (.builtin "min") (λxs H Q=>∃i j,xs=[.int i,.int j]/\Q (.int (if j<i then j else i)) H):=by
 intro pins s σ H xs us Q I r h;obtain⟨i,j,rfl,q⟩:=h;obtain⟨u,Y,rfl,⟨t,rfl⟩,⟨t',rfl⟩⟩:=vals2 r;refine min_two_ints (I.ok.hd J) λh' tk k=>⟨_,H,I.kept k,?_,q⟩;by_cases U:j<i
 .rw[Uo U,Uo U];exact⟨_,rfl⟩
 .rw[Uq U,Uq U];exact⟨_,rfl⟩
theorem Dh:eU X (.type "int") (λxs H Q=>(∃i,xs=[.int i]/\Q (.int i) H)∨∃k,xs=[.bl k]/\Q (.int (if k then 1 else 0)) H):=by
 intro pins s σ H xs us Q I r h;rcases h with⟨i,rfl,q⟩|⟨k,rfl,q⟩
 .obtain⟨u,rfl,t,rfl⟩:=vals1 r
  exact call_int_int ⟨.int i,H,I,⟨_,rfl⟩,q⟩
 .obtain⟨u,rfl,r1⟩:=vals1 r
  cases r1;exact call_int_bool ⟨.int (if k then 1 else 0),H,I.tok _,⟨_,rfl⟩,q⟩
structure Aa(h:Heap)(x dx C:Addr)(mA:Str->Option Value):Prop where
 obj:h.get? x=some (WY C dx)
 ns:h.Ns1 dx mA
 ne:dx≠x
theorem CW(n:h.Ns1 dx mA):∃F,h.get? dx=some F/\∀name,aae name F=some (mA name):=by
 obtain⟨o,es,ep,O,hd,U,_,V⟩:=n;refine⟨o,O,λname=>?_⟩;have e:=V name;unfold nsFind findBy at e;rw[←Array.find?_toList]at e;unfold aae;rw[hd];dsimp only;split
 .rename_i y q
  rw[q]at e;exact congrArg some e
 .rename_i q
  rw[q]at e;have a:es.toList.any (·.refKey)=false:=by
   rw[List.any_eq_false];intro y N;obtain⟨z,t,J⟩:=U y (Array.mem_toList_iff.mp N);simp[DictEntry.refKey,J]
  have Y:¬es.toList.any (·.refKey)=true:=by rw[a];exact Vs
  rw[Uq Y];exact congrArg some e
theorem Aa.look{x:Addr}(I:Aa h x dx C mA):∃F,PySem.W.InstAt h x (WY C dx) C (some F)/\∀name,aae name F=some (mA name):=
 let⟨F,ho,hl⟩:=CW I.ns
 ⟨F,⟨I.obj,rfl,rfl,ho⟩,hl⟩
section
variable{prog:Program}{w:World}{A:Around}{E:Value->Shared->Prop}{s:Shared}{K:PySem.W.Frag}{x dx C f:Addr}{mA:Str->Option Value}{name:Str}{v:Value}
theorem K7{q:Bool}{Q:Value->T7->Prop}(X:K.In s.heap)(I:Aa s.heap x dx C mA)(z:Yz K C name=true)(O:Zm K C=true)
  (Y:UV K (.ref C) name=some none) (U:mA name=some v) (N:acM v=true) (h:Q v {s with toks:=s.toks+1}) :
  wpAny (model prog w) A (getAttr (.ref x) name q) Q E s:=by
 obtain⟨F,J,V⟩:=I.look;exact PySem.W.get_value X J (aac z).1 (PySem.W.findObj_own O Y rfl (by rw[V,U])) N h
theorem Ji{pl:Sem Bool}{Q:Value×List Value->T7->Prop}(X:K.In s.heap)(I:Aa s.heap x dx C mA)(z:Yz K C name=true)
  (Z:UV K (.ref C) name=some (some (.ref f))) (q:Wc K (.ref f)=true) (U:mA name=none) (h:Q (.ref f,[.ref x]) s) :
  wpAny (model prog w) A (Y6 (.ref x) name pl) Q E s:=by
 obtain⟨F,J,Y⟩:=I.look;exact PySem.W.method_fn X J (aac z).1 (aac z).2 Z (YB.mp q) (by show(aae name F).map (·.isSome)=some false;rw[Y,U];rfl) h
theorem Jw{ns:List Str}{Q:Unit->T7->Prop}(X:K.In s.heap)(I:Aa s.heap x dx C mA)
  (O:UV K (.ref C) "__setattr__"=some (some (.builtin "object.__setattr__"))) (V:aaI K C=true) (ht:abj K C name=some none) (z:Zm K C=true)
  (hw:acg mA ns) (hsz:ns.length<=Ui)
  (h:∀h',Aa h' x dx C (λy=>if y=name then some v else mA y)->WL dx s.heap h'->Q () {s with heap:=h',toks:=s.toks+2}) :
  wpAny (model prog w) A (setAttr (.ref x) name v) Q E s:=by
 obtain⟨od,J,Y⟩:=I.look;refine PySem.W.set_plain X J O (PySem.W.osa_open (s:={s with toks:=s.toks+1}) (r:=none) X J V ht λb=>?_);obtain⟨U,hc,N⟩:=PySem.W.any_some z;have F:s.heap.get? x=some ⟨.ref C,some dx,.plain,#[]⟩:=I.obj;refine gD (yr (gD (gD (wpAny_loadPart F (gD (PySem.W.Looks.here (s:={s with toks:=s.toks+1}) (PySem.W.looks_clsIn X hc) ?_))))));rw[N];refine yr (a:=some dx) (gD (yr (gD ?_)));refine wpAny_nsSet1 (s:={s with toks:=s.toks+1}) I.ns λh' Z q=>?_;obtain⟨oD,a3,a4,a2,a1,a0⟩:=Z.count (PySem.Within.cons name v hw);refine gD (wpAny_lookBehind a2 (by rw[a1];exact pastItsLine_dict (V2 a0 (by rw[Uy];omega))) ?_);exact yr (h _ ⟨(q.2 _ (U3 I.ne)).trans I.obj,Z,I.ne⟩ q)
theorem Ez{R:Z6->T7->Prop}{vs:List Value}{kw:List (Str×Value)}(X:K.In s.heap)(V:abk K C=true)
  (hi:UV K (.ref C) "__init__"=some (some (.ref f))) (Z:PySem.W.typeIn K (.ref f)=some (.type "function"))
  (h:Wf (model prog w) (A.under (.builtin "type.__call__" ⟨.ref C::vs,kw⟩)) (.call (.ref f) ⟨.ref (s.heap.objs.size+1)::vs,kw⟩) (PySem.W.InitBack (s.heap.objs.size+1) R)
   {s with heap:=(s.heap.push Wj).push (WY C s.heap.objs.size)}) :
  Wf (model prog w) A (.call (.ref C) ⟨vs,kw⟩) R s:=by
 obtain⟨z,g,d,t,os⟩:=s;exact PySem.W.make_core (PySem.W.makes_of X V) (PySem.W.looks_findIn X hi) (λself=>PySem.W.bind_fn X self Z) (.inl rfl) h
end
def jr(f:Str)(v:V):List (Str×V)->List (Str×V)
 |[]=>[(f,v)]
 |(g,x)::r=>if g=f then(g,v)::r else(g,x)::jr f v r
theorem qX(f g:Str)(v:V):∀fs:List (Str×V),(jr f v fs).lookup g=if g=f then some v else fs.lookup g
 |[]=>by
  show Yg g [(f,v)]=_;by_cases h:g=f
  .have hb:(g==f)=true:=YB.mpr h
   simp only[Yg,hb,Uo h]
  .have hb:(g==f)=false:=WK.mpr h
   simp only[Yg,hb,Uq h]
 |(k,x)::r=>by
  have Z:=qX f g v r;rw[show jr f v ((k,x)::r)=(if k=f then(k,v)::r else(k,x)::jr f v r)from rfl];by_cases q:k=f
  .rw[Uo q]
   by_cases h:g=k
   .have hb:(g==k)=true:=YB.mpr h
    simp only[Yg,hb,Uo (h.trans q)]
   .have hb:(g==k)=false:=WK.mpr h
    simp only[Yg,hb,Uq (λe:g=f=>h (e.trans q.symm))]
  .rw[Uq q]
   by_cases h:g=k
   .have hb:(g==k)=true:=YB.mpr h
    simp only[Yg,hb,Uq (λe:g=f=>q (h.symm.trans e))]
   .have hb:(g==k)=false:=WK.mpr h
    simp only[Yg,hb];exact Z
theorem qJ(f:Str)(v:V):∀fs:List (Str×V),f∈(jr f v fs).map (·.1)/\∀g,g∈fs.map (·.1)->g∈(jr f v fs).map (·.1)
 |[]=>⟨by simp[jr],λg h=>by simp at h⟩
 |(k,x)::r=>by
  obtain⟨N,J⟩:=qJ f v r;rw[show jr f v ((k,x)::r)=(if k=f then(k,v)::r else(k,x)::jr f v r)from rfl];by_cases q:k=f
  .rw[Uo q]
   subst q;exact⟨by simp,λg h=>by simpa using h⟩
  .rw[Uq q]
   refine⟨?_,λg h=>?_⟩
   .rw[Um]
    exact Ut _ N
   .rw[Um]at h⊢
    rcases Uj.mp h with e|e
    .exact Uj.mpr (.inl e)
    .exact Ut _ (J g e)
theorem qY(f:Str)(v:V):∀fs:List (Str×V),(jr f v fs).length<=fs.length+1
 |[]=>by simp[jr]
 |(k,x)::r=>by
  have Z:=qY f v r;rw[show jr f v ((k,x)::r)=(if k=f then(k,v)::r else(k,x)::jr f v r)from rfl];by_cases q:k=f
  .rw[Uo q,Uy,Uy];omega
  .rw[Uq q,Uy,Uy];omega
variable{o:Option Value}
theorem lX.some_of(r:lX (some v) o):∃u,o=some u/\RelV v u:=by
 cases o with
 |none=>exact(show False from r).elim
 |some u=>exact⟨u,rfl,r⟩
theorem lX.none_of(r:lX none o):o=none:=by
 cases o with
 |none=>rfl
 |some u=>exact(show False from r).elim
theorem Dz(r:RelV v u):acM u=true:=by
 cases v with
 |non=>cases (show u=VB from r);rfl
 |bl b=>cases (show u=aaQ b from r);rfl
 |int i=>obtain⟨t,e⟩:=(show ∃t,u=V8 i t from r);cases e;rfl
 |str x=>obtain⟨t,e⟩:=(show ∃t,u=Yv x t from r);cases e;rfl
 |byt b=>obtain⟨t,e⟩:=(show ∃t,u=Value.bytes b t from r);cases e;rfl
 |flt b=>obtain⟨t,e⟩:=(show ∃t,u=abq b t from r);cases e;rfl
 |ref a=>cases (show u=UL a from r);rfl
 |ty n=>cases (show u=VP n from r);rfl
section
variable{P:Program}{w:World}{H H':Hp}{h h':Heap}{a C dx:Addr}{fs fs':List (Str×V)}
theorem pA(hok:HOk P w H h)(e:H a=some (.ins C dx fs)):∃mA,Aa h a dx C mA/\(∀f,lX (fs.lookup f) (mA f))/\acg mA (fs.map (·.1))/\fs.length<=1000/\H dx=some (.own a):=by
 obtain⟨d,z,U,ob,mA,n,r,q⟩:=(show cF P w H h a (.ins C dx fs)from hok a _ e);exact⟨mA,⟨ob,n,U⟩,r,q,z,d⟩
end
structure Cls(K:PySem.W.Frag)(C:Addr):Prop where
 pg:Yz K C Str.empty=true
 hd:Zm K C=true
 po:aaI K C=true
 sa:UV K (.ref C) "__setattr__"=some (some (.builtin "object.__setattr__"))
theorem Cls.get{K:Ub}(c:Cls K C)(f:Str):Yz K C f=true:=c.pg
def jD(K:Ub)(C:Addr)(f:Str):Prop:=UV K (.ref C) f=some none
variable{f:Str}
theorem jD.taker{K:Ub}(n:jD K C f):abj K C f=some none:=by
 unfold abj;rw[show UV K (.ref C) f=some none from n];rfl
structure Meth(K:PySem.W.Frag)(C:Addr)(m:Str)(f:Addr):Prop where
 at_:UV K (.ref C) m=some (some (.ref f))
 fn:Wc K (.ref f)=true
 kp:Yl K (.ref f)=true
section
variable{X:Cx}{pins:List (Addr×Obj)}{σ:St}{H:Hp}{s:Shared}{a C dx:Addr}{fs:List (Str×V)}{f:Str}{v:V}{A:Around}{E:Value->Shared->Prop}
theorem Aj{b:Bool}{Q:Value->T7->Prop}(I:Inv X pins σ H s)(e:H a=some (.ins C dx fs))(c:Cls X.K C)(n:jD X.K C f)(l:fs.lookup f=some v)
  (h:∀u s',Inv X pins σ H s'->RelV v u->Q u s'):wpAny (model X.prog X.w) A (getAttr (.ref a) f b) Q E s:=by
 obtain⟨mA,O,r,_,_,_⟩:=pA I.hok e;obtain⟨u,q,F⟩:=lX.some_of (v:=v) (o:=mA f) (by rw[←l];exact r f);exact K7 I.kIn O (c.get f) c.hd n q (Dz F) (h u _ (I.tok _) F)
theorem tB{m:Str}{g:Addr}{pl:Sem Bool}{Q:Value×List Value->T7->Prop}(I:Inv X pins σ H s)(e:H a=some (.ins C dx fs))(c:Cls X.K C)(k:Meth X.K C m g)(l:fs.lookup m=none)
  (h:Q (.ref g,[.ref a]) s):wpAny (model X.prog X.w) A (Y6 (.ref a) m pl) Q E s:=by
 obtain⟨mA,O,r,_,_,_⟩:=pA I.hok e;have N:mA m=none:=lX.none_of (by rw[←l];exact r m);exact Ji I.kIn O (c.get m) k.at_ k.fn N h
theorem Ac{y:V}{u:Value}{Q:Unit->T7->Prop}(I:Inv X pins σ H s)(e:H a=some (.ins C dx fs))(c:Cls X.K C)(n:jD X.K C f)(Y:fs.length<1000)(J:RelV y u)
  (h:∀s',Inv X pins σ (upd H a (.ins C dx (jr f y fs))) s'->Q () s'):wpAny (model X.prog X.w) A (setAttr (.ref a) f u) Q E s:=by
 obtain⟨mA,O,r,wi,_,N⟩:=pA I.hok e;have hz:(fs.map (·.1)).length<=Ui:=by rw[Ux,abt];omega
 refine Jw I.kIn O c.sa c.po n.taker c.hd wi hz λh' F sb=>h _ ?_;have hd:∃o,h'.get? dx=some o:=let⟨o,_,_,e',_⟩:=F.ns;⟨o,e'⟩;refine I.write (x:=a) (e:=dx) (by rw[e];exact V4) (.inr N) (λb q U z=>(sb.2 b U).trans z) hd ?_;refine⟨by rw[aK O.ne];exact N,?_,O.ne,F.obj,_,F.ns,λg=>?_,λg Z=>?_⟩
 .have:=qY f y fs;omega
 .show lX ((jr f y fs).lookup g) (if g=f then some u else mA g)
  rw[qX];by_cases q:g=f
  .rw[Uo q,Uo q];exact J
  .rw[Uq q,Uq q];exact r g
 .by_cases q:g=f
  .rw[q];exact(qJ f y fs).1
  .refine(qJ f y fs).2 g (wi g λz=>Z ?_)
   show(if g=f then some u else mA g)=none;rw[Uq q];exact z
theorem Inv.made(I:Inv X pins σ H s):Inv X pins σ (upd (upd H s.heap.objs.size (.own (s.heap.objs.size+1))) (s.heap.objs.size+1) (.ins C s.heap.objs.size []))
  {s with heap:=(s.heap.push Wj).push (WY C s.heap.objs.size)}:=by
 have e1:(s.heap.push Wj).get? s.heap.objs.size=some Wj:=Ue s.heap rfl;have e2:((s.heap.push Wj).push (WY C s.heap.objs.size)).get? (s.heap.objs.size+1)=some (WY C s.heap.objs.size):=by
  have:=Ue (s.heap.push Wj) (o:=WY C s.heap.objs.size) rfl;rwa[Ve]at this
 have Z:(s.heap.push Wj).Ns s.heap.objs.size (λ_=>none):=⟨Wj,#[],_,e1,rfl,(λe N=>absurd N (by simp)),λ_=>rfl⟩;have F:=I.laid (a:=s.heap.objs.size) (o:=.own (s.heap.objs.size+1)) (h':=s.heap.push Wj) (t':=s.toks) (λb u q=>T8 _ q) (Uk _) ⟨_,e1⟩;refine F.laid (a:=s.heap.objs.size+1) (o:=.ins C s.heap.objs.size []) (t':=s.toks) (λb u q=>T8 _ q) (Nat.le_of_eq (Ve _ _)) ?_;have U:s.heap.objs.size≠s.heap.objs.size+1:=Ud (VM _);refine⟨by rw[aK U,aZ],XM _,U,e2,λ_=>none,(Heap.Ns1.of_empty Z).at λo q=>T8 _ q,λ_=>V4,λy O=>absurd rfl O⟩
theorem Jv{prog:U_}{w:World}{env:Env}{e:Expr}{f:Str}{pos:Pos}{s:T7}{Q:Value->T7->Prop}(U:Xb e f env (eval e env)=eval e env)
  (h:wpAny (model prog w) A (eval e env) (λo J=>wpAny (model prog w) A (getAttr o f true) Q E J) E s):wpAny (model prog w) A (eval (.Attribute e f pos) env) Q E s:=
 Attribute_any_ h (by rw[arm_eval_Attribute,U])
end
def Rx(K:Ub)(ta:TE)(f:Str):TE:=λσ H Q=>ta σ H λx H1=>∃a C dx fs v,x= .ref a/\H1 a=some (.ins C dx fs)/\Cls K C/\jD K C f/\fs.lookup f=some v/\Q v H1
def T3(K:Ub)(ta tv:TE)(f:Str):TS:=λD σ H=>tv σ H λy H1=>ta σ H1 λx H2=>∃a C dx fs,x= .ref a/\H2 a=some (.ins C dx fs)/\Cls K C/\jD K C f/\fs.length<1000/\
 D.nx σ (upd H2 a (.ins C dx (jr f y fs)))
def JM(X:Cx)(op:aa0)(rd:V->V->Hp->VK->Prop):Prop:=
 ∀(pins:List (Addr×Obj))(s:T7)(σ:St)(H:Hp)(x y:V)(u v:Value)(Q:VK),Inv X pins σ H s->RelV x u->RelV y v->rd x y H Q->wpAny (model X.prog X.w) X.A (inplaceOp op u v) (EP X pins σ Q) X.xe s
theorem Jk(N:PE X e ta)(U:Xb e f X.env (eval e X.env)=eval e X.env):PE X (.Attribute e f pos) (Rx X.K ta f):=by
 intro pins s σ H Q I h;refine Jv U (thn (N pins s σ H _ I h) λu Z ⟨x,H1,F,rx,a,C,dx,fs,v,ex,J,c,n,l,q⟩=>?_);subst ex;obtain rfl:u=UL a:=rx;exact Aj F J c n l λY V z O=>⟨v,H1,z,O,q⟩
variable{o:Expr}{tv:TE}
theorem O_(Y:PE X o ta)(U:PE X value tv)(O:Yd value (some (.Attribute o f pos')) pos.line X.env=pure false):PS X (.Assign [.Attribute o f pos'] value pos) (T3 X.K ta tv f):=by
 intro pins s σ H D I h;refine plainObj_wpAny_Assign_Attribute (thn (U pins s σ H _ I h) λu Z ⟨y,H1,F,J,q⟩=>thn (Y pins Z σ H1 _ F q) λov N ⟨x,H2,z,rx,a,C,dx,fs,ex,ea,c,n,l,q2⟩=>?_) O;subst ex;obtain rfl:ov=UL a:=rx;exact Ac z ea c n l J λs3 V=>⟨σ,_,V,q2⟩
def Q0:V->V->Hp->VK->Prop:=λx y H Q=>∃i j,x= .int i/\y= .int j/\Q (.int (i+j)) H
def Q8:V->V->Hp->VK->Prop:=λx y H Q=>∃i j,x= .int i/\y= .int j/\Q (.int (i-j)) H
theorem QG:JM X .Add Q0:=by
 rintro pins s σ H x y u v Q I rx J ⟨i,j,rfl,rfl,q⟩;obtain⟨t,rfl⟩:=(show ∃t,u=V8 i t from rx);obtain⟨t',rfl⟩:=(show ∃t',v=V8 j t' from J);exact PyProof.Rows.iadd_int ⟨.int (i+j),H,I.tok _,⟨_,rfl⟩,q⟩
theorem Nt:JM X .Sub Q8:=by
 rintro pins s σ H x y u v Q I rx J ⟨i,j,rfl,rfl,q⟩;obtain⟨t,rfl⟩:=(show ∃t,u=V8 i t from rx);obtain⟨t',rfl⟩:=(show ∃t',v=V8 j t' from J);exact PyProof.Rows.isub_int ⟨.int (i-j),H,I.tok _,⟨_,rfl⟩,q⟩
inductive lV(K:PySem.W.Frag)(H:Hp):V->Value->Prop where
 |non:lV K H .non (.type "NoneType")
 |bl (x:Bool):lV K H (.bl x) (.type "bool")
 |int (i:Int):lV K H (.int i) (.type "int")
 |str (x:Str):lV K H (.str x) (.type "str")
 |flt (x:UInt64):lV K H (.flt x) (.type "float")
 |lst {a:Addr} {xs:List V} (e:H a=some (.lst xs)):lV K H (.ref a) (.type "list")
 |frz {a:Addr} {o:Obj} {xs:List V} (e:H a=some (.frz o (.lst xs))):lV K H (.ref a) (.type "list")
 |tup {a:Addr} {xs:List V} (e:H a=some (.tup xs)):lV K H (.ref a) (.type "tuple")
 |dK {a:Addr} {kvs:List (Key×V)} (e:H a=some (.dK kvs)):lV K H (.ref a) (.type "dict")
 |dT {a:Addr} {kvs:List (List Key×V)} (e:H a=some (.dT kvs)):lV K H (.ref a) (.type "dict")
 |ins {a C dx:Addr} {fs:List (Str×V)} (e:H a=some (.ins C dx fs)) (cl:Cls K C) (ha:UV K (.ref C) "__class__"=some (some (.builtin "object.__class__")))
  (hn:PySem.W.specialIn K (.builtin "object.__class__") "__get__"=some (some (.builtin "getset_descriptor.__get__"))) (htk:PySem.W.takesIn K (.builtin "object.__class__")=some true)
  (hm:PySem.W.mroIn K C (.type "object")=some true):lV K H (.ref a) (.ref C)
variable{b:Bool}{s:Shared}{A:Around}{Q:Value->Shared->Prop}{c:Value}
theorem DK{x:V}{t:Value}(I:Inv X pins σ H s)(rx:RelV x u)(ty:lV X.K H x t)(e:aaf X.K t c=some b)(h:∀tk,Q (.bool b) {s with toks:=tk}) :
  wpAny (model X.prog X.w) A (call (.builtin "isinstance") [u,c]) Q E s:=by
 cases ty with
 |non=>cases (show u=VB from rx);exact Wd acC I.kIn V4 e (λz=>nomatch z) h
 |bl y=>cases (show u=aaQ y from rx);exact Wd acD I.kIn V4 e (λz=>nomatch z) h
 |int i=>obtain⟨t,q⟩:=(show ∃t,u=V8 i t from rx);cases q;exact Wd acN I.kIn V4 e (λz=>nomatch z) h
 |str y=>obtain⟨t,q⟩:=(show ∃t,u=Yv y t from rx);cases q;exact Wd acO I.kIn V4 e (λz=>nomatch z) h
 |flt y=>obtain⟨t,q⟩:=(show ∃t,u=abq y t from rx);cases q;exact Wd acj I.kIn V4 e (λz=>nomatch z) h
 |@lst a xs U=>
  cases (show u=UL a from rx);obtain⟨_,_,n,_,h1⟩:=(show cF X.prog X.w H s.heap a (.lst xs)from I.hok a _ U);exact Wd Zn I.kIn ⟨_,h1,rfl⟩ e (λz=>nomatch z) h
 |@frz a ob xs U=>
  cases (show u=UL a from rx);obtain⟨_,_,_,n,_,h1⟩:=(show cF X.prog X.w H s.heap a (.frz ob (.lst xs))from I.hok a _ U);exact Wd Zn I.kIn ⟨_,h1,rfl⟩ e (λz=>nomatch z) h
 |@tup a xs U=>
  cases (show u=UL a from rx);obtain⟨_,_,_,p⟩:=(show cF X.prog X.w H s.heap a (.tup xs)from I.hok a _ U);obtain⟨o,h1,h2,_⟩:=p;exact Wd ack I.kIn ⟨o,h1,h2⟩ e (λz=>nomatch z) h
 |@dK a kvs U=>
  cases (show u=UL a from rx);obtain⟨_,_,vs,_,p⟩:=(show cF X.prog X.w H s.heap a (.dK kvs)from I.hok a _ U);obtain⟨o,es,ep,h1,h2,_⟩:=p;exact Wd Zo I.kIn ⟨o,h1,h2.1⟩ e (λz=>nomatch z) h
 |@dT a kvs U=>
  cases (show u=UL a from rx);obtain⟨_,_,xs,_,o,es,ep,h1,h2,_⟩:=(show cF X.prog X.w H s.heap a (.dT kvs)from I.hok a _ U);exact Wd Zo I.kIn ⟨o,h1,h2.1⟩ e (λz=>nomatch z) h
 |@ins a C dx fs U cl Y N Z hm=>
  cases (show u=UL a from rx);obtain⟨mA,O,_⟩:=pA I.hok U;obtain⟨F,J,_⟩:=O.look;exact Wd (acP (cl.get _) cl.hd Y N Z hm) I.kIn J e (λz=>nomatch z) h
structure fV(k:Nat)(A:Around):Prop where
 hd:A.handled=none
 dp:A.depth+3*k+5<recursionLimit
 un:A.units+16*k+200<cLine
 gd:A.guards=some []
variable{A:Vu}
theorem fV.mono(r:fV k A)(h:j<=k):fV j A:=⟨r.hd,by have:=r.dp;omega,by have:=r.un;omega,r.gd⟩
theorem fV.deeper(r:fV (k+1) A)(env:Env):fV k (A.deeper env):=
 ⟨r.hd,by have:=r.dp;show A.depth+1+3*k+5<_;omega,by have:=r.un;show A.units+3+16*k+200<_;omega,r.gd⟩
theorem zB:(A.under (.builtin "type.__call__" ⟨.ref C::us,kw⟩)).depth=A.depth+1:=by
 first|rfl|simp[acn,Code.weight,Code.isCreation,Code.isGuard,Code.isCaller,Code.frames,aco,guardIds]
theorem zN:(A.under (.builtin "type.__call__" ⟨.ref C::us,kw⟩)).units=A.units+1:=by
 first|rfl|simp[acn,Code.cUnits,Code.frames,aco]
theorem fV.make(r:fV (k+1) A)(C:Addr)(us:List Value)(kw:List (Str×Value)):fV k (A.under (.builtin "type.__call__" ⟨.ref C::us,kw⟩)):=
 ⟨r.hd,by have:=r.dp;rw[zB];omega,by have:=r.un;rw[zN];omega,(by first|exact r.gd|(show pushGuards _ A.guards=_;rw[r.gd];rfl))⟩
theorem fV.depth(r:fV k A):A.depth<recursionLimit:=by have:=r.dp;omega
theorem fV.units(r:fV k A):A.units+64<cLine:=by have:=r.un;omega
def QL:TA:=λ_ H Q=>Q [] H
def B_(ta:TE)(q:TA):TA:=λσ H Q=>ta σ H λx H1=>q σ H1 λxs H2=>Q (x::xs) H2
section
variable{X:Cx}{e:Expr}{es:List Expr}{te:TE}{t:TA}{pos:Pos}
theorem Pu:PA X [] QL:=λ_ _ _ _ H Q I h=>Zq ⟨[],H,I,.nil,h⟩
theorem wF(Y:PE X e te)(Z:PA X es t)(O:Ul (e::es) X.env=(false,eval e X.env)::Ul es X.env:=by rfl):PA X (e::es) (B_ te t):=by
 intro pos pins s σ H Q I h;rw[O];show wpAny _ _ (spliced ((false,eval e X.env)::V3 pos (Ul es X.env))) _ _ s;refine aao (thn (Y pins s σ H _ I h) λu U ⟨x,H1,F,J,q1⟩=>?_);exact thn (Z pos pins U σ H1 _ F q1) λus N ⟨xs,H2,z,q,q2⟩=>⟨x::xs,H2,z,.cons J q,q2⟩
def TJ(t:TA):TE:=λσ H Q=>t σ H λxs H1=>xs.length<=Ui/\∀p,H1 p=none->Q (.ref p) (upd H1 p (.tup xs))
def TY(t:TA):TE:=λσ H Q=>t σ H λxs H1=>xs.length<=Ui/\∀p,H1 p=none->Q (.ref p) (upd H1 p (.lst xs))
theorem HH{x1}(h:PA X es t):PE X (.Tuple es x1 pos) (TJ t):=by
 intro pins s σ H Q I O;refine wpAny_Tuple_spliced (thn (h pos pins s σ H _ I O) λus Z ⟨xs,H1,F,r,z,q⟩=>⟨by rw[←r.length];exact z,?_⟩);have J:H1 Z.heap.objs.size=none:=F.hok.fresh (Uk _);refine⟨.ref Z.heap.objs.size,upd H1 Z.heap.objs.size (.tup xs),F.laid (t':=Z.toks) (λb u e=>T8 _ e) (Uk _) ?_,rfl,q _ J⟩;exact⟨z,us,r,⟨_,Ue _ rfl,rfl,_,rfl,rfl⟩⟩
theorem IK(h:PA X es t):PE X (.List es pos) (TY t):=by
 intro pins s σ H Q I O;refine wpAny_List_spliced (thn (h pos pins s σ H _ I O) λus Z ⟨xs,H1,F,r,z,q⟩=>⟨by rw[←r.length];exact z,?_⟩);have J:H1 Z.heap.objs.size=none:=F.hok.fresh (Uk _);refine⟨.ref Z.heap.objs.size,upd H1 Z.heap.objs.size (.lst xs),F.laid (t':=Z.toks) (λb u e=>T8 _ e) (Uk _) ?_,rfl,q _ J⟩;exact⟨z,us,0,r,Ue _ rfl⟩
end
abbrev Sp:=List V->Hp->VK->XK->Prop
abbrev CXT:=List Env->Hp->T7->XK->Value->T7->Prop
structure zK(P:Program)(w:World)(K:PySem.W.Frag)(mg:Str->Option Value)(base:Heap)(A:Around)(outer:List Env)(s:Shared)(H:Hp):Prop where
 frames:A.frames=some outer
 mod:Mod K mg base
 bs:∀b o,base.get? b=some o->s.heap.get? b=some o/\H b=none
 bsz:base.objs.size<=s.heap.objs.size
 funs:s.heap.FunFrames base outer
 frf:∀b∈frs outer,H b=none
 hok:HOk P w H s.heap
 bare:ZV s.gens
def CE(outer:List Env)(P:U_)(w:World)(H:Hp)(s:T7)(Q:VK)(u:Value)(s':T7):Prop:=
 ∃v H',s'.os=s.os/\ZV s'.gens/\Un (frs outer) [] H H' s.heap s'.heap/\HOk P w H' s'.heap/\RelV v u/\Q v H'
def CR(CX:CXT)(outer:List Env)(P:U_)(w:World)(H:Hp)(s:T7)(Q:VK)(E:XK)(r:Z6)(s':T7):Prop:=
 match r with
 |.ok (.ret u)=>CE outer P w H s Q u s'
 |.ok _=>False
 |.error e=>CX outer H s E e s'
structure d8(P:Program)(w:World)(K:PySem.W.Frag)(mg:Str->Option Value)(base:Heap)(CX:CXT)(k:Nat)(f:Addr)(fd:FuncData)(ps:List Str)(sp:Sp):Prop where
 len:∀vs H Q E,sp vs H Q E->vs.length=ps.length
 run:∀(A:Vu)(outer:List Env)(s:T7)(H:Hp)(args:Args)(us:List Value)(vs:List V)(Q:VK)(E:XK),fV k A->zK P w K mg base A outer s H->abE s fd args (ps.zip us)->Vals vs us->sp vs H Q E->
  Wf (model P w) A (.call (.ref f) args) (CR CX outer P w H s Q E) s
variable{f:Addr}{CX:CXT}
theorem d8.imp{K:Ub}{sp z:Sp}(F:d8 P w K mg base CX k f fd ps sp)
  (h:∀vs H Q E,z vs H Q E->sp vs H Q E):d8 P w K mg base CX k f fd ps z:=
 ⟨λvs H Q E q=>F.len vs H Q E (h _ _ _ _ q),λA outer s H args us vs Q E Z N U J O=>F.run A outer s H args us vs Q E Z N U J (h _ _ _ _ O)⟩
theorem zK.make{K:Ub}{s:T7}(e:zK P w K mg base A outer s H)(C:Addr)(us:List Value)(kw:List (Str×Value)) :
 zK P w K mg base (A.under (.builtin "type.__call__" ⟨.ref C::us,kw⟩)) outer s H:=⟨by first|exact e.frames|(simpa[acn,Code.envs,aco,pushEnvs]using e.frames),e.mod,e.bs,e.bsz,e.funs,e.frf,e.hok,e.bare⟩
theorem Inv.env0(I:Inv X pins σ H s):zK X.prog X.w X.K X.mg X.base X.A X.stack s H:=
 ⟨I.ok.frames,I.ok.mod,I.bs,V2 I.ok.bsz I.sz,I.stack,I.stkFree,I.hok,I.bare⟩
variable{s':Shared}
theorem Inv.after{Q:VK}(I:Inv X pins σ H s)(h:CE X.stack X.prog X.w H s Q u s'):EP X pins σ Q u s':=by
 obtain⟨v,H',os,bare,un,hok,r,q⟩:=h;obtain⟨J,g,d,t,F⟩:=s';obtain rfl:F=s.os:=os;exact⟨v,H',I.call (h':=J) (g':=g) (d':=d) (t':=t) (ch:=[]) un hok bare (λb z=>absurd z (by simp)),r,q⟩
def M8(sp:Sp)(dvs:List V)(E:XK)(t:TA):TE:=λσ H Q=>t σ H λvs H1=>sp (vs++dvs) H1 Q E
def R4(C:Addr)(sp:Sp)(dvs:List V)(E:XK)(t:TA):TE:=λσ H Q=>t σ H λvs H1=>∀x dx,H1 x=none->H1 dx=none->dx≠x->
 sp (.ref x::(vs++dvs)) (upd (upd H1 dx (.own x)) x (.ins C dx [])) (λv H2=>v= .non/\Q (.ref x) H2) E
def Binds(K:Ub)(fd:Vk)(ps:List Str)(ds:List Value):Prop:=
 ∀(s:T7)(us:List Value),K.In s.heap->(us++ds).length=ps.length->abE s fd ⟨us,[]⟩ (ps.zip (us++ds))
theorem Binds.all{K:Ub}(h:∀us:List Value,us.length=ps.length->bindArgs fd ⟨us,[]⟩=pure (ps.zip us)):Binds K fd ps []:=λs us _ Y=>by
 rw[UJ]at Y⊢;exact .of_eq (h us Y)
def uh(CX:CXT)(X:Cx)(E:XK):Prop:=∀(pins:List (Addr×Obj))(σ:St)(H:Hp)(s:T7)(e:Value)(s':T7),Inv X pins σ H s->CX X.stack H s E e s'->X.xe e s'
section
variable{X:Cx}{CX:CXT}{k:Nat}{f C:Addr}{fd:FuncData}{ps:List Str}{sp:Sp}{dvs:List V}{ds:List Value}{E:XK}{x m:Str}{p pos apos:Pos}{e o:Expr}{es:List Expr}{ta:TE}{t:TA}
theorem zJ{pins:List (Addr×Obj)}{σ:St}{H:Hp}{s:T7}{Q:VK}{us:List Value}{vs:List V}(F:d8 X.prog X.w X.K X.mg X.base CX k f fd ps sp)(Z:fV k X.A)(U:Binds X.K fd ps ds)(hd:Vals dvs ds)(z:uh CX X E)
  (I:Inv X pins σ H s) (r:Vals vs us) (h:sp (vs++dvs) H Q E):wpAny (model X.prog X.w) X.A (call (.ref f) us) (EP X pins σ Q) X.xe s:=by
 have q:Vals (vs++dvs) (us++ds):=r.append hd;have Y:(us++ds).length=ps.length:=by rw[←q.length];exact F.len _ _ _ _ h
 refine aaR (WM (F.run X.A X.stack s H ⟨us,[]⟩ (us++ds) (vs++dvs) Q E Z I.env0 (U s us I.kIn Y) q h) λr s' O=>?_);cases r with
 |error e=>exact z pins σ H s e s' I O
 |ok fl=>
  cases fl with
  |ret u=>exact I.after O
  |next=>exact WQ O
  |brk=>exact WQ O
  |cont=>exact WQ O
theorem Lp(F:d8 X.prog X.w X.K X.mg X.base CX k f fd ps sp)(Z:fV k X.A)(z:Gl X x)(V:X.mg x=some (.ref f))(hk:Yl X.K (.ref f)=true)(U:Binds X.K fd ps ds)(hd:Vals dvs ds)(hx:uh CX X E)
  (Y:PA X (e::es) t) (O:(x==("__debug__":Str))=false:=by decide) (N:Ul (e::es) X.env=(false,eval e X.env)::Ul es X.env:=by rfl) (J:(V3 pos (Ul es X.env)).any (·.1)=false:=by rfl) :
  PE X (.Call (.Name x p) (e::es) [] pos) (M8 sp dvs E t):=by
 intro pins s σ H Q I h;refine Ws (xx I z V ?_ O);refine aap (h₀:=X.base) I.ok.mod.kin hk (thn (Y pos pins s σ H _ I h) λus s1 ⟨vs,H1,I1,r,q⟩=>⟨I1.kIn,?_⟩) N J;exact zJ F Z U hd hx I1 r q
structure Mk(K:PySem.W.Frag)(C f:Addr):Prop where
 makes:abk K C=true
 init:UV K (.ref C) "__init__"=some (some (.ref f))
 fn:Wc K (.ref f)=true
 kp:Yl K (.ref C)=true
theorem Ig{pins:List (Addr×Obj)}{σ:St}{H:Hp}{s:T7}{Q:VK}{us:List Value}{vs:List V}(M:Mk X.K C f)(F:d8 X.prog X.w X.K X.mg X.base CX k f fd ps sp)(Z:fV (k+1) X.A)(U:Binds X.K fd ps ds)(hd:Vals dvs ds)
  (hx:uh CX X E) (I:Inv X pins σ H s) (r:Vals vs us)
  (h:∀x dx,H x=none->H dx=none->dx≠x->sp (.ref x::(vs++dvs)) (upd (upd H dx (.own x)) x (.ins C dx [])) (λv H2=>v= .non/\Q (.ref x) H2) E) :
  wpAny (model X.prog X.w) X.A (call (.ref C) us) (EP X pins σ Q) X.xe s:=by
 have O:=h (s.heap.objs.size+1) s.heap.objs.size (I.hok.fresh (YM _)) (I.hok.fresh (Uk _)) (Ud (VM _));have z:=Inv.made (C:=C) I;have q:Vals (V.ref (s.heap.objs.size+1)::(vs++dvs)) (UL (s.heap.objs.size+1)::(us++ds)):=.cons rfl (r.append hd);have Y:(UL (s.heap.objs.size+1)::us++ds).length=ps.length:=by
  have e:=q.length;rw[F.len _ _ _ _ O]at e;exact e.symm
 refine aaR (Ez (f:=f) I.kIn M.makes M.init (YB.mp M.fn) (WM (F.run _ X.stack _ _ ⟨UL (s.heap.objs.size+1)::us,[]⟩ (UL (s.heap.objs.size+1)::(us++ds)) _ _ E (Z.make C us [])
  (z.env0.make C us []) (U _ (UL (s.heap.objs.size+1)::us) z.kIn Y) q O) λr s' J=>?_))
 cases r with
 |error e=>exact hx pins σ _ _ e s' z J
 |ok fl=>
  cases fl with
  |ret u=>
   obtain⟨v,H',N,rv,ev,q3⟩:=z.after J;subst ev;exact⟨rv,⟨V.ref (s.heap.objs.size+1),H',N,rfl,q3⟩⟩
  |next=>exact WQ J
  |brk=>exact WQ J
  |cont=>exact WQ J
theorem Lj(M:Mk X.K C f)(F:d8 X.prog X.w X.K X.mg X.base CX k f fd ps sp)(Z:fV (k+1) X.A)(z:Gl X x)(V:X.mg x=some (.ref C))(U:Binds X.K fd ps ds)(hd:Vals dvs ds)(hx:uh CX X E)
  (Y:PA X (e::es) t) (O:(x==("__debug__":Str))=false:=by decide) (N:Ul (e::es) X.env=(false,eval e X.env)::Ul es X.env:=by rfl) (J:(V3 pos (Ul es X.env)).any (·.1)=false:=by rfl) :
  PE X (.Call (.Name x p) (e::es) [] pos) (R4 C sp dvs E t):=by
 intro pins s σ H Q I h;refine Ws (xx I z V ?_ O);refine aap (h₀:=X.base) I.ok.mod.kin M.kp (thn (Y pos pins s σ H _ I h) λus s1 ⟨vs,H1,I1,r,q⟩=>⟨I1.kIn,?_⟩) N J;exact Ig M F Z U hd hx I1 r q
end
structure bJ(N P:List Str)(sc:Scope):Prop where
 kind:sc.kind= .function
 co:sc.isCoroutine=false
 gen:sc.isGenerator=false
 nd:N.Nodup
 pre:N.take P.length=P
 par:∀x∈P,sc.names.lookup x=some .local∨sc.names.lookup x=some .cell
 nofree:∀y∈sc.names,y.2≠.free
theorem vR:∀{binds:List (Str×Value)}{m:Str->Option Value},(∀v,(x,v)∉binds)->bindL q binds m x=m x
 |[],_,_=>rfl
 |(n,v)::r,m,h=>by
  unfold bindL;rw[vR λw V=>h w (Ut _ V)];split
  .have:x≠n:=by rintro rfl;exact h v Vb
   simp[this]
  .rfl
theorem vW:∀{binds:List (Str×Value)}{m:Str->Option Value},(∀v,(x,v)∉binds)->bindC q binds m x=m x
 |[],_,_=>rfl
 |(n,v)::r,m,h=>by
  unfold bindC;rw[vW λw V=>h w (Ut _ V)];split
  .rfl
  .have:x≠n:=by rintro rfl;exact h v Vb
   simp[this]
variable{v:Value}
theorem vP{q:Str->Option ZL}{x:Str}{v:Value}:∀{P:List Str}{vs:List Value}{i:Nat}{m:Str->Option Value},P.Nodup->P[i]? =some x->vs[i]? =some v->q x=some .local->
  bindL q (P.zip vs) m x=some v
 |[],_,_,_,_,h,_,_=>by simp at h
 |_::_,[],_,_,_,_,h,_=>by simp at h
 |p::P,w::vs,0,m,nd,h1,h2,hk=>by
  simp at h1 h2;subst h1;subst h2;show bindL q ((p,w)::P.zip vs) m p=_;unfold bindL;rw[vR λv U=>(Uu.mp nd).1 (abl U).1,Uo hk];simp
 |p::P,w::vs,i+1,m,nd,h1,h2,hk=>by
  show bindL q ((p,w)::P.zip vs) m x=_;unfold bindL;exact vP (i:=i) (Uu.mp nd).2 (by simpa using h1) (by simpa using h2) hk
theorem vZ{q:Str->Option ZL}{x:Str}{v:Value}:∀{P:List Str}{vs:List Value}{i:Nat}{m:Str->Option Value},P.Nodup->P[i]? =some x->vs[i]? =some v->q x≠some .local->
  bindC q (P.zip vs) m x=some v
 |[],_,_,_,_,h,_,_=>by simp at h
 |_::_,[],_,_,_,_,h,_=>by simp at h
 |p::P,w::vs,0,m,nd,h1,h2,hk=>by
  simp at h1 h2;subst h1;subst h2;show bindC q ((p,w)::P.zip vs) m p=_;unfold bindC;rw[vW λv U=>(Uu.mp nd).1 (abl U).1,Uq hk];simp
 |p::P,w::vs,i+1,m,nd,h1,h2,hk=>by
  show bindC q ((p,w)::P.zip vs) m x=_;unfold bindC;exact vZ (i:=i) (Uu.mp nd).2 (by simpa using h1) (by simpa using h2) hk
def start(N:List Str)(vs:List V):St:=vs.map some++Vt (N.length-vs.length) none
noncomputable def xW(CX:CXT)(P:U_)(w:World)(K:Ub)(mg:Str->Option Value)(base:Heap)(N:List Str)(z:Str)(scope:Scope)(f:Addr)(U:Value)(A:Vu)(outer:List Env)(s:T7)(H:Hp)(E:XK):Cx where
 prog:=P
 w:=w
 K:=K
 mg:=mg
 base:=base
 A:=A.deeper (Zy z scope s.heap.objs.size f U)
 N:=N
 s₀:=s
 H₀:=H
 env:=Zy z scope s.heap.objs.size f U
 outer:=outer
 stack:=Zy z scope s.heap.objs.size f U::outer
 ex:=[]
 calm:=true
 fn:=λ_=>true
 pn:=[]
 xe:=λe s'=>wpAny (model P w) (A.deeper (Zy z scope s.heap.objs.size f U)) (leaving (Zy z scope s.heap.objs.size f U) e) (λ_ q=>CX outer H s E e q) (λZ q=>CX outer H s E Z q) s'
theorem x_{z:Scope}(h:z.names.lookup x=some .cell):∃c,(cellsFrom n z.names []).lookup x=some c:=by
 have q:=abu z.names n [] (.inl h);exact aa1.mp q
theorem CV{K:Ub}{cd:Value}{s Z:T7}{E:XK}{vs:List V}
  (S:bJ N ps scope) (hd:A.handled=none) (U:zK P w K mg base A outer s H) (hl:vs.length=ps.length) (r:Vals vs us)
  (x:InCallC s s.heap.objs.size (bindL (Zy a0 scope s.heap.objs.size f cd).kindOf (ps.zip us) λ_=>none) (cellsFrom (s.heap.objs.size+1) scope.names []) (bindC (Zy a0 scope s.heap.objs.size f cd).kindOf (ps.zip us) λ_=>none) Z) :
  Inv (xW CX P w K mg base N a0 scope f cd A outer s H E) [] (start N vs) H Z:=by
 have J:ps.length<=N.length:=by have:=congrArg WX S.pre;rw[WR]at this;omega
 obtain⟨h1,tk,rfl,hk⟩:=x.done;have a1:∀b:Addr,b∉(xW CX P w K mg base N a0 scope f cd A outer s H E).ex:=λb z=>absurd (show b∈([]:List Addr)from z) (by simp);refine⟨⟨U.mod,S.kind,rfl,rfl,Uk _,λy z c h1 h2=>?_,λy hy=>?_,λy c _ h=>?_,λ_=>hd,Around.frames_deeper U.frames,.inr ⟨rfl,rfl⟩,λb z=>absurd z (a1 b),U.bs,U.bsz,λb _ _=>a1 b,λb z=>absurd z (a1 b),U.funs,U.frf⟩,
  rfl,U.bare,Un.kept hk,⟨_,x.toInCall.ns,λi y v h1 h2 F=>?_⟩,λy c h=>⟨_,x.cell y c h⟩,U.hok.fresh (Uk _),λy c h=>?_,λp hp=>absurd (show p∈([]:List (Addr×Obj))from hp) (by simp),U.hok.kept hk,?_⟩
 .exact name_of_addr x.apart (Xd h1) (Xd h2)
 .have hy:scope.names.lookup y=some .cell∨scope.names.lookup y=some .free:=hy
  rcases hy with hy|hy
  .exact x_ hy
  .exact absurd rfl (S.nofree _ (Xd hy))
 .exact XX (x.above y c (Xd h))
 .have hi:i<vs.length:=by
   unfold start at h2;by_cases hi:i<vs.length
   .exact hi
   .rw[VF (by simpa using hi)]at h2
    rw[abd]at h2;split at h2<;>cases h2
  have Y:vs[i]? =some v:=by
   unfold start at h2;rw[Vc (by simpa using hi),List.getElem?_map]at h2;cases e:vs[i]? with
   |none=>rw[e]at h2;cases h2
   |some a=>rw[e]at h2;cases h2;rfl
  obtain⟨u,O,rv⟩:=r.get Y;have hp:ps[i]? =some y:=by
   rw[←S.pre,List.getElem?_take_of_lt (by omega)];exact h1
  have a2:ps.Nodup:=by rw[←S.pre];exact S.nd.sublist (acE _ _)
  refine⟨u,rv,?_⟩;rcases S.par y (Vd hp)with k|k
  .exact .inl ⟨k,vP a2 hp O k⟩
  .obtain⟨c,e⟩:=x_ (n:=s.heap.objs.size+1) k
   refine .inr ⟨.inl k,c,e,?_⟩;have q:=x.cell y c e;rw[vZ a2 hp O (by show scope.names.lookup y≠_;rw[k];decide)]at q;exact q
 .exact U.hok.fresh (XX (x.above y c (Xd h)))
 .unfold start
  show _=N.length;rw[We,Ux,List.length_replicate];omega
theorem Sv{K:Ub}{z:Str}{a1:Arguments}{a2:List Stmt}{dV kV a5 pm a0 ct oc:Value}{an od:Option Addr}
  {a9:Array (Option Value)}  {sp:Sp} (lk:K.lookup f=some ⟨oc,od,.func (Y7 name z a1 a2 scope dV kV a5 pm an a0 ct),a9⟩) (b0:abF K a0 z=true) (S:bJ N ps scope)
  (len:∀vs H Q E,sp vs H Q E->vs.length=ps.length)
  (a4:∀(A:Vu)(outer:List Env)(s:T7)(H:Hp)(vs:List V)(Q:VK)(E:XK),fV k (A.deeper (Zy z scope s.heap.objs.size f a0))->sp vs H Q E->
   ∃t,PSs (xW CX P w K mg base N z scope f a0 A outer s H E) a2 t/\t {nx:=λ_ H'=>Q .non H',rt:=Q} (start N vs) H) :
  d8 P w K mg base CX (k+1) f (Y7 name z a1 a2 scope dV kV a5 pm an a0 ct) ps sp:=by
 refine⟨len,λA outer s H args us vs Q E Z e0 U r a6=>?_⟩;have Y:=len _ _ _ _ a6;have KX:K.In s.heap:=e0.mod.kin.keeps λb o e=>(e0.bs b o e).1;have a8:s.heap.NoLimit:=e0.mod.nolimit.keeps λb o e=>(e0.bs b o e).1;have a3:∀y∈ps.zip us,scope.names.lookup y.1=some .local∨(scope.names.lookup y.1=some .cell/\((cellsFrom (s.heap.objs.size+1) scope.names []).lookup y.1).isSome=true):=λ⟨n,v⟩ hy=>by
  rcases S.par n (abl hy).1 with q|q
  .exact .inl q
  .exact .inr ⟨q,abu _ _ _ (.inl q)⟩
 refine codeAny_call_function Z.depth (KX _ _ lk) rfl S.co S.gen rfl (PySem.W.codeRec_of KX b0) (U _ _ _ _ ?_);refine wpAny_newFunctionEnv_cells S.kind a3 λenv he s1 x=>?_;subst he;refine⟨a8.keeps x.toInCall.keep,codeAny_func ?_⟩;obtain⟨t,ht,hq⟩:=a4 A outer s H vs Q E (Z.deeper _) a6;have I:Inv (xW CX P w K mg base N z scope f a0 A outer s H E) [] (start N vs) H s1:=CV S Z.hd e0 Y r x;refine V9 (ht [] s1 (start N vs) H _ I hq) (λfl s' O=>?_) λe s' O=>O;have a7:∀{F:St}{H':Hp}{v:V}{u:Value},Inv (xW CX P w K mg base N z scope f a0 A outer s H E) [] F H' s'->RelV v u->Q v H'->CE outer P w H s Q u s':=
  λ{F H' v u} J rv q=>⟨v,H',J.os,J.bare,J.base,J.hok,rv,q⟩
 cases fl with
 |ret u=>
  obtain⟨v,F,H',J,rv,q⟩:=O;exact a7 J rv q
 |next=>
  obtain⟨F,H',J,q⟩:=O;exact a7 (v:=V.non) (u:=VB) J rfl q
 |brk=>
  obtain⟨_,_,_,q⟩:=O;exact WQ q
 |cont=>
  obtain⟨_,_,_,q⟩:=O;exact WQ q
section
variable{X:Cx}{x:Str}{p pos:Pos}{e:Expr}{es:List Expr}{t:TA}{id T:String}{r:List V->Hp->VK->Prop}
def tCB(r:List V->Hp->VK->Prop)(t:TA):TE:=λσ H Q=>t σ H λvs H1=>r vs H1 Q
theorem GQ(J:eU X (.builtin id) r)(z:Gl X x)(V:X.mg x=none)(U:W2 x=some (.builtin id))(Y:PA X (e::es) t)(N:x≠"__name__":=by decide)(O:(x==("__debug__":Str))=false:=by decide)
  (he:Ul (e::es) X.env=(false,eval e X.env)::Ul es X.env:=by rfl) (q:(V3 pos (Ul es X.env)).any (·.1)=false:=by rfl):PE X (.Call (.Name x p) (e::es) [] pos) (tCB r t):=by
 intro pins s σ H Q I h;refine Ws (lu I z V U ?_ N O);exact PyProof.Rows.callWith_builtin1 (thn (Y pos pins s σ H _ I h) λus Z ⟨vs,H1,F,r1,q1⟩=>J pins Z σ H1 vs us Q F r1 q1) he q
theorem Eb(J:eU X (.type T) r)(z:Gl X x)(V:X.mg x=none)(U:W2 x=some (.type T))(Y:PA X (e::es) t)(N:x≠"__name__":=by decide)(O:(x==("__debug__":Str))=false:=by decide)
  (he:Ul (e::es) X.env=(false,eval e X.env)::Ul es X.env:=by rfl) (q:(V3 pos (Ul es X.env)).any (·.1)=false:=by rfl):PE X (.Call (.Name x p) (e::es) [] pos) (tCB r t):=by
 intro pins s σ H Q I h;refine Ws (lu I z V U ?_ N O);exact Wz (thn (Y pos pins s σ H _ I h) λus Z ⟨vs,H1,F,r1,q1⟩=>J pins Z σ H1 vs us Q F r1 q1) he q
end
end L2
namespace HT
open PySem PyProof.Rows
theorem cat_tup{t b:Addr}{vs q:List Value}(Y:IsTup s.heap t vs.toArray)(U:IsTup s.heap b q.toArray)(hv:vs≠[])
  (h1:q=[]->Q (.ref t) s) (h2:q≠[]->Q (.ref s.heap.objs.size) {s with heap:=s.heap.push {cls:=.type "tuple",data:=.seq (vs++q).toArray}})
  (hsz:vs.length+q.length<=Ui):wpAny (model prog w) A (V6 .Add (.ref t) (.ref b)) Q E s:=by
 obtain⟨⟨cls,dd,data,sl⟩,O,J,n,hd⟩:=id Y;obtain⟨⟨a4,N,a3,a2⟩,a0,z,Z,a1⟩:=id U;simp only at J hd z a1;subst J hd z a1;have e:vs.toArray++q.toArray=(vs++q).toArray:=by simp
 by_cases V:q=[]
 .exact acp ⟨_,O,rfl⟩ ⟨_,a0,rfl⟩ aa2 ab3 Zz Zj (Y8 _ _)
   (tuple_addW1 t b vs.toArray q.toArray n Z dd N sl a2 (by simpa using hv) (by simp[V])) ⟨O,a0,h1 V⟩
 .refine acp ⟨_,O,rfl⟩ ⟨_,a0,rfl⟩ aa2 ab3 Zz Zj (Y8 _ _)
   (tuple_addW2 t b vs.toArray q.toArray n Z dd N sl a2 (by simpa using hv) (by simpa using V) (by rw[List.size_toArray,List.size_toArray];exact hsz)) ⟨O,a0,?_⟩
  rw[e];exact h2 V
def sIx(n d:Nat):Option Int->Nat
 |none=>d
 |some v=>if v<0 then(v+(n:Int)).toNat else min v.toNat n
theorem sIx_none(n d:Nat):sIx n d none=d:=rfl
theorem sIx_nat(n d k:Nat):sIx n d (some (k:Int))=min k n:=by
 show(if(k:Int)<0 then((k:Int)+(n:Int)).toNat else min (k:Int).toNat n)=min k n;rw[Uq (by omega),V_]
theorem Oh(n d:Nat)(hd:d<=n)(o:Option Int):sIx n d o<=n:=by
 cases o with
 |none=>exact hd
 |some v=>
  show(if v<0 then(v+(n:Int)).toNat else min v.toNat n)<=n;by_cases U:v<0
  .rw[Uo U];omega
  .rw[Uq U];exact Nat.min_le_right _ _
theorem BR(v:Int)(n d:Nat):(if v<0 then max (v+(n:Int)) 0 else min v (n:Int))=((sIx n d (some v):Nat):Int):=by
 show(if v<0 then max (v+(n:Int)) 0 else min v (n:Int))=(((if v<0 then(v+(n:Int)).toNat else min v.toNat n):Nat):Int);by_cases U:v<0
 .simp only[Uo U];omega
 .simp only[Uq U];omega
theorem adjust_gen(lo hi:Option Int)(n:Nat):VH lo hi 1 (n:Int)=(((sIx n 0 lo:Nat):Int),((sIx n n hi:Nat):Int)):=by
 have h1:¬((1:Int)<0):=by omega
 unfold VH;simp only[h1,VN];refine Prod.ext ?_ ?_
 .cases lo with
  |none=>rfl
  |some v=>exact BR v n 0
 .cases hi with
  |none=>rfl
  |some v=>exact BR v n n
theorem places_gen(i j:Nat):VJ (i:Int) (j:Int) 1=j-i:=by
 unfold VJ;have h1:(1:Int)>0:=by omega
 simp only[h1,Vj,Int.ediv_one];split<;>omega
theorem slicePart_{o:Option Int}{Q:Option Int->T7->Prop}(p:Ym v o)(h:Q o s):wpAny (model prog w) A (Builtin.Slice.slicePartIndex v) Q E s:=by
 cases p with
 |none=>exact slicePart_none h
 |int i t=>exact slicePart_int h
theorem qP{vl:Value}{lo hi:Option Int}{Q:Int×Int×Nat->T7->Prop}(O:s.heap.IsSliceOf sl vl z .none)(pl:Ym vl lo)(J:Ym z hi)
  (h:Q (((sIx n 0 lo:Nat):Int),1,sIx n n hi-sIx n 0 lo) s):wpAny (model prog w) A (Xy (.ref sl) (pure (n:Int))) Q E s:=by
 obtain⟨os,q,F,Z⟩:=id O;unfold Xy Builtin.Slice.sliceFields;refine gD (gD (ZC q Z (x:=vl) rfl (gD (ZC q Z (x:=z) rfl (gD (ZC q Z (x:=.none) rfl (yr ?_)))))));refine gD (slicePart_none ?_);show wpAny _ _ (if((1:Int)==0)=true then _ else _) _ _ s;rw[Uq (by decide)];refine gD (slicePart_ pl (gD (slicePart_ J (gD (yr ?_)))));show wpAny _ _ (match VH lo hi 1 (n:Int)with|(lo,hi)=>pure (lo,(1:Int),VJ lo hi 1)) _ _ s;rw[adjust_gen lo hi n];show wpAny _ _ (pure (((sIx n 0 lo:Nat):Int),(1:Int),VJ ((sIx n 0 lo:Nat):Int) ((sIx n n hi:Nat):Int) 1)) _ _ s;rw[places_gen];exact yr h
theorem Gv(xs:Array Value)(i k:Nat):((V1 k).filterMap λ(m:Nat)=>xs[((i:Int)+(m:Int)*1).toNat]?).toArray=((xs.toList.drop i).take k).toArray:=by
 have e:(λ(m:Nat)=>xs[((i:Int)+(m:Int)*1).toNat]?)=λm=>xs[i+m]?:=by
  funext m;have:((i:Int)+(m:Int)*1).toNat=i+m:=by omega
  rw[this]
 rw[e];have:=pick_run xs i k;rw[List.filterMap_map]at this;have e2:((λx=>xs[x]?)∘λx=>i+x)=λm=>xs[i+m]?:=rfl;rw[e2]at this;rw[this]
theorem getItem_tuple_cut{t:Addr}{vl:Value}{lo hi:Option Int}(Y:IsTup s.heap t items)(O:s.heap.IsSliceOf sl vl z .none)(pl:Ym vl lo)(J:Ym z hi)
  (V:¬(sIx items.size 0 lo=0/\sIx items.size items.size hi=items.size))
  (h:Q (.ref s.heap.objs.size) {s with heap:=s.heap.push {cls:=.type "tuple",data:=.seq ((items.toList.drop (sIx items.size 0 lo)).take (sIx items.size items.size hi-sIx items.size 0 lo)).toArray}})
  (hsz:items.size<=Ui):wpAny (model prog w) A (aag (.ref t) (.ref sl)) Q E s:=by
 have F:sizeOk (.seq ((items.toList.drop (sIx items.size 0 lo)).take (sIx items.size items.size hi-sIx items.size 0 lo)).toArray):=by
  show((items.toList.drop (sIx items.size 0 lo)).take (sIx items.size items.size hi-sIx items.size 0 lo)).toArray.size<=Ui;rw[List.size_toArray,WR,aa3,VR];omega
 have U:sIx items.size items.size hi<=items.size:=Oh _ _ (Uk _) hi;obtain⟨os,a1,a2,Z⟩:=id O;have a0:s.TypeIs (.ref sl) "slice":=⟨os,a1,a2⟩;unfold aag
 try with_reducible refine U6 ?_
 first|refine gD (yr ?_)|skip
 refine gD (wpAny_sequenceKey Y.typeIs (by decide) ?_);refine gD (V0 (name:=Yn "__getitem__") Y.typeIs VV
  (YC VV Y.typeIs ab_ ?_ (args_tuple_getitem _ _)))
 show wpAny _ _ (aaB (.ref t) >>=_) _ _ s;refine gD (tupleItemsOf_ Y ?_);refine gD (X4 a0 ?_);rw[Uo (by decide)];refine gD (qP O pl J ?_);have N:¬((((sIx items.size 0 lo:Nat):Int)==0&&(1:Int)==1&&(sIx items.size items.size hi-sIx items.size 0 lo)==items.size)=true):=by
  intro q;rw[UT,UT]at q;have q1:((sIx items.size 0 lo:Nat):Int)=0:=eq_of_beq q.1.1;have q2:sIx items.size items.size hi-sIx items.size 0 lo=items.size:=eq_of_beq q.2;exact V ⟨by omega,by omega⟩
 show wpAny _ _ (if(((sIx items.size 0 lo:Nat):Int)==0&&(1:Int)==1&&(sIx items.size items.size hi-sIx items.size 0 lo)==items.size)=true then _ else _) _ _ s;rw[Uq N,Gv]
 first
  |exact gD (m:=W4 _) (Vf (yr ⟨_,rfl,yr h⟩) F)
  |exact gD (m:=W4 _) (Vf (gD (yr (yr ⟨_,rfl,yr h⟩))) F)
  |exact gD (gD (m:=W4 _) (Vf (yr (yr ⟨_,rfl,yr h⟩)) F))
  |exact gD (gD (m:=W4 _) (Vf (yr ⟨_,rfl,yr h⟩) F))
end HT
namespace L2
open PySem PySem.Spec PyProof.Rows
abbrev TO:=St->Hp->(Option Int->Hp->Prop)->Prop
def PO(X:Cx)(e:Option Expr)(t:TO):Prop:=
 ∀(pins:List (Addr×Obj))(s:T7)(σ:St)(H:Hp)(Q:Option Int->Hp->Prop),Inv X pins σ H s->t σ H Q->
  wpAny (model X.prog X.w) X.A (evalPart e X.env) (λu s'=>∃o H',Inv X pins σ H' s'/\Ym u o/\Q o H') X.xe s
def LK:TO:=λ_ H Q=>Q none H
def Rm(t:TE):TO:=λσ H Q=>t σ H λx H1=>∃i,x= .int i/\Q (some i) H1
theorem intsAre_of{ns:List Int}:∀{us:List Value},Vals (ns.map V.int) us->aaX us ns:=by
 induction ns with
 |nil=>intro us r;rw[Vy]at r;cases r;exact .nil
 |cons n ns Z=>
  intro us r;rw[Um]at r;cases r with
  |cons J q=>
   obtain⟨t,e⟩:=J;subst e;exact .cons n t (Z q)
section
variable{X:Cx}{e:Expr}{te:TE}{lo hi:Option Expr}{tl th:TO}{pos p2:Pos}
theorem Kq:PO X none LK:=by
 intro pins s σ H Q I h;rw[evalPart_none];exact yr ⟨none,H,I,.none,h⟩
theorem Ky(h:PE X e te):PO X (some e) (Rm te):=by
 intro pins s σ H Q I V;rw[evalPart_some];refine thn (h pins s σ H _ I V) λu Z ⟨x,H1,F,J,q1⟩=>?_;obtain⟨i,rfl,q⟩:=q1;obtain⟨t,rfl⟩:=J;exact⟨some i,H1,F,.int i t,q⟩
def SlR(X:Cx)(r:V->Option Int->Option Int->Hp->VK->Prop):Prop:=
 ∀(pins:List (Addr×Obj))(s:T7)(σ:St)(H:Hp)(x:V)(v vl z:Value)(lo hi:Option Int)(sl:Addr)(Q:VK),Inv X pins σ H s->RelV x v->s.heap.IsSliceOf sl vl z .none->Ym vl lo->Ym z hi->r x lo hi H Q->
  ∃T id,abS (.type T) "__getitem__"=pure (some (.builtin id))/\s.TypeIs v T/\wpAny (model X.prog X.w) X.A (aag v (.ref sl)) (EP X pins σ Q) X.xe s
theorem SlR.or{r N:V->Option Int->Option Int->Hp->VK->Prop}(h:SlR X r)(h':SlR X N):SlR X (λx lo hi H Q=>r x lo hi H Q∨N x lo hi H Q):=by
 intro pins s σ H x v vl z lo hi sl Q I rx O pl J q;rcases q with q|q
 .exact h pins s σ H x v vl z lo hi sl Q I rx O pl J q
 .exact h' pins s σ H x v vl z lo hi sl Q I rx O pl J q
def tSl(r:V->Option Int->Option Int->Hp->VK->Prop)(te:TE)(tl th:TO):TE:=λσ H Q=>te σ H λx H1=>tl σ H1 λl H2=>th σ H2 λu z=>r x l u z Q
theorem HX{r:V->Option Int->Option Int->Hp->VK->Prop}(Z:SlR X r)(N:PE X e te)(Y:PO X lo tl)(O:PO X hi th):PE X (.Subscript e (.Slice lo hi none p2) pos) (tSl r te tl th):=by
 intro pins s σ H Q I h;refine Subscript_ (thn (N pins s σ H _ I h) λv s1 ⟨x,H1,F,J,q1⟩=>?_);refine wpAny_Slice (thn (Y pins s1 σ H1 _ F q1) λvl s2 ⟨l,H2,I2,pl,q2⟩=>thn (O pins s2 σ H2 _ I2 q2) λvu U ⟨u,H3,I3,pu,q3⟩=>?_);rw[evalPart_none];refine yr ?_;have I4:Inv X pins σ H3 {U with heap:=U.heap.push {cls:=.type "slice",data:=.fields #[vl,vu,.none]}}:=I3.kept (t':=U.toks) λb ob q=>T8 _ q;obtain⟨T,id,hT,ht,z⟩:=Z pins {U with heap:=U.heap.push {cls:=.type "slice",data:=.fields #[vl,vu,.none]}} σ H3 x v vl vu l u U.heap.objs.size Q I4 J (Heap.IsSliceOf.new ..) pl pu q3;show wpAny (model X.prog X.w) X.A (subscriptTail e (.Slice lo hi none p2) v (.ref U.heap.objs.size)) (EP X pins σ Q) X.xe {U with heap:=U.heap.push {cls:=.type "slice",data:=.fields #[vl,vu,.none]}};exact tail_any (ops:=[.ref U.heap.objs.size,v]) ht hT z (by with_unfolding_all rfl)
def uA(xs:List V)(lo hi:Option Int):List V:=(xs.drop (HT.sIx xs.length 0 lo)).take (HT.sIx xs.length xs.length hi-HT.sIx xs.length 0 lo)
theorem qR(xs:List V)(lo hi:Option Int):(uA xs lo hi).length<=xs.length:=by
 unfold uA;rw[WR,aa3];omega
def TQ(K:Ub):V->Option Int->Option Int->Hp->VK->Prop:=λx lo hi H Q=>∃a xs,x= .ref a/\SqT K H a xs/\
 ¬(HT.sIx xs.length 0 lo=0/\HT.sIx xs.length xs.length hi=xs.length)/\∀p,H p=none->Q (.ref p) (upd H p (.tup (uA xs lo hi)))
theorem O9:SlR X (TQ X.K):=by
 intro pins s σ H x v vl z lo hi sl Q I rx O pl J h;obtain⟨a,xs,rfl,F,V,q⟩:=h;cases rx;obtain⟨its,r,Y,hz⟩:=I.tuple F;have U:its.toArray.size=xs.length:=by rw[List.size_toArray];exact r.length.symm
 refine⟨"tuple",_,VV.lookup,Y.typeIs,?_⟩;refine HT.getItem_tuple_cut Y O pl J (by rw[U];exact V) ?_ (by rw[U];exact hz);rw[U];refine⟨.ref s.heap.objs.size,_,I.laid (t':=s.toks) (o:=.tup (uA xs lo hi)) (λb ob q=>T8 _ q) (Uk _) ?_,rfl,q _ (I.hok.fresh (Uk _))⟩;exact⟨V2 (qR xs lo hi) hz,_,(r.drop (HT.sIx xs.length 0 lo)).take (HT.sIx xs.length xs.length hi-HT.sIx xs.length 0 lo),oO.new _ _⟩
def QX(K:Ub):R2:=λx y H Q=>∃a b xs ys,x= .ref a/\y= .ref b/\SqT K H a xs/\SqT K H b ys/\xs≠[]/\xs.length+ys.length<=Ui/\
 (ys=[]->Q (.ref a) H)/\(ys≠[]->∀p,H p=none->Q (.ref p) (upd H p (.tup (xs++ys))))
theorem Vals.nil_iff{xs:List V}{us:List Value}(r:Vals xs us):us=[]↔xs=[]:=by
 cases r with
 |nil=>simp
 |cons _ _=>simp
theorem K5:OpR X (V6 .Add) (QX X.K):=by
 intro pins s σ H x y v u Q I rx J h;obtain⟨a,b,xs,ys,rfl,rfl,Y,U,F,hz,q1,q2⟩:=h;cases rx;cases J;obtain⟨its,V,p1,_⟩:=I.tuple Y;obtain⟨N,O,p2,_⟩:=I.tuple U;refine HT.cat_tup p1 p2 (λz=>F (V.nil_iff.mp z)) (λz=>⟨.ref a,H,I,rfl,q1 (O.nil_iff.mp z)⟩) (λz=>?_) (by rw[←V.length,←O.length];exact hz);refine⟨.ref s.heap.objs.size,_,I.laid (t':=s.toks) (o:=.tup (xs++ys)) (λb ob q=>T8 _ q) (Uk _) ?_,rfl,q2 (λw=>z (O.nil_iff.mpr w)) _ (I.hok.fresh (Uk _))⟩;exact⟨by rw[We];exact hz,_,V.append O,oO.new _ _⟩
end
def ixN(n:Nat)(i:Int):Option Nat:=if 0<=i then(if i<n then some i.toNat else none)else if -(n:Int)<=i then some (i+n).toNat else none
def atI(xs:List α)(i:Int):Option α:=(ixN xs.length i).bind λj=>xs[j]?
variable{i:Int}
theorem Ce(h:ixN n i=some j):seqIndex? i n=some j/\j<n/\-(n:Int)<=i/\i<n:=by
 unfold ixN at h;by_cases N:0<=i
 .rw[Uo N]at h
  by_cases h1:i<n
  .rw[Uo h1]at h
   have e:i.toNat=j:=Vw h;exact⟨by rw[acL N h1,e],by omega,by omega,h1⟩
  .rw[Uq h1]at h;cases h
 .rw[Uq N]at h
  by_cases h1: -(n:Int)<=i
  .rw[Uo h1]at h
   have e:(i+n).toNat=j:=Vw h;exact⟨by rw[acq (by omega) h1,e],by omega,h1,by omega⟩
  .rw[Uq h1]at h;cases h
theorem wU{xs:List α}{v:α}(h:atI xs i=some v):∃j,seqIndex? i xs.length=some j/\xs[j]? =some v/\j<xs.length/\-(xs.length:Int)<=i/\i<xs.length:=by
 unfold atI at h;cases e:ixN xs.length i with
 |none=>rw[e]at h;cases h
 |some j=>
  rw[e]at h;obtain⟨h1,h2,F,V⟩:=Ce e;exact⟨j,h1,h,h2,F,V⟩
def wW(b:Expr):Prop:=∀o i,subscripted b false o i=operate [o,i] (aag o i)
def IxR(X:Cx)(r:R2):Prop:=
 ∀(value U:Expr)(pins:List (Addr×Obj))(s:T7)(σ:St)(H:Hp)(x y:V)(v u:Value)(Q:VK),Inv X pins σ H s->RelV x v->RelV y u->r x y H Q->
  subscripted U false v u=operate [v,u] (aag v u)->wpAny (model X.prog X.w) X.A (subscriptTail value U v u) (EP X pins σ Q) X.xe s
def MtR(X:Cx)(id:String)(r:V->List V->Hp->VK->Prop):Prop:=
 ∀(pins:List (Addr×Obj))(s:T7)(σ:St)(H:Hp)(x:V)(xs:List V)(v:Value)(us:List Value)(Q:VK),Inv X pins σ H s->RelV x v->Vals xs us->r x xs H Q->
  wpAny (model X.prog X.w) X.A (call (.builtin id) (v::us)) (EP X pins σ Q) X.xe s
section
variable{X:Cx}{a b:Expr}{ta tb:TE}{pos:Pos}
theorem IxR.or{r N:R2}(h:IxR X r)(h':IxR X N):IxR X (λx y H Q=>r x y H Q∨N x y H Q):=by
 intro value U pins s σ H x y v u Q I rx J q O;rcases q with q|q
 .exact h value U pins s σ H x y v u Q I rx J q O
 .exact h' value U pins s σ H x y v u Q I rx J q O
theorem Ng{r:R2}(Z:IxR X r)(Y:PE X a ta)(U:PE X b tb)(O:wW b):PE X (.Subscript a b pos) (tOp r ta tb):=by
 intro pins s σ H Q I h;exact Subscript_ (NQ Y U I h λv u N x y H2 z rx J q=>Z a b pins N σ H2 x y v u Q z rx J q (O _ _))
def R1(K:Ub):R2:=λx y H Q=>∃p xs i v,x= .ref p/\y= .int i/\SqL K H p xs/\atI xs i=some v/\Q v H
def Sy(K:Ub):R2:=λx y H Q=>∃p xs i v,x= .ref p/\y= .int i/\SqT K H p xs/\atI xs i=some v/\Q v H
def Rj:R2:=λx y H Q=>∃z i c,x= .str z/\y= .int i/\z.length<=Ui/\atI z.cps.toList i=some c/\Q (.str ⟨#[c]⟩) H
theorem Ku:IxR X (R1 X.K):=by
 intro value U pins s σ H x y v u Q I rx J h O;obtain⟨p,xs,i,z,rfl,rfl,hq,he,q⟩:=h;cases rx;obtain⟨t,rfl⟩:=J;obtain⟨its,r,pl,hz⟩:=I.list hq;obtain⟨j,h1,h2,F,V,Z⟩:=wU he;obtain⟨w,ew,a1⟩:=r.get h2;have Y:=r.length;have N:=oJ;have a0:EP X pins σ Q w s:=⟨z,H,I,a1,q⟩;by_cases h0:0<=i
 .have hj:i.toNat=j:=by
   rw[acL h0 Z]at h1;exact Vw h1
  exact item_listR pl.isList h0 (by omega) (by rw[hj];simpa using ew) a0 O
 .have hj:(i+(its.toArray.size:Int)).toNat=j:=by
   rw[acq (by omega) V]at h1;rw[List.size_toArray,←Y];exact Vw h1
  exact abv (x:=w) pl.isList.typeIs slot_list_getitem.lookup
   (wpAny_getItem_list_neg (Q:=λr s'=>r=w/\EP X pins σ Q r s') pl.isList (by omega) (by rw[List.size_toArray]<;>omega) (by omega) (by rw[hj];simpa using ew) ⟨rfl,a0⟩) O
theorem Ql:IxR X (Sy X.K):=by
 intro value U pins s σ H x y v u Q I rx J h O;obtain⟨p,xs,i,z,rfl,rfl,hq,he,q⟩:=h;cases rx;obtain⟨t,rfl⟩:=J;obtain⟨its,r,pl,hz⟩:=I.tuple hq;obtain⟨j,h1,h2,F,V,Z⟩:=wU he;obtain⟨w,ew,a1⟩:=r.get h2;have Y:=r.length;have N:=oJ;have a0:EP X pins σ Q w s:=⟨z,H,I,a1,q⟩;exact abv (x:=w) pl.typeIs slot_tuple_getitem.lookup
  (getItem_tuple (j:=j) (Q:=λr s'=>r=w/\EP X pins σ Q r s') pl (by omega) (by omega) (by rw[List.size_toArray,←Y];exact h1) (by simpa using ew) ⟨rfl,a0⟩) O
theorem Oq:IxR X Rj:=by
 intro value U pins s σ H x y v u Q I rx J h O;obtain⟨z,i,c,rfl,rfl,hz,he,q⟩:=h;obtain⟨t,rfl⟩:=rx;obtain⟨t',rfl⟩:=J;obtain⟨j,h1,h2,F,V,Z⟩:=wU he;have Y:z.cps.toList.length=z.length:=by simp[Str.length]
 rw[Y]at h1 V Z;have N:=oJ;exact tail_any (typeIs_str s z t) slot_str_getitem.lookup (getItem_str (c:=c) (by
  have e1:decide (i< -(2 ^ 63:Int))=false:=U9 (by omega);have e2:decide (i>=2 ^ 63)=false:=U9 (by omega);rw[e1,e2,Bool.or_false]) (by rw[h1];simpa using h2) ⟨.str ⟨#[c]⟩,H,I.tok _,⟨_,rfl⟩,q⟩) O
def rIx(K:Ub):R2:=λx y H Q=>R1 K x y H Q∨Sy K x y H Q∨Rj x y H Q
theorem Pb:IxR X (rIx X.K):=Ku.or (Ql.or Oq)
theorem zx(its:List Value)(n j:Nat)(u:Value):Wm (·.setIfInBounds j u) {cls:=.type "list",data:=.seq its.toArray n}={cls:=.type "list",data:=.seq (its.set j u).toArray n}:=by
 simp[Wm]
theorem Inv.lst{pins:List (Addr×Obj)}{σ:St}{H:Hp}{s:T7}{p:Addr}{xs:List V}(I:Inv X pins σ H s)(h:H p=some (.lst xs)) :
  ∃(its:List Value)(n:Nat),Vals xs its/\s.heap.get? p=some {cls:=.type "list",data:=.seq its.toArray n}/\xs.length<=Ui:=by
 obtain⟨z,its,n,r,e⟩:=I.hok p _ h;exact⟨its,n,r,e,z⟩
theorem Inv.lstUpd{pins:List (Addr×Obj)}{σ:St}{H:Hp}{s:T7}{p:Addr}{xs ys:List V}{its its':List Value}{n z:Nat}{f:Obj->Obj}(I:Inv X pins σ H s)(h:H p=some (.lst xs))
  (O:s.heap.get? p=some {cls:=.type "list",data:=.seq its.toArray n}) (Z:f {cls:=.type "list",data:=.seq its.toArray n}={cls:=.type "list",data:=.seq its'.toArray z}) (r:Vals ys its') (hz:ys.length<=Ui) (t:Nat) :
  Inv X pins σ (upd H p (.lst ys)) {s with heap:=s.heap.update p f,toks:=t}:=by
 have e:(s.heap.update p f).get? p=some {cls:=.type "list",data:=.seq its'.toArray z}:=by
  rw[Xp f O (by rw[Z]<;>rfl),Z]
 refine I.write (x:=p) (e:=p) (by rw[h];trivial) (.inl rfl) (λb u U q=>(Vv _ _ (U3 U)).trans q) ⟨_,e⟩ ?_;exact⟨hz,its',z,r,e⟩
def MF:V->V->V->Hp->(Hp->Prop)->Prop:=λo i v H Q=>∃p xs k j,o= .ref p/\i= .int k/\H p=some (.lst xs)/\ixN xs.length k=some j/\Q (upd H p (.lst (xs.set j v)))
theorem set_list:K4 X MF:=by
 intro pins s σ H o i v z J u Q I ro ri Z h;obtain⟨p,xs,k,j,rfl,rfl,V,U,q⟩:=h;cases ro;obtain⟨t,rfl⟩:=ri;obtain⟨its,n,r,O,hz⟩:=I.lst V;obtain⟨h1,h2,F,h4⟩:=Ce U;have Y:=r.length;have N:=oJ;have I':Inv X pins σ (upd H p (.lst (xs.set j v))) {s with heap:=s.heap.update p (Wm (·.setIfInBounds j u))}:=
  I.lstUpd V O (zx its n j u) (r.set Z j) (by rw[List.length_set];exact hz) s.toks
 by_cases h0:0<=k
 .have hk:k.toNat=j:=by
   rw[acL h0 h4]at h1;exact Vw h1
  exact PySem.W.ki_setAt O h0 (by omega) (by rw[List.size_toArray,←Y];exact h4) (by rw[hk];exact⟨_,I',q⟩)
 .have hk:(k+(its.toArray.size:Int)).toNat=j:=by
   rw[acq (by omega) F]at h1;rw[List.size_toArray,←Y];exact Vw h1
  exact PySem.W.ki_setBack O (by omega) (by rw[List.size_toArray,←Y];exact F) (by omega) (by rw[hk];exact⟨_,I',q⟩)
theorem wZ(lo hi:Option Int)(n:Nat):(YQ lo hi none n).1=((HT.sIx n 0 lo:Nat):Int)/\(YQ lo hi none n).2.1=((HT.sIx n n hi:Nat):Int)/\(YQ lo hi none n).2.2=1:=by
 refine⟨?_,?_,rfl⟩
 .cases lo with
  |none=>simp[YQ,HT.sIx]
  |some i=>
   simp only[YQ,HT.sIx,acQ,show(1:Int)>0 by decide,Vj];by_cases h:i<0
   .simp only[h,Vj]<;>omega
   .simp only[h,VN]<;>omega
 .cases hi with
  |none=>simp[YQ,HT.sIx]
  |some i=>
   simp only[YQ,HT.sIx,acQ,show(1:Int)>0 by decide,Vj];by_cases h:i<0
   .simp only[h,Vj]<;>omega
   .simp only[h,VN]<;>omega
theorem uU(its:List Value)(lo hi:Option Int):slicePick its.toArray lo hi none=((its.drop (HT.sIx its.length 0 lo)).take (HT.sIx its.length its.length hi-HT.sIx its.length 0 lo)).toArray:=by
 obtain⟨h1,h2,F⟩:=wZ lo hi its.toArray.size;unfold slicePick;rw[h1,h2,F];simp only[sliceRange_one,pick_run,List.size_toArray]<;>rfl
def Ry(K:Ub):V->Option Int->Option Int->Hp->VK->Prop:=λx lo hi H Q=>∃a xs,x= .ref a/\SqL K H a xs/\∀p,H p=none->Q (.ref p) (upd H p (.lst (uA xs lo hi)))
theorem JP:SlR X (Ry X.K):=by
 intro pins s σ H x v vl z lo hi sl Q I rx O pl J h;obtain⟨a,xs,rfl,F,q⟩:=h;cases rx;obtain⟨its,r,Y,hz⟩:=I.list F;have U:=r.length;refine⟨"list",_,slot_list_getitem.lookup,Y.isList.typeIs,?_⟩;refine wpAny_getItem_list_slice Y.isList O pl J .none (by simp) ?_ (by rw[List.size_toArray]<;>omega);rw[uU,←U];refine⟨.ref s.heap.objs.size,_,I.laid (t':=s.toks) (o:=.lst (uA xs lo hi)) (λb ob q=>T8 _ q) (Uk _) ?_,rfl,q _ (I.hok.fresh (Uk _))⟩;exact⟨V2 (qR xs lo hi) hz,_,0,(r.drop (HT.sIx xs.length 0 lo)).take (HT.sIx xs.length xs.length hi-HT.sIx xs.length 0 lo),Ue _ rfl⟩
def lN:V->Bool
 |.non=>true
 |.bl _=>true
 |.int _=>true
 |.str _=>true
 |_=>false
def eqV:V->V->Bool
 |.non,.non=>true
 |.bl a,.bl b=>a==b
 |.bl a,.int b=>(if a then 1 else 0)==b
 |.int a,.bl b=>a==(if b then 1 else 0)
 |.int a,.int b=>a==b
 |.str a,.str b=>a==b
 |_,_=>false
theorem Qf{A:Vu}{s:T7}{y x:V}{u v:Value}(J:RelV y u)(rx:RelV x v)(q:lN y=true)(F:lN x=true):SeqAt.EqAt A s u v (eqV y x):=by
 cases y with
 |non=>
  cases J;cases x with
  |non=>cases rx;exact SeqAt.EqAt.same _
  |bl b=>cases rx;exact SeqAt.EqAt.none_bool b
  |int b=>obtain⟨t,rfl⟩:=rx;exact SeqAt.EqAt.none_int b t
  |str b=>obtain⟨t,rfl⟩:=rx;exact SeqAt.EqAt.none_str b t
  |_=>exact absurd (show false=true from F) Vs
 |bl a=>
  cases J;cases x with
  |non=>cases rx;exact SeqAt.EqAt.bool_none a
  |bl b=>cases rx;exact SeqAt.EqAt.bool_bool a b
  |int b=>obtain⟨t,rfl⟩:=rx;exact SeqAt.EqAt.bool_int a b t
  |str b=>obtain⟨t,rfl⟩:=rx;exact SeqAt.EqAt.bool_str a b t
  |_=>exact absurd (show false=true from F) Vs
 |int a=>
  obtain⟨t',rfl⟩:=J;cases x with
  |non=>cases rx;exact SeqAt.EqAt.int_none a t'
  |bl b=>cases rx;exact SeqAt.EqAt.int_bool a t' b
  |int b=>obtain⟨t,rfl⟩:=rx;exact SeqAt.EqAt.int_int a t' b t
  |str b=>obtain⟨t,rfl⟩:=rx;exact ace a t' b t
  |_=>exact absurd (show false=true from F) Vs
 |str a=>
  obtain⟨t',rfl⟩:=J;cases x with
  |non=>cases rx;exact SeqAt.EqAt.str_none a t'
  |bl b=>cases rx;exact SeqAt.EqAt.str_bool a t' b
  |int b=>obtain⟨t,rfl⟩:=rx;exact acf a t' b t
  |str b=>obtain⟨t,rfl⟩:=rx;exact SeqAt.EqAt.str_str a t' b t
  |_=>exact absurd (show false=true from F) Vs
 |_=>exact absurd (show false=true from q) Vs
def eqU(x:V)(u:Value):Bool:=match u with
 |.none=>eqV .non x
 |.bool b=>eqV (.bl b) x
 |.int i _=>eqV (.int i) x
 |.str z _=>eqV (.str z) x
 |_=>false
theorem GF{x y:V}{u:Value}(r:RelV y u)(f:lN y=true):eqU x u=eqV y x:=by
 cases y with
 |non=>cases r;rfl
 |bl b=>cases r;rfl
 |int i=>obtain⟨t,rfl⟩:=r;rfl
 |str z=>obtain⟨t,rfl⟩:=r;rfl
 |_=>exact absurd (show false=true from f) Vs
theorem o7{x:V}:∀{xs:List V}{us:List Value},Vals xs us->xs.all lN=true->us.any (eqU x)=xs.any λy=>eqV y x
 |_,_,.nil,_=>rfl
 |y::xs,u::us,.cons r t,f=>by
  rw[YK,UT]at f;rw[ZJ,ZJ,GF r f.1,o7 t f.2]
theorem mz{A:Vu}{s:T7}{x:V}{v:Value}(rx:RelV x v)(F:lN x=true):∀{xs:List V}{us:List Value},Vals xs us->xs.all lN=true->∀u∈us,SeqAt.EqAt A s u v (eqU x u)
 |_,_,.nil,_=>λu O=>by cases O
 |y::xs,u::us,.cons r t,f=>λY O=>by
  rw[YK,UT]at f;rcases Uj.mp O with rfl|O
  .rw[GF r f.1];exact Qf r rx f.1 F
  .exact mz rx F t f.2 Y O
def inV(x:V)(xs:List V):Bool:=xs.any λy=>eqV y x
def rIn(K:Ub)(q:Bool):R2:=λx y H Q=>∃p xs,y= .ref p/\(SqL K H p xs∨SqT K H p xs)/\lN x=true/\xs.all lN=true/\Q (.bl (if q then !inV x xs else inV x xs)) H
theorem DN:OpR X (U4 .In) (rIn X.K false):=by
 intro pins s σ H x y v u Q I rx J h;obtain⟨p,xs,rfl,O,F,fs,q⟩:=h;cases J;rcases O with O|O
 .obtain⟨its,r,pl,hz⟩:=I.list O
  refine SeqAt.in_listAt (eqU x) pl.isList (λw V=>mz rx F r fs w (by simpa using V)) ⟨.bl _,H,I,rfl,?_⟩;rw[show its.toArray.any (eqU x)=its.any (eqU x)by simp,o7 r fs];exact q
 .obtain⟨its,r,pl,hz⟩:=I.tuple O
  refine SeqAt.in_tupleAt (eqU x) pl (λw V=>mz rx F r fs w (by simpa using V)) ⟨.bl _,H,I,rfl,?_⟩;rw[show its.toArray.any (eqU x)=its.any (eqU x)by simp,o7 r fs];exact q
theorem xN:OpR X (U4 .NotIn) (rIn X.K true):=by
 intro pins s σ H x y v u Q I rx J h;obtain⟨p,xs,rfl,O,F,fs,q⟩:=h;cases J;rcases O with O|O
 .obtain⟨its,r,pl,hz⟩:=I.list O
  refine SeqAt.notIn_listAt (eqU x) pl.isList (λw V=>mz rx F r fs w (by simpa using V)) ⟨.bl _,H,I,rfl,?_⟩;rw[show its.toArray.any (eqU x)=its.any (eqU x)by simp,o7 r fs];exact q
 .obtain⟨its,r,pl,hz⟩:=I.tuple O
  refine SeqAt.notIn_tupleAt (eqU x) pl (λw V=>mz rx F r fs w (by simpa using V)) ⟨.bl _,H,I,rfl,?_⟩;rw[show its.toArray.any (eqU x)=its.any (eqU x)by simp,o7 r fs];exact q
theorem wg:OpR X (U4 .NotIn) (λx y H Q=>∃i j,x= .str i/\y= .str j/\Q (.bl (!(!(Xc j i 0 j.length 1).isEmpty))) H):=by
 intro pins s σ H x y v u Q I rx J h;obtain⟨i,j,rfl,rfl,q⟩:=h;obtain⟨t,rfl⟩:=rx;obtain⟨t',rfl⟩:=J;exact notIn_str ⟨.bl _,H,I,rfl,q⟩
theorem wM:eU X (.builtin "len") (λxs H Q=>∃p ys,xs=[.ref p]/\(SqL X.K H p ys∨SqT X.K H p ys)/\Q (.int ys.length) H):=by
 intro pins s σ H xs us Q I r h;obtain⟨p,ys,rfl,O,q⟩:=h;obtain⟨u,rfl,rx⟩:=vals1 r;cases rx;have N:=oJ;rcases O with O|O
 .obtain⟨its,r',pl,hz⟩:=I.list O
  have U:=r'.length;exact Calls.call_len_list pl.isList (by simp only[List.size_toArray]<;>omega) ⟨.int ys.length,H,I.tok _,⟨s.toks+1,by rw[List.size_toArray,U]⟩,q⟩
 .obtain⟨its,r',pl,hz⟩:=I.tuple O
  have U:=r'.length;exact len_tuple pl (by simp only[List.size_toArray]<;>omega) ⟨.int ys.length,H,I.tok _,⟨s.toks+1,by rw[List.size_toArray,U]⟩,q⟩
theorem xH:eU X (.builtin "len") (λxs H Q=>∃z,xs=[.str z]/\z.length<=Ui/\Q (.int z.length) H):=by
 intro pins s σ H xs us Q I r h;obtain⟨z,rfl,hz,q⟩:=h;obtain⟨u,rfl,t,rfl⟩:=vals1 r;have N:=oJ;exact len_str (by omega) ⟨.int z.length,H,I.tok _,⟨_,rfl⟩,q⟩
theorem wB:eU X (.type "list") (λxs H Q=>∃p ys,xs=[.ref p]/\(SqL X.K H p ys∨SqT X.K H p ys)/\∀l,H l=none->Q (.ref l) (upd H l (.lst ys))):=by
 intro pins s σ H xs us Q I r h;obtain⟨p,ys,rfl,F,q⟩:=h;obtain⟨u,rfl,rx⟩:=vals1 r;cases rx;have z:∀(its:List Value),Vals ys its->ys.length<=Ui->∀(h':Heap)(Y:Nat),(∀b o',s.heap.get? b=some o'->h'.get? b=some o')->
   h'.get? s.heap.objs.size=some {cls:=.type "list",dict:=none,data:=.seq its.toArray Y,slots:=#[]}->EP X pins σ Q (.ref s.heap.objs.size) {s with heap:=h'}:=λits N hz h' Y kp e=>
  ⟨.ref s.heap.objs.size,_,I.laid (t':=s.toks) kp (Uk _) (show cF X.prog X.w _ h' _ (.lst ys)from⟨hz,its,Y,N,e⟩),rfl,q _ (I.hok.fresh (Uk _))⟩
 rcases F with F|F
 .obtain⟨its,N,pl,hz⟩:=I.list F
  have U:=N.length;obtain⟨o,O,J,n,hd⟩:=pl.isList;exact call_list_seq p (.inl rfl) O J hd (λh' Y kp e=>z its N hz h' Y kp e) (by simp only[List.size_toArray]<;>omega)
 .obtain⟨its,N,pl,hz⟩:=I.tuple F
  have U:=N.length;obtain⟨o,O,J,n,hd⟩:=pl;exact call_list_seq p (.inr rfl) O J hd (λh' Y kp e=>z its N hz h' Y kp e) (by simp only[List.size_toArray]<;>omega)
def tyV(K:Ub)(T:String)(x:V)(H:Hp):Prop:=match x with
 |.str _=>T="str"
 |.int _=>T="int"
 |.ref p=>(T="list"/\∃xs,SqL K H p xs)∨(T="tuple"/\∃o,K.lookup p=some o/\o.cls= .type "tuple"/\o.dict=none)∨
  (T="dict"/\((∃kvs,H p=some (.dK kvs))∨∃kvs,H p=some (.dT kvs)))∨(T="set"/\∃S n,H p=some (.set S n))
 |_=>False
theorem Hd{pins:List (Addr×Obj)}{σ:St}{H:Hp}{s:T7}{T:String}{x:V}{v:Value}(I:Inv X pins σ H s)(r:RelV x v)(ty:tyV X.K T x H) :
  s.TypeIs v T/\∀a,v= .ref a->∃ob,s.heap.get? a=some ob/\ob.dict=none:=by
 cases x with
 |str z=>
  obtain⟨t,rfl⟩:=r;cases (show T="str" from ty);exact⟨typeIs_str s z t,λ_ e=>nomatch e⟩
 |int i=>
  obtain⟨t,rfl⟩:=r;cases (show T="int" from ty);exact⟨typeIs_int s i t,λ_ e=>nomatch e⟩
 |ref p=>
  cases r;rcases ty with⟨rfl,xs,O⟩|⟨rfl,o,q,J,hd⟩|⟨rfl,q⟩|⟨rfl,S,n,q⟩
  .obtain⟨its,_,pl,_⟩:=I.list O
   refine⟨pl.isList.typeIs,λa e=>?_⟩;cases e;obtain⟨o,n,e,c,hd,_⟩:=pl;exact⟨o,e,hd⟩
  .refine⟨⟨o,I.kIn p o q,J⟩,λa e=>?_⟩
   cases e;exact⟨o,I.kIn _ o q,hd⟩
  .have z:∃o,s.heap.get? p=some o/\o.ExactDict:=by
    rcases q with⟨kvs,q⟩|⟨kvs,q⟩
    .obtain⟨_,_,_,_,o,_,_,e,ex,_⟩:=I.hok p _ q
     exact⟨o,e,ex⟩
    .obtain⟨_,_,_,_,o,_,_,e,ex,_⟩:=I.hok p _ q
     exact⟨o,e,ex⟩
   obtain⟨o,e,ex⟩:=z;refine⟨⟨o,e,ex.1⟩,λa e2=>?_⟩;cases e2;exact⟨o,e,ex.2.1⟩
  .obtain⟨o,_,_,_,e,ex,_⟩:=I.hok p _ q
   refine⟨⟨o,e,ex.1⟩,λa e2=>?_⟩;cases e2;exact⟨o,e,ex.2.1⟩
 |_=>exact WQ ty
def Te(K:Ub)(T:String)(r:V->List V->Hp->VK->Prop)(to:TE):TE:=λσ H Q=>to σ H λx H1=>tyV K T x H1/\r x [] H1 Q
def tBM(K:Ub)(T:String)(r:V->List V->Hp->VK->Prop)(to:TE)(t:TA):TE:=λσ H Q=>to σ H λx H1=>tyV K T x H1/\t σ H1 λxs H2=>r x xs H2 Q
variable{o e:Expr}{es:List Expr}{to:TE}{t:TA}{name:Str}{apos cpos:Pos}{T id:String}{r:V->List V->Hp->VK->Prop}
theorem Oi(z:aaS T)(slot:Slot T name id)(N:typeOf (.builtin id)=pure (.type "method_descriptor"))(V:MtR X id r)(O:PE X o to)
  (U:Xb o name X.env (eval o X.env)=eval o X.env:=by rfl) (q:(apos.endLine==cpos.line)=true:=by rfl):PE X (.Call (.Attribute o name apos) [] [] cpos) (Te X.K T r to):=by
 intro pins s σ H Q I h;refine wpAny_Call_method0_late U q (thn (O pins s σ H _ I h) λv Z ⟨x,H1,F,J,ty,q1⟩=>?_);obtain⟨h1,h2⟩:=Hd F J ty;exact⟨T,id,z,slot,N,h1,h2,Yh rfl (PySem.evalArgs_none (V pins Z σ H1 x [] v [] Q F J .nil q1))⟩
theorem M9(pa:aaS T)(slot:Slot T name id)(a3:typeOf (.builtin id)=pure (.type "method_descriptor"))(V:MtR X id r)(ho:PE X o to)(Y:PA X (e::es) t)
  (U:Xb o name X.env (eval o X.env)=eval o X.env:=by rfl)
  (a2:((V3 cpos (Ul (e::es) X.env)).all (λx=>!x.1)&&(Y9 cpos (XN [] X.env)).all (λx=>x.1.isSome)
   &&decide ((e::es).length+([]:List abG).length+(if([]:List abG).isEmpty then 0 else 1)<30))=true:=by rfl)
  (a1:(apos.endLine==cpos.line)=true:=by rfl) (O:Ul (e::es) X.env=(false,eval e X.env)::Ul es X.env:=by rfl) (a0:(V3 cpos (Ul es X.env)).any (·.1)=false:=by rfl) :
  PE X (.Call (.Attribute o name apos) (e::es) [] cpos) (tBM X.K T r to t):=by
 intro pins s σ H Q I h;refine wpAny_Call_method_late U a2 a1 rfl (thn (ho pins s σ H _ I h) λv Z ⟨x,H1,F,J,ty,q1⟩=>?_);obtain⟨h1,h2⟩:=Hd F J ty;refine⟨T,id,pa,slot,a3,h1,h2,?_⟩;have hA:=Y cpos pins Z σ H1 _ F q1;rw[O]at hA⊢;refine Yh (by show(false||(V3 cpos (Ul es X.env)).any (·.1))=false;rw[a0]<;>rfl) (Z7 ?_);exact thn hA λus N ⟨vs,H2,z,q,q2⟩=>V pins N σ H2 x vs v us Q z J q q2
end
def MtM(X:Cx)(id:String)(r:V->List V->Hp->VK->Prop):Prop:=
 ∀(pins:List (Addr×Obj))(s:T7)(σ:St)(H:Hp)(x:V)(xs:List V)(v:Value)(us:List Value)(Q:VK),Inv X pins σ H s->RelV x v->Vals xs us->r x xs H Q->
  wpAny (model X.prog X.w) X.A (call (.builtin id) (v::us)) (EP X pins σ Q) X.xe s
theorem Vals.one:∀{x:V}{us:List Value},Vals [x] us->∃u,us=[u]/\RelV x u
 |_,_,.cons r .nil=>⟨_,rfl,r⟩
theorem Vals.zero:∀{us:List Value},Vals [] us->us=[]
 |_,.nil=>rfl
variable{xs:List V}
theorem Vals.dropLast(h:Vals xs us):Vals xs.dropLast us.dropLast:=by
 induction h with
 |nil=>exact .nil
 |cons r t Z=>
  cases t with
  |nil=>exact .nil
  |cons q t'=>exact .cons r Z
theorem oK(l:List α):l.eraseIdx (l.length-1)=l.dropLast:=by
 induction l with
 |nil=>rfl
 |cons a r Z=>
  cases r with
  |nil=>rfl
  |cons b r=>
   have e:(a::b::r).length-1=((b::r).length-1)+1:=by
    have h1:(a::b::r).length=r.length+2:=rfl;have h2:(b::r).length=r.length+1:=rfl;omega
   rw[e,abe,Z]
   all_goals rfl
variable{X:Cx}{σ:St}{H:Hp}{ys:List V}
theorem Inv.lset{its':List Value}{f:Array Value->Array Value}(I:Inv X pins σ H s)(V:H l=some (.lst xs))
  (e:s.heap.get? l=some {cls:=.type "list",data:=.seq its.toArray n}) (Z:f its.toArray=its'.toArray) (z:Vals ys its') (hz:ys.length<=Ui) :
  Inv X pins σ (upd H l (.lst ys)) {s with heap:=s.heap.update l (Wm f),toks:=t'}:=by
 have q:=acR e f;rw[Z]at q;refine I.write (x:=l) (e:=l) (by rw[V];exact trivial) (.inl rfl) (λF u U O=>(Vv s.heap (Wm f) (U3 U)).trans O) ⟨_,q⟩ ?_;exact⟨hz,its',_,z,q⟩
theorem Inv.lnew(I:Inv X pins σ H s)(U:Vals ys its)(hz:ys.length<=Ui) :
  Inv X pins σ (upd H s.heap.objs.size (.lst ys)) {s with heap:=s.heap.push {cls:=.type "list",data:=.seq its.toArray},toks:=t'}:=
 I.laid (λ_ _ q=>T8 _ q) (Uk _) ⟨hz,its,0,U,Ue _ rfl⟩
theorem Inv.fresh(I:Inv X pins σ H s):H s.heap.objs.size=none:=I.hok.fresh (Uk _)
theorem Inv.lstM(I:Inv X pins σ H s)(V:H l=some (.lst xs)):xs.length<=Ui/\∃(its:List Value)(n:Nat),Vals xs its/\xs.length=its.length/\s.heap.get? l=some {cls:=.type "list",data:=.seq its.toArray n}:=by
 obtain⟨z,its,n,r,e⟩:=I.hok l _ V;exact⟨z,its,n,r,r.length,e⟩
def Ax:V->List V->Hp->VK->Prop:=λx vs H Q=>∃l xs y,x= .ref l/\vs=[y]/\H l=some (.lst xs)/\xs.length<Ui/\Q .non (upd H l (.lst (xs++[y])))
theorem Cz:MtM X "list.append" Ax:=by
 intro pins s σ H x vs v us Q I rx Z h;obtain⟨l,xs,y,rfl,rfl,V,hz,q⟩:=h;cases rx;obtain⟨u,rfl,J⟩:=Z.one;obtain⟨z,its,n,r,Y,e⟩:=I.lstM V;refine call_meets acr ⟨_,e,rfl⟩ aca (abT _ _) (acF l its.toArray n u (by rw[List.size_toArray];omega)) ⟨e,?_⟩;refine⟨.non,_,I.lset (its':=its++[u]) V e (by simp) (r.append (.cons J .nil)) ?_,rfl,q⟩;rw[We,List.length_singleton];omega
def Q_:V->List V->Hp->VK->Prop:=λx vs H Q=>∃l xs y,x= .ref l/\vs=[]/\H l=some (.lst xs)/\xs[xs.length-1]? =some y/\Q y (upd H l (.lst xs.dropLast))
theorem Qo:MtM X "list.pop" Q_:=by
 intro pins s σ H x vs v us Q I rx Z h;obtain⟨l,xs,y,rfl,rfl,V,hy,q⟩:=h;cases rx;have J:=Z.zero;subst J;obtain⟨z,its,n,r,Y,e⟩:=I.lstM V;obtain⟨u,O,U⟩:=r.get hy;have N:its.toArray[its.toArray.size-1]? =some u:=by
  show its.toArray[its.length-1]? =some u;rw[←Xq,←Y];exact O
 refine call_meets F.slot_list_pop ⟨_,e,rfl⟩ F.entry_list_pop (F.args_list_pop_1 _) (MeetsSeq.list_pop_last l its.toArray n u N (by rw[List.size_toArray];omega)) ⟨e,?_⟩;refine⟨y,_,I.lset (its':=its.dropLast) V e ?_ r.dropLast ?_,U,q⟩
 .show its.toArray.eraseIdxIfInBounds (its.toArray.size-1)=its.dropLast.toArray
  rw[List.size_toArray,List.eraseIdxIfInBounds_toArray,oK]
 .rw[abU]
  omega
def Q4:R2:=λx y H Q=>∃l b xs zs,x= .ref l/\y= .ref b/\H l=some (.lst xs)/\H b=some (.lst zs)/\xs.length+zs.length<=Ui/\∀p,H p=none->Q (.ref p) (upd H p (.lst (xs++zs)))
theorem NP:OpR X (V6 .Add) Q4:=by
 intro pins s σ H x y v u Q I rx J h;obtain⟨l,b,xs,zs,rfl,rfl,V,O,hz,q⟩:=h;cases rx;cases J;obtain⟨z,its,n,r,Y,e⟩:=I.lstM V;obtain⟨F,N,Z,r2,a0,e2⟩:=I.lstM O;refine PySem.P.add_list e e2 ?_ (by rw[List.size_toArray,List.size_toArray];omega);have U:its.toArray++N.toArray=(its++N).toArray:=by simp
 rw[U];exact⟨.ref _,_,I.lnew (t':=s.toks) (r.append r2) (by rw[We];omega),rfl,q _ I.fresh⟩
section
variable{κ:Type}[DecidableEq κ]
def jJ(kvs:List (κ×V))(k:κ):Option V:=(kvs.find? λN=>decide (N.1=k)).map (·.2)
def putK(kvs:List (κ×V))(k:κ)(v:V):List (κ×V):=
 if(kvs.any λN=>decide (N.1=k))=true then kvs.map (λN=>if N.1=k then(N.1,v)else N)else kvs++[(k,v)]
def qb(kvs:List (κ×V))(k:κ):List (κ×V):=kvs.filter λN=>decide (N.1≠k)
theorem sX{p:κ×V}{r:List (κ×V)}{k:κ}(e:p.1=k):jJ (p::r) k=some p.2:=by simp[jJ,W5,e]
theorem tQ{p:κ×V}{r:List (κ×V)}{k:κ}(e:¬p.1=k):jJ (p::r) k=jJ r k:=by simp[jJ,W5,e]
theorem sJ(k:κ):∀kvs:List (κ×V),(kvs.any λN=>decide (N.1=k))=(jJ kvs k).isSome
 |[]=>rfl
 |p::r=>by
  rw[ZJ];by_cases e:p.1=k
  .simp only[sX e,Yo e,Bool.true_or,Option.isSome_some]
  .rw[tQ e,U9 e,Bool.false_or];exact sJ k r
theorem jW(kvs:List (κ×V))(k:κ)(v:V):(putK kvs k v).length<=kvs.length+1:=by
 unfold putK;split
 .rw[Ux];omega
 .rw[We,Uy,Vn];omega
theorem pq{kvs:List (κ×V)}{k:κ}(v:V)(h:jJ kvs k=none):putK kvs k v=kvs++[(k,v)]:=by
 unfold putK;rw[sJ,h];exact Uq (by decide)
theorem lX.isSome_eq{o:Option V}{u:Option Value}(r:lX o u):o.isSome=u.isSome:=by
 cases o with
 |none=>cases u with
  |none=>rfl
  |some _=>exact(show False from r).elim
 |some _=>cases u with
  |none=>exact(show False from r).elim
  |some _=>rfl
theorem lX.getD{o:Option V}{u:Option Value}{d:V}{d':Value}(r:lX o u)(rd:RelV d d'):RelV (o.getD d) (u.getD d'):=by
 cases o with
 |none=>cases u with
  |none=>exact rd
  |some _=>exact(show False from r).elim
 |some _=>cases u with
  |none=>exact(show False from r).elim
  |some _=>exact r
theorem KV.val{kvs:List (κ×V)}{vs:List (κ×Value)}(r:KV kvs vs)(k:κ):lX (jJ kvs k) (aaY vs k):=by
 unfold KV at r
 induction r with
 |nil=>exact V4
 |@cons p q ps U h t Z=>
  obtain⟨h1,h2⟩:=h;by_cases e:p.1=k
  .have e':q.1=k:=h1.symm.trans e
   have b:aaY (q::U) k=some q.2:=by simp[aaY,W5,e']
   rw[sX e,b];exact h2
  .have e':¬q.1=k:=λz=>e (h1.trans z)
   have b:aaY (q::U) k=aaY U k:=by simp[aaY,W5,e']
   rw[tQ e,b];exact Z
theorem KV.any{kvs:List (κ×V)}{vs:List (κ×Value)}(r:KV kvs vs)(k:κ):(kvs.any λN=>decide (N.1=k))=vs.any λN=>decide (N.1=k):=by
 unfold KV at r
 induction r with
 |nil=>rfl
 |cons h t Z=>rw[ZJ,ZJ,Z,h.1]
theorem KV.repl{kvs:List (κ×V)}{vs:List (κ×Value)}(r:KV kvs vs)(k:κ){y:V}{u:Value}(J:RelV y u) :
  KV (kvs.map λN=>if N.1=k then(N.1,y)else N) (vs.map λN=>if N.1=k then(N.1,u)else N):=by
 unfold KV at r⊢
 induction r with
 |nil=>exact .nil
 |@cons p q ps U h t Z=>
  rw[Um,Um];refine .cons ?_ Z;obtain⟨h1,h2⟩:=h;by_cases e:p.1=k
  .rw[Uo e,Uo (h1.symm.trans e)];exact⟨h1,J⟩
  .rw[Uq e,Uq (λz=>e (h1.trans z))];exact⟨h1,h2⟩
theorem KV.put{kvs:List (κ×V)}{vs:List (κ×Value)}(r:KV kvs vs)(k:κ){y:V}{u:Value}(J:RelV y u):KV (putK kvs k y) (stored vs k u):=by
 unfold putK stored;rw[r.any k];by_cases e:(vs.any λN=>decide (N.1=k))=true
 .rw[Uo e,Uo e];exact r.repl k J
 .rw[Uq e,Uq e];exact Paired.snoc r ⟨rfl,J⟩
theorem KV.drop{kvs:List (κ×V)}{vs:List (κ×Value)}(r:KV kvs vs)(k:κ):KV (qb kvs k) (without vs k):=by
 unfold KV at r⊢;unfold qb without
 induction r with
 |nil=>exact .nil
 |@cons p q ps U h t Z=>
  obtain⟨h1,h2⟩:=h;rw[Wt,Wt];by_cases e:p.1=k
  .have a:¬decide (p.1≠k)=true:=by simp[e]
   have b:¬decide (q.1≠k)=true:=by simp[h1.symm.trans e]
   rw[Uq a,Uq b];exact Z
  .have e':¬q.1=k:=λz=>e (h1.trans z)
   have a:decide (p.1≠k)=true:=by simp[e]
   have b:decide (q.1≠k)=true:=by simp[e']
   rw[Uo a,Uo b];exact .cons ⟨h1,h2⟩ Z
theorem KV.length{kvs:List (κ×V)}{vs:List (κ×Value)}(r:KV kvs vs):kvs.length=vs.length:=aay r
theorem Iu(kvs:List (κ×V))(k:κ):(qb kvs k).length<=kvs.length:=ZW _ _
end
variable{P:U_}
theorem iW{k:Key}(r:RelV (kV k) u):(aR P w).is k u=true:=by
 cases k with
 |inl i=>obtain⟨t,e⟩:=(show ∃t,u=V8 i t from r);subst e;exact yw P w i t
 |inr x=>obtain⟨t,e⟩:=(show ∃t,u=Yv x t from r);subst e;exact xV P w x t
theorem v9:∀{ks:List Key}{us:List Value},Vals (ks.map kV) us->ItemsAre (aR P w) ks us
 |[],_,r=>by rw[Vy]at r;cases r;exact .nil
 |k::ks,_,r=>by
  rw[Um]at r;cases r with
  |cons h t=>exact .cons (iW h) (v9 t)
noncomputable abbrev KT(H:Hp):List (List Key×V)->List (List Key×Addr×Value)->Prop:=Paired λp q=>p.1=q.1/\H q.2.1=some (.tup (p.1.map kV))/\RelV p.2 q.2.2
variable{xs:List (List Key×Addr×Value)}{kvs:List (List Key×V)}
theorem KT.val(r:KT H kvs xs)(k:List Key):lX (jJ kvs k) ((atKey xs k).map (·.2)):=by
 induction r with
 |nil=>exact V4
 |@cons p q ps U h t Z=>
  obtain⟨h1,_,h2⟩:=h;by_cases e:p.1=k
  .have e':q.1=k:=h1.symm.trans e
   have b:atKey (q::U) k=some q.2:=by simp[atKey,W5,e']
   rw[sX e,b];exact h2
  .have e':¬q.1=k:=λz=>e (h1.trans z)
   have b:atKey (q::U) k=atKey U k:=by simp[atKey,W5,e']
   rw[tQ e,b];exact Z
variable{y:V}
theorem KT.repl(r:KT H kvs xs)(k:List Key)(J:RelV y u) :
  KT H (kvs.map λN=>if N.1=k then(N.1,y)else N) (xs.map (putAt k u)):=by
 induction r with
 |nil=>exact .nil
 |@cons p q ps U h t Z=>
  rw[Um,Um];refine .cons ?_ Z;obtain⟨h1,h2,F⟩:=h;unfold putAt;by_cases e:p.1=k
  .rw[Uo e,Uo (h1.symm.trans e)];exact⟨h1,h2,J⟩
  .rw[Uq e,Uq (λz=>e (h1.trans z))];exact⟨h1,h2,F⟩
theorem KT.put(r:KT H kvs xs)(k:List Key){b:Addr}(U:H b=some (.tup (k.map kV)))(J:RelV y u) :
  KT H (putK kvs k y) (storedH xs k b u):=by
 have e:(kvs.any λN=>decide (N.1=k))=(atKey xs k).isSome:=by
  rw[sJ,(r.val k).isSome_eq,aaJ]
 unfold putK storedH;rw[e];by_cases q:(atKey xs k).isSome=true
 .rw[Uo q,Uo q];exact r.repl k J
 .rw[Uq q,Uq q];exact Paired.snoc r ⟨rfl,U,J⟩
variable{H':Hp}
theorem KT.keeps(r:KT H kvs xs)(Y:∀b ys,H b=some (.tup ys)->H' b=some (.tup ys)):KT H' kvs xs:=
 Paired.mapP r λ_ _ z=>⟨z.1,Y _ _ z.2.1,z.2.2⟩
variable{P:Program}
theorem M3{u:HO}(ok:HOk P w H h)(e:Rd H a u):cF P w H h a u:=e.ok ok
theorem rD{kvs:List (Key×V)}(ok:HOk P w H h)(e:Rd H a (.dK kvs)):kvs.length<=Ui/\(a==XH)=false/\∃vs,KV kvs vs/\h.DictOf (aR P w) a vs:=
 show cF P w H h a (.dK kvs)from M3 ok e
theorem Fo{kvs:List (Key×V)}(ok:HOk P w H h)(e:H a=some (.dK kvs)):kvs.length<=Ui/\(a==XH)=false/\∃vs,KV kvs vs/\h.DictOf (aR P w) a vs:=rD ok (.inl e)
theorem oW{ks:List Key}(ok:HOk P w H h)(e:H a=some (.tup (ks.map kV))):(ZS (aR P w)).is h ks a:=by
 obtain⟨_,its,r,o,h1,h2,n,F⟩:=(show cF P w H h a (.tup (ks.map kV))from ok a _ e);exact⟨o,its.toArray,n,h1,h2,F.1,by simpa using v9 r⟩
theorem ug(ok:HOk P w H h)(e:Rd H a (.dT kvs)):kvs.length<=Ui/\(a==XH)=false/\
  ∃xs,KT H kvs xs/\h.DictOfH (ZS (aR P w)) a xs:=by
 obtain⟨z,y,xs,r,o,es,ep,h1,h2,Y,N,J⟩:=(show cF P w H h a (.dT kvs)from M3 ok e);refine⟨z,y,xs,r,o,es,ep,h1,h2,Y,N,λx F=>?_,J⟩;have all:∀{l:List (List Key×V)}{m:List (List Key×Addr×Value)},KT H l m->∀x∈m,(ZS (aR P w)).is h x.1 x.2.1:=by
  intro l m q
  induction q with
  |nil=>intro x F;exact nomatch F
  |@cons p q ps U O t Z=>
   intro x F;rcases Uj.mp F with e|F
   .subst e
    exact oW ok (by rw[←O.1];exact O.2.1)
   .exact Z x F
 exact all r x F
theorem S9(ok:HOk P w H h)(e:H a=some (.dT kvs)):kvs.length<=Ui/\(a==XH)=false/\
 ∃xs,KT H kvs xs/\h.DictOfH (ZS (aR P w)) a xs:=ug ok (.inl e)
def lU(H:Hp)(a:Addr)(y:V)(r:Option V):Prop:=
 (∃kvs k,Rd H a (.dK kvs)/\y=kV k/\r=jJ kvs k)∨∃kvs k b,Rd H a (.dT kvs)/\y= .ref b/\H b=some (.tup (k.map kV))/\r=jJ kvs k
def DY(H:Hp)(a:Addr)(y v:V)(H':Hp):Prop:=
 (∃kvs k,H a=some (.dK kvs)/\y=kV k/\kvs.length<Ui/\H'=upd H a (.dK (putK kvs k v)))∨
 ∃kvs k b,H a=some (.dT kvs)/\y= .ref b/\H b=some (.tup (k.map kV))/\kvs.length<Ui/\H'=upd H a (.dT (putK kvs k v))
variable{kvs:List (Key×V)}
theorem lU.k{k:Key}(e:H a=some (.dK kvs)):lU H a (kV k) (jJ kvs k):=.inl ⟨kvs,k,.inl e,rfl,rfl⟩
variable{v:V}
theorem DY.k{k:Key}(e:H a=some (.dK kvs))(Y:kvs.length<Ui):DY H a (kV k) v (upd H a (.dK (putK kvs k v))):=.inl ⟨kvs,k,e,rfl,Y,rfl⟩
theorem Inv.big(I:Inv X pins σ H s):XH<s.heap.objs.size:=by
 have h:Uv<s.heap.objs.size:=(I.mod.glob.keeps I.bk).lt;exact Nat.lt_trans (by decide) h
theorem vA(O:A.units+1<cLine)(I:Inv X pins σ H s)(g:lU H a y (some v))(J:RelV y u)(h:∀Y s',Inv X pins σ H s'->RelV v Y->Q Y s') :
  wpAny (model X.prog X.w) A (aag (.ref a) u) Q E s:=by
 rcases g with⟨kvs,k,e,ey,l⟩|⟨kvs,k,b,e,ey,Z,l⟩
 .subst ey
  obtain⟨z,hd,vs,rel,U⟩:=rD I.hok e;obtain⟨Y,q,N⟩:=lX.some_of (v:=v) (o:=aaY vs k) (by rw[l];exact rel.val k);exact wpAny_getItem_of (iW J) U.mapOf q (h Y _ (I.tok _) N)
 .subst ey
  cases (show u=UL b from J);obtain⟨z,hd,xs,rel,U⟩:=ug I.hok e;obtain⟨Y,q,N⟩:=lX.some_of (v:=v) (o:=(atKey xs k).map (·.2)) (by rw[l];exact rel.val k);obtain⟨p,V,F⟩:=abw.mp q;refine wpAny_getItem_heap (Xl O) (oW I.hok Z) U V ?_;rw[F];exact h Y _ (I.tok _) N
variable{o:Option V}
theorem T6(O:A.units+1<cLine)(I:Inv X pins σ H s)(g:lU H a y o)(J:RelV y u)(h:∀s',Inv X pins σ H s'->Q (.bool o.isSome) s') :
  wpAny (model X.prog X.w) A (U4 .In u (.ref a)) Q E s:=by
 rcases g with⟨kvs,k,e,N,l⟩|⟨kvs,k,b,e,N,Z,l⟩
 .subst N
  obtain⟨z,hd,vs,rel,U⟩:=rD I.hok e;refine wpAny_in_of (iW J) hd U.mapOf ?_;rw[←(rel.val k).isSome_eq,←l];exact h _ (I.tok _)
 .subst N
  cases (show u=UL b from J);obtain⟨z,hd,xs,rel,U⟩:=ug I.hok e;refine wpAny_in_heap (Xl O) (oW I.hok Z) hd U ?_;have q:=(rel.val k).isSome_eq;rw[aaJ]at q;rw[←q,←l];exact h _ (I.tok _)
theorem JX(O:A.units+1<cLine)(I:Inv X pins σ H s)(g:lU H a y o)(J:RelV y u)(h:∀s',Inv X pins σ H s'->Q (.bool (!o.isSome)) s') :
  wpAny (model X.prog X.w) A (U4 .NotIn u (.ref a)) Q E s:=by
 rcases g with⟨kvs,k,e,N,l⟩|⟨kvs,k,b,e,N,Z,l⟩
 .subst N
  obtain⟨z,hd,vs,rel,U⟩:=rD I.hok e;refine wpAny_notIn_of (iW J) hd U.mapOf ?_;rw[←(rel.val k).isSome_eq,←l];exact h _ (I.tok _)
 .subst N
  cases (show u=UL b from J);obtain⟨z,hd,xs,rel,U⟩:=ug I.hok e;refine wpAny_notIn_heap (Xl O) (oW I.hok Z) hd U ?_;have q:=(rel.val k).isSome_eq;rw[aaJ]at q;rw[←q,←l];exact h _ (I.tok _)
theorem sI{ob:HO}(I:Inv X pins σ H s)(mu:Mut (H a))(O:WL a s.heap h')(N:∃q,h'.get? a=some q)(new:cF X.prog X.w (upd H a ob) h' a ob) :
  Inv X pins σ (upd H a ob) {s with heap:=h',toks:=t'}:=
 I.write (x:=a) (e:=a) mu (.inl rfl) (λb q U z=>(O.2 b U).trans z) N new
variable{P:U_}
theorem zQ{vs:List (Key×Value)}(z:kvs.length<=Ui)(hd:(a==XH)=false)(rel:KV kvs vs)(U:h'.DictOf (aR P w) a vs) :
 cF P w H' h' a (.dK kvs):=⟨z,hd,vs,rel,U⟩
variable{r:Value}
theorem vY{Q:Unit->T7->Prop}(hu:A.units+1<cLine)(I:Inv X pins σ H s)(g:DY H a y v H')(J:RelV y u)(Z:RelV v r)(h:∀s',Inv X pins σ H' s'->Q () s') :
  wpAny (model X.prog X.w) A (abD (.ref a) u r) Q E s:=by
 rcases g with⟨kvs,k,e,ey,l,eH⟩|⟨kvs,k,b,e,ey,eb,l,eH⟩
 .subst ey eH
  obtain⟨z,hd,vs,rel,U⟩:=Fo I.hok e;have hz:vs.length<=Ui:=by rw[←rel.length];exact z
  have Y:(putK kvs k v).length<=Ui:=by have:=jW kvs k v;omega
  refine wpAny_setItem_pairs (hsz:=hz) (iW J) U λh' a0 O=>h _ ?_;have N:∃q,h'.get? a=some q:=let⟨q,_,_,hq,_⟩:=a0;⟨q,hq⟩;exact sI I (by rw[e];exact V4) O N (zQ Y hd (rel.put k Z) a0)
 .subst ey eH
  cases (show u=UL b from J);obtain⟨z,hd,xs,rel,U⟩:=S9 I.hok e;have hz:xs.length<=Ui:=by rw[←aay rel];exact z
  have Y:(putK kvs k v).length<=Ui:=by have:=jW kvs k v;omega
  refine wpAny_setItem_heap (hsz:=hz) (Xl hu) (oW I.hok eb) U λh' a0 O=>h _ ?_;obtain⟨q,es,ep,hq,h2,F,V,_,h5⟩:=a0;refine sI I (by rw[e];exact V4) O ⟨q,hq⟩ ⟨Y,hd,_,(rel.put k eb Z).keeps λc ys ec=>?_,q,es,ep,hq,h2,F,V,h5⟩;rw[aK (Ay ec e (λz=>nomatch z))];exact ec
section
variable{X:Cx}{pins:List (Addr×Obj)}{σ:St}{H:Hp}{s:Shared}{a:Addr}{kvs:List (Key×V)}{k:Key}{u:Value}{A:Around}{E:Value->Shared->Prop}
theorem Do{Q:Unit->T7->Prop}(I:Inv X pins σ H s)(e:H a=some (.dK kvs))(J:RelV (kV k) u)(l:(jJ kvs k).isSome=true)(h:∀s',Inv X pins σ (upd H a (.dK (qb kvs k))) s'->Q () s') :
  wpAny (model X.prog X.w) A (delItem (.ref a) u) Q E s:=by
 obtain⟨z,hd,vs,rel,U⟩:=Fo I.hok e;refine wpAny_delItem_slot U.typeIs (by decide) aaT
  (Z8 aaT U.typeIs PySem.F.entry_dict_delitem (PySem.F.args_dict_delitem_2 _ _) (meets_dict_delitem_pairs (aR X.prog X.w) a (iW J)) ⟨vs,U,by rw[←rel.length];exact z,by rw[←(rel.val k).isSome_eq];exact l,λh' V O=>h _ ?_⟩)
 have N:∃q,h'.get? a=some q:=let⟨q,_,_,hq,_⟩:=V;⟨q,hq⟩;exact sI I (by rw[e];exact V4) O N (zQ (V2 (Iu kvs k) z) hd (rel.drop k) V)
theorem Q3{Q:Value->T7->Prop}(I:Inv X pins σ H s)(e:Rd H a (.dK kvs))(h:∀t s',Inv X pins σ H s'->Q (.int kvs.length t) s'):wpAny (model X.prog X.w) A (call (.builtin "len") [.ref a]) Q E s:=by
 obtain⟨z,hd,vs,rel,U⟩:=rD I.hok e;refine call_len_dict hd U (by rw[←rel.length];rw[abt]at z;omega) ?_;rw[←rel.length];exact h _ _ (I.tok _)
end
theorem yq{s:T7}(I:Inv X pins σ H s)(g:lU H a y o):s.TypeIs (.ref a) "dict":=by
 rcases g with⟨kvs,k,e,_,_⟩|⟨kvs,k,b,e,_,_,_⟩
 .obtain⟨_,_,vs,_,dd⟩:=rD I.hok e
  exact dd.typeIs
 .obtain⟨_,_,xs,_,dd⟩:=ug I.hok e
  exact dd.typeIs
def M5(td ty tv:TE)(rd:V->V->Hp->VK->Prop):TS:=λD σ H=>td σ H λx H1=>ty σ H1 λy H2=>∃a v,x= .ref a/\lU H2 a y (some v)/\
 tv σ H2 λJ N=>rd v J N λz F=>∃q,DY F a y z q/\D.nx σ q
def MT(td ty:TE):TS:=λD σ H=>td σ H λx H1=>ty σ H1 λy H2=>∃a kvs k,x= .ref a/\H2 a=some (.dK kvs)/\y=kV k/\(jJ kvs k).isSome=true/\D.nx σ (upd H2 a (.dK (qb kvs k)))
variable{i o:Expr}{td ty tv:TE}
theorem K_{op:aa0}{rd:V->V->Hp->VK->Prop}(hu:X.A.units+1<cLine)(O:PE X o td)(hi:PE X i ty)(U:PE X value tv)(a2:JM X op rd)
  (Y:∀ov iv new,augStore i ov iv new=(do Wu [new,ov,iv] (abD ov iv new);release [new,ov,iv] [];pure .next)):PS X (.AugAssign (.Subscript o i tpos) op value pos) (M5 td ty tv rd):=by
 intro pins s σ H D I h;refine wpAny_AugAssign_SubscriptAny (thn (O pins s σ H _ I h) λu Z ⟨x,H1,F,rx,q1⟩=>thn (hi pins Z σ H1 _ F q1) λiv N ⟨y,H2,I2,J,a,v,ex,g,q2⟩=>?_) Y;subst ex;obtain rfl:u=UL a:=rx;refine vA hu I2 g J λw' s3 I3 a0=>thn (U pins s3 σ H2 _ I3 q2) λw2 s4 ⟨y2,H3,I4,a1,q3⟩=>thn (a2 pins s4 σ H3 v y2 w' w2 _ I4 a0 a1 q3) λw3 s5 ⟨z,H4,I5,rz,q,g5,q4⟩=>?_;exact vY hu I5 g5 J rz λs6 I6=>⟨σ,q,I6,q4⟩
theorem J2(O:PE X o td)(hi:PE X i ty):PS X (.Delete [.Subscript o i tpos] pos) (MT td ty):=by
 intro pins s σ H D I h;refine wpAny_Delete (wpAny_deleteEach_cons (wpAny_delete_Subscript (thn (O pins s σ H _ I h) λu Z ⟨x,H1,F,rx,q1⟩=>thn (hi pins Z σ H1 _ F q1) λY N ⟨y,H2,z,J,a,kvs,k,ex,e,q,l,q2⟩=>?_)));subst ex q;obtain rfl:u=UL a:=rx;exact Do z e J l λU V=>wpAny_deleteEach_nil ⟨σ,_,V,q2⟩
theorem za(h:Heap)(U:XH<h.objs.size):cF P w H (h.push {cls:=.type "dict",data:=.dict #[]}) h.objs.size (.dK []):=
 ⟨XM _,WK.mpr (U3 (Ud U)),[],.nil,abm h⟩
def Pk:TE:=λ_ H Q=>∀p,H p=none->Q (.ref p) (upd H p (.dK []))
theorem Jc:PE X (.Dict [] [] pos) Pk:=λpins s σ H Q I h=>
 wpAny_Dict_empty ⟨.ref s.heap.objs.size,_,I.laid (a:=s.heap.objs.size) (o:=.dK []) (t':=s.toks) (λ_ _ q=>T8 _ q) (Uk _) (za s.heap I.big),rfl,h _ (I.hok.fresh (Uk _))⟩
variable{o:Option V}
theorem OD(O:A.units+1<cLine)(I:Inv X pins σ H s)(g:lU H a y o)(J:RelV y u)(h:∀Y s',Inv X pins σ H s'->RelV (o.getD .non) Y->Q Y s') :
  wpAny (model X.prog X.w) A (call (.builtin "dict.get") [.ref a,u]) Q E s:=by
 rcases g with⟨kvs,k,e,N,l⟩|⟨kvs,k,b,e,N,Z,l⟩
 .subst N
  obtain⟨z,hd,vs,rel,U⟩:=rD I.hok e;refine Z8 Xr U.typeIs Yi (abf _ _) (meets_dict_get (aR X.prog X.w) a (iW J) hd) ⟨_,U.mapOf,h _ _ (I.tok _) ?_⟩;rw[l];exact(rel.val k).getD rfl
 .subst N
  cases (show u=UL b from J);obtain⟨z,hd,xs,rel,U⟩:=ug I.hok e;refine Z8 Xr U.typeIs Yi (abf _ _) (meetsH_dict_get (ZS (aR X.prog X.w)) a b hd) ⟨Xl O,k,xs,oW I.hok Z,U,h _ _ (I.tok _) ?_⟩;rw[l];exact(rel.val k).getD rfl
variable{d:V}
theorem PL(O:A.units+1<cLine)(I:Inv X pins σ H s)(g:lU H a y o)(J:RelV y u)(rd:RelV d r)(h:∀Y s',Inv X pins σ H s'->RelV (o.getD d) Y->Q Y s') :
  wpAny (model X.prog X.w) A (call (.builtin "dict.get") [.ref a,u,r]) Q E s:=by
 rcases g with⟨kvs,k,e,N,l⟩|⟨kvs,k,b,e,N,Z,l⟩
 .subst N
  obtain⟨z,hd,vs,rel,U⟩:=rD I.hok e;refine Z8 Xr U.typeIs Yi (abg _ _ _) (meets_dict_get_default (aR X.prog X.w) a (iW J) hd r) ⟨_,U.mapOf,h _ _ (I.tok _) ?_⟩;rw[l];exact(rel.val k).getD rd
 .subst N
  cases (show u=UL b from J);obtain⟨z,hd,xs,rel,U⟩:=ug I.hok e;refine Z8 Xr U.typeIs Yi (abg _ _ _) (meetsH_dict_get_default (ZS (aR X.prog X.w)) a b hd r) ⟨Xl O,k,xs,oW I.hok Z,U,h _ _ (I.tok _) ?_⟩;rw[l];exact(rel.val k).getD rd
end L2
namespace Att
open PySem PySem.W PySem.Calls PyProof.Rows
variable{P:Params}
theorem rP:∀(ns:List Int)(vs:List Value),WellAll P h vs (ns.map WData.int)->aaX vs ns:=by
 intro ns
 induction ns with
 |nil=>
  intro vs w;rw[Vy]at w;cases w;exact .nil
 |cons n ns Z=>
  intro vs w;rw[Um]at w;cases w with
  |cons a b=>
   cases a;exact .cons _ _ (Z _ b)
variable{l:OpenLaw}
theorem Du(N:l.most=some n){args:List WData}{a0:List Value}
  (z:l.row.toRowW.claim.pre args=true) (a2:WellAll P h a0 args) :
  ∃a vs ns,a0=[UL a]/\args=[WData.list (ns.map WData.int)]/\h.get? a=some {cls:=.type "list",data:=.seq vs.toArray}/\aaX vs ns/\ns.length<=n:=by
 have a3:WShape.hasAll [] args [.list .int]=true:=(pre_splitW z).1;have J:l.pre.holds [] {args:=args}=true:=(pre_splitW z).2;obtain⟨d,r,rfl,h1,h2⟩:=hasAllW_cons a3;obtain rfl:=hasAllW_nil h2;obtain⟨xs,rfl,F⟩:=hasW_list h1;obtain⟨ns,rfl⟩:=items_int F;have U:ns.length<=n:=by
  unfold OpenLaw.pre at J;have V:(WTm.not (.lt (.lit (.int (n:Int))) (.len (.arg 0)))).holds [] {args:=[.list (ns.map .int)]}=true:=by
   have V:=(holds_andW J).1;rw[N]at V;exact V
  have Z:=condW_of V (w_not (w_lt w_lit (w_len_list (w_arg rfl))));rw[Ux]at Z;refine Nat.le_of_not_lt λq=>?_;have q':(n:Int)<((ns.length:Nat):Int):=by omega
  first
   |(rw[Yo q']at Z;exact absurd Z (by decide))
   |(simp at Z;omega)
 cases a2 with
 |cons Y w2=>
  cases w2;cases Y with
  |list O a1=>exact⟨_,_,ns,rfl,rfl,O,rP ns _ a1,U⟩
theorem Eg(l:OpenLaw)(args:List WData):l.row.toRowW.claim.post args (.bool true) args=true:=
 postW_of (r:=l.row.toRowW) (X:=(true==true))
  (show WShape.has [] (.bool true) .bool=true by first|rfl|decide|simp[WShape.has,WShape.arms,WShape.armsAll])
  (show(WTm.eq .res (.lit (.bool true))).value [] {args:=args,res:=some (.bool true),after:=args}=some (.bool (true==true))from w_eq_bool (w_res rfl) w_lit) rfl
theorem attach_call{q:U_}{a0:List Str}{d:DefRec}
  (N:l.most=some n) (a7:d.params.defaults=[])
  (call:∀(w:World)(s₀ J:T7)(mg mb:Str->Option Value)(fa:Addr)(o:Obj)(pm cd Z:Value)(a:Addr)(vs:List Value)(ns:List Int),
   Ground q a0 [] XP w s₀ mg mb J.heap->YP w J.heap->
   J.heap.get? fa=some o->o.data= .func (docDef d.name d.params d.body d.scope pm cd Z)->J.heap.CodeRec cd d.name->mg d.name=some (.ref fa)->
   J.heap.get? a=some {cls:=.type "list",data:=.seq vs.toArray}->aaX vs ns->ns.length<=n->J.gens= #[]->
   Wf (model l.prog w) aaZ (.call (.ref fa) ⟨[.ref a],[]⟩) (λr s'=>r= .ok (.ret (.bool true))/\OldK J.heap s'.heap/\s'.os=J.os/\ZV s'.gens) J) :
  WalkO q a0 XP YP l.row.toRowW d [] (λf vs=>acU f vs):=by
 intro w s₀ J mg mb G Y fa o pm cd Z dV kV O hd a4 hD a6 z args a9 as a2 a8 b0 a5 b1;obtain rfl:dV= .none:=Dflts.none hD a7;obtain rfl:kV= .none:=Dflts.noKw hD;obtain⟨a,vs,ns,rfl,rfl,a3,a1,U⟩:=Du N a2 a5;refine enter_call (WM (call w s₀ J mg mb fa o pm cd Z a vs ns G Y O (fd_plain hd) a4 a6 a3 a1 U z) λr s' hq=>?_);obtain⟨rfl,h2,F,h4⟩:=hq;exact⟨.inl ⟨.bool true,.bool true,[],rfl,λ_=>rfl,.bool true,Eg l _,λ_=>⟨List.Pairwise.nil,λ_ V=>(nomatch V)⟩⟩,h2,F,h4⟩
end Att
namespace L2
open PySem PySem.Spec PyProof.Rows
theorem jk:∀{vs:List Value}{ns:List Int},aaX vs ns->Vals (ns.map V.int) vs
 |_,_,.nil=>.nil
 |_,_,.cons n t h=>.cons ⟨t,rfl⟩ (jk h)
def Only(H:Hp):Prop:=∀b,H b=none∨∃o xs,H b=some (.frz o (.lst xs))
theorem Gp{P:U_}{K:Ub}{mb:Str->Option Value}{CX:CXT}{k:Nat}{fa:Addr}{sp:Sp}{J:T7}{vs:List Value}{ns:List Int}
  (KX:K.In J.heap) (O:J.heap.Ns Uv mg) (U:J.heap.Ns builtinsNs mb) (b1:∀x:Str,x≠"__name__"->mb x=W2 x) (a6:J.heap.NoLimit) (hg:J.gens= #[])
  (Y:J.heap.get? a=some {cls:=.type "list",data:=.seq vs.toArray}) (hi:aaX vs ns) (hl:ns.length<=Ui) (Z:fV k aaZ)
  (F:∀base:Heap,K.In base->base.Ns Uv mg->d8 P w K mg base CX k fa fd [x] sp) (a3:∀(s:T7)(u:Value),abE s fd ⟨[u],[]⟩ [(x,u)])
  (a8:∀H:Hp,Only H->SqL K H a (ns.map V.int)->sp [.ref a] H (λv _=>v= .bl true) λ_ _ _=>False)
  (b0:∀H e s',CX [] H J (λ_ _ _=>False) e s'->False) :
  Wf (model P w) aaZ (.call (.ref fa) ⟨[.ref a],[]⟩) (λr s'=>r= .ok (.ret (.bool true))/\OldK J.heap s'.heap/\s'.os=J.os/\ZV s'.gens) J:=by
 have rv:=jk hi;have a4:=hi.length;have a2:∀H:Hp,Only H->SqL K H a (ns.map V.int)->HOk P w H J.heap->(∀b,H b≠none->b=a)->(H a≠none->K.lookup a=none)->
   Wf (model P w) aaZ (.call (.ref fa) ⟨[.ref a],[]⟩) (λr s'=>r= .ok (.ret (.bool true))/\OldK J.heap s'.heap/\s'.os=J.os/\ZV s'.gens) J:=by
  intro H hO hS hok hA hK;have a0:∀{b:Addr}{o:Obj},J.heap.get? b=some o->H b=none->(xP J.heap H).get? b=some o:=λe n=>G4 e n;have a9:∀{b:Addr}{o:Obj}{es:Array DictEntry}{ep:Nat},J.heap.get? b=some o->o.data= .dict es ep->H b=none:=λ{b o es ep} e d=>by
   cases q:H b with
   |none=>rfl
   |some u=>
    have e':b=a:=hA b (by rw[q];simp);subst e';rw[Y]at e;cases e;have d':Data.seq vs.toArray _=Data.dict es ep:=d;cases d'
  have a1:∀{b:Addr}{m:Str->Option Value},J.heap.Ns b m->(xP J.heap H).Ns b m:=λ{b m}⟨o,es,ep,e,d,r⟩=>⟨o,es,ep,a0 e (a9 e d),d,r⟩;have a7:K.In (xP J.heap H):=λb o e=>a0 (KX b o e) (by
   cases q:H b with
   |none=>rfl
   |some u=>
    have e':b=a:=hA b (by rw[q];simp);subst e';rw[hK (by rw[q];simp)]at e;cases e)
  have hM:Mod K mg (xP J.heap H):=⟨a7,a1 O,⟨mb,a1 U,b1⟩,let⟨mc,h1,h2⟩:=a6;⟨mc,a1 h1,h2⟩⟩;have e0:zK P w K mg (xP J.heap H) aaZ [] J H:=⟨rfl,hM,λb o e=>Lw e,Nat.le_of_eq (Et _ _),trivial,λb U=>absurd (show b∈([]:List Addr)from U) (by simp),hok,.of_eq hg⟩;refine WM ((F _ a7 (a1 O)).run aaZ [] J H ⟨[.ref a],[]⟩ [.ref a] [.ref a] _ _ Z e0 (a3 J (.ref a)) (.cons rfl .nil) (a8 H hO hS)) λr s' h=>?_;cases r with
  |error e=>exact(b0 H e s' h).elim
  |ok fl=>
   cases fl with
   |next=>exact WQ h
   |brk=>exact WQ h
   |cont=>exact WQ h
   |ret u=>
    obtain⟨v,H',os,bare,un,a5,N,q⟩:=h;have q':v= .bl true:=q;subst q';obtain rfl:u=aaQ true:=N;refine⟨rfl,OldK.of_keep λb o e=>?_,os,bare⟩;cases q:H b with
    |none=>exact un.keep b o e q (by intro z;exact absurd (show b∈([]:List Addr)from z) (by simp)) (by simp)
    |some u=>
     rcases hO b with z|⟨ob,xs,z⟩
     .rw[q]at z;cases z
     .have z2:=un.frzs b ob _ z
      obtain⟨e1,_⟩:=hok b _ z;obtain⟨e2,_⟩:=a5 b _ z2;rw[e]at e1;cases e1;exact e2
 cases hk:K.lookup a with
 |some o=>
  have e:=KX a o hk;rw[Y]at e;cases e;refine a2 (λ_=>none) (λ_=>.inl rfl) (.inr ⟨_,vs.toArray,_,hk,rfl,rfl,rfl,by rw[List.size_toArray,a4];exact hl,by simpa using rv⟩) (λb u z=>by have z':(none:Option HO)=some u:=z;cases z') (λb z=>absurd rfl z) λz=>absurd rfl z
 |none=>
  refine a2 (λb=>if b=a then some (.frz {cls:=.type "list",data:=.seq vs.toArray} (.lst (ns.map V.int)))else none) (λb=>?_) (.inl (.inr ⟨{cls:=.type "list",data:=.seq vs.toArray},Uo rfl⟩)) (λb u z=>?_) (λb z=>?_) λ_=>hk
  .by_cases U:b=a
   .exact .inr ⟨_,_,Uo U⟩
   .exact .inl (Uq U)
  .by_cases U:b=a
   .have z':=(Uo U).symm.trans z
    cases z';subst U;exact⟨Y,by rw[Ux];exact hl,vs,_,rv,Y⟩
   .have z':=(Uq U).symm.trans z
    cases z'
  .by_cases U:b=a
   .exact U
   .exact absurd (Uq U) z
theorem walk_of{l:abn}{k:Nat}{q:U_}{a2:List Str}{d:DefRec}{K:Params->Ub}{CX:World->CXT}{sp:World->Sp}
  (N:l.most=some n) (a5:n<=Ui) (a7:d.params.defaults=[]) (Z:fV k aaZ)
  (hY:∀(w:World)(h:Heap),YP w h->(K w.params).In h)
  (F:∀(w:World)(mg:Str->Option Value)(fa:Addr)(h:Heap),(K w.params).In h->h.Ns Uv mg->mg d.name=some (.ref fa)->
   ∃fd:Vk,(∀(s:T7)(u:Value),abE s fd ⟨[u],[]⟩ [(x,u)])/\
    ∀base:Heap,(K w.params).In base->base.Ns Uv mg->d8 l.prog w (K w.params) mg base (CX w) k fa fd [x] (sp w))
  (a4:∀(w:World)(H:Hp)(a:Addr)(ns:List Int),ns.length<=n->Only H->SqL (K w.params) H a (ns.map V.int)->sp w [.ref a] H (λv _=>v= .bl true) λ_ _ _=>False)
  (a8:∀(w:World)(H:Hp)(s:T7)(e:Value)(s':T7),CX w [] H s (λ_ _ _=>False) e s'->False) :
  ac3 q a2 XP YP l.row.toRowW d [] (λf vs=>acU f vs):=by
 refine Att.attach_call N a7 λw s₀ J mg mb fa o pm cd a9 a vs ns G Y O hd b0 a6 a3 a1 a0 z=>?_;have KX:=hY w _ Y;obtain⟨fd,U,hF⟩:=F w mg fa _ KX G.T.g a6;exact Gp KX G.T.g G.T.b G.T.builtins G.T.nolimit z a3 a1 (V2 a0 a5) Z hF U (λH hO hS=>a4 w H a ns a0 hO hS) λH e s'=>a8 w H J e s'
def inClass(s:Stmt)(j:Nat):Stmt:=match s with
 |.ClassDef _ _ _ Y _ _ _ _ _ _ _=>Y.getD j (.Pass ⟨0,0,0,0⟩)
 |_=>.Pass ⟨0,0,0,0⟩
def bI(s:Stmt):Arguments:=match s with
 |.FunctionDef _ a _ _ _ _ _ _ _ _=>a
 |_=>{posonlyargs:=[],args:=[],vararg:=none,kwonlyargs:=[],kw_defaults:=[],kwarg:=none,defaults:=[]}
def bu(s:Stmt):List Stmt:=match s with
 |.FunctionDef _ _ b _ _ _ _ _ _ _=>b
 |_=>[]
def aB(s:Stmt):Scope:=match s with
 |.FunctionDef _ _ _ _ _ _ z _ _ _=>z
 |_=>{kind:=.function,names:=[],isGenerator:=false,isCoroutine:=false}
abbrev CX0:CXT:=λ_ _ _ _ _ _=>False
abbrev E0:XK:=λ_ _ _=>False
variable{X:Cx}
theorem Cj:uh CX0 X E0:=λ_ _ _ _ _ _ _ h=>h.elim
structure Fun(K:PySem.W.Frag)(x qual:Str)(st:Stmt)(f:Addr)(fd:FuncData):Prop where
 ex:∃(oc:Value)(od:Option Addr)(kV doc pm:Value)(an:Option Addr)(cdv ct:Value)(osl:Array (Option Value)),
  fd=Y7 x qual (bI st) (bu st) (aB st) .none kV doc pm an cdv ct/\K.lookup f=some ⟨oc,od,.func fd,osl⟩/\abF K cdv qual=true
 kp:Yl K (.ref f)=true
section
variable{P:Program}{w:World}{K:PySem.W.Frag}{mg:Str->Option Value}{base:Heap}
theorem Fun.ok{x z:Str}{st:Stmt}{f:Addr}{fd:Vk}{N ps:List Str}{k:Nat}{sp:Sp}(F:Fun K x z st f fd)(S:bJ N ps (aB st))(len:∀vs H Q E,sp vs H Q E->vs.length=ps.length)
  (Y:∀(O:Value)(A:Vu)(outer:List Env)(s:T7)(H:Hp)(vs:List V)(Q:VK)(E:XK),fV k (A.deeper (Zy z (aB st) s.heap.objs.size f O))->sp vs H Q E->
   ∃t,PSs (xW CX0 P w K mg base N z (aB st) f O A outer s H E).nox (bu st) t/\t {nx:=λ_ H'=>Q .non H',rt:=Q} (start N vs) H):d8 P w K mg base CX0 (k+1) f fd ps sp:=by
 obtain⟨oc,od,kV,a0,pm,an,O,ct,a1,rfl,lk,J⟩:=F.ex;refine Sv lk J S len λA outer s H vs Q E Z U=>?_;obtain⟨t,h,q⟩:=Y O A outer s H vs Q E Z U;exact⟨t,h.nox,q⟩
theorem Fun.binds{x z:Str}{st:Stmt}{f:Addr}{fd:Vk}{ps:List Str}(F:Fun K x z st f fd)
  (h:∀(kV Z N:Value)(U:Option Addr)(O ct:Value)(us:List Value),us.length=ps.length->bindArgs (Y7 x z (bI st) (bu st) (aB st) .none kV Z N U O ct) ⟨us,[]⟩=pure (ps.zip us)):Binds K fd ps []:=by
 obtain⟨oc,V,kV,Z,N,U,O,ct,q,rfl,lk,J⟩:=F.ex;exact .all (h kV Z N U O ct)
theorem du{x z:Str}{st:Stmt}{f:Addr}{oc:Value}{F U:Option Addr}{q:Array (Option Value)}{kV Z N O ct:Value}(l:K.lookup f=some ⟨oc,F,.func (Y7 x z (bI st) (bu st) (aB st) .none kV Z N U O ct),q⟩)
 (c:abF K O z=true) (k:Yl K (.ref f)=true):Fun K x z st f (Y7 x z (bI st) (bu st) (aB st) .none kV Z N U O ct):=⟨⟨oc,F,kV,Z,N,U,O,ct,q,rfl,l,c⟩,k⟩
end
theorem pv(i:Nat)(q:X.N[i]? =some x:=by rfl)(U:Vis X.env.scope x:=by first|exact Xe rfl|exact Wg (Xe rfl)|exact Wg (Wg rfl))(hd:(x==("__debug__":Str))=false:=by decide)
 (J:(x==("__classdict__":Str))=false:=by decide):PE X (.Name x pos) (Ep i):=Qm q U hd J
theorem uM{A B:Prop}(h:B):if false=true then A else B:=by
 rw[Uq Vs];exact h
theorem rQ{A B:Prop}(h:A):if true=true then A else B:=by
 rw[Uo rfl];exact h
def Same(H H':Hp):Prop:=∀b o,H b=some o->H' b=some o
theorem Same.refl(H:Hp):Same H H:=λ_ _ h=>h
theorem Same.trans{H H1 H2:Hp}(a:Same H H1)(b:Same H1 H2):Same H H2:=λc o h=>b c o (a c o h)
theorem Same.free{H H':Hp}(e:Same H H')(h:H' l=Option.none):H l=Option.none:=by
 cases q:H l with
 |none=>rfl
 |some o=>
  rw[e l o q]at h;cases h
theorem Es:eU X (.builtin "len") (λxs H Q=>∃a kvs,xs=[V.ref a]/\H a=some (.dK kvs)/\Q (.int kvs.length) H):=by
 intro pins s σ H xs us Q I r h;obtain⟨a,kvs,rfl,Y,q⟩:=h;obtain⟨u,rfl,F⟩:=vals1 r;cases F;exact Q3 I (.inl Y) λt s' O=>⟨.int kvs.length,H,O,⟨t,rfl⟩,q⟩
end L2
set_option maxHeartbeats 4000000
namespace Jb
open PySem PySem.Spec PyProof.Rows L2
structure Cal(P:Program)(w:World)(K:PySem.W.Frag)(mg:Str->Option Value)(base:Heap)(k:Nat)(x:Str)(ps:List Str)(sp:Sp):Prop where
 ex:∃f fd,d8 P w K mg base CX0 k f fd ps sp/\mg x=some (.ref f)/\Yl K (.ref f)=true/\Binds K fd ps []
variable{X:Cx}{t:TA}{p:Pos}{k:Nat}
theorem Gy{sp:Sp}(C:Cal X.prog X.w X.K X.mg X.base k x ps sp)(Z:fV k X.A)(z:Gl X x)(Y:PA X (e::es) t)
  (O:(x==("__debug__":Str))=false:=by decide) (N:Ul (e::es) X.env=(false,eval e X.env)::Ul es X.env:=by rfl) (J:(V3 pos (Ul es X.env)).any (·.1)=false:=by rfl) :
  PE X (.Call (.Name x p) (e::es) [] pos) (M8 sp [] E0 t):=by
 obtain⟨f,fd,F,V,q,U⟩:=C.ex;exact Lp F Z z V q U .nil Cj Y O N J
theorem RC{n:String}(z:Gl X x)(V:X.mg x=none)(U:W2 x=some (.type n))(N:x≠"__name__":=by decide)(hd:(x==("__debug__":Str))=false:=by decide):PE X (.Name x pos) (tC (.ty n)):=
 Js z V U rfl N hd
def RN(_ j:Int):Prop:=0<j/\j<18446744073709551616
theorem Gq:OpR X (V6 .FloorDiv) (rI RN λi j=>.int (i / j)):=opI λi j _ _ _ _ _ J q=>by
 have h1:(0:Int)<j:=J.1;have h2:j<18446744073709551616:=J.2;have F:j.natAbs<2 ^ 64:=by omega
 have V:j.natAbs≠0:=by omega
 have Z:j.natAbs.log2<64:=(Nat.log2_lt V).mpr F;exact floordiv_int (by omega) (by rw[Int.fdiv_eq_ediv_of_nonneg i (by omega)];exact q) (.inl (PyProof.noPylong_of_log2 (by omega)))
variable{b:Expr}
theorem zc:eU X (.builtin "isinstance") (λxs H Q=>∃x n t b,xs=[x,.ty n]/\lV X.K H x t/\aaf X.K t (.type n)=some b/\Q (.bl b) H):=by
 intro pins s σ H xs us Q I r h;obtain⟨x,n,t,b,rfl,ty,e,q⟩:=h;obtain⟨u,Y,rfl,J,z⟩:=vals2 r;cases z;exact DK I J ty e λtk=>⟨.bl b,H,I.tok tk,rfl,q⟩
variable{H:Hp}
theorem Same.new{q:Addr}{o:HO}(h:H q=none):Same H (L2.upd H q o):=λb u e=>by rw[aK (aP e h)];exact e
theorem zR{l:List α}{f:α->β->Sem (ForInStep β)}(g:β->α->β):∀(q:β),(∀x∈l,∀c,f x c=pure (.yield (g c x)))->forIn l q f=pure (l.foldl g q):=by
 induction l with
 |nil=>intro q _;rfl
 |cons x r Z=>
  intro q h;rw[List.forIn_cons,h x Vb q];show(pure (Xu (g q x)) >>=_)=_;rw[pure_bind];exact Z (g q x) λy O c=>h y (Ut _ O) c
def n_(env:Env)(q:List (Str×Addr))(y:Str×ZL):List (Str×Addr):=if y.2== .free then(y.1,(env.cells.lookup y.1).getD 0)::q else q
def oV(scope:Scope)(env:Env):List (Str×Addr):=scope.names.foldl (n_ env) []
theorem j7(h:∀y∈scope.names,y.2= .free->∃c,env.cells.lookup y.1=some c):closureFor scope env=pure (oV scope env):=by
 unfold closureFor;dsimp only;rw[zR (n_ env) [] λy O c=>?_]
 .rw[pure_bind]
  rfl
 .obtain⟨n,k⟩:=y
  unfold n_;dsimp only;by_cases q:(k==ab4)=true
  .rw[Uo q,Uo q]
   obtain⟨a,Y⟩:=h (n,k) O (by simpa using q);have Y:env.cells.lookup n=some a:=Y;unfold cellOf;rw[Y];rfl
  .rw[Uq q,Uq q]
theorem vM(R:Str->Addr->Prop):∀(l:List (Str×ZL))(V:List (Str×Addr)),(∀x c,V.lookup x=some c->R x c)->(∀y∈l,y.2= .free->R y.1 ((env.cells.lookup y.1).getD 0))->
  ∀x c,(l.foldl (n_ env) V).lookup x=some c->R x c
 |[],V,h,_=>h
 |y::r,V,h,hy=>by
  refine vM R r (n_ env V y) (λx c e=>?_) λz hz=>hy z (Ut _ hz);unfold n_ at e;split at e
  .rename_i hk
   rw[aa4]at e;cases F:(x==y.1)with
   |true=>
    rw[F]at e;have ex:x=y.1:=by simpa using F
    cases e;rw[ex];exact hy y Vb (by simpa using hk)
   |false=>
    rw[F]at e;exact h x c e
  .exact h x c e
theorem qu{env:Env}:∀(l:List (Str×ZL))(V:List (Str×Addr))(x:Str),((∃c,V.lookup x=some c)∨(x,ab4)∈l)->∃c,(l.foldl (n_ env) V).lookup x=some c
 |[],V,x,h=>by
  rcases h with h|h
  .exact h
  .cases h
 |y::r,V,x,h=>by
  refine qu r (n_ env V y) x ?_;rcases h with⟨c,h⟩|h
  .left
   unfold n_;split
   .rw[aa4]
    cases F:(x==y.1)with
    |true=>exact⟨_,rfl⟩
    |false=>exact⟨c,h⟩
   .exact⟨c,h⟩
  .rcases Uj.mp h with e|e
   .left
    unfold n_;subst e;rw[Uo (by rfl),aa4,show(x==x)=true by simp];exact⟨_,rfl⟩
   .exact .inr e
def bw(X:Cx)(N':List Str)(scope:Scope)(C:Addr)(Y:T7)(q:Hp)(fp:List Addr):Cx:=
 {X with N:=N',s₀:=Y,H₀:=q,env:=compEnvC scope (oV scope X.env) C X.env,outer:=X.stack,stack:=X.stack,ex:=fp,fn:=λ_=>false,pn:=[],xe:=λ_ _=>False}
def ig(cap:List (Option Nat))(σ:L2.St):L2.St:=cap.map λo=>o.bind λj=>(σ[j]?).bind id
structure dU(sc:Scope)(N N':List Str)(scope:Scope)(cap:List (Option Nat)):Prop where
 kind:scope.kind= .function
 nocell:∀y∈scope.names,y.2≠.cell
 nm:∀y∈scope.names,y.2= .local->scope.names.lookup y.1=some .local
 free:∀y∈scope.names,y.2= .free->sc.names.lookup y.1=some .cell∨sc.names.lookup y.1=some .free
 len:cap.length=N'.length
 cap:∀i∈V1 cap.length,∀j∈V1 N.length,cap[i]? =some (some j)->N[j]? =N'[i]?/\∀x∈N'[i]?,scope.names.lookup x=some .free
theorem mR{l:List (Str×α)}{k:α}(h:l.lookup x=some k):(x,k)∈l:=Xd h
theorem pI{k:ZL}(N:(relabel scope env).names.lookup x=some k)(F:k= .cell∨k= .free)(J:∀y∈scope.names,y.2≠.cell):(x,ab4)∈scope.names:=by
 have h:=mR N;obtain⟨⟨n,q⟩,V,e⟩:=Uw.mp h;dsimp only at e;split at e
 .rename_i hc
  cases e;have:q= .free:=by
   have:=(abV.mp (abV.mp hc).1).1;simpa using this
  subst this;exact V
 .cases e
  rcases F with z|z
  .subst z;exact absurd rfl (J _ V)
  .subst z;exact V
variable{σ:L2.St}{cap:List (Option Nat)}
theorem iQ(I:Inv X pins σ H s)(O:dU X.env.scope X.N N' scope cap){c:Addr}(h:(oV scope X.env).lookup x=some c):X.env.cells.lookup x=some c:=by
 refine vM (λx c=>X.env.cells.lookup x=some c) scope.names [] (λx c e=>by simp at e) (λy z q=>?_) x c h;obtain⟨c,e⟩:=I.ok.has y.1 (O.free y z q);rw[e];rfl
theorem Ls(I:Inv X pins σ H s)(O:dU X.env.scope X.N N' scope cap)(Z:∀b∈fp,j9 X pins H b)(J:∀b∈fp,b<s.heap.objs.size)(F:s.heap.objs.size<=C):(bw X N' scope C s H fp).Ok where
 mod:=I.ok.mod
 kind:=O.kind
 glob:=I.ok.glob
 blt:=I.ok.blt
 above:=F
 inj:=λx y c h1 h2=>I.ok.inj x y c (iQ I O h1) (iQ I O h2)
 has:=λx h=>by
  refine qu scope.names [] x (.inr ?_);rcases h with h|h
  .exact pI h (.inl rfl) O.nocell
  .exact pI h (.inr rfl) O.nocell
 cab:=λx c h _=>by cases h
 hd:=I.ok.hd
 frames:=I.ok.frames
 stk:=.inl rfl
 exf:=λb U=>⟨Ud (Us (J b U) F),λx c e=>(Z b U).2.2.2.2.1 x c (iQ I O e)⟩
 bs:=I.bs
 bsz:=V2 I.ok.bsz I.sz
 noex:=λb o e U=>by
  rcases(Z b U).2.2.2.1 with z|z
  .exact I.ok.noex b o e z
  .exact absurd (Us (Uc (I.ok.bs b o e).1) z) (Wa _)
 exfs:=λb U z=>by
  rcases Uj.mp (I.stkSub b z)with q|q
  .exact(Z b U).2.1 q
  .exact(Z b U).2.2.1 q
 funs:=I.stack
 frf:=I.stkFree
theorem yQ{a0:Heap}{D:Addr}(I:Inv X pins σ H s)(O:dU X.env.scope X.N N' scope cap)(Z:∀b∈fp,j9 X pins H b)(b1:∀b∈fp,b<s.heap.objs.size)
  (F:s.heap.objs.size<=C) (hD:s.heap.objs.size<=D) (b3:D≠C) (a1:∀b u,s.heap.get? b=some u->a0.get? b=some u) {m:Str->Option Value} (a9:a0.Ns C m) (b4:a0.get? D=some o) (b0:∀v,o.data≠.cell v) :
  Inv (bw X N' scope C s H fp) [(D,o)] (ig cap σ) H {s with heap:=a0,toks:=tk}where
 ok:=Ls I O Z b1 F
 os:=rfl
 bare:=I.bare
 base:=Un.kept a1
 loc:=by
  refine⟨m,a9,λi x v e1 e2 e3=>?_⟩;have e1:N'[i]? =some x:=e1;unfold ig at e2;rw[List.getElem?_map]at e2;cases J:cap[i]? with
  |none=>rw[J]at e2;cases e2
  |some q=>
   rw[J]at e2;cases q with
   |none=>cases e2
   |some j=>
    have e2:(σ[j]?).bind id=some v:=Vw e2;have a5:σ[j]? =some (some v):=by
     cases z:σ[j]? with
     |none=>rw[z]at e2;cases e2
     |some y=>
      rw[z]at e2;have:y=some v:=e2;rw[this]
    have hi:i<cap.length:=(List.getElem?_eq_some_iff.mp J).1;have hj:j<X.N.length:=by
     have:=(List.getElem?_eq_some_iff.mp a5).1;rw[I.len]at this;exact this
    obtain⟨c1,c2⟩:=O.cap i (Zg.mpr hi) j (Zg.mpr hj) J;have a7:scope.names.lookup x=some .free:=c2 x (by rw[e1];rfl);have hN:X.N[j]? =some x:=c1.trans e1;have a3:=mR a7;have a4:Vis X.env.scope x:=(O.free _ a3 rfl).elim (λz=>.inr (.inl z)) λz=>.inr (.inr z);obtain⟨m0,_,Y⟩:=I.loc;obtain⟨u,r,lk⟩:=Y j x v hN a5 a4;refine⟨u,r,?_⟩;rcases lk with⟨k,_⟩|⟨_,c,ec,a2⟩
    .have k:X.env.scope.names.lookup x=some .local:=k
     rcases O.free _ a3 rfl with z|z
     .rw[k]at z;cases z
     .rw[k]at z;cases z
    .right
     obtain⟨c',a6⟩:=qu (env:=X.env) scope.names [] x (.inr a3);have a8:=iQ I O a6;rw[ec]at a8;cases a8;refine⟨?_,c,a6,?_⟩
     .have e3:Vis (relabel scope X.env) x:=e3
      rcases e3 with e3|e3|e3
      .exfalso
       have hm:=mR e3;obtain⟨⟨n,q⟩,b2,e⟩:=Uw.mp hm;dsimp only at e;split at e
       .cases e
       .cases e
        have:=O.nm _ b2 rfl;rw[a7]at this;cases this
      .exact .inl e3
      .exact .inr e3
     .obtain⟨oc,h1,h2⟩:=a2
      exact⟨oc,a1 _ _ h1,h2⟩
 cell:=λx c e=>by
  obtain⟨v,oc,h1,h2⟩:=I.cell x c (iQ I O e);exact⟨v,oc,a1 _ _ h1,h2⟩
 free:=I.hok.fresh F
 freeC:=λx c e=>I.freeC x c (iQ I O e)
 pin:=λp V=>by
  have e:p=(D,o):=by simpa[bw]using V
  subst e;refine⟨b4,I.hok.fresh hD,b3,λz=>?_,b0⟩;obtain⟨b,U,e⟩:=aan.mp z;have hz:D∈X.env.locals::X.fs:=I.stkSub D z;rcases Uj.mp hz with q|q
  .exact absurd (Us (by rw[q];exact I.lt) hD) (Wa _)
  .exact I.nofs hD q
 hok:=I.hok.kept a1
 len:=by
  unfold ig;rw[Ux];exact O.len
abbrev NoX:Value->T7->Prop:=λ_ _=>False
variable{R:Result->Shared->Prop}
theorem xM{iter:Expr}{it V:Value}(I:Nat->T7->Prop)
  (F:∀n s,I n s->wpAny (model prog w) A (X3 it) (λr J=>match r with
   |none=>R (.ok .next) J
   |some v=>wpAny (model prog w) A (YZ target it v) (λ_ U=>wpAny (model prog w) A (YG target env v) (λ_ Y=>
    wpAny (model prog w) A (forIn ifs true λc r=>if r=true then do let ok ←abC c env (eval c env);pure (Xu ok)else pure (Xu r)) (λok z=>
     if ok=true then wpAny (model prog w) A (eval elt env) (λx O=>wpAny (model prog w) A (call (.builtin "list.append") [V,x]) (λ_ N=>∃m,m<n/\I m N) NoX O) NoX z
     else ∃m,m<n/\I m z) NoX Y) NoX U) NoX J) NoX s)
  (n:Nat) (h:I n s):Wf (model prog w) A (.compLoop (.ListComp elt [⟨target,iter,ifs,0⟩] scope pos) 0 it V env) R s:=by
 refine codeAny_loop rfl I (λn s hI=>?_) n h;show wpAny _ A ((compTurn (.ListComp elt [⟨target,iter,ifs,0⟩] scope pos) 0 it V env).onRaise (λx=>do noteFrame x env;theTreesLotGoes x)) _ _ s;refine wpAny_noted ?_;rw[compTurn_list];refine gD (Xw (gD (V9 (F n s hI) (λr J q=>?_) λ_ _ h'=>h'.elim)));cases r with
 |none=>exact yr q
 |some v=>
  refine gD (V9 q (λ_ U a0=>?_) λ_ _ h'=>h'.elim);refine gD (V9 a0 (λ_ Y a2=>gD (V9 a2 (λok z Z=>?_) λ_ _ h'=>h'.elim)) λ_ _ h'=>h'.elim);cases ok with
  |false=>exact yr ⟨rfl,Z⟩
  |true=>
   exact gD (gD (V9 Z (λx O a1=>gD (V9 a1 (λ_ N a3=>yr (yr ⟨rfl,a3⟩)) λ_ _ h'=>h'.elim)) λ_ _ h'=>h'.elim))
def PTs(X:Cx)(ifs:List Expr)(t:TT):Prop:=
 ∀(pins:List (Addr×Obj))(s:T7)(σ:L2.St)(H:Hp)(Q:Bool->Hp->Prop),Inv X pins σ H s->t σ H Q->
  wpAny (model X.prog X.w) X.A (forIn ifs true λc r=>if r=true then do let ok ←abC c X.env (eval c X.env);pure (Xu ok)else pure (Xu r)) (TP X pins σ Q) X.xe s
def R5:TT:=λ_ H Q=>Q true H
theorem Lh:PTs X [] R5:=λ_ _ _ H _ I h=>wpAny_tests_nil ⟨H,I,h⟩
theorem J7{t:TT}(h:PT X c t):PTs X [c] t:=λpins s σ H Q I q=>wpAny_tests_one (h pins s σ H Q I q)
def Kp(σ q:L2.St):Prop:=∀(i:Nat) v,σ[i]? =some (some v)->q[i]? =some (some v)
def Mr(J:It)(H:Hp)(g:TG)(tt:TT)(te:TE)(σ:L2.St)(Q:List V->Hp->Prop):Prop:=
 ∃W:Nat->Nat->List V->Hp->Prop,(∃m,W 0 m [] H)/\∀i m ys H,W i m ys H->
  (J.stop i H/\Q ys H)∨(J.go i H/\ys.length<Ui/\∃N:List V->Hp->Prop,(∀q H',N q H'->∃O,O<m/\W (i+1) O q H')/\
   ∀x H',J.yld i H x H'->g x σ H' λσ2 H2=>Kp σ σ2/\tt σ2 H2 λb z=>if b=true then te σ2 z λv F=>N (ys++[v]) F else N ys z)
def Gn(cap:List (Option Nat))(wi:TI)(g:TG)(tt:TT)(te:TE):TE:=λσ H Q=>wi σ H λJ H1=>
 Mr J H1 g tt te (ig cap σ) λys H2=>ys.length<=Ui/\∀D,H2 D=none->Q (.ref D) (upd H2 D (.lst ys))
section
variable{X:Cx}{elt target iter:Expr}{ifs:List Expr}{scope:Scope}{pos:Pos}{N':List Str}{cap:List (Option Nat)}{wi:TI}{g:TG}{tt:TT}{te:TE}
def lobj(its:List Value)(n:Nat):Obj:={cls:=.type "list",data:=.seq its.toArray n}
theorem tX{pins:List (Addr×Obj)}{σ:L2.St}{H:Hp}{Y:T7}{it:Addr}{fp:List Addr}{tn:Nat->Heap->Prop}{J:It}{Q:List V->Hp->Prop}{RR:Value->Addr->Z6->T7->Prop}{E:Value->T7->Prop}
  (hc:X.calm=true) (O:dU X.env.scope X.N N' scope cap) (I:Inv X pins σ H Y) (T:Turn X.prog X.w X.K target J fp it tn) (st:tn 0 Y.heap) (f2:∀b∈fp,j9 X pins H b)
  (hg:∀C,PG (bw X N' scope C Y H fp) target g) (ht:∀C,PTs (bw X N' scope C Y H fp) ifs tt) (he:∀C,PE (bw X N' scope C Y H fp) elt te) (cw:Mr J H g tt te (ig cap σ) Q)
  (c7:∀(D C:Addr)(s':T7)(H':Hp)(ys:List V)(its:List Value)(n:Nat)(a9:L2.St),Y.heap.objs.size<=D->Y.heap.objs.size<=C->D≠C->Inv (bw X N' scope C Y H fp) [(D,lobj its n)] a9 H' s'->Vals ys its->Q ys H'->
   RR (.ref D) C (.ok .next) s') :
  wpAny (model X.prog X.w) X.A (abH []) (λb6 b7=>wpAny (model X.prog X.w) X.A (newFunctionEnv scope X.env.globals (oV scope X.env) [] X.env.qual none .none (some X.env)) (λb2 c1=>
   Wf (model X.prog X.w) X.A (.compStart (.ListComp elt [⟨target,iter,ifs,0⟩] scope pos) 0 (.ref it) b6 {b2 with scope:=relabel scope X.env}) (RR b6 b2.locals) c1) E b7) E Y:=by
 refine Vf (abW O.nocell (by intro y hy;simp at hy) (λa2 a1 a0=>?_) O.kind);dsimp only at a1 a0⊢;generalize b3:Y.heap.push {cls:=.type "list",dict:=none,data:=.seq ([]:List Value).toArray}=H2 at a1 a0⊢;have hC:H2.objs.size=Y.heap.objs.size+1:=by rw[←b3,Ve]
 have a3:Y.heap.objs.size≠H2.objs.size:=by rw[hC];exact Ud (VM _)
 have a8:Y.heap.objs.size<=H2.objs.size:=by rw[hC];exact YM _
 have b9:∀b o,Y.heap.get? b=some o->a2.get? b=some o:=λb o e=>a0.extBut b o (by rw[hC];exact Ud (Vo (Uc e))) (T8 _ (b3▸T8 _ e));have b5:a2.get? Y.heap.objs.size=some (lobj [] 0):=a0.extBut _ _ a3 (T8 _ (b3▸Ue _ rfl));have b0:∀b∈fp,b<Y.heap.objs.size:=λb U=>by
  obtain⟨o,e,_⟩:=T.obj 0 _ st b U;exact Uc e
 have I1:=yQ (tk:=Y.toks+([]:List (Str×Value)).length) I O f2 b0 a8 (Uk _) a3 b9 a1 b5 (λv z=>by cases z);have b8:tn 0 a2:=T.keep _ _ _ st λb _ o e=>b9 b o e;obtain⟨W,⟨m0,w0⟩,c3⟩:=cw;generalize hD:Y.heap.objs.size=D at *
 generalize c9:H2.objs.size=C at *
 have a6:∀{H':Hp}{o:Obj},(∀b∈fp,H' b=none)->∀b∈fp,j9 (bw X N' scope C Y H fp) [(D,o)] H' b:=λ{H' o} hn b U=>by
  refine⟨hn b U,Ud (Us (b0 b U) a8),I1.ok.exfs b U,.inl U,(I1.ok.exf b U).2,λp hp=>?_⟩;have e:p=(D,o):=by simpa[bw]using hp
  subst e;exact Xk (b0 b U)
 have b1:Wf (model X.prog X.w) X.A (.compLoop (.ListComp elt [⟨target,iter,ifs,0⟩] scope pos) 0 (.ref it) (.ref D) (compEnvC scope (oV scope X.env) C X.env)) (RR (.ref D) C) {Y with heap:=a2,toks:=Y.toks+([]:List (Str×Value)).length}:=by
  refine xM (λn s'=>∃i ys its k H',Inv (bw X N' scope C Y H fp) [(D,lobj its k)] (ig cap σ) H' s'/\Vals ys its/\tn i s'.heap/\(∀b∈fp,H' b=none)/\W i n ys H') ?_ m0 ⟨0,[],[],0,H,I1,.nil,b8,λb U=>(f2 b U).1,w0⟩;rintro n s3 ⟨i,ys,its,k,H3,I3,rv,c4,c2,w3⟩;rcases c3 i n ys H3 w3 with⟨stop,qn⟩|⟨go,hsz,N,hN,step⟩
  .refine thn (T.done (bw X N' scope C Y H fp) rfl rfl rfl hc i _ s3 _ H3 NoX I3 (a6 c2) c4 stop) λr s4 ⟨Z,I4⟩=>?_
   subst Z;exact c7 D C s4 H3 ys its k _ (Uk _) a8 a3 I4 rv qn
  .refine thn (T.item (bw X N' scope C Y H fp) rfl rfl rfl hc i _ s3 _ H3 NoX I3 (a6 c2) c4 go) λr s4 ⟨u,Z,h4⟩=>?_
   subst Z;refine thn h4 λ_ s5 ⟨x,H5,I5,r5,y5,a4,c8⟩=>?_;have c6:=I5.pinned (a6 c8) (T.obj _ _ a4);refine thn (hg C _ s5 _ H5 x u _ c6 r5 (step x H5 y5)) λ_ s6 ⟨a5,H6,I6,c0,q6⟩=>?_;refine thn (ht C _ s6 a5 H6 _ I6 q6) λok s7 ⟨H7,I7,q7⟩=>?_;have a7:∀{s':T7}{H':Hp}{a9:L2.St},Inv (bw X N' scope C Y H fp) ([(D,lobj its k)]++j8 fp s5.heap) a9 H' s'->tn (i+1) s'.heap/\∀b∈fp,H' b=none:=λ{s' H' a9} Ix=>by
    refine⟨T.keep _ _ _ a4 λb U o e=>(Ix.pin (b,o) (T9 _ (T9 _ (dF U e)))).1,λb U=>?_⟩;obtain⟨o,e,d⟩:=T.obj _ _ a4 b U;exact(Ix.pin (b,o) (T9 _ (T9 _ (dF U e)))).2.1
   have b4:(ig cap σ).length=a5.length:=by rw[I6.len,I1.len]
   cases ok with
   |false=>
    have n7:N ys H7:=by simpa using q7
    obtain⟨m',hm,w7⟩:=hN _ _ n7;exact⟨m',hm,i+1,ys,its,k,H7,I7.unpinned.weak b4 c0,rv,(a7 I7).1,(a7 I7).2,w7⟩
   |true=>
    have q7:te a5 H7 λv H4=>N (ys++[v]) H4:=by simpa using q7
    refine thn (he C _ s7 a5 H7 _ I7 q7) λu8 s8 ⟨v,H8,I8,r8,n8⟩=>?_;obtain⟨eD,nD,_,c5,_⟩:=I8.pin (D,lobj its k) (T9 _ (Uh _ Vb));have lv:=rv.length;refine call_meets acr ⟨_,eD,rfl⟩ aca (abT _ _) (acF D its.toArray k u8 (by rw[List.size_toArray];omega)) ⟨eD,?_⟩;obtain⟨m',hm,w8⟩:=hN _ _ n8;obtain⟨k',eN⟩:∃k',(s8.heap.update D (Wm (·.push u8))).get? D=some (lobj (its++[u8]) k'):=by
     have q:=acR eD (·.push u8);dsimp only at q;rw[List.push_toArray]at q;exact⟨_,q⟩
    have I9:Inv (bw X N' scope C Y H fp) (j8 fp s5.heap) a5 H8 {s8 with heap:=s8.heap.update D (Wm (·.push u8))}:=by
     refine Inv.turned (it:=D) (t':=s8.toks) (I8.pins_of λp hp=>I8.pin p (T9 _ (T9 _ hp))) (λb o U e=>(Vv s8.heap (Wm _) (U3 U)).trans e) nD a3 (.inr (by rw[←hD];exact Uk _)) (λx c e z=>?_) (λp hp z=>?_)
     .obtain⟨vc,oc,h1,_⟩:=I.cell x c (iQ I O e)
      have hh:=Uc h1;rw[z,hD]at hh;exact Wa _ hh
     .have hp:p∈j8 fp s5.heap:=hp
      have hh:=b0 p.1 (qD hp).1;rw[z]at hh;exact Wa _ hh
    refine⟨m',hm,i+1,ys++[v],its++[u8],k',H8,(I9.weak b4 c0).pins_of (λp hp=>?_),rv.append (.cons r8 .nil),?_,λb U=>?_,w8⟩
    .have e:p=(D,lobj (its++[u8]) k'):=UG.mp hp
     rw[e];exact⟨eN,nD,a3,c5,λv z=>by cases z⟩
    .exact T.keep _ _ _ a4 λb U o e=>(I9.pin (b,o) (T9 _ (dF U e))).1
    .obtain⟨o,e,d⟩:=T.obj _ _ a4 b U
     exact(I9.pin (b,o) (T9 _ (dF U e))).2.1
 exact codeAny_compStart_list b1 (T.self _ 0 _ _ _ b8 b1)
theorem Mf(F:X.xe=NoX)(hc:X.calm=true)(O:dU X.env.scope X.N N' scope cap)(hi:PI X target iter wi)
  (hg:∀C Y H fp,PG (bw X N' scope C Y H fp) target g) (ht:∀C Y H fp,PTs (bw X N' scope C Y H fp) ifs tt) (he:∀C Y H fp,PE (bw X N' scope C Y H fp) elt te)
  (hs:∀x,Ww iter X.env x=pure x:=by intro _;rfl):PE X (.ListComp elt [⟨target,iter,ifs,0⟩] scope pos) (Gn cap wi g tt te):=by
 intro pins s σ H Q I h;rw[eval_ListComp];refine Y_ (use:=none) rfl hs (j7 λy hy hk=>I.ok.has y.1 (O.free y hy hk)) O.kind O.nm (thn (hi pins s σ H _ I h) λv Z h1=>thn h1 λa6 s2 h2=>?_);obtain⟨it,fp,tn,J,H2,e,I2,T,a3,f2,cw⟩:=h2;subst e;refine tX (RR:=λV C=>compPost (model X.prog X.w) X.A X.xe none (EP X pins σ Q) V C) hc O I2 T a3 f2 (λC=>hg C _ _ _) (λC=>ht C _ _ _) (λC=>he C _ _ _) cw ?_;intro D C s' H' ys its n a5 hD hC a2 I' rv q;obtain⟨hz,q⟩:=q;obtain⟨m,a1,_⟩:=I'.loc;refine⟨m,a1,λh' sb=>?_⟩;obtain⟨eD,nD,_,a4,_⟩:=I'.pin (D,lobj its n) (T9 _ Vb);have a0:Inv X pins σ (upd H' D (.lst ys)) {s' with heap:=h'}:=by
  refine I2.call' (ch:=fp) I'.os ?_ ?_ I'.bare (λb U=>⟨(f2 b U).2.2.2.1,(f2 b U).2.1,(f2 b U).2.2.2.2.1,(f2 b U).2.2.2.2.2⟩)
  .have ne:∀b o,s2.heap.get? b=some o->b≠C/\b≠D:=λb o e=>⟨Ud (Us (Uc e) hC),Ud (Us (Uc e) hD)⟩
   refine⟨λb o e n U he=>sb.extBut b o (ne b o e).1 (I'.base.keep b o e n U he),λb o e n U he=>?_,λb o e n he=>?_,λb o e he=>?_,λb xs e=>?_,λb o u e=>?_,λb ps e=>?_⟩
   .obtain⟨sl,e1⟩:=I'.base.slot b o e n U he
    exact⟨sl,sb.extBut b _ (ne b o e).1 e1⟩
   .rw[aK (ne b o e).2]
    exact I'.base.free b o e n he
   .obtain⟨o',e1⟩:=I'.base.there b o e he
    exact⟨o',sb.extBut b _ (ne b o e).1 e1⟩
   .have e1:=I'.base.tups b xs e
    rw[aK (aP e1 nD)];exact e1
   .have e1:=I'.base.frzs b o u e
    rw[aK (aP e1 nD)];exact e1
   .obtain⟨more,e1⟩:=I'.base.tbls b ps e
    refine⟨more,?_⟩;rw[aK (aP e1 nD)];exact e1
  .intro b u e
   by_cases U:b=D
   .subst U
    rw[aZ]at e;cases e;exact⟨hz,its,n,rv,sb.extBut _ _ a2 eD⟩
   .rw[aK U]at e
    have nC:∀b u,H' b=some u->b≠C:=λb u e z=>by
     have hf:H' C=none:=I'.free;rw[z,hf]at e;cases e
    refine(I'.hok b u e).stay (λc v hc q=>sb.extBut c v ?_ q) (λc q=>by rw[aK (aP q nD)];exact q) λc xs q=>by rw[aK (aP q nD)];exact q
    rcases hc with z|z
    .rw[z]
     exact nC b u e
    .exact nC c _ z
 exact⟨.ref D,_,a0,rfl,q D nD⟩
end
theorem Oz{x:V}{t:Value}(I:Inv X pins σ H s)(rx:RelV x u)(ty:lV X.K H x t):∃Hq,PySem.W.KitX X.K u t Hq/\Hq s.heap/\u≠.builtin "__main__.__loader__#opaque":=by
 cases ty with
 |non=>cases (show u=VB from rx);exact⟨_,acC,V4,λz=>nomatch z⟩
 |bl y=>cases (show u=aaQ y from rx);exact⟨_,acD,V4,λz=>nomatch z⟩
 |int i=>obtain⟨t,q⟩:=(show ∃t,u=V8 i t from rx);cases q;exact⟨_,acN,V4,λz=>nomatch z⟩
 |str y=>obtain⟨t,q⟩:=(show ∃t,u=Yv y t from rx);cases q;exact⟨_,acO,V4,λz=>nomatch z⟩
 |flt y=>obtain⟨t,q⟩:=(show ∃t,u=abq y t from rx);cases q;exact⟨_,acj,V4,λz=>nomatch z⟩
 |@lst a xs U=>
  cases (show u=UL a from rx);obtain⟨_,_,n,_,h1⟩:=(show cF X.prog X.w H s.heap a (.lst xs)from I.hok a _ U);exact⟨_,Zn,⟨_,h1,rfl⟩,λz=>nomatch z⟩
 |@frz a ob xs U=>
  cases (show u=UL a from rx);obtain⟨_,_,_,n,_,h1⟩:=(show cF X.prog X.w H s.heap a (.frz ob (.lst xs))from I.hok a _ U);exact⟨_,Zn,⟨_,h1,rfl⟩,λz=>nomatch z⟩
 |@tup a xs U=>
  cases (show u=UL a from rx);obtain⟨_,_,_,p⟩:=(show cF X.prog X.w H s.heap a (.tup xs)from I.hok a _ U);obtain⟨o,h1,h2,_⟩:=p;exact⟨_,ack,⟨o,h1,h2⟩,λz=>nomatch z⟩
 |@dK a kvs U=>
  cases (show u=UL a from rx);obtain⟨_,_,vs,_,p⟩:=(show cF X.prog X.w H s.heap a (.dK kvs)from I.hok a _ U);obtain⟨o,es,ep,h1,h2,_⟩:=p;exact⟨_,Zo,⟨o,h1,h2.1⟩,λz=>nomatch z⟩
 |@dT a kvs U=>
  cases (show u=UL a from rx);obtain⟨_,_,xs,_,o,es,ep,h1,h2,_⟩:=(show cF X.prog X.w H s.heap a (.dT kvs)from I.hok a _ U);exact⟨_,Zo,⟨o,h1,h2.1⟩,λz=>nomatch z⟩
 |@ins a C dx fs U cl Y N Z hm=>
  cases (show u=UL a from rx);obtain⟨mA,O,_⟩:=pA I.hok U;obtain⟨F,J,_⟩:=O.look;exact⟨_,acP (cl.get _) cl.hd Y N Z hm,J,λz=>nomatch z⟩
theorem BP:∀{z:List String}{us:List Value},Vals (z.map V.ty) us->us=z.map VP
 |[],_,.nil=>rfl
 |t::r,_,.cons h q=>by cases (show _=VP t from h);rw[BP q];rfl
theorem xK:eU X (.builtin "isinstance") (λxs H Q=>∃x tp z t b,xs=[x,.ref tp]/\H tp=some (.tup (Uz V.ty z))/\lV X.K H x t/\aah X.K t (z.map VP)=some b/\Q (.bl b) H):=by
 intro pins s σ H xs us Q I r h;obtain⟨x,tp,z,t,b,rfl,a0,ty,e,q⟩:=h;obtain⟨u,Y,rfl,J,r2⟩:=vals2 r;cases r2;obtain⟨O,Z,hz,N⟩:=Oz I J ty;obtain⟨_,its,rv,o,h1,h2,n,F,_⟩:=(show cF X.prog X.w H s.heap tp (.tup (z.map V.ty))from I.hok tp _ a0);rw[BP rv]at F;obtain⟨cls,U,data,sl⟩:=o;cases h2;cases F;exact PySem.W.kia_tup Z I.kIn hz h1 e N λtk=>⟨.bl b,H,I.tok tk,rfl,q⟩
inductive Dt where
 |non|bl (b:Bool)|int (i:Int)|str (x:Str)|lst (ds:List Dt)|tup (ds:List Dt)
mutual
noncomputable def eqD:Dt->Dt->Bool
 |.non,.non=>true
 |.bl a,.bl b=>a==b
 |.int a,.int b=>a==b
 |.bl a,.int b=>(if a then 1 else 0)==b
 |.int a,.bl b=>a==(if b then 1 else 0)
 |.str a,.str b=>a==b
 |.lst a,.lst b=>eqL a b
 |.tup a,.tup b=>eqL a b
 |_,_=>false
noncomputable def eqL:List Dt->List Dt->Bool
 |[],[]=>true
 |a::r,b::q=>eqD a b&&eqL r q
 |_,_=>false
end
mutual
noncomputable def Brs(K:Ub)(H:Hp):Dt->V->Prop
 |.non,v=>v= .non
 |.bl b,v=>v= .bl b
 |.int i,v=>v= .int i
 |.str x,v=>v= .str x
 |.lst ds,v=>∃a xs,v= .ref a/\SqL K H a xs/\jd K H ds xs
 |.tup ds,v=>∃a xs,v= .ref a/\SqT K H a xs/\jd K H ds xs
noncomputable def jd(K:Ub)(H:Hp):List Dt->List V->Prop
 |[],xs=>xs=[]
 |d::r,xs=>∃x ys,xs=x::ys/\Brs K H d x/\jd K H r ys
end
theorem jd.length{K:Ub}:∀{ds:List Dt}{xs:List V},jd K H ds xs->ds.length=xs.length
 |[],xs,h=>by
  have h:xs=[]:=by simpa[jd]using h
  rw[h];rfl
 |d::r,xs,h=>by
  obtain⟨x,ys,rfl,_,h⟩:=(by simpa[jd]using h:∃x ys,xs=x::ys/\Brs K H d x/\jd K H r ys);simp[jd.length h]
theorem wV:∀{ds es:List Dt},ds.length≠es.length->eqL ds es=false
 |[],[],h=>absurd rfl h
 |[],_::_,_=>by simp[eqL]
 |_::_,[],_=>by simp[eqL]
 |d::r,e::q,h=>by
  have:r.length≠q.length:=by simpa using h
  simp[eqL,wV this]
def eqJ(ds es:List Dt)(j:Nat):Bool:=eqD (ds.getD j .non) (es.getD j .non)
theorem xm:∀{ds es:List Dt},ds.length=es.length->(V1 ds.length).all (eqJ ds es)=eqL ds es
 |[],[],_=>by simp[eqL]
 |[],_::_,h=>by simp at h
 |_::_,[],h=>by simp at h
 |d::r,e::q,h=>by
  have h':r.length=q.length:=by simpa using h
  have Z:=xm h';rw[Uy,abx,YK,List.all_map,eqL];congr 1
theorem rJ{vl vs:Value}{lo hi st:Option Int}{Q:Int×Int×Nat->T7->Prop}(O:s.heap.IsSliceOf sl vl z vs)(pl:Ym vl lo)(J:Ym z hi)(ps:Ym vs st)(N:st.getD 1≠0)
  (h:Q ((VH lo hi (st.getD 1) (n:Int)).1,st.getD 1,VJ (VH lo hi (st.getD 1) (n:Int)).1 (VH lo hi (st.getD 1) (n:Int)).2 (st.getD 1)) s) :
  wpAny (model prog w) A (Xy (.ref sl) (pure (n:Int))) Q E s:=by
 obtain⟨os,q,F,Z⟩:=id O;unfold Xy;refine gD (gD (ZC q Z (x:=vl) rfl (gD (ZC q Z (x:=z) rfl (gD (ZC q Z (x:=vs) rfl (yr ?_)))))));refine gD (HT.slicePart_ ps ?_);have h1:(st.getD 1==0)=false:=by simpa using N
 simp only[h1,U0,VN,pure_bind];exact gD (HT.slicePart_ pl (gD (HT.slicePart_ J (yr h))))
def qW(xs:List α)(l st:Int)(k:Nat):List α:=(V1 k).filterMap λ(m:Nat)=>xs[(l+(m:Int)*st).toNat]?
theorem qy{t:Addr}{items:List Value}{vl vs:Value}{lo hi st:Option Int}(Y:IsTup s.heap t items.toArray)(O:s.heap.IsSliceOf sl vl z vs)(pl:Ym vl lo)(pu:Ym z hi)(ps:Ym vs st)(h0:st.getD 1≠0)
  {l h':Int} (U:VH lo hi (st.getD 1) (items.length:Int)=(l,h'))  (ek:VJ l h' (st.getD 1)=k)
  (V:(l=0/\st.getD 1=1/\k=items.length)->Q (.ref t) s)
  (N:¬(l=0/\st.getD 1=1/\k=items.length)->Q (.ref s.heap.objs.size) {s with heap:=s.heap.push {cls:=.type "tuple",data:=.seq (qW items l (st.getD 1) k).toArray}})
  (hsz:(qW items l (st.getD 1) k).length<=Ui):wpAny (model prog w) A (aag (.ref t) (.ref sl)) Q E s:=by
 have F:sizeOk (.seq (qW items l (st.getD 1) k).toArray):=by
  show(qW items l (st.getD 1) k).toArray.size<=Ui;rw[List.size_toArray];exact hsz
 obtain⟨os,q,a1,Z⟩:=id O;have a0:s.TypeIs (.ref sl) "slice":=⟨os,q,a1⟩;unfold aag
 try with_reducible refine U6 ?_
 first|refine gD (yr ?_)|skip
 refine gD (wpAny_sequenceKey Y.typeIs (by decide) ?_);refine gD (V0 (name:=Yn "__getitem__") Y.typeIs VV
  (YC VV Y.typeIs ab_ ?_ (args_tuple_getitem _ _)))
 show wpAny _ _ (aaB (.ref t) >>=_) _ _ s;refine gD (tupleItemsOf_ Y ?_);refine gD (X4 a0 ?_);rw[Uo (by decide)];rw[List.size_toArray];refine gD (rJ O pl pu ps h0 ?_);rw[U,ek];dsimp only;by_cases J:(l=0/\st.getD 1=1/\k=items.length)
 .rw[Uo (by simp[J])]
  refine gD ?_;unfold Builtin.Tuple.tupleIsExact;refine gD (X4 Y.typeIs (yr ?_));rw[Uo (by decide)];exact gD (W3 (yr ⟨_,rfl,yr (V J)⟩))
 .rw[Uq (by simpa using J)]
  have e:(List.filterMap (λ(k:Nat)=>items.toArray[(l+(k:Int)*st.getD 1).toNat]?) (V1 k)).toArray=(qW items l (st.getD 1) k).toArray:=by
   unfold qW;simp
  rw[e];exact gD (m:=W4 _) (Vf (yr ⟨_,rfl,yr (N J)⟩) F)
theorem Jg(xs:List α)(l st:Int)(k:Nat):(qW xs l st k).length<=k:=by
 unfold qW;have:=List.length_filterMap_le (λ(m:Nat)=>xs[(l+(m:Int)*st).toNat]?) (V1 k);rw[aaK]at this;exact this
def R9(K:Ub):V->Option Int->Option Int->Hp->VK->Prop:=λx lo hi H Q=>∃a xs,x= .ref a/\SqT K H a xs/\(uA xs lo hi=xs->Q (.ref a) H)/\∀p,H p=none->Q (.ref p) (upd H p (.tup (uA xs lo hi)))
theorem N_:SlR X (R9 X.K):=by
 intro pins s σ H x v vl z lo hi sl Q I rx O pl q h;obtain⟨a,xs,rfl,F,q1,q2⟩:=h;by_cases V:(HT.sIx xs.length 0 lo=0/\HT.sIx xs.length xs.length hi=xs.length)
 .have rx0:=rx
  cases rx;obtain⟨its,r,Y,hz⟩:=I.tuple F;have U:=r.length;refine⟨"tuple",_,VV.lookup,Y.typeIs,?_⟩;have e1:VH lo hi ((none:Option Int).getD 1) (its.length:Int)=(((0:Nat):Int),((xs.length:Nat):Int)):=by
   have e1:=HT.adjust_gen lo hi its.length;rw[←U,V.1,V.2]at e1;rw[←U];exact e1
  refine qy (items:=its) (st:=none) Y O pl q .none (by decide) e1 rfl (λ_=>?_) (λJ=>?_) ?_
  .refine⟨.ref a,H,I,rfl,q1 ?_⟩
   unfold uA;rw[V.1,V.2];simp
  .refine absurd ⟨rfl,rfl,?_⟩ J
   show VJ ((0:Nat):Int) ((xs.length:Nat):Int) 1=its.length;rw[HT.places_gen];omega
  .refine V2 (Jg _ _ _ _) ?_
   show VJ ((0:Nat):Int) ((xs.length:Nat):Int) 1<=Ui;rw[HT.places_gen];omega
 .exact O9 pins s σ H _ v vl z lo hi sl Q I rx O pl q ⟨a,xs,rfl,F,V,q2⟩
def Hx(K:Ub):R2:=λx y H Q=>∃a b xs ys,x= .ref a/\y= .ref b/\SqT K H a xs/\SqT K H b ys/\xs.length+ys.length<=Ui/\
 (xs=[]->Q (.ref b) H)/\(xs≠[]->ys=[]->Q (.ref a) H)/\(xs≠[]->ys≠[]->∀p,H p=none->Q (.ref p) (upd H p (.tup (xs++ys))))
theorem Fy:OpR X (V6 .Add) (Hx X.K):=by
 intro pins s σ H x y v u Q I rx ry h;obtain⟨a,b,xs,ys,rfl,rfl,Y,U,hz,q0,q1,q2⟩:=h;by_cases hx:xs=[]
 .cases rx
  cases ry;obtain⟨its,r1,p1,_⟩:=I.tuple Y;obtain⟨N,q,p2,_⟩:=I.tuple U;obtain⟨⟨cls,dd,data,sl⟩,O,J,n,hd⟩:=id p1;obtain⟨⟨a4,a1,a2,a3⟩,V,z,Z,a0⟩:=id p2;simp only at J hd z a0;subst J hd z a0;exact acp ⟨_,O,rfl⟩ ⟨_,V,rfl⟩ aa2 ab3 Zz Zj (Y8 _ _)
   (tuple_addW0 a b its.toArray N.toArray n Z dd a1 sl a3 (by rw[r1.nil_iff.mpr hx];rfl)) ⟨O,V,⟨.ref b,H,I,rfl,q0 hx⟩⟩
 .exact K5 pins s σ H _ _ v u Q I rx ry ⟨a,b,xs,ys,rfl,rfl,Y,U,hx,hz,q1 hx,q2 hx⟩
theorem zj{p:Addr}{o:HO}(I:Inv X pins σ H s)(Z:∀b∈fp,j9 X pins H b)(keep:∀b u,b∉fp->s.heap.get? b=some u->h'.get? b=some u)(V:s.heap.objs.size<=p)
  (new:cF X.prog X.w (upd H p o) h' p o):Inv X pins σ (upd H p o) {s with heap:=h',toks:=t'}:=by
 have N:H p=none:=I.hok.fresh V;have O:∀b u,H b=some u->b∉fp:=λb u e U=>by rw[(Z b U).1]at e;cases e
 have F:∀b u,s.heap.get? b=some u->b≠p:=λb u e=>Ud (Us (Uc e) V);refine I.step (g':=s.gens) (d':=s.drawn) (ch:=fp) (λb U=>⟨(Z b U).2.2.2.1,(Z b U).2.1,(Z b U).2.2.2.2.1,(Z b U).2.2.2.2.2⟩) (λb u _ _ J e _=>keep b u J e) (λb u _ _ J e _=>⟨u.slots,keep b u J e⟩)
  (λb u _ e n=>by rw[aK (F b u e)];exact n) (λb u J e=>⟨u,keep b u J e⟩) (λb xs e=>by rw[aK (aP e N)];exact e) (λb ob u e=>by rw[aK (aP e N)];exact e)
  (λb ps e=>⟨#[],by rw[aK (aP e N),e];simp⟩) (λm Y=>?_) (λb u e=>?_) I.bare
 .obtain⟨ob,es,ep,ho,r⟩:=Y
  exact⟨ob,es,ep,keep _ ob (λz=>(Z _ z).2.1 rfl) ho,r⟩
 .by_cases U:b=p
  .subst U
   rw[aZ]at e;cases e;exact new
  .rw[aK U]at e
   refine(I.hok b u e).stay (λc v J q=>keep c v ?_ q) (λc q=>by rw[aK (aP q N)];exact q) λc xs q=>by rw[aK (aP q N)];exact q
   rcases J with z|z
   .rw[z]
    exact O b u e
   .exact O c _ z
theorem nA(I:Inv X pins σ H s)(Z:∀b∈fp,j9 X pins H b)(keep:∀b u,b∉fp->s.heap.get? b=some u->h'.get? b=some u):Inv X pins σ H {s with heap:=h',toks:=t'}:=by
 have O:∀b u,H b=some u->b∉fp:=λb u e U=>by rw[(Z b U).1]at e;cases e
 refine I.step (g':=s.gens) (d':=s.drawn) (ch:=fp) (λb U=>⟨(Z b U).2.2.2.1,(Z b U).2.1,(Z b U).2.2.2.2.1,(Z b U).2.2.2.2.2⟩) (λb u _ _ J e _=>keep b u J e) (λb u _ _ J e _=>⟨u.slots,keep b u J e⟩)
  (λb u _ e n=>n) (λb u J e=>⟨u,keep b u J e⟩) (λb xs e=>e) (λb ob u e=>e) (λb ps e=>⟨#[],by rw[e];simp⟩) (λm V=>?_) (λb u e=>?_) I.bare
 .obtain⟨ob,es,ep,ho,r⟩:=V
  exact⟨ob,es,ep,keep _ ob (λz=>(Z _ z).2.1 rfl) ho,r⟩
 .refine(I.hok b u e).stay (λc v J q=>keep c v ?_ q) (λc q=>q) λc xs q=>q
  rcases J with z|z
  .rw[z]
   exact O b u e
  .exact O c _ z
def Ite(K:Ub)(a:Addr):It:=
 ⟨λi H=>∃xs x,SqL K H a xs/\xs[i]? =some x,λi H x H'=>∃p v,H p=none/\x= .ref p/\(∀xs,SqL K H a xs->xs[i]? =some v)/\H'=upd H p (.tup [.int i,v]),λi H=>∃xs,SqL K H a xs/\xs.length<=i⟩
theorem Dk{P:U_}{K:Ub}{x1}(a e it:Addr)(a3:e≠it) :
  Turn P w K (.Tuple elts x1 pos) (Ite K a) [e,it] e (λi h=>(∃V,IsEnum h e it (i:Int) V)/\h.IsListIter it a i)where
 mem:=by simp
 obj:=λi h st b U=>by
  obtain⟨⟨V,N⟩,o,O,c,d⟩:=st;rcases Uj.mp U with z|z
  .subst z
   exact⟨_,N,λv z=>by cases z⟩
  .have z:b=it:=by simpa using z
   subst z;exact⟨o,O,λv z=>by rw[d]at z;cases z⟩
 keep:=λi h h' st k=>by
  obtain⟨⟨V,N⟩,a0⟩:=st;exact⟨⟨V,k e (by simp) _ N⟩,a0.at λo q=>k it (by simp) o q⟩
 item:=by
  intro X hP hw hK J i pins s σ H E I Z st hg;subst hP hw hK;obtain⟨xs,x,hq,F⟩:=hg;obtain⟨its,rv,p,hz⟩:=I.list hq;obtain⟨u,hu,ru⟩:=rv.get F;obtain⟨⟨V,N⟩,a0⟩:=st;refine wpAny_pyNext_enum_item N a0 p.isList (x:=u) (by simpa using hu) a3 λh1 a9 a4 a8 b0 k1=>?_;refine⟨.ref s.heap.objs.size,rfl,aaC a9 λh2 a7 a1=>?_⟩;have a6:e<s.heap.objs.size:=Uc N;have a2:s.heap.objs.size≠e:=Xk a6;have a5:h2.get? s.heap.objs.size=some {cls:=.type "tuple",data:=.seq #[.int i s.toks,u]}:=a1.extBut _ _ a2 a8;have I2:Inv X pins σ (upd H s.heap.objs.size (.tup [.int i,x])) {s with heap:=h2,toks:=s.toks+1}:=by
   refine zj (fp:=[e,it]) (t':=s.toks+1) I Z (λb o U q=>?_) (Uk _) ?_
   .have n1:b≠e:=λz=>U (by simp[z])
    have n2:b≠it:=λz=>U (by simp[z]);exact a1.extBut b o n1 (k1 b o n1 n2 q)
   .exact⟨by show 2<=Ui;decide,[.int i s.toks,u],.cons ⟨_,rfl⟩ (.cons ru .nil),_,a5,rfl,_,rfl,rfl⟩
  refine⟨.ref s.heap.objs.size,upd H s.heap.objs.size (.tup [.int i,x]),I2,rfl,⟨_,x,I.hok.fresh (Uk _),rfl,λys hy=>by rw[I.list_inj hy hq];exact F,rfl⟩,?_,λb U=>?_⟩
  .refine⟨⟨u,?_⟩,a4.extBut a1.extBut (U3 a3)⟩
   have e1:(((i+1:Nat)):Int)=(i:Int)+1:=by omega
   rw[e1];exact a7
  .rw[aK]
   .exact(Z b U).1
   .intro z
    rw[z]at U;rcases Uj.mp U with q|q
    .exact a2 q
    .have q:s.heap.objs.size=it:=by simpa using q
     obtain⟨o,O,_⟩:=a0;exact absurd (Uc O) (by rw[q];exact Wa _)
 done:=by
  intro X hP hw hK J i pins s σ H E I Z st hg;subst hP hw hK;obtain⟨xs,hq,F⟩:=hg;obtain⟨its,rv,p,hz⟩:=I.list hq;obtain⟨⟨V,N⟩,a0⟩:=st;have Y:=rv.length;refine wpAny_pyNext_enum_end (I.ok.hd J) N a0 p.isList (by simp;omega) λh1 eb=>⟨rfl,?_⟩;exact nA (fp:=[e,it]) (t':=s.toks) I Z λb o U q=>eb b o (λz=>U (by simp[z])) q
 self:=λA i s Q E st h=>by
  obtain⟨⟨V,N⟩,_⟩:=st;exact Zr N h
end Jb
namespace PySem
theorem F.first_AttributeError:((Manifest.find? "AttributeError").elim false λt=>t.mro.contains "StopIteration"||t.mro.contains "SystemExit")=false:=by decide +kernel
theorem F.sub_AttributeError:isSubtype (.type "AttributeError") (.type "AttributeError")=pure true:=by rw[aai];kernel_rfl
section
variable{prog:Program}{w:World}{A:Around}{E:Value->Shared->Prop}
theorem rG{α:Type}{o:Value}{name a0:Str}{Q:α->T7->Prop}{h:Heap}{g:Array GenState}{d:Drawn}{t:Nat}{os:OsState}(z:A.handled=none)(V:a0.length<=Ui)
  (O:∀h' tk e,(∀b u,h.get? b=some u->h'.get? b=some u)->(∃oe,h'.get? e=some oe/\oe.cls= .type "AttributeError")->E (.ref e) ⟨h',g,d,tk,os⟩):wpAny (model prog w) A (raiseAttrError o name a0:Sem α) Q E ⟨h,g,d,t,os⟩:=by
 unfold raiseAttrError;refine gD (wpAny_mkStr (gD ?_) V);unfold newExc newTuple;refine gD (Vf ?_);refine gD (m:=Yp _ _) (XQ (a:=VB) (by simp only[Yp,F.first_AttributeError];rfl) ?_);refine Vf ?_;refine gD (wpAny_mkText (gD ?_));dsimp only;generalize a1:h.push {cls:=.type "tuple",dict:=none,data:=.seq [Yv a0 t].toArray}=H1;generalize Y:({cls:=.type "AttributeError",dict:=none,data:=.fields (#[.ref h.objs.size,.none,.none,.none,.bool false,.none]++ownMembersOf (.type "AttributeError") [Yv a0 t])}:Obj)=ob;have N:(H1.push ob).get? H1.objs.size=some ob:=Ue _ (by subst Y;rfl);have q:(⟨H1.push ob,g,d,t+1+1,os⟩:T7).TypeIs (.ref H1.objs.size) "AttributeError":=⟨_,N,by subst Y;rfl⟩;have f1:=F.sub_AttributeError;have a4:∀b u,h.get? b=some u->(H1.push ob).get? b=some u:=λb u e=>T8 _ (a1▸T8 _ e);have U:ob.cls= .type "AttributeError":=by subst Y;rfl
 obtain⟨vs,Z,a2,a3⟩:∃vs,ob.data= .fields vs/\vs[6]? =some unsetMember/\vs[7]? =some unsetMember:=by subst Y;exact⟨_,rfl,rfl,rfl⟩
 unfold noteAttr;dsimp only;refine gD ?_;unfold lacksNameAndObj;refine gD (X5 q f1 ?_);simp only[ab5,U0,VN];refine gD (Z5 N ?_);rw[Z];dsimp only;rw[a2,a3];show wpAny (model prog w) A (pure true) _ _ _;refine yr ?_;rw[Uo rfl];refine gD (W3 (gD (X4 q ?_)));dsimp only;unfold layMembers;refine gD (Z5 N ?_);rw[Z];dsimp only;refine wpAny_update N ?_;unfold raiseNew;refine gD (aaD ?_);rw[z];dsimp only;have J:h.objs.size<H1.objs.size:=by rw[←a1,Ve];exact VM _
 refine ZD (O _ _ _ (λb u e=>?_) ⟨_,Xp _ N (abI (aaq Z _)),(acG ..).trans U⟩);exact(Vv (H1.push ob) _ (U3 (Ud (Nat.lt_trans (Uc e) J)))).trans (a4 b u e)
theorem F.lk_list_keys:abS (.type "list") "keys"=pure none:=by rw[Z9,Yq];kernel_rfl
theorem F.lk_list_getattr:abS (.type "list") "__getattr__"=pure none:=by rw[Z9,Yq];kernel_rfl
variable{h:Heap}{g:Array GenState}{d:Drawn}{t:Nat}{os:OsState}{a:Addr}{items:Array Value}{n:Nat}
def zT(E:Value->T7->Prop)(h:Heap)(g:Array GenState)(d:Drawn)(os:OsState):Prop:=∀h' tk e,(∀b u,h.get? b=some u->h'.get? b=some u)->(∃U,h'.get? e=some U/\U.cls= .type "AttributeError")->E (.ref e) ⟨h',g,d,tk,os⟩
theorem rE{tk:Tok}{Q:Fin->T7->Prop}(z:A.handled=none)(N:h.get? a=some {cls:=.type "list",data:=.seq items n})(O:zT E h g d os) :
  wpAny (model prog w) A (Builtin.«object.__getattribute__» ⟨[.ref a,.str "keys" tk],[]⟩) Q E ⟨h,g,d,t,os⟩:=by
 have q:(⟨h,g,d,t,os⟩:T7).TypeIs (.ref a) "list":=⟨_,N,rfl⟩;have J:=F.lk_list_keys
 repeat(any_goals(first|assumption|wp_step))
 exact rG z (by decide +kernel) O
theorem uF{tk:Tok}{R:Z6->T7->Prop}(z:A.handled=none)(q:h.get? a=some {cls:=.type "list",data:=.seq items n})(O:zT (λe s=>R (.error e) s) h g d os) :
  Wf (model prog w) A (.call (.builtin "list.__getattribute__") ⟨[.ref a,.str "keys" tk],[]⟩) R ⟨h,g,d,t,os⟩:=
 VL X6.plain F.entry_list_ga (X6.check _ _ _ _ _ _ _ _ (show(⟨h,g,d,t,os⟩:T7).TypeIs (.ref a) "list" from⟨_,q,rfl⟩) (F.args_list_getattribute_2 _ _) (rE z q O))
theorem wJ{tk:Tok}{Q:Value->T7->Prop}(z:A.handled=none)(hx:h.get? a=some {cls:=.type "list",data:=.seq items n})(O:zT E h g d os):wpAny (model prog w) A (getAttrBy (.ref a) (.str "keys" tk) false) Q E ⟨h,g,d,t,os⟩:=by
 have hT:(⟨h,g,d,t,os⟩:T7).TypeIs (.ref a) "list":=⟨_,hx,rfl⟩;have q:=X6.lookup;have Y:=X6.bind (.ref a)
 repeat(any_goals(first|assumption|wp_step))
 refine uF z hx λh' J e V N=>?_;obtain⟨U,a1,Z⟩:=id N;have a0:(⟨h',g,d,J,os⟩:T7).TypeIs (.ref e) "AttributeError":=⟨U,a1,Z⟩;dsimp only;unfold getattributeRaised;refine gD (X5 a0 F.sub_AttributeError ?_);rw[Uo rfl];refine gD (XQ (show hookBehind (.type "list") none=pure none from F.lk_list_getattr) ?_);show wpAny (model prog w) A (abX (.ref a) (.str "keys" tk) (.ref e) false false) Q E ⟨h',g,d,J,os⟩;unfold abX;dsimp only;rw[Uo (show(!false)=true from rfl)]
 first|exact ZD (O h' J e V N)|exact gD (ZD (O h' J e V N))
theorem tO{Q:Option Value->T7->Prop}(z:A.handled=none)(hx:h.get? a=some {cls:=.type "list",data:=.seq items n})
  (O:∀h' tk,(∀b u,h.get? b=some u->h'.get? b=some u)->Q none ⟨h',g,d,tk,os⟩):wpAny (model prog w) A (getAttr? (.ref a) "keys") Q E ⟨h,g,d,t,os⟩:=by
 unfold getAttr? getAttrBy?;refine gD (wpAny_mkText (gD (ZK (wJ z hx λh' J e V N=>?_))));obtain⟨U,Y,Z⟩:=id N;have q:(⟨h',g,d,J,os⟩:T7).TypeIs (.ref e) "AttributeError":=⟨U,Y,Z⟩;dsimp only;refine gD (X5 q F.sub_AttributeError ?_);rw[Uo rfl];exact yr (O h' J V)
end
namespace F
theorem entry_dict_update_loop:entryFor table "dict.update.loop"=some Builtin.«dict.update.loop»:=entryFor_of_tree (by kernel_rfl)
theorem plain_dict_update_loop:plainId "dict.update.loop"=true:=by decide +kernel
end F
end PySem
namespace Jb
open PySem PySem.Spec PyProof.Rows L2
def putAll(kvs:List (Key×V))(prs:List (Key×V)):List (Key×V):=prs.foldl (λq N=>putK q N.1 N.2) kvs
variable{X:Cx}{σ:L2.St}
theorem Dy{D:Addr}{xs:List V}{prs:List (Key×V)}{R:Z6->T7->Prop}(hh:A.handled=none)(a1:prs.length=xs.length):∀(m i:Nat)(kvs:List (Key×V))(H:Hp)(s:T7),xs.length-i=m->i<=xs.length->
  Inv X pins σ H s->H D=some (.dK kvs)->SqL X.K H l xs->j9 X pins H it->s.heap.IsListIter it l i->(∀(j:Nat)(k:Key)(v:V),prs[j]? =some (k,v)->∃p:Addr,xs[j]? =some (V.ref p)/\H p=some (.tup [kV k,v]))->kvs.length+m<=100000->
  (∀s',Inv X pins σ (upd H D (.dK (putAll kvs (prs.drop i)))) s'->R (.ok (.ret .none)) s')->Wf (model X.prog X.w) A (.builtin "dict.update.loop" ⟨[.ref D,.ref it,V7 i,.none],[]⟩) R s:=by
 intro m
 induction m with
 |zero=>
  intro i kvs H s hm hi I hD O Z a0 hp hz k;have e:i=xs.length:=by omega
  subst e;obtain⟨its,rv,p,_⟩:=I.list O;have Y:=rv.length;refine Vp F.entry_dict_update_loop ?_;rw[Vi F.plain_dict_update_loop _];unfold Builtin.«dict.update.loop»;dsimp only;refine gD (Xo (show A.in1.handled=none from hh) a0 p.isList (by simp;omega) λh' eb=>?_);dsimp only;have I1:Inv X pins σ H {s with heap:=h'}:=nA (fp:=[it]) (t':=s.toks) I (λb U=>by rw[UG.mp U];exact Z) λb o U q=>eb b o (λz=>U (by simp[z])) q;have e1:prs.drop xs.length=[]:=by rw[←a1,Xg]
  have k1:=k _ (by
   rw[e1];show Inv X pins σ (upd H D (.dK kvs)) {s with heap:=h'};have:upd H D (.dK kvs)=H:=by
    funext b;unfold upd;split
    .rename_i z
     rw[z,hD]
    .rfl
   rw[this];exact I1)
  show wpAny (model X.prog X.w) A.in1 (Builtin.Dict.addKeywords D [] >>=λ_=>ret .none) _ _ _;exact gD (yr (yr k1))
 |succ m ih=>
  intro i kvs H s hm hi I hD O Z a0 hp hz k;have J:i<xs.length:=by omega
  obtain⟨its,rv,p,_⟩:=I.list O;have Y:=rv.length;have a3:i<prs.length:=by omega
  obtain⟨t,ht,hT⟩:=hp i prs[i].1 prs[i].2 (by rw[Ug a3]);obtain⟨u,hu,ru⟩:=rv.get ht;cases ru;refine Vp F.entry_dict_update_loop ?_;rw[Vi F.plain_dict_update_loop _];unfold Builtin.«dict.update.loop»;dsimp only;refine gD (Xh a0 p.isList (x:=.ref t) (by simpa using hu) λh1 a6 a9=>?_);dsimp only;have I1:Inv X pins σ H {s with heap:=h1}:=nA (fp:=[it]) (t':=s.toks) I (λb U=>by rw[UG.mp U];exact Z) λb o U q=>(a9.2 b (λz=>U (by simp[z]))).trans q;obtain⟨_,b4,rj,oj,ej,cj,nj,dj,_⟩:=(show cF X.prog X.w H h1 t (.tup [kV prs[i].1,prs[i].2])from I1.hok t _ hT);obtain⟨ku,vu,rfl,rk,a8⟩:=vals2 rj;have b0:(({s with heap:=h1}:T7)).TypeIs (.ref t) "tuple":=⟨oj,ej,cj⟩;refine gD (U6 (gD (Yr ?_)));unfold Builtin.Dict.pairItems;refine gD (X4 b0 ?_);rw[Uo (by decide)];refine gD (Ys ej dj (yr ?_));show wpAny (model X.prog X.w) A.in1 (Wu [ku,vu] (dictSet D ku vu)) _ _ _;obtain⟨z,hd,vs,rel,dd⟩:=Fo I1.hok hD;have b2:vs.length<=Ui:=by rw[←rel.length];exact z
  have b5:200000<=Ui:=by decide
  have b1:(putK kvs prs[i].1 prs[i].2).length<=Ui:=by have:=jW kvs prs[i].1 prs[i].2;omega
  refine U6 (acb (hsz:=b2) (iW rk) dd λh2 a4 a5=>?_);have I2:Inv X pins σ (upd H D (.dK (putK kvs prs[i].1 prs[i].2))) {s with heap:=h2,toks:=s.toks+1}:=by
   have N:∃q,h2.get? D=some q:=let⟨q,_,_,O,_⟩:=a4;⟨q,O⟩;exact sI (s:=({s with heap:=h1}:T7)) (t':=s.toks+1) I1 (by rw[hD];exact V4) a5 N (zQ b1 hd (rel.put prs[i].1 a8) a4)
  have a7:∀p ys,H p=some (.tup ys)->p≠D:=λp ys e=>Ay e hD (by intro z;cases z);have a2:it≠D:=λz=>by have:=Z.1;rw[z,hD]at this;cases this
  show wpAny (model X.prog X.w) A.in1 (again (.builtin "dict.update.loop" ⟨[.ref D,.ref it,V7 ((i:Int)+1),.none],[]⟩)) _ _ _;refine yr ⟨Wb F.plain_dict_update_loop _,?_⟩;have ei:((i:Int)+1)=((i+1:Nat):Int):=by omega
  rw[ei];have b3:=jW kvs prs[i].1 prs[i].2;refine ih (i+1) (putK kvs prs[i].1 prs[i].2) _ _ (by omega) J I2 aZ ?_ ?_ (a6.extBut a5.extBut a2) ?_ (by omega) (λs' I'=>k s' ?_)
  .rcases O with(O|⟨o,O⟩)|O
   .exact .inl (.inl (by rw[aK (Ay O hD (by intro z;cases z))];exact O))
   .exact .inl (.inr ⟨o,by rw[aK (Ay O hD (by intro z;cases z))];exact O⟩)
   .exact .inr O
  .exact⟨by rw[aK a2];exact Z.1,Z.2⟩
  .intro j kk vv e
   obtain⟨p,h1,h2⟩:=hp j kk vv e;exact⟨p,h1,by rw[aK (a7 p _ h2)];exact h2⟩
  .rw[Bv]at I'
   rw[Wo a3];exact I'
theorem rR(J:X.calm=true):eU X (.type "dict") (λxs H Q=>∃l ys prs,xs=[.ref l]/\H l=some (.lst ys)/\WX prs=WX ys/\WX prs<=50000/\
  (∀(j:Nat)(k:Key)(v:V),prs[j]? =some (k,v)->∃p:Addr,ys[j]? =some (V.ref p)/\H p=some (.tup [kV k,v]))/\∀D,H D=none->Q (.ref D) (upd H D (.dK (putAll [] prs)))):=by
 intro pins s σ H xs us Q I r h;obtain⟨l,ys,prs,rfl,Y,U,hsz,hp,q⟩:=h;obtain⟨u,rfl,ru⟩:=vals1 r;cases ru;have hh:X.A.handled=none:=I.ok.hd J;refine callType_codes (Q₁:=λobj a2=>obj= .ref s.heap.objs.size/\a2={s with heap:=s.heap.push {cls:=.type "dict",data:=.dict #[]}}) F.kt_called_dict (F.kt_typeCall_dict_1 _) F.entry_dict_init (kt_code_dict_new _ ⟨rfl,rfl⟩) ?_;rintro obj a2 ⟨rfl,rfl⟩;have a3:H s.heap.objs.size=none:=I.fresh;have I1:Inv X pins σ (upd H s.heap.objs.size (.dK [])) {s with heap:=s.heap.push {cls:=.type "dict",data:=.dict #[]}}:=I.laid (t':=s.toks) (λ_ _ z=>T8 _ z) (Uk _) (za s.heap I.big);have a1:(s.heap.push {cls:=.type "dict",data:=.dict #[]}).DictOf (aR X.prog X.w) s.heap.objs.size []:=abm s.heap;have nl:l≠s.heap.objs.size:=aP Y a3;have a4:(upd H s.heap.objs.size (.dK [])) l=some (.lst ys):=by rw[aK nl];exact Y
 obtain⟨_,its,n,Z,el⟩:=(show cF X.prog X.w _ _ l (.lst ys)from I1.hok l _ a4);have a7:({s with heap:=s.heap.push {cls:=.type "dict",data:=.dict #[]}}:T7).TypeIs (.ref l) "list":=⟨_,el,rfl⟩;refine⟨a1.typeIs,F.args_dict_init_2 _ _,?_⟩;unfold Builtin.«dict.__init__»;refine gD ?_;unfold Builtin.Dict.selfAndRest;refine gD (wpAny_notOrdered_dict a1.typeIs ?_);show wpAny _ _ (pure (s.heap.objs.size,[UL l])) _ _ _;refine yr ?_;show wpAny _ _ (abh "dict.__init__" s.heap.objs.size (.ref l) [] .none) _ _ _;unfold abh;refine gD (X4 a7 ?_);rw[Uo (by decide)];refine gD (tO (show X.A.in1.in1.handled=none from hh) el λh2 a0 a5=>?_);rw[Uo (by rfl)];have I2:Inv X pins σ (upd H s.heap.objs.size (.dK [])) {s with heap:=h2,toks:=a0}:=I1.kept (t':=a0) a5;obtain⟨N,a8,p2,_⟩:=I2.list (SqL.of a4);refine gD (W3 (gD (Wx p2.isList ?_)));have I3:Inv X pins σ (upd H s.heap.objs.size (.dK [])) {s with heap:=h2.push {cls:=.type "list_iterator",data:=.fields #[.ref l,.int 0 0]},toks:=a0}:=I2.kept (t':=a0) λb o e=>T8 _ e;have a6:j9 X pins (upd H s.heap.objs.size (.dK [])) h2.objs.size:=I2.fpOk (Uk _) (I2.hok.fresh (Uk _));refine yr ⟨Wb F.plain_dict_update_loop _,?_⟩;refine Dy (A:=X.A.in1) (l:=l) (xs:=ys) (prs:=prs) hh U ys.length 0 [] _ _ rfl (XM _) I3 aZ (SqL.of a4) a6 ⟨_,Ue _ rfl,rfl,rfl⟩ ?_ (by simp;omega) λs' O=>?_
 .intro j k v e
  obtain⟨p,h1,h2⟩:=hp j k v e;exact⟨p,h1,by rw[aK (aP h2 a3)];exact h2⟩
 .rw[Bv,Yt]at O
  exact⟨rfl,.ref _,_,O,rfl,q _ a3⟩
variable{R:Result->Shared->Prop}
theorem uV{kx vx iter:Expr}{it:Value}{D:Addr}(I:Nat->T7->Prop)
  (F:∀n s,I n s->wpAny (model prog w) A (X3 it) (λr J=>match r with
   |none=>R (.ok .next) J
   |some v=>wpAny (model prog w) A (YZ target it v) (λ_ U=>wpAny (model prog w) A (YG target env v) (λ_ Y=>
    wpAny (model prog w) A (forIn ifs true λc r=>if r=true then do let ok ←abC c env (eval c env);pure (Xu ok)else pure (Xu r)) (λok z=>
     if ok=true then wpAny (model prog w) A (eval kx env) (λN O=>wpAny (model prog w) A (eval vx env) (λvv a0=>wpAny (model prog w) A (dictSet D N vv) (λ_ a1=>∃m,m<n/\I m a1) NoX a0) NoX O) NoX z
     else ∃m,m<n/\I m z) NoX Y) NoX U) NoX J) NoX s)
  (n:Nat) (h:I n s):Wf (model prog w) A (.compLoop (.DictComp kx vx [⟨target,iter,ifs,0⟩] scope pos) 0 it (.ref D) env) R s:=by
 refine codeAny_loop rfl I (λn s V=>?_) n h;show wpAny _ A ((compTurn (.DictComp kx vx [⟨target,iter,ifs,0⟩] scope pos) 0 it (.ref D) env).onRaise (λx=>do noteFrame x env;theTreesLotGoes x)) _ _ s;refine wpAny_noted ?_;rw[compTurn_dict];refine gD (Xw (gD (V9 (F n s V) (λr J q=>?_) λ_ _ h'=>h'.elim)));cases r with
 |none=>exact yr q
 |some v=>
  refine gD (V9 q (λ_ U a2=>?_) λ_ _ h'=>h'.elim);refine gD (V9 a2 (λ_ Y a4=>gD (V9 a4 (λok z Z=>?_) λ_ _ h'=>h'.elim)) λ_ _ h'=>h'.elim);cases ok with
  |false=>exact yr ⟨rfl,Z⟩
  |true=>
   exact gD (gD (V9 Z (λN O a3=>gD (U6 (V9 a3 (λvv a0 a5=>gD (Xw (U6 (V9 a5 (λ_ a1 a6=>yr ⟨rfl,a6⟩) λ_ _ h'=>h'.elim)))) λ_ _ h'=>h'.elim))) λ_ _ h'=>h'.elim))
def Io(J:It)(H:Hp)(g:TG)(tt:TT)(tk tv:TE)(σ:L2.St)(Q:List (Key×V)->Hp->Prop):Prop:=
 ∃W:Nat->Nat->List (Key×V)->Hp->Prop,(∃m,W 0 m [] H)/\∀i m ys H,W i m ys H->
  (J.stop i H/\Q ys H)∨(J.go i H/\ys.length<Ui/\∃N:List (Key×V)->Hp->Prop,(∀q H',N q H'->∃O,O<m/\W (i+1) O q H')/\
   ∀x H',J.yld i H x H'->g x σ H' λσ2 H2=>Kp σ σ2/\tt σ2 H2 λb z=>if b=true then tk σ2 z λx F=>∃k,x=kV k/\tv σ2 F λv U=>N (putK ys k v) U else N ys z)
def GD(cap:List (Option Nat))(wi:TI)(g:TG)(tt:TT)(tk tv:TE):TE:=λσ H Q=>wi σ H λJ H1=>
 Io J H1 g tt tk tv (ig cap σ) λys H2=>ys.length<=Ui/\∀D,H2 D=none->Q (.ref D) (upd H2 D (.dK ys))
section
variable{X:Cx}{kx vx target iter:Expr}{ifs:List Expr}{scope:Scope}{pos:Pos}{N':List Str}{cap:List (Option Nat)}{wi:TI}{g:TG}{tt:TT}{tk tv:TE}
structure DO(P:Program)(w:World)(vs:List (Key×Value))(o:Obj):Prop where
 ex:o.ExactDict
 es:∃es ep,o.data= .dict es ep/\KeysOf (aR P w) es/\Pairs (aR P w) es.toList vs/\(vs.map (·.1)).Nodup
theorem DO.at{P:U_}{w:World}{vs:List (Key×Value)}{o:Obj}(d:DO P w vs o){h:Heap}{a:Addr}(e:h.get? a=some o):h.DictOf (aR P w) a vs:=let⟨es,ep,h1,h2,h3,h4⟩:=d.es;⟨o,es,ep,e,d.ex,h1,h2,h3,h4⟩
theorem DO.of{P:U_}{w:World}{vs:List (Key×Value)}{h:Heap}{a:Addr}(d:h.DictOf (aR P w) a vs):∃o,h.get? a=some o/\DO P w vs o:=let⟨o,es,ep,e,x,h1,h2,h3,h4⟩:=d;⟨o,e,⟨x,es,ep,h1,h2,h3,h4⟩⟩
theorem DO.nc{P:U_}{w:World}{vs:List (Key×Value)}{o:Obj}(d:DO P w vs o):∀v,o.data≠.cell v:=λv z=>by
 obtain⟨es,ep,h1,_⟩:=d.es;rw[h1]at z;cases z
theorem yj{pins:List (Addr×Obj)}{σ:L2.St}{H:Hp}{Y:T7}{it:Addr}{fp:List Addr}{tn:Nat->Heap->Prop}{J:It}{Q:List (Key×V)->Hp->Prop}{RR:Value->Addr->Z6->T7->Prop}{E:Value->T7->Prop}
  (hc:X.calm=true) (O:dU X.env.scope X.N N' scope cap) (I:Inv X pins σ H Y) (T:Turn X.prog X.w X.K target J fp it tn) (st:tn 0 Y.heap) (f2:∀b∈fp,j9 X pins H b)
  (hg:∀C,PG (bw X N' scope C Y H fp) target g) (ht:∀C,PTs (bw X N' scope C Y H fp) ifs tt) (q:∀C,PE (bw X N' scope C Y H fp) kx tk) (he:∀C,PE (bw X N' scope C Y H fp) vx tv) (cw:Io J H g tt tk tv (ig cap σ) Q)
  (d2:∀(D C:Addr)(s':T7)(H':Hp)(ys:List (Key×V))(its:List (Key×Value))(o:Obj)(F:L2.St),Y.heap.objs.size<=D->Y.heap.objs.size<=C->D≠C->Inv (bw X N' scope C Y H fp) [(D,o)] F H' s'->KV ys its->DO X.prog X.w its o->Q ys H'->
   RR (.ref D) C (.ok .next) s') :
  wpAny (model X.prog X.w) X.A newDict (λb5 b6=>wpAny (model X.prog X.w) X.A (newFunctionEnv scope X.env.globals (oV scope X.env) [] X.env.qual none .none (some X.env)) (λb1 c1=>
   Wf (model X.prog X.w) X.A (.compStart (.DictComp kx vx [⟨target,iter,ifs,0⟩] scope pos) 0 (.ref it) b5 {b1 with scope:=relabel scope X.env}) (RR b5 b1.locals) c1) E b6) E Y:=by
 refine Vf (abW O.nocell (by intro y hy;simp at hy) (λa3 a1 a0=>?_) O.kind);dsimp only at a1 a0⊢;generalize b2:Y.heap.push {cls:=.type "dict",dict:=none,data:=.dict #[]}=H2 at a1 a0⊢;have hC:H2.objs.size=Y.heap.objs.size+1:=by rw[←b2,Ve]
 have a4:Y.heap.objs.size≠H2.objs.size:=by rw[hC];exact Ud (VM _)
 have a8:Y.heap.objs.size<=H2.objs.size:=by rw[hC];exact YM _
 have b9:∀b o,Y.heap.get? b=some o->a3.get? b=some o:=λb o e=>a0.extBut b o (by rw[hC];exact Ud (Vo (Uc e))) (T8 _ (b2▸T8 _ e));have c3:H2.DictOf (aR X.prog X.w) Y.heap.objs.size []:=b2▸abm Y.heap;obtain⟨o0,d8,b7⟩:=DO.of c3;have b4:a3.get? Y.heap.objs.size=some o0:=a0.extBut _ _ a4 (T8 _ d8);have a9:∀b∈fp,b<Y.heap.objs.size:=λb U=>by
  obtain⟨o,e,_⟩:=T.obj 0 _ st b U;exact Uc e
 have I1:=yQ (tk:=Y.toks+([]:List (Str×Value)).length) I O f2 a9 a8 (Uk _) a4 b9 a1 b4 b7.nc;have b8:tn 0 a3:=T.keep _ _ _ st λb _ o e=>b9 b o e;obtain⟨W,⟨m0,w0⟩,c4⟩:=cw;generalize hD:Y.heap.objs.size=D at *
 generalize d9:H2.objs.size=C at *
 have a6:∀{H':Hp}{o:Obj},(∀b∈fp,H' b=none)->∀b∈fp,j9 (bw X N' scope C Y H fp) [(D,o)] H' b:=λ{H' o} hn b U=>by
  refine⟨hn b U,Ud (Us (a9 b U) a8),I1.ok.exfs b U,.inl U,(I1.ok.exf b U).2,λp hp=>?_⟩;have e:p=(D,o):=by simpa[bw]using hp
  subst e;exact Xk (a9 b U)
 have b0:Wf (model X.prog X.w) X.A (.compLoop (.DictComp kx vx [⟨target,iter,ifs,0⟩] scope pos) 0 (.ref it) (.ref D) (compEnvC scope (oV scope X.env) C X.env)) (RR (.ref D) C) {Y with heap:=a3,toks:=Y.toks+([]:List (Str×Value)).length}:=by
  refine uV (λn s'=>∃i ys its k H',Inv (bw X N' scope C Y H fp) [(D,k)] (ig cap σ) H' s'/\(KV ys its/\DO X.prog X.w its k)/\tn i s'.heap/\(∀b∈fp,H' b=none)/\W i n ys H') ?_ m0 ⟨0,[],[],o0,H,I1,⟨.nil,b7⟩,b8,λb U=>(f2 b U).1,w0⟩;rintro n s3 ⟨i,ys,its,k,H3,I3,⟨rv,dk⟩,c6,c2,w3⟩;rcases c4 i n ys H3 w3 with⟨stop,qn⟩|⟨go,hsz,N,hN,step⟩
  .refine thn (T.done (bw X N' scope C Y H fp) rfl rfl rfl hc i _ s3 _ H3 NoX I3 (a6 c2) c6 stop) λr s4 ⟨Z,I4⟩=>?_
   subst Z;exact d2 D C s4 H3 ys its k _ (Uk _) a8 a4 I4 rv dk qn
  .refine thn (T.item (bw X N' scope C Y H fp) rfl rfl rfl hc i _ s3 _ H3 NoX I3 (a6 c2) c6 go) λr s4 ⟨u,Z,h4⟩=>?_
   subst Z;refine thn h4 λ_ s5 ⟨x,H5,I5,r5,y5,a5,d3⟩=>?_;have d1:=I5.pinned (a6 d3) (T.obj _ _ a5);refine thn (hg C _ s5 _ H5 x u _ d1 r5 (step x H5 y5)) λ_ s6 ⟨a2,H6,I6,c0,q6⟩=>?_;refine thn (ht C _ s6 a2 H6 _ I6 q6) λok s7 ⟨H7,I7,q7⟩=>?_;have a7:∀{s':T7}{H':Hp}{F:L2.St},Inv (bw X N' scope C Y H fp) ([(D,k)]++j8 fp s5.heap) F H' s'->tn (i+1) s'.heap/\∀b∈fp,H' b=none:=λ{s' H' F} Ix=>by
    refine⟨T.keep _ _ _ a5 λb U o e=>(Ix.pin (b,o) (T9 _ (T9 _ (dF U e)))).1,λb U=>?_⟩;obtain⟨o,e,d⟩:=T.obj _ _ a5 b U;exact(Ix.pin (b,o) (T9 _ (T9 _ (dF U e)))).2.1
   have b3:(ig cap σ).length=a2.length:=by rw[I6.len,I1.len]
   cases ok with
   |false=>
    have n7:N ys H7:=by simpa using q7
    obtain⟨m',hm,w7⟩:=hN _ _ n7;exact⟨m',hm,i+1,ys,its,k,H7,I7.unpinned.weak b3 c0,⟨rv,dk⟩,(a7 I7).1,(a7 I7).2,w7⟩
   |true=>
    have q7:tk a2 H7 λx H4=>∃k',x=kV k'/\tv a2 H4 λv H5=>N (putK ys k' v) H5:=by simpa using q7
    refine thn (q C _ s7 a2 H7 _ I7 q7) λuk d0 ⟨xk,c7,d7,c8,kk,ek,d5⟩=>?_;subst ek;refine thn (he C _ d0 a2 c7 _ d7 d5) λu8 s8 ⟨v,H8,I8,r8,n8⟩=>?_;obtain⟨eD,nD,_,c9,_⟩:=I8.pin (D,k) (T9 _ (Uh _ Vb));have lv:=rv.length;refine acb (iW c8) (dk.at eD) (λh9 d6 d4=>?_) (by omega);obtain⟨m',hm,w8⟩:=hN _ _ n8;obtain⟨o9,eN,c5⟩:=DO.of d6;have I9:Inv (bw X N' scope C Y H fp) (j8 fp s5.heap) a2 H8 {s8 with heap:=h9,toks:=s8.toks+1}:=by
     refine Inv.turned (it:=D) (t':=s8.toks+1) (I8.pins_of λp hp=>I8.pin p (T9 _ (T9 _ hp))) (λb o U e=>d4.extBut b o U e) nD a4 (.inr (by rw[←hD];exact Uk _)) (λx c e z=>?_) (λp hp z=>?_)
     .obtain⟨vc,oc,h1,_⟩:=I.cell x c (iQ I O e)
      have hh:=Uc h1;rw[z,hD]at hh;exact Wa _ hh
     .have hp:p∈j8 fp s5.heap:=hp
      have hh:=a9 p.1 (qD hp).1;rw[z]at hh;exact Wa _ hh
    refine⟨m',hm,i+1,putK ys kk v,stored its kk u8,o9,H8,(I9.weak b3 c0).pins_of (λp hp=>?_),⟨rv.put kk r8,c5⟩,?_,λb U=>?_,w8⟩
    .have e:p=(D,o9):=UG.mp hp
     rw[e];exact⟨eN,nD,a4,c9,c5.nc⟩
    .exact T.keep _ _ _ a5 λb U o e=>(I9.pin (b,o) (T9 _ (dF U e))).1
    .obtain⟨o,e,d⟩:=T.obj _ _ a5 b U
     exact(I9.pin (b,o) (T9 _ (dF U e))).2.1
 exact codeAny_compStart_dict b0 (T.self _ 0 _ _ _ b8 b0)
theorem Jm(F:X.xe=NoX)(hc:X.calm=true)(O:dU X.env.scope X.N N' scope cap)(hi:PI X target iter wi)
  (hg:∀C Y H fp,PG (bw X N' scope C Y H fp) target g) (ht:∀C Y H fp,PTs (bw X N' scope C Y H fp) ifs tt) (hk:∀C Y H fp,PE (bw X N' scope C Y H fp) kx tk) (he:∀C Y H fp,PE (bw X N' scope C Y H fp) vx tv)
  (hs:∀x,Ww iter X.env x=pure x:=by intro _;rfl):PE X (.DictComp kx vx [⟨target,iter,ifs,0⟩] scope pos) (GD cap wi g tt tk tv):=by
 intro pins s σ H Q I h;rw[arm_eval_DictComp];dsimp only;refine Y_ (use:=none) rfl hs (j7 λy hy hk=>I.ok.has y.1 (O.free y hy hk)) O.kind O.nm (thn (hi pins s σ H _ I h) λv Z h1=>thn h1 λa6 s2 h2=>?_);obtain⟨it,fp,tn,J,H2,e,I2,T,a3,f2,cw⟩:=h2;subst e;refine yj (RR:=λV C=>compPost (model X.prog X.w) X.A X.xe none (EP X pins σ Q) V C) hc O I2 T a3 f2 (λC=>hg C _ _ _) (λC=>ht C _ _ _) (λC=>hk C _ _ _) (λC=>he C _ _ _) cw ?_;intro D C s' H' ys its o a5 hD hC a2 I' rv dk q;obtain⟨hz,q⟩:=q;obtain⟨m,a1,_⟩:=I'.loc;refine⟨m,a1,λh' sb=>?_⟩;obtain⟨eD,nD,_,a4,_⟩:=I'.pin (D,o) (T9 _ Vb);have a0:Inv X pins σ (upd H' D (.dK ys)) {s' with heap:=h'}:=by
  refine I2.call' (ch:=fp) I'.os ?_ ?_ I'.bare (λb U=>⟨(f2 b U).2.2.2.1,(f2 b U).2.1,(f2 b U).2.2.2.2.1,(f2 b U).2.2.2.2.2⟩)
  .have ne:∀b o,s2.heap.get? b=some o->b≠C/\b≠D:=λb o e=>⟨Ud (Us (Uc e) hC),Ud (Us (Uc e) hD)⟩
   refine⟨λb o e n U he=>sb.extBut b o (ne b o e).1 (I'.base.keep b o e n U he),λb o e n U he=>?_,λb o e n he=>?_,λb o e he=>?_,λb xs e=>?_,λb o u e=>?_,λb ps e=>?_⟩
   .obtain⟨sl,e1⟩:=I'.base.slot b o e n U he
    exact⟨sl,sb.extBut b _ (ne b o e).1 e1⟩
   .rw[aK (ne b o e).2]
    exact I'.base.free b o e n he
   .obtain⟨o',e1⟩:=I'.base.there b o e he
    exact⟨o',sb.extBut b _ (ne b o e).1 e1⟩
   .have e1:=I'.base.tups b xs e
    rw[aK (aP e1 nD)];exact e1
   .have e1:=I'.base.frzs b o u e
    rw[aK (aP e1 nD)];exact e1
   .obtain⟨more,e1⟩:=I'.base.tbls b ps e
    refine⟨more,?_⟩;rw[aK (aP e1 nD)];exact e1
  .intro b u e
   by_cases U:b=D
   .subst U
    rw[aZ]at e;cases e;exact⟨hz,WK.mpr (U3 (Ud (Us I2.big hD))),its,rv,dk.at (sb.extBut _ _ a2 eD)⟩
   .rw[aK U]at e
    have nC:∀b u,H' b=some u->b≠C:=λb u e z=>by
     have hf:H' C=none:=I'.free;rw[z,hf]at e;cases e
    refine(I'.hok b u e).stay (λc v hc q=>sb.extBut c v ?_ q) (λc q=>by rw[aK (aP q nD)];exact q) λc xs q=>by rw[aK (aP q nD)];exact q
    rcases hc with z|z
    .rw[z]
     exact nC b u e
    .exact nC c _ z
 exact⟨.ref D,_,a0,rfl,q D nD⟩
end
theorem IW{F:L2.St}{H2 H':Hp}{s2:T7}{D:Addr}{ob:HO}(I2:Inv X pins σ H2 s2)(f2:∀b∈fp,j9 X pins H2 b)
  (hD:s2.heap.objs.size<=D) (hC:s2.heap.objs.size<=C) (Y:D≠C) (O:Inv (bw X N' scope C s2 H2 fp) [(D,o)] F H' s') (new:∀h',h'.get? D=some o->cF X.prog X.w (upd H' D ob) h' D ob)
  (h':Heap) (V:WL C s'.heap h'):Inv X pins σ (upd H' D ob) {s' with heap:=h'}:=by
 obtain⟨eD,nD,_,a0,_⟩:=O.pin (D,o) (T9 _ Vb);refine I2.call' (ch:=fp) O.os ?_ ?_ O.bare (λb U=>⟨(f2 b U).2.2.2.1,(f2 b U).2.1,(f2 b U).2.2.2.2.1,(f2 b U).2.2.2.2.2⟩)
 .have ne:∀b o,s2.heap.get? b=some o->b≠C/\b≠D:=λb o e=>⟨Ud (Us (Uc e) hC),Ud (Us (Uc e) hD)⟩
  refine⟨λb o e n U N=>V.extBut b o (ne b o e).1 (O.base.keep b o e n U N),λb o e n U N=>?_,λb o e n N=>?_,λb o e N=>?_,λb xs e=>?_,λb o u e=>?_,λb ps e=>?_⟩
  .obtain⟨sl,e1⟩:=O.base.slot b o e n U N
   exact⟨sl,V.extBut b _ (ne b o e).1 e1⟩
  .rw[aK (ne b o e).2]
   exact O.base.free b o e n N
  .obtain⟨o',e1⟩:=O.base.there b o e N
   exact⟨o',V.extBut b _ (ne b o e).1 e1⟩
  .have e1:=O.base.tups b xs e
   rw[aK (aP e1 nD)];exact e1
  .have e1:=O.base.frzs b o u e
   rw[aK (aP e1 nD)];exact e1
  .obtain⟨more,e1⟩:=O.base.tbls b ps e
   refine⟨more,?_⟩;rw[aK (aP e1 nD)];exact e1
 .intro b u e
  by_cases U:b=D
  .subst U
   rw[aZ]at e;cases e;exact new h' (V.extBut _ _ Y eD)
  .rw[aK U]at e
   have nC:∀b u,H' b=some u->b≠C:=λb u e z=>by
    have Z:H' C=none:=O.free;rw[z,Z]at e;cases e
   refine(O.hok b u e).stay (λc v J q=>V.extBut c v ?_ q) (λc q=>by rw[aK (aP q nD)];exact q) λc xs q=>by rw[aK (aP q nD)];exact q
   rcases J with z|z
   .rw[z]
    exact nC b u e
   .exact nC c _ z
section
variable{X:Cx}{elt kx vx target iter:Expr}{ifs:List Expr}{scope:Scope}{pos pos' pos2:Pos}{N':List Str}{cap:List (Option Nat)}{wi:TI}{g:TG}{tt:TT}{te tk tv:TE}
theorem Kz{pins:List (Addr×Obj)}{σ a3:L2.St}{H2 H':Hp}{s2 s':T7}{fp:List Addr}{D C:Addr}{o:Obj}{ob:HO}{i:Nat}{x:Str}{Dn:Ends}(I2:Inv X pins σ H2 s2)(f2:∀b∈fp,j9 X pins H2 b)
  (hD:s2.heap.objs.size<=D) (hC:s2.heap.objs.size<=C) (Y:D≠C) (I':Inv (bw X N' scope C s2 H2 fp) [(D,o)] a3 H' s') (new:∀h',h'.get? D=some o->cF X.prog X.w (upd H' D ob) h' D ob)
  (hN:X.N.Nodup) (hi:X.N[i]? =some x) (F:Loc X.env.scope x) (Z:X.fn x=true∨X.env.scope.names.lookup x=some .local) (q:Dn.nx (σ.set i (some (.ref D))) (upd H' D ob)) :
  wpAny (model X.prog X.w) X.A (assignAll (.ref D) ((Vm [.Name x pos'] X.env).map (·.2))) (λ_ a0=>∃m,a0.heap.Ns C m/\∀h',WL C a0.heap h'->SP X pins Dn .next {a0 with heap:=h'}) X.xe s':=by
 have I3:Inv X pins σ (upd H' D ob) s':=IW I2 f2 hD hC Y I' new s'.heap ⟨rfl,λ_ _=>rfl⟩;obtain⟨m,a1,_⟩:=I'.loc;obtain⟨a6,nD,_,a5,_⟩:=I'.pin (D,o) (T9 _ Vb);have a1:s'.heap.Ns C m:=a1;have a2:upd H' D ob C=none:=by
  rw[aK (U3 Y)];exact I'.free
 obtain⟨f0,V,a4,f3,J,f5⟩:=I2.fpOk hC (I2.hok.fresh hC);have fC:j9 X pins (upd H' D ob) C:=⟨a2,V,a4,f3,J,f5⟩;obtain⟨oC,es,ep,gC,dC,O,k2⟩:=a1;have I4:=I3.pinned (fp:=[C]) (λb U=>by rw[UG.mp U];exact fC) λb U=>⟨oC,by rw[UG.mp U];exact gC,λv z=>by rw[dC]at z;cases z⟩;have ea:assignAll (.ref D) ((Vm [.Name x pos'] X.env).map (·.2))=YG (.Name x pos') X.env (.ref D):=by
  unfold assignAll;simp[Vm]
 rw[ea];refine wpAny_assign_Name (iR I4 hN hi F (v:=.ref D) rfl (λa0 I5=>⟨m,?_,λh' sb=>?_⟩) Z)
 .exact⟨oC,es,ep,(I5.pin (C,oC) (T9 _ (T9 _ (dF (UG.mpr rfl) gC)))).1,dC,O,k2⟩
 .exact⟨_,_,I5.unpinned.turned (t':=a0.toks) (λb o U e=>sb.extBut b o U e) a2 V f3 J f5,q⟩
theorem JN{i:Nat}{x:Str}(F:X.xe=NoX)(hc:X.calm=true)(hN:X.N.Nodup)(hi:X.N[i]? =some x)(hl:Loc X.env.scope x)(O:dU X.env.scope X.N N' scope cap)(a0:PI X target iter wi)
  (z:∀C Y H fp,PG (bw X N' scope C Y H fp) target g) (ht:∀C Y H fp,PTs (bw X N' scope C Y H fp) ifs tt) (he:∀C Y H fp,PE (bw X N' scope C Y H fp) elt te)
  (hw:Yd (.ListComp elt [⟨target,iter,ifs,0⟩] scope pos) (some (.Name x pos')) pos2.line X.env=pure true:=by rfl) (hs:∀x,Ww iter X.env x=pure x:=by intro _;rfl)
  (hf:X.fn x=true∨X.env.scope.names.lookup x=some .local:=by first|exact .inl rfl|exact .inr rfl|assumption):PS X (.Assign [.Name x pos'] (.ListComp elt [⟨target,iter,ifs,0⟩] scope pos) pos2) (JR (Gn cap wi g tt te) (yZ i)):=by
 intro pins s σ H Dn I h;rw[abi];refine gD (Xw ?_);rw[show Xx [.Name x pos'] (.ListComp elt [⟨target,iter,ifs,0⟩] scope pos) pos2.line X.env=pure true from hw];refine gD (yr ?_);rw[Uo rfl,arm_evalThenUse_ListComp];refine gD (gD (Y_ (use:=some _) rfl hs (j7 λy hy hk=>I.ok.has y.1 (O.free y hy hk)) O.kind O.nm (thn (a0 pins s σ H _ I h) λv Z h1=>thn h1 λa5 s2 h2=>?_)));obtain⟨it,fp,tn,J,H2,e,I2,T,a2,f2,cw⟩:=h2;subst e;refine tX (RR:=λV C=>compPost (model X.prog X.w) X.A X.xe (some _) _ V C) hc O I2 T a2 f2 (λC=>z C _ _ _) (λC=>ht C _ _ _) (λC=>he C _ _ _) cw ?_;intro D C s' H' ys its n a3 U hC a1 I' rv q;obtain⟨hz,q⟩:=q;have nD:=(I'.pin (D,lobj its n) (T9 _ Vb)).2.1;refine thn (Kz (ob:=.lst ys) (Dn:=Dn) (pos':=pos') I2 f2 U hC a1 I' (λh' e=>⟨hz,its,n,rv,e⟩) hN hi hl hf (q D nD)) λ_ a4 ⟨m,h1,h2⟩=>⟨m,h1,λh' sb=>yr (yr (h2 h' sb))⟩
end
end Jb
namespace PySem
open PySem.Builtin PySem.Builtin.SmallTypes
def xf(id:String):Builtin:=λargs=>do
 let x ←slotArgs "__next__" 0 args
 match x with
 |(self,snd)=>do
  let seq ←field self 0
  let q:Unit->Sem abo:=λ_=>do
   let y ←field self 1
   match y with
   |V8 i tok=>do
    let z ←Za seq
    match z with
    |some xs=>
     match xs[i.toNat]? with
     |some v=>do
      setField self 1 (V7 (i+1))
      ret v
     |none=>do
      rule (toString id++toString ".end")
      setField self 0 VB
      aaE
    |_=>aal (toString "internal:"++toString id)
   |_=>aal (toString "internal:"++toString id)
  if(seq==VB)=true then do
   rule (toString id++toString ".ended")
   let r ←aaE
   q r
  else q ()
theorem qU:Builtin.«tuple_iterator.__next__»=xf "tuple_iterator.__next__":=rfl
section
variable{prog:Program}{w:World}{A:Around}{E:Value->Shared->Prop}{it t:Addr}{i:Nat}{items:Array Value}{h:Heap}{g:Array GenState}{d:Drawn}{tk:Nat}{os:OsState}
theorem p8{x:Value}{Q:Value->T7->Prop}(st:h.IsTupleIter it t i)(p:h.IsTuple t items)(z:items[i]? =some x)
  (V:∀h',h'.IsTupleIter it t (i+1)->WL it h h'->Q x ⟨h',g,d,tk,os⟩):wpAny (model prog w) A (XJ (.ref it)) Q E ⟨h,g,d,tk,os⟩:=by
 have q:(⟨h,g,d,tk,os⟩:T7).TypeIs (.ref it) "tuple_iterator":=st.typeIs;unfold XJ;refine gD (V0 q Wh ?_);obtain⟨o,O,J,hd⟩:=st;obtain⟨Y,h1,h2,n,N⟩:=p
 repeat(any_goals(first|assumption|wp_step))
 refine VL Wh.plain aar (Wh.check _ _ _ _ _ _ _ _ q (aaj _) ?_);rw[qU];unfold xf
 repeat(any_goals(first|assumption|wp_step))
 rw[hd];refine yr (yr ?_);show wpAny _ _ (if(UL t==VB)=true then _ else _) _ _ _;rw[show(UL t==VB)=false from rfl,Uq Vs]
 repeat(any_goals(first|assumption|wp_step))
 rw[hd];refine yr (yr ?_);show wpAny _ _ (Za (UL t) >>=_) _ _ _;refine gD (Ys h1 N ?_);dsimp only;have hi:(i:Int).toNat=i:=V_ i;rw[hi,z];dsimp only;refine gD (wpAny_setField O hd (by show 1<2;decide) ?_);refine yr ?_;dsimp only;refine yr (V _ ?_ ⟨Heap.size_update ..,λb U=>Vv h _ (U3 U)⟩);refine⟨_,Xp _ O (abI (aaq hd _)),(acG ..).trans J,?_⟩;rw[aaq hd];have e1:(((i+1:Nat)):Int)=(i:Int)+1:=by omega
 rw[e1];rfl
theorem Hy{α:Type}{Q:α->T7->Prop}(z:A.handled=none)
  (O:∀h' e,(∀b o,h.get? b=some o->h'.get? b=some o)->(∃o,h'.get? e=some o/\o.cls= .type "StopIteration")->E (.ref e) ⟨h',g,d,tk,os⟩):wpAny (model prog w) A (aaE:Sem α) Q E ⟨h,g,d,tk,os⟩:=by
 unfold aaE
 repeat(any_goals(first|assumption|wp_step))
 unfold raiseNew;refine gD (aaD ?_);rw[z];dsimp only;exact ZD (O _ _ (λb o e=>T8 _ (T8 _ e)) ⟨_,Ue _ rfl,rfl⟩)
theorem kY{Q:Value->T7->Prop}(hh:A.handled=none)(st:h.IsTupleIter it t i)(p:h.IsTuple t items)(Z:items[i]? =none)
  (hq:∀h' e,Heap.ExtBut it h h'->(∃o,h'.get? e=some o/\o.cls= .type "StopIteration")->E (.ref e) ⟨h',g,d,tk,os⟩):wpAny (model prog w) A (XJ (.ref it)) Q E ⟨h,g,d,tk,os⟩:=by
 have q:(⟨h,g,d,tk,os⟩:T7).TypeIs (.ref it) "tuple_iterator":=st.typeIs;unfold XJ;refine gD (V0 q Wh ?_);obtain⟨o,O,J,hd⟩:=st;obtain⟨Y,h1,h2,n,h3⟩:=p
 repeat(any_goals(first|assumption|wp_step))
 refine VL Wh.plain aar (Wh.check _ _ _ _ _ _ _ _ q (aaj _) ?_);rw[qU];unfold xf
 repeat(any_goals(first|assumption|wp_step))
 rw[hd];refine yr (yr ?_);show wpAny _ _ (if(UL t==VB)=true then _ else _) _ _ _;rw[show(UL t==VB)=false from rfl,Uq Vs]
 repeat(any_goals(first|assumption|wp_step))
 rw[hd];refine yr (yr ?_);show wpAny _ _ (Za (UL t) >>=_) _ _ _;refine gD (Ys h1 h3 ?_);dsimp only;have hi:(i:Int).toNat=i:=V_ i;rw[hi,Z];dsimp only;refine gD (W3 ?_);refine gD (wpAny_setField O hd (by show 0<2;decide) ?_);refine Hy (show A.in1.handled=none from hh) λh' e V N=>?_;exact hq h' e (λb ob U z=>V b ob ((Vv h _ (U3 U)).trans z)) N
theorem Draws.tuple(z:A.handled=none)(it t:Addr)(Z:t≠it)(items:Array Value):Draws prog w A it [it,t] items.size (λi v=>items[i]? =some v) λi h=>h.IsTupleIter it t i/\h.IsTuple t items where
 live:=λi h st=>let⟨o,ho,_⟩:=st.1;⟨o,ho⟩
 frame:=λi h h' st k=>⟨st.1.at λo e=>k it (by simp) o e,let⟨o,h1,h2⟩:=st.2;⟨o,k t (by simp) o h1,h2⟩⟩
 item:=λi s Q E hi st k=>by
  obtain⟨h,g,d,tk,os⟩:=s;refine p8 st.1 st.2 (x:=items[i]) (by simp[hi]) λh' O V=>k _ h' tk (by simp[hi]) ⟨O,?_⟩ V;obtain⟨o,h1,h2⟩:=st.2;exact⟨o,(V.2 t Z).trans h1,h2⟩
 done:=λs Q E st k=>by
  obtain⟨h,g,d,tk,os⟩:=s;exact kY z st.1 st.2 (by simp) λh' e q N=>k h' e q N
theorem Draws.tupleEnd(z:A.handled=none)(it t:Addr)(i:Nat)(items:Array Value)(F:items[i]? =none):Draws prog w A it [it,t] i (λ_ _=>False) λj h=>j=i/\h.IsTupleIter it t i/\h.IsTuple t items where
 live:=λj h st=>let⟨o,ho,_⟩:=st.2.1;⟨o,ho⟩
 frame:=λj h h' st k=>⟨st.1,st.2.1.at λo e=>k it (by simp) o e,let⟨o,h1,h2⟩:=st.2.2;⟨o,k t (by simp) o h1,h2⟩⟩
 item:=λj s Q E U st k=>absurd st.1 (Ud U)
 done:=λs Q E st k=>by
  obtain⟨h,g,d,tk,os⟩:=s;exact kY z st.2.1 st.2.2 F λh' e Z N=>k h' e Z N
theorem sY{Q:abo->T7->Prop}(V:h.IsTuple t items)
  (O:Q (.done (.ret (.ref (h.objs.size+1)))) ⟨(h.push {cls:=.type "tuple_iterator",data:=.fields #[.ref t,.int 0 0]}).push {cls:=.type "enumerate",data:=.fields #[.none,.bool false,.ref h.objs.size,V7 0,.none,.none]},g,d,tk,os⟩) :
  wpAny (model prog w) A (Builtin.«enumerate.__new__» ⟨[.type "enumerate",.ref t],[]⟩) Q E ⟨h,g,d,tk,os⟩:=by
 have q:=sub_enumerate
 repeat(any_goals(first|assumption|wp_step))
 refine wpAny_stack λst _ _ _=>?_;refine yr ?_;have N:wpAny (model prog w) A (do let it ←Zx (.ref t);let r ←acY (VP "enumerate") (acB++[it,V7 0,VB,VB]);ret r) Q E ⟨h,g,d,tk,os⟩:=by
  refine gD (aas V ?_)
  repeat(any_goals(first|assumption|wp_step))
  rw[Ve];exact O
 dsimp only;split
 .split
  .refine gD (XQ (a:=(UL t,none)) (by rfl) ?_)
   exact N
  .refine gD (XQ (a:=(UL t,none)) (by rfl) ?_)
   exact N
 .rw[Uq (by decide)]
  refine gD (XQ (a:=(UL t,none)) (by rfl) ?_);exact N
theorem lY{Q:Value->T7->Prop}(V:h.IsTuple t items)
  (O:∀h',IsEnum h' (h.objs.size+1) h.objs.size 0 .none->h'.IsTupleIter h.objs.size t 0->h'.objs.size=h.objs.size+2->(∀b o,h.get? b=some o->h'.get? b=some o)->Q (.ref (h.objs.size+1)) ⟨h',g,d,tk,os⟩) :
  wpAny (model prog w) A (call (.type "enumerate") [.ref t]) Q E ⟨h,g,d,tk,os⟩:=by
 have e1:((h.push {cls:=.type "tuple_iterator",data:=.fields #[.ref t,.int 0 0]}).push {cls:=.type "enumerate",data:=.fields #[.none,.bool false,.ref h.objs.size,V7 0,.none,.none]}).get? (h.objs.size+1)=some {cls:=.type "enumerate",data:=.fields #[.none,.bool false,.ref h.objs.size,V7 0,.none,.none]}:=by
  rw[←Ve h {cls:=.type "tuple_iterator",data:=.fields #[.ref t,.int 0 0]}];exact Ue _ rfl
 refine callType_newIn F.called_enumerate (by decide) (F.typeCall_enumerate_1 _) (F.newCall_enumerate_1 _) (λobj=>F.args_object_init_2 _ _) F.entry_enumerate_new (S:=λU R s'=>s'=⟨h,g,d,tk,os⟩/\R (.ok (.ret (.ref (h.objs.size+1)))) ⟨(h.push {cls:=.type "tuple_iterator",data:=.fields #[.ref t,.int 0 0]}).push {cls:=.type "enumerate",data:=.fields #[.none,.bool false,.ref h.objs.size,V7 0,.none,.none]},g,d,tk,os⟩) ?_ ⟨rfl,⟨⟨_,e1,rfl⟩,O _ e1 ⟨_,T8 _ (Ue _ rfl),rfl,rfl⟩ (by rw[Ve,Ve]) λb o e=>T8 _ (T8 _ e)⟩⟩;rintro U R s' ⟨rfl,J⟩;exact sY V J
end
end PySem
namespace Jb
open PySem PySem.Spec PyProof.Rows L2
def RP(K:Ub)(a:Addr):It:=
 ⟨λi H=>∃xs x,SqT K H a xs/\xs[i]? =some x,λi H x H'=>∃p v,H p=none/\x= .ref p/\(∀xs,SqT K H a xs->xs[i]? =some v)/\H'=upd H p (.tup [.int i,v]),λi H=>∃xs,SqT K H a xs/\xs.length<=i⟩
theorem zu{P:U_}{K:Ub}{x1}(a e it:Addr)(a1:e≠it)(a6:e≠a)(b0:it≠a) :
  Turn P w K (.Tuple elts x1 pos) (RP K a) [e,it] e (λi h=>(∃V,IsEnum h e it (i:Int) V)/\h.IsTupleIter it a i)where
 mem:=by simp
 obj:=λi h st b U=>by
  obtain⟨⟨V,N⟩,o,O,c,d⟩:=st;rcases Uj.mp U with z|z
  .subst z
   exact⟨_,N,λv z=>by cases z⟩
  .have z:b=it:=by simpa using z
   subst z;exact⟨o,O,λv z=>by rw[d]at z;cases z⟩
 keep:=λi h h' st k=>by
  obtain⟨⟨V,N⟩,a0⟩:=st;exact⟨⟨V,k e (by simp) _ N⟩,a0.at λo q=>k it (by simp) o q⟩
 item:=by
  intro X hP hw hK J i pins s σ H E I Z st hg;subst hP hw hK;obtain⟨xs,x,hq,F⟩:=hg;obtain⟨its,rv,p,hz⟩:=I.tuple hq;obtain⟨u,hu,ru⟩:=rv.get F;obtain⟨⟨V,N⟩,a0⟩:=st;have a7:i<its.toArray.size:=by simp;exact(List.getElem?_eq_some_iff.mp hu).1
  have p':s.heap.IsTuple a its.toArray:=p;refine wpAny_pyNext_enum_itemD (Draws.tuple (show X.A.in1.handled=none from I.ok.hd J) it a (U3 b0) its.toArray) N ⟨a0,p'⟩ a7 a1 (λz=>by rcases Uj.mp z with q|q;exact a1 q;exact a6 (UG.mp q)) λy h1 tk hy b2 a4 b1 b3 k1=>?_;have ey:y=u:=by
   have:its[i]? =some y:=by simpa using hy
   rw[hu]at this;exact(Vw this).symm
  subst ey;refine⟨.ref s.heap.objs.size,rfl,aaC b2 λh2 a9 a2=>?_⟩;have a8:e<s.heap.objs.size:=Uc N;have a3:s.heap.objs.size≠e:=Xk a8;have a5:h2.get? s.heap.objs.size=some {cls:=.type "tuple",data:=.seq #[.int i tk,y]}:=a2.extBut _ _ a3 b1;have I2:Inv X pins σ (upd H s.heap.objs.size (.tup [.int i,x])) {s with heap:=h2,toks:=tk+1}:=by
   refine zj (fp:=[e,it]) (t':=tk+1) I Z (λb o U q=>?_) (Uk _) ?_
   .have n1:b≠e:=λz=>U (by simp[z])
    have n2:b≠it:=λz=>U (by simp[z]);exact a2.extBut b o n1 (k1 b o n1 n2 q)
   .exact⟨by show 2<=Ui;decide,[.int i tk,y],.cons ⟨_,rfl⟩ (.cons ru .nil),_,a5,rfl,_,rfl,rfl⟩
  refine⟨.ref s.heap.objs.size,upd H s.heap.objs.size (.tup [.int i,x]),I2,rfl,⟨_,x,I.hok.fresh (Uk _),rfl,λys hy=>by rw[I.tuple_inj hy hq];exact F,rfl⟩,?_,λb U=>?_⟩
  .refine⟨⟨y,?_⟩,a4.1.extBut a2.extBut (U3 a1)⟩
   have e1:(((i+1:Nat)):Int)=(i:Int)+1:=by omega
   rw[e1];exact a9
  .rw[aK]
   .exact(Z b U).1
   .intro z
    rw[z]at U;rcases Uj.mp U with q|q
    .exact a3 q
    .have q:s.heap.objs.size=it:=by simpa using q
     obtain⟨o,O,_⟩:=a0;exact absurd (Uc O) (by rw[q];exact Wa _)
 done:=by
  intro X hP hw hK J i pins s σ H E I Z st hg;subst hP hw hK;obtain⟨xs,hq,F⟩:=hg;obtain⟨its,rv,p,hz⟩:=I.tuple hq;obtain⟨⟨V,N⟩,a0⟩:=st;have Y:=rv.length;have p':s.heap.IsTuple a its.toArray:=p;refine wpAny_pyNext_enum_endD (Draws.tupleEnd (show X.A.in1.handled=none from I.ok.hd J) it a i its.toArray (by simp;omega)) N ⟨rfl,a0,p'⟩ λh1 eb=>⟨rfl,?_⟩;exact nA (fp:=[e,it]) (t':=s.toks) I Z λb o U q=>eb b o (λz=>U (by simp[z])) q
 self:=λA i s Q E st h=>by
  obtain⟨⟨V,N⟩,_⟩:=st;exact Zr N h
def Ex(K:Ub)(ta:TA):TI:=λσ H R=>ta σ H λvs H1=>∃a,vs=[.ref a]/\(((∃xs,SqL K H1 a xs)/\R (Ite K a) H1)∨((∃xs,SqT K H1 a xs)/\R (RP K a) H1))
variable{X:Cx}{p:Pos}
theorem Hs{a:Expr}{ta:TA}{x1}(hg:Gl X "enumerate")(hm:X.mg "enumerate"=none)(Y:PA X [a] ta)(O:Ul [a] X.env=[(false,eval a X.env)]:=by rfl):PI X (.Tuple elts x1 tpos) (.Call (.Name "enumerate" p) [a] [] pos) (Ex X.K ta):=by
 intro pins s σ H R I h;refine Call_ (lu I hg hm boot_enumerate (Wz (thn (Y pos pins s σ H _ I h) λus Z ⟨vs,H1,F,J,q1⟩=>?_) O rfl));obtain⟨l,e,q⟩:=q1;subst e;obtain⟨u,rfl,ru⟩:=vals1 J;cases ru;have a3:∀b∈[Z.heap.objs.size+1,Z.heap.objs.size],j9 X pins H1 b:=λb U=>by
  have a4:Z.heap.objs.size<=b:=by
   rcases Uj.mp U with z|z
   .rw[z];exact YM _
   .have z:b=Z.heap.objs.size:=by simpa using z
    rw[z];exact Uk _
  exact F.fpOk a4 (F.hok.fresh a4)
 rcases q with⟨⟨xs,hq⟩,q⟩|⟨⟨xs,hq⟩,q⟩
 .obtain⟨its,rv,pl,hz⟩:=F.list hq
  refine call_enumerate_list pl.isList λh1 N a0 hsz k1=>?_;have I2:Inv X pins σ H1 {Z with heap:=h1}:=F.kept (t':=Z.toks) k1;refine Zr N ?_;exact⟨Z.heap.objs.size+1,[Z.heap.objs.size+1,Z.heap.objs.size],_,_,H1,rfl,I2,Dk l _ _ (acS _),⟨⟨_,N⟩,a0⟩,a3,q⟩
 .obtain⟨its,rv,pl,hz⟩:=F.tuple hq
  have a1:Z.heap.IsTuple l its.toArray:=pl;have a2:l<Z.heap.objs.size:=let⟨_,h1,_⟩:=a1;Uc h1;obtain⟨V,g,d,tk,os⟩:=Z;refine lY a1 λh1 N a0 hsz k1=>?_;have I2:Inv X pins σ H1 {heap:=h1,gens:=g,drawn:=d,toks:=tk,os:=os}:=F.kept (t':=tk) k1;refine Zr N ?_;exact⟨V.objs.size+1,[V.objs.size+1,V.objs.size],_,_,H1,rfl,I2,zu l _ _ (acS _) (Xk (Vo a2)) (Xk a2),⟨⟨_,N⟩,a0⟩,a3,q⟩
def Rp(K:Ub)(te:TE):TI:=λσ H R=>te σ H λx H1=>∃a,x= .ref a/\(((∃xs,SqL K H1 a xs)/\R (Itl K a) H1)∨((∃xs,SqT K H1 a xs)/\R (Itt K a) H1))
variable{te:TE}
theorem Od(Y:PE X e te):PI X tg e (Rp X.K te):=by
 intro pins s σ H R I h;refine thn (Y pins s σ H _ I h) λv Z ⟨x,H1,F,J,q1⟩=>?_;obtain⟨a,ex,q⟩:=q1;subst ex;cases J;have z:∀b∈[Z.heap.objs.size],j9 X pins H1 b:=λb U=>by
  rw[UG.mp U];exact F.fpOk (Uk _) (F.hok.fresh (Uk _))
 rcases q with⟨⟨xs,O⟩,q⟩|⟨⟨xs,O⟩,q⟩
 .obtain⟨its,rv,p,hz⟩:=F.list O
  refine Wx p.isList ?_;exact⟨Z.heap.objs.size,[Z.heap.objs.size],_,_,H1,rfl,F.kept (t':=Z.toks) λb o e=>T8 _ e,CG a _,⟨_,Ue _ rfl,rfl,rfl⟩,z,q⟩
 .obtain⟨its,rv,p,hz⟩:=F.tuple O
  refine aas (show Z.heap.IsTuple a its.toArray from p) ?_;exact⟨Z.heap.objs.size,[Z.heap.objs.size],_,_,H1,rfl,F.kept (t':=Z.toks) λb o e=>T8 _ e,zp a _,⟨_,Ue _ rfl,rfl,rfl⟩,z,q⟩
theorem jk:∀{us:List Value}{ns:List Int},aaX us ns->Vals (ns.map V.int) us
 |_,_,.nil=>.nil
 |_,_,.cons n t r=>.cons ⟨t,rfl⟩ (jk r)
def Cy(K:Ub):List V->Hp->VK->Prop:=λxs H Q=>∃a ns,xs=[.ref a]/\SqL K H a (Uz V.int ns)/\WX ns<64/\∀F,Vz F ns->List.Pairwise (·<=·) F->∀p,H p=none->Q (.ref p) (upd H p (.lst (F.map V.int)))
theorem yf:eU X (.builtin "sorted") (Cy X.K):=by
 intro pins s σ H xs us Q I r h;obtain⟨a,ns,rfl,O,Y,q⟩:=h;obtain⟨u,rfl,F⟩:=vals1 r;cases F;obtain⟨its,Z,pl,hz⟩:=I.list O;have U:=Z.length;rw[Ux]at U;refine sorted_ints pl.isList (intsAre_of Z) (by omega) λout ms io N pw=>?_;obtain⟨c,J⟩:=sortedAll_at s.heap its out;have a0:ms.length=ns.length:=N.length_eq;have z:64<=Ui:=by decide
 refine⟨.ref (s.heap.objs.size+1),upd H (s.heap.objs.size+1) (.lst (ms.map V.int)),I.laid (t':=s.toks) (λb o e=>sortedAll_old e) (YM _) ?_,rfl,q ms N pw _ (I.hok.fresh (YM _))⟩;refine⟨by rw[Ux];omega,out.toList,c,jk io,?_⟩;rw[J]
inductive Mk where
 |own|frz|brw|bro|scr
 deriving DecidableEq
inductive D where
 |non|bl (b:Bool)|int (i:Int)|str (x:Str)|ty (n:String)
 |tup (ds:List D)
 |lst (m:Mk) (ds:List D)
 |dct (m:Mk) (ks:List Key) (ds:List D)
 |ins (m:Mk) (c:Str) (fs:List Str) (ds:List D)
structure Gc where
 K:Ub
 mg:Str->Option Value
structure Wn where
 n:Addr->Prop
 s:Addr->Prop
 o:Addr->Prop
def Wn.free(W:Wn)(a:Addr):Prop:=¬W.n a/\¬W.s a/\¬W.o a
def KO(K:Ub)(a:Addr)(o:HO):Prop:=∃xs,o= .lst xs/\∃(ob:Obj)(its:Array Value)(n:Nat),K.lookup a=some ob/\ob.cls= .type "list"/\ob.dict=none/\ob.data= .seq its n/\its.size<=Ui/\Vals xs its.toList
def dq(J:Addr->HO->Prop)(H:Hp)(W:Wn)(a:Addr)(o:HO):Mk->List Addr->List Addr->Prop
 |.own,L,M=>H a=some o/\L=a::M
 |.frz,L,M=>H a=some o/\W.free a/\M=[]/\L=[]
 |.brw,L,M=>H a=some o/\W.s a/\M=[]/\L=[]
 |.bro,L,M=>H a=some o/\M=[]/\L=[]
 |.scr,L,M=>((Rd H a o/\W.free a)∨J a o)/\M=[]/\L=[]
variable{J:Addr->HO->Prop}{H:Hp}{W:Wn}{o:HO}{m:Mk}
theorem dq.sub(h:dq J H W a o m L M):V5 M L:=by
 cases m with
 |own=>rw[h.2];exact List.sublist_cons_self a M
 |frz=>rw[h.2.2.1];exact ZM L
 |brw=>rw[h.2.2.1];exact ZM L
 |bro=>rw[h.2.1];exact ZM L
 |scr=>rw[h.2.1];exact ZM L
theorem dq.rx(h:dq J H W a o m L M):Rd H a o∨J a o:=by
 cases m with
 |own=>exact .inl (.inl h.1)
 |frz=>exact .inl (.inl h.1)
 |brw=>exact .inl (.inl h.1)
 |bro=>exact .inl (.inl h.1)
 |scr=>exact h.1.imp (λz=>z.1) id
variable{xs:List V}
theorem dq.sq{K:Ub}(h:dq (KO K) H W a (.lst xs) m L M):SqL K H a xs:=by
 rcases h.rx with z|⟨ys,e,z⟩
 .exact .inl z
 .cases e
  exact .inr z
variable{kvs:List (Key×V)}
theorem dq.rdD{K:Ub}(h:dq (KO K) H W a (.dK kvs) m L M):Rd H a (.dK kvs):=by
 rcases h.rx with z|⟨ys,e,z⟩
 .exact z
 .cases e
theorem dq.at(h:dq J H W a o m L M)(V:m≠.scr):H a=some o:=by
 cases m with
 |own=>exact h.1
 |frz=>exact h.1
 |brw=>exact h.1
 |bro=>exact h.1
 |scr=>exact absurd rfl V
mutual
noncomputable def Rep(G:Gc)(H:Hp)(W:Wn):D->V->List Addr->Prop
 |.non,v,L=>v= .non/\L=[]
 |.bl b,v,L=>v= .bl b/\L=[]
 |.int i,v,L=>v= .int i/\L=[]
 |.str x,v,L=>v= .str x/\L=[]
 |.ty n,v,L=>v= .ty n/\L=[]
 |.tup ds,v,L=>∃a xs,v= .ref a/\H a=some (.tup xs)/\aF G H W ds xs L
 |.lst m ds,v,L=>∃a xs M,v= .ref a/\aF G H W ds xs M/\dq (KO G.K) H W a (.lst xs) m L M
 |.dct m ks ds,v,L=>∃a kvs M,v= .ref a/\(Uz (·.1) kvs=ks/\ks.Nodup)/\aF G H W ds (Uz (·.2) kvs) M/\dq (KO G.K) H W a (.dK kvs) m L M
 |.ins m c fs ds,v,L=>∃a C dx kvs M,v= .ref a/\G.mg c=some (.ref C)/\Uz (·.1) kvs=fs/\aF G H W ds (Uz (·.2) kvs) M/\dq (KO G.K) H W a (.ins C dx kvs) m L M
noncomputable def aF(G:Gc)(H:Hp)(W:Wn):List D->List V->List Addr->Prop
 |[],xs,L=>xs=[]/\L=[]
 |d::r,xs,L=>∃x ys M M',xs=x::ys/\L=M++M'/\Rep G H W d x M/\aF G H W r ys M'
end
variable{G:Gc}
theorem aF.nil:aF G H W [] [] []:=by simp[aF]
theorem aF.cons{d:D}{r:List D}{x:V}{ys:List V}{M M':List Addr}(h:Rep G H W d x M)(t:aF G H W r ys M'):aF G H W (d::r) (x::ys) (M++M'):=by
 rw[aF];exact⟨x,ys,M,M',rfl,rfl,h,t⟩
variable{d:D}
theorem aF.one{x:V}(h:Rep G H W d x M):aF G H W [d] [x] M:=by
 have:=aF.cons h aF.nil;rwa[UJ]at this
theorem aF.inv{r:List D}(h:aF G H W (d::r) xs L):∃x ys M M',xs=x::ys/\L=M++M'/\Rep G H W d x M/\aF G H W r ys M':=by
 rw[aF]at h;exact h
theorem aF.inv0(h:aF G H W [] xs L):xs=[]/\L=[]:=by
 rw[aF]at h;exact h
theorem aF.length:∀{ds:List D}{xs:List V}{L:List Addr},aF G H W ds xs L->ds.length=xs.length
 |[],xs,L,h=>by rw[h.inv0.1];rfl
 |d::r,xs,L,h=>by
  obtain⟨x,ys,M,M',rfl,_,_,h⟩:=h.inv;simp[aF.length h]
theorem aF.append:∀{ds es:List D}{xs ys:List V}{L M:List Addr},aF G H W ds xs L->aF G H W es ys M->aF G H W (ds++es) (xs++ys) (L++M)
 |[],es,xs,ys,L,M,h,h'=>by obtain⟨rfl,rfl⟩:=h.inv0;exact h'
 |d::r,es,xs,ys,L,M,h,h'=>by
  obtain⟨x,zs,A,B,rfl,rfl,h1,h2⟩:=h.inv;rw[Zt];exact .cons h1 (aF.append h2 h')
theorem aF.split:∀{ds es:List D}{xs:List V}{L:List Addr},aF G H W (ds++es) xs L->∃ys zs A B,xs=ys++zs/\L=A++B/\aF G H W ds ys A/\aF G H W es zs B
 |[],es,xs,L,h=>⟨[],xs,[],L,rfl,rfl,.nil,h⟩
 |d::r,es,xs,L,h=>by
  obtain⟨x,zs,A,B,rfl,rfl,h1,h2⟩:=aF.inv (r:=r++es) h;obtain⟨ys,q,U,z,rfl,rfl,F,J⟩:=aF.split h2;exact⟨x::ys,q,A++U,z,rfl,by rw[Zt],.cons h1 F,J⟩
variable{ds:List D}
theorem aF.at(h:aF G H W ds xs L)(e:ds[j]? =some d) :
  ∃A B x ys zs O M z,ds=A++d::B/\A.length=j/\xs=ys++x::zs/\ys.length=j/\L=O++(M++z)/\aF G H W A ys O/\Rep G H W d x M/\aF G H W B zs z:=by
 have U:j<ds.length:=(List.getElem?_eq_some_iff.mp e).1;have hd:ds=ds.take j++d::ds.drop (j+1):=by
  have:ds[j]=d:=(List.getElem?_eq_some_iff.mp e).2;rw[←this,Yj,ZX]
 rw[hd]at h;obtain⟨ys,zs,A,B,rfl,rfl,h1,h2⟩:=aF.split h;obtain⟨x,q,M,M',rfl,rfl,F,J⟩:=h2.inv;have Y:(ds.take j).length=j:=by rw[WR];omega
 exact⟨_,_,x,ys,q,A,M,M',hd,Y,rfl,by rw[←h1.length];exact Y,rfl,h1,F,J⟩
theorem aF.get(h:aF G H W ds xs L)(e:ds[j]? =some d):∃x M,xs[j]? =some x/\Rep G H W d x M/\V5 M L:=by
 obtain⟨A,B,x,ys,zs,O,M,z,_,_,rfl,Y,rfl,_,h,_⟩:=h.at e;exact⟨x,M,by rw[VF (by omega),Y,X7];rfl,h,(W6 M z).trans (Vx O _)⟩
def muO:HO->Bool
 |.lst _=>true
 |.dK _=>true
 |.ins _ _ _=>true
 |_=>false
def Mu(H:Hp)(a:Addr):Prop:=∃o,H a=some o/\muO o=true
mutual
noncomputable def aD:D->Bool
 |.tup ds=>au ds
 |.lst m ds=>m != .brw&&au ds
 |.dct m _ ds=>m != .brw&&au ds
 |.ins m _ _ ds=>m != .brw&&au ds
 |_=>true
noncomputable def au:List D->Bool
 |[]=>true
 |d::r=>aD d&&au r
end
mutual
noncomputable def aC:D->Bool
 |.tup ds=>az ds
 |.lst m ds=>m != .bro&&az ds
 |.dct m _ ds=>m != .bro&&az ds
 |.ins m _ _ ds=>m != .bro&&az ds
 |_=>true
noncomputable def az:List D->Bool
 |[]=>true
 |d::r=>aC d&&az r
end
def clean(d:D):Bool:=aD d&&aC d
structure Evo(H H':Hp)(W W':Wn):Prop where
 k:∀b u,H b=some u->W.free b->H' b=some u/\W'.free b
 t:∀b xs,H b=some (.tup xs)->H' b=some (.tup xs)
def Jh(H H':Hp)(W W':Wn):Prop:=∀b u,H b=some u->W.s b->H' b=some u/\W'.s b
variable{H':Hp}{W':Wn}
theorem Evo.rd(e:Evo H H' W W')(h:Rd H a o)(f:W.free a):Rd H' a o/\W'.free a:=by
 rcases h with h|⟨u,h⟩
 .exact⟨.inl (e.k a _ h f).1,(e.k a _ h f).2⟩
 .exact⟨.inr ⟨u,(e.k a _ h f).1⟩,(e.k a _ h f).2⟩
theorem dq.mono(e:Evo H H' W W')(h:dq J H W a o m L M)(U:m≠.brw∨Jh H H' W W')(O:m≠.bro∨Same H H')(F:∀c∈L,∀u,H c=some u->H' c=some u):dq J H' W' a o m L M:=by
 cases m with
 |own=>exact⟨F a (by rw[h.2];simp) o h.1,h.2⟩
 |frz=>exact⟨(e.k a o h.1 h.2.1).1,(e.k a o h.1 h.2.1).2,h.2.2⟩
 |brw=>
  have q:=(U.resolve_left λz=>z rfl) a o h.1 h.2.1;exact⟨q.1,q.2,h.2.2⟩
 |bro=>exact⟨(O.resolve_left λz=>z rfl) a o h.1,h.2⟩
 |scr=>exact⟨h.1.imp (λz=>e.rd z.1 z.2) id,h.2⟩
theorem Same.rd(s:Same H H')(h:Rd H a o):Rd H' a o:=h.imp (s _ _) λ⟨u,z⟩=>⟨u,s _ _ z⟩
mutual
theorem Rep.mono(e:Evo H H' W W'):∀{d:D}{v:V}{L:List Addr},Rep G H W d v L->(aD d=true∨Jh H H' W W')->(aC d=true∨Same H H')->(∀c∈L,∀u,H c=some u->H' c=some u)->Rep G H' W' d v L
 |.non,v,L,h,_,_,_=>by rw[Rep]at h⊢;exact h
 |.bl _,v,L,h,_,_,_=>by rw[Rep]at h⊢;exact h
 |.int _,v,L,h,_,_,_=>by rw[Rep]at h⊢;exact h
 |.str _,v,L,h,_,_,_=>by rw[Rep]at h⊢;exact h
 |.ty _,v,L,h,_,_,_=>by rw[Rep]at h⊢;exact h
 |.tup ds,v,L,h,b,o,hl=>by
  rw[Rep]at h⊢;obtain⟨a,xs,rfl,Y,Z⟩:=h;exact⟨a,xs,rfl,e.t a xs Y,aF.mono e Z (by simpa[aD]using b) (by simpa[aC]using o) hl⟩
 |.lst m ds,v,L,h,b,o,hl=>by
  rw[Rep]at h⊢;obtain⟨a,xs,M,rfl,Z,O⟩:=h;exact⟨a,xs,M,rfl,aF.mono e Z (b.imp (λz=>by simp[aD]at z;exact z.2) id) (o.imp (λz=>by simp[aC]at z;exact z.2) id) λc J=>hl c (O.sub.subset J),O.mono e (b.imp (λz=>by simp[aD]at z;exact z.1) id) (o.imp (λz=>by simp[aC]at z;exact z.1) id) hl⟩
 |.dct m ks ds,v,L,h,b,o,hl=>by
  rw[Rep]at h⊢;obtain⟨a,xs,M,rfl,q,Z,O⟩:=h;exact⟨a,xs,M,rfl,q,aF.mono e Z (b.imp (λz=>by simp[aD]at z;exact z.2) id) (o.imp (λz=>by simp[aC]at z;exact z.2) id) λc J=>hl c (O.sub.subset J),O.mono e (b.imp (λz=>by simp[aD]at z;exact z.1) id) (o.imp (λz=>by simp[aC]at z;exact z.1) id) hl⟩
 |.ins m c fs ds,v,L,h,b,o,hl=>by
  rw[Rep]at h⊢;obtain⟨a,C,dx,xs,M,rfl,F,q,Z,O⟩:=h;exact⟨a,C,dx,xs,M,rfl,F,q,aF.mono e Z (b.imp (λz=>by simp[aD]at z;exact z.2) id) (o.imp (λz=>by simp[aC]at z;exact z.2) id) λc J=>hl c (O.sub.subset J),O.mono e (b.imp (λz=>by simp[aD]at z;exact z.1) id) (o.imp (λz=>by simp[aC]at z;exact z.1) id) hl⟩
theorem aF.mono(e:Evo H H' W W'):∀{ds:List D}{vs:List V}{L:List Addr},aF G H W ds vs L->(au ds=true∨Jh H H' W W')->(az ds=true∨Same H H')->(∀c∈L,∀u,H c=some u->H' c=some u)->aF G H' W' ds vs L
 |[],vs,L,h,_,_,_=>by rw[aF]at h⊢;exact h
 |d::r,vs,L,h,b,o,hl=>by
  obtain⟨x,ys,M,M',rfl,rfl,h1,h2⟩:=h.inv;exact .cons (Rep.mono e h1 (b.imp (λz=>by simp[au]at z;exact z.1) id) (o.imp (λz=>by simp[az]at z;exact z.1) id) λb U=>hl b (Uh _ U))
   (aF.mono e h2 (b.imp (λz=>by simp[au]at z;exact z.2) id) (o.imp (λz=>by simp[az]at z;exact z.2) id) λb U=>hl b (T9 _ U))
end
structure Up(H H':Hp)(W W':Wn):Prop where
 s:Same H H'
 f:∀b u,H b=some u->W.free b->W'.free b
 n:∀b u,H b=some u->W.s b->W'.s b
theorem Up.evo(u:Up H H' W W'):Evo H H' W W':=⟨λb o h f=>⟨u.s b o h,u.f b o h f⟩,λb xs h=>u.s b _ h⟩
theorem Up.evoN(u:Up H H' W W'):Jh H H' W W':=λb o h f=>⟨u.s b o h,u.n b o h f⟩
theorem Up.refl:Up H H W W:=⟨Same.refl H,λ_ _ _ f=>f,λ_ _ _ f=>f⟩
variable{H2:Hp}
theorem Up.trans{N:Wn}(a:Up H H' W W')(b:Up H' H2 W' N):Up H H2 W N:=⟨a.s.trans b.s,λc u h f=>b.f c u (a.s c u h) (a.f c u h f),λc u h f=>b.n c u (a.s c u h) (a.n c u h f)⟩
variable{v:V}
theorem Rep.up(h:Rep G H W d v L)(u:Up H H' W W'):Rep G H' W' d v L:=h.mono u.evo (.inr u.evoN) (.inr u.s) λc _ o e=>u.s c o e
theorem aF.up{d:List D}{v:List V}(h:aF G H W d v L)(u:Up H H' W W'):aF G H' W' d v L:=h.mono u.evo (.inr u.evoN) (.inr u.s) λc _ o e=>u.s c o e
def Wn.add(W:Wn)(L:List Addr):Wn:=⟨λa=>a∈L∨W.n a,W.s,W.o⟩
theorem Up.add(s:Same H H')(F:∀a∈L,H a=none):Up H H' W (W.add L):=⟨s,λb u h f=>⟨λz=>z.elim (λz=>by rw[F b z]at h;cases h) f.1,f.2⟩,λb u h f=>f⟩
theorem Up.same(s:Same H H'):Up H H' W W:=⟨s,λ_ _ _ f=>f,λ_ _ _ f=>f⟩
def mkV(ob:Bool):Mk->Mk
 |.own=>if ob then .bro else .brw
 |m=>m
def mkF:Mk->Mk
 |.scr=>.scr
 |_=>.frz
mutual
noncomputable def view(ob:Bool):D->D
 |.tup ds=>.tup (cW ob ds)
 |.lst m ds=>.lst (mkV ob m) (cW ob ds)
 |.dct m ks ds=>.dct (mkV ob m) ks (cW ob ds)
 |.ins m c fs ds=>.ins (mkV ob m) c fs (cW ob ds)
 |d=>d
noncomputable def cW(ob:Bool):List D->List D
 |[]=>[]
 |d::r=>view ob d::cW ob r
end
mutual
noncomputable def fz:D->D
 |.tup ds=>.tup (fzL ds)
 |.lst m ds=>.lst (mkF m) (fzL ds)
 |.dct m ks ds=>.dct (mkF m) ks (fzL ds)
 |.ins m c fs ds=>.ins (mkF m) c fs (fzL ds)
 |d=>d
noncomputable def fzL:List D->List D
 |[]=>[]
 |d::r=>fz d::fzL r
end
theorem ir(ob:Bool):∀ds:List D,cW ob ds=ds.map (view ob)
 |[]=>rfl
 |d::r=>by rw[cW,ir ob r];rfl
theorem nF:∀ds:List D,fzL ds=ds.map fz
 |[]=>rfl
 |d::r=>by rw[fzL,nF r];rfl
theorem dq.view{ob:Bool}(N:ob=false->∀c∈L,W.s c)(h:dq J H W a o m L M):dq J H W a o (mkV ob m) [] []:=by
 cases m with
 |own=>
  cases ob with
  |false=>exact⟨h.1,N rfl a (by rw[h.2];simp),rfl,rfl⟩
  |true=>exact⟨h.1,rfl,rfl⟩
 |frz=>exact⟨h.1,h.2.1,rfl,rfl⟩
 |brw=>exact⟨h.1,h.2.1,rfl,rfl⟩
 |bro=>exact⟨h.1,rfl,rfl⟩
 |scr=>exact⟨h.1,rfl,rfl⟩
mutual
theorem Rep.view{ob:Bool}:∀{d:D}{v:V}{L:List Addr},Rep G H W d v L->(ob=false->∀c∈L,W.s c)->Rep G H W (view ob d) v []
 |.non,v,L,h,_=>by rw[Rep]at h;simp[Jb.view,Rep,h]
 |.bl _,v,L,h,_=>by rw[Rep]at h;simp[Jb.view,Rep,h]
 |.int _,v,L,h,_=>by rw[Rep]at h;simp[Jb.view,Rep,h]
 |.str _,v,L,h,_=>by rw[Rep]at h;simp[Jb.view,Rep,h]
 |.ty _,v,L,h,_=>by rw[Rep]at h;simp[Jb.view,Rep,h]
 |.tup ds,v,L,h,hn=>by
  rw[Rep]at h;rw[Jb.view,Rep];obtain⟨a,xs,rfl,Y,Z⟩:=h;exact⟨a,xs,rfl,Y,aF.view Z hn⟩
 |.lst m ds,v,L,h,hn=>by
  rw[Rep]at h;rw[Jb.view,Rep];obtain⟨a,xs,M,rfl,Z,O⟩:=h;exact⟨a,xs,[],rfl,aF.view Z λz c J=>hn z c (O.sub.subset J),O.view hn⟩
 |.dct m ks ds,v,L,h,hn=>by
  rw[Rep]at h;rw[Jb.view,Rep];obtain⟨a,xs,M,rfl,q,Z,O⟩:=h;exact⟨a,xs,[],rfl,q,aF.view Z λz c J=>hn z c (O.sub.subset J),O.view hn⟩
 |.ins m c fs ds,v,L,h,hn=>by
  rw[Rep]at h;rw[Jb.view,Rep];obtain⟨a,C,dx,xs,M,rfl,F,q,Z,O⟩:=h;exact⟨a,C,dx,xs,[],rfl,F,q,aF.view Z λz c J=>hn z c (O.sub.subset J),O.view hn⟩
theorem aF.view{ob:Bool}:∀{ds:List D}{vs:List V}{L:List Addr},aF G H W ds vs L->(ob=false->∀c∈L,W.s c)->aF G H W (cW ob ds) vs []
 |[],vs,L,h,_=>by obtain⟨rfl,_⟩:=h.inv0;rw[cW];exact .nil
 |d::r,vs,L,h,hn=>by
  obtain⟨x,ys,M,M',rfl,rfl,h1,h2⟩:=h.inv;rw[cW];exact .cons (M:=[]) (M':=[]) (Rep.view h1 λz c J=>hn z c (Uh _ J)) (aF.view h2 λz c J=>hn z c (T9 _ J))
end
structure Les(H:Hp)(W W':Wn)(L:List Addr):Prop where
 f:∀a,W.free a->W'.free a
 l:∀a∈L,W'.free a
theorem Les.sub(h:Les H W W' L)(s:∀a∈M,a∈L):Les H W W' M:=⟨h.f,λa Y=>h.l a (s a Y)⟩
def nu(W:Wn):Prop:=∀a,W.free a
theorem dq.fz(O:Les H W W' L)(N:(m≠.brw/\m≠.bro)∨nu W')(h:dq J H W a o m L M):dq J H W' a o (mkF m) [] []:=by
 cases m with
 |own=>exact⟨h.1,O.l a (by rw[h.2];simp),rfl,rfl⟩
 |frz=>exact⟨h.1,O.f a h.2.1,rfl,rfl⟩
 |brw=>exact⟨h.1,N.elim (λz=>absurd rfl z.1) λz=>z a,rfl,rfl⟩
 |bro=>exact⟨h.1,N.elim (λz=>absurd rfl z.2) λz=>z a,rfl,rfl⟩
 |scr=>exact⟨h.1.imp (λz=>⟨z.1,O.f a z.2⟩) id,rfl,rfl⟩
mutual
theorem Rep.fz:∀{d:D}{v:V}{L:List Addr},Rep G H W d v L->Les H W W' L->(clean d=true∨nu W')->Rep G H W' (fz d) v []
 |.non,v,L,h,_,_=>by rw[Rep]at h;simp[Jb.fz,Rep,h]
 |.bl _,v,L,h,_,_=>by rw[Rep]at h;simp[Jb.fz,Rep,h]
 |.int _,v,L,h,_,_=>by rw[Rep]at h;simp[Jb.fz,Rep,h]
 |.str _,v,L,h,_,_=>by rw[Rep]at h;simp[Jb.fz,Rep,h]
 |.ty _,v,L,h,_,_=>by rw[Rep]at h;simp[Jb.fz,Rep,h]
 |.tup ds,v,L,h,O,c=>by
  rw[Rep]at h;rw[Jb.fz,Rep];obtain⟨a,xs,rfl,Y,Z⟩:=h;exact⟨a,xs,rfl,Y,aF.fz Z O (c.imp (λz=>by simpa[clean,aD,aC]using z) id)⟩
 |.lst m ds,v,L,h,he,c=>by
  rw[Rep]at h;rw[Jb.fz,Rep];obtain⟨a,xs,M,rfl,Z,O⟩:=h;exact⟨a,xs,[],rfl,aF.fz Z (he.sub λc J=>O.sub.subset J) (c.imp (λz=>by simp[clean,aD,aC]at z;exact⟨z.1.2,z.2.2⟩) id),O.fz he (c.imp (λz=>by simp[clean,aD,aC]at z;exact⟨z.1.1,z.2.1⟩) id)⟩
 |.dct m ks ds,v,L,h,he,c=>by
  rw[Rep]at h;rw[Jb.fz,Rep];obtain⟨a,xs,M,rfl,q,Z,O⟩:=h;exact⟨a,xs,[],rfl,q,aF.fz Z (he.sub λc J=>O.sub.subset J) (c.imp (λz=>by simp[clean,aD,aC]at z;exact⟨z.1.2,z.2.2⟩) id),O.fz he (c.imp (λz=>by simp[clean,aD,aC]at z;exact⟨z.1.1,z.2.1⟩) id)⟩
 |.ins m c' fs ds,v,L,h,he,c=>by
  rw[Rep]at h;rw[Jb.fz,Rep];obtain⟨a,C,dx,xs,M,rfl,F,q,Z,O⟩:=h;exact⟨a,C,dx,xs,[],rfl,F,q,aF.fz Z (he.sub λc J=>O.sub.subset J) (c.imp (λz=>by simp[clean,aD,aC]at z;exact⟨z.1.2,z.2.2⟩) id),O.fz he (c.imp (λz=>by simp[clean,aD,aC]at z;exact⟨z.1.1,z.2.1⟩) id)⟩
theorem aF.fz:∀{ds:List D}{vs:List V}{L:List Addr},aF G H W ds vs L->Les H W W' L->((au ds=true/\az ds=true)∨nu W')->aF G H W' (fzL ds) vs []
 |[],vs,L,h,_,_=>by obtain⟨rfl,_⟩:=h.inv0;rw[fzL];exact .nil
 |d::r,vs,L,h,he,c=>by
  obtain⟨x,ys,M,M',rfl,rfl,h1,h2⟩:=h.inv;rw[fzL];exact .cons (M:=[]) (M':=[]) (Rep.fz h1 (he.sub λc J=>Uh _ J) (c.imp (λz=>by simp[clean,au,az]at z⊢;exact⟨z.1.1,z.2.1⟩) id))
   (aF.fz h2 (he.sub λc J=>T9 _ J) (c.imp (λz=>by simp[clean,au,az]at z⊢;exact⟨z.1.2,z.2.2⟩) id))
end
mutual
theorem yR:∀d:D,aD (Jb.fz d)=true
 |.non=>rfl|.bl _=>rfl|.int _=>rfl|.str _=>rfl|.ty _=>rfl
 |.tup ds=>by simp[Jb.fz,aD,gh ds]
 |.lst m ds=>by cases m<;>simp[Jb.fz,aD,gh ds,mkF]
 |.dct m _ ds=>by cases m<;>simp[Jb.fz,aD,gh ds,mkF]
 |.ins m _ _ ds=>by cases m<;>simp[Jb.fz,aD,gh ds,mkF]
theorem gh:∀ds:List D,au (fzL ds)=true
 |[]=>rfl
 |d::r=>by simp[fzL,au,yR d,gh r]
end
mutual
theorem xR:∀d:D,aC (Jb.fz d)=true
 |.non=>rfl|.bl _=>rfl|.int _=>rfl|.str _=>rfl|.ty _=>rfl
 |.tup ds=>by simp[Jb.fz,aC,fY ds]
 |.lst m ds=>by cases m<;>simp[Jb.fz,aC,fY ds,mkF]
 |.dct m _ ds=>by cases m<;>simp[Jb.fz,aC,fY ds,mkF]
 |.ins m _ _ ds=>by cases m<;>simp[Jb.fz,aC,fY ds,mkF]
theorem fY:∀ds:List D,az (fzL ds)=true
 |[]=>rfl
 |d::r=>by simp[fzL,az,xR d,fY r]
end
theorem G6(d:D):clean (Jb.fz d)=true:=by simp[clean,yR,xR]
mutual
theorem Rep.dom:∀{d:D}{v:V}{L:List Addr},Rep G H W d v L->∀a∈L,Mu H a
 |.non,v,L,h=>by rw[Rep]at h;rw[h.2];simp
 |.bl _,v,L,h=>by rw[Rep]at h;rw[h.2];simp
 |.int _,v,L,h=>by rw[Rep]at h;rw[h.2];simp
 |.str _,v,L,h=>by rw[Rep]at h;rw[h.2];simp
 |.ty _,v,L,h=>by rw[Rep]at h;rw[h.2];simp
 |.tup ds,v,L,h=>by
  rw[Rep]at h;obtain⟨a,xs,rfl,Y,Z⟩:=h;exact aF.dom Z
 |.lst m ds,v,L,h=>by
  rw[Rep]at h;obtain⟨a,xs,M,rfl,Z,O⟩:=h;intro b U;cases m with
  |own=>
   rw[O.2]at U;rcases Uj.mp U with z|z
   .rw[z];exact⟨_,O.1,rfl⟩
   .exact aF.dom Z b z
  |frz=>rw[O.2.2.2]at U;cases U
  |brw=>rw[O.2.2.2]at U;cases U
  |bro=>rw[O.2.2]at U;cases U
  |scr=>rw[O.2.2]at U;cases U
 |.dct m ks ds,v,L,h=>by
  rw[Rep]at h;obtain⟨a,xs,M,rfl,q,Z,O⟩:=h;intro b U;cases m with
  |own=>
   rw[O.2]at U;rcases Uj.mp U with z|z
   .rw[z];exact⟨_,O.1,rfl⟩
   .exact aF.dom Z b z
  |frz=>rw[O.2.2.2]at U;cases U
  |brw=>rw[O.2.2.2]at U;cases U
  |bro=>rw[O.2.2]at U;cases U
  |scr=>rw[O.2.2]at U;cases U
 |.ins m c fs ds,v,L,h=>by
  rw[Rep]at h;obtain⟨a,C,dx,xs,M,rfl,F,q,Z,O⟩:=h;intro b U;cases m with
  |own=>
   rw[O.2]at U;rcases Uj.mp U with z|z
   .rw[z];exact⟨_,O.1,rfl⟩
   .exact aF.dom Z b z
  |frz=>rw[O.2.2.2]at U;cases U
  |brw=>rw[O.2.2.2]at U;cases U
  |bro=>rw[O.2.2]at U;cases U
  |scr=>rw[O.2.2]at U;cases U
theorem aF.dom:∀{ds:List D}{vs:List V}{L:List Addr},aF G H W ds vs L->∀a∈L,Mu H a
 |[],vs,L,h=>by rw[h.inv0.2];simp
 |d::r,vs,L,h=>by
  obtain⟨x,ys,M,M',rfl,rfl,h1,h2⟩:=h.inv;intro a Y;rcases T_.mp Y with z|z
  .exact Rep.dom h1 a z
  .exact aF.dom h2 a z
end
abbrev En:=List (Option D)
abbrev Ad:=Nat->List Addr
def Rel(G:Gc)(H:Hp)(W:Wn)(ob:Nat->Bool)(ρ:En)(σ:L2.St):Prop:=∀(i:Nat)(d:D),ρ[i]? =some (some d)->∃v L,σ[i]? =some (some v)/\Rep G H W d v L/\(ob i=false->∀c∈L,W.s c)
def WOk(H:Hp)(W:Wn):Prop:=∀a,W.n a∨W.s a∨W.o a->Mu H a
variable{ρ:En}{σ:L2.St}
theorem Rel.up(r:Rel G H W ob ρ σ)(u:Up H H' W W'):Rel G H' W' ob ρ σ:=λi d e=>let⟨v,L,h1,h2,h3⟩:=r i d e;⟨v,L,h1,h2.up u,λz c J=>let⟨o,ho,_⟩:=h2.dom c J;u.n c o ho (h3 z c J)⟩
theorem WOk.add(h:WOk H W)(s:Same H H')(F:∀a∈L,Mu H' a):WOk H' (W.add L):=λa Y=>by
 rcases Y with(z|z)|z
 .exact F a z
 .obtain⟨o,h1,h2⟩:=h a (.inl z);exact⟨o,s a o h1,h2⟩
 .obtain⟨o,h1,h2⟩:=h a (.inr z);exact⟨o,s a o h1,h2⟩
def wn(ob:Nat->Bool)(S:Ad)(Fr:Addr->Prop):Wn:=⟨Fr,λa=>∃i,ob i=false/\a∈S i,λa=>∃i,ob i=true/\a∈S i⟩
def inS(S:Ad)(a:Addr):Prop:=∃i,a∈S i
def inO(ob:Nat->Bool)(S:Ad)(a:Addr):Prop:=∃i,ob i=true/\a∈S i
def plus(M:List Addr)(Fr:Addr->Prop):Addr->Prop:=λa=>a∈M∨Fr a
structure Sta(G:Gc)(H:Hp)(ob:Nat->Bool)(ρ:En)(σ:L2.St)(S:Ad)(Fr:Addr->Prop):Prop where
 len:ρ.length=σ.length
 sl:∀(i:Nat)(d:D),ρ[i]? =some (some d)->∃v,σ[i]? =some (some v)/\Rep G H (wn ob S Fr) d v (S i)/\clean d=true
 em:∀i,(∀d,ρ[i]?≠some (some d))->S i=[]
 nd:∀i,(S i).Nodup
 dj:∀i j a,a∈S i->a∈S j->i=j
 fdj:∀i a,Fr a->a∉S i
 fdm:∀a,Fr a->Mu H a
section
variable{G:Gc}{H H':Hp}{ob:Nat->Bool}{ρ:En}{σ:L2.St}{S S':Ad}{Fr Fr':Addr->Prop}
theorem Sta.mu(s:Sta G H ob ρ σ S Fr){i:Nat}{a:Addr}(h:a∈S i):Mu H a:=by
 by_cases e:∃d,ρ[i]? =some (some d)
 .obtain⟨d,e⟩:=e
  obtain⟨v,_,r,_⟩:=s.sl i d e;exact r.dom a h
 .rw[s.em i λd z=>e ⟨d,z⟩]at h
  cases h
theorem Sta.wok(s:Sta G H ob ρ σ S Fr):WOk H (wn ob S Fr):=λa Y=>by
 rcases Y with z|⟨i,_,z⟩|⟨i,_,z⟩
 .exact s.fdm a z
 .exact s.mu z
 .exact s.mu z
theorem Sta.rel(s:Sta G H ob ρ σ S Fr):Rel G H (wn ob S Fr) ob ρ σ:=λi d e=>by
 obtain⟨v,h1,h2,_⟩:=s.sl i d e;exact⟨v,S i,h1,h2,λz c J=>⟨i,z,J⟩⟩
theorem Sta.grow(s:Sta G H ob ρ σ S Fr)(F:Same H H')(h1:∀a,Fr' a->Fr a∨(H a=none/\Mu H' a)):Sta G H' ob ρ σ S Fr' where
 len:=s.len
 sl:=λi d e=>by
  obtain⟨v,q1,q2,O⟩:=s.sl i d e;have J:aD d=true/\aC d=true:=by simpa[clean]using O
  have N:Evo H H' (wn ob S Fr) (wn ob S Fr'):=⟨λb u h f=>⟨F b u h,⟨λz=>(h1 b z).elim f.1 (λz=>by rw[z.1]at h;cases h),f.2⟩⟩,λb xs h=>F b _ h⟩;exact⟨v,q1,q2.mono N (.inl J.1) (.inl J.2) λc _ u e=>F c u e,O⟩
 em:=s.em
 nd:=s.nd
 dj:=s.dj
 fdj:=λi a h z=>by
  rcases h1 a h with q|q
  .exact s.fdj i a q z
  .obtain⟨o,ho,_⟩:=s.mu z
   rw[q.1]at ho;cases ho
 fdm:=λa h=>by
  rcases h1 a h with q|q
  .obtain⟨o,ho,hm⟩:=s.fdm a q
   exact⟨o,F a o ho,hm⟩
  .exact q.2
theorem Sta.lessF(s:Sta G H ob ρ σ S Fr)(h1:∀a,Fr' a->Fr a):Sta G H ob ρ σ S Fr':=s.grow (Same.refl H) λa h=>.inl (h1 a h)
end
def RfE(G:Gc)(ob:Nat->Bool)(t:TE)(f:En->Option D):Prop:=∀(ρ:En)(d:D),f ρ=some d->∀(σ:L2.St)(H:Hp)(W:Wn),Rel G H W ob ρ σ->WOk H W->∀Q:VK,
 (∀v H' L,Same H H'->Rep G H' (W.add L) d v L->(∀a∈L,H a=none)->L.Nodup->Q v H')->t σ H Q
def RfT(G:Gc)(ob:Nat->Bool)(t:TT)(f:En->Option Bool):Prop:=∀(ρ:En)(b:Bool),f ρ=some b->∀(σ:L2.St)(H:Hp)(W:Wn),Rel G H W ob ρ σ->WOk H W->∀Q:Bool->Hp->Prop,
 (∀H',Same H H'->Q b H')->t σ H Q
def RfA(G:Gc)(ob:Nat->Bool)(t:TA)(f:En->Option (List D)):Prop:=∀(ρ:En)(ds:List D),f ρ=some ds->∀(σ:L2.St)(H:Hp)(W:Wn),Rel G H W ob ρ σ->WOk H W->∀Q:List V->Hp->Prop,
 (∀vs H' L,Same H H'->aF G H' (W.add L) ds vs L->(∀a∈L,H a=none)->L.Nodup->Q vs H')->t σ H Q
structure Eff(ob:Nat->Bool)(H H':Hp)(S S':Ad)(M:List Addr):Prop where
 kp:∀b u,H b=some u->¬inO ob S b->H' b=some u
 sn:∀i,ob i=false->S' i=S i
 gr:∀i a,ob i=true->a∈S' i->inO ob S a∨H a=none
 fm:∀a∈M,inO ob S a∨H a=none
def kh(G:Gc)(ob:Nat->Bool)(t:TE)(f:En->Option (D×En)):Prop:=∀(ρ:En)(d:D)(J:En),f ρ=some (d,J)->∀(σ:L2.St)(H:Hp)(S:Ad)(Fr:Addr->Prop),Sta G H ob ρ σ S Fr->∀Q:VK,
 (∀v H' M S',Sta G H' ob J σ S' (plus M Fr)->Rep G H' (wn ob S' (plus M Fr)) d v M->M.Nodup->Eff ob H H' S S' M->Q v H')->t σ H Q
def u_(G:Gc)(ob:Nat->Bool)(t:TT)(f:En->Option (Bool×En)):Prop:=∀(ρ:En)(b:Bool)(J:En),f ρ=some (b,J)->∀(σ:L2.St)(H:Hp)(S:Ad)(Fr:Addr->Prop),Sta G H ob ρ σ S Fr->∀Q:Bool->Hp->Prop,
 (∀H' S',Sta G H' ob J σ S' Fr->Eff ob H H' S S' []->Q b H')->t σ H Q
def xZ(G:Gc)(ob:Nat->Bool)(t:TA)(f:En->Option (List D×En)):Prop:=∀(ρ:En)(ds:List D)(J:En),f ρ=some (ds,J)->∀(σ:L2.St)(H:Hp)(S:Ad)(Fr:Addr->Prop),Sta G H ob ρ σ S Fr->∀Q:List V->Hp->Prop,
 (∀vs H' M S',Sta G H' ob J σ S' (plus M Fr)->aF G H' (wn ob S' (plus M Fr)) ds vs M->M.Nodup->Eff ob H H' S S' M->Q vs H')->t σ H Q
inductive Fl where
 |nx (ρ:En)|ret (d:D) (ρ:En)|brk (ρ:En)|cnt (ρ:En)
def Ah(P:Nat->Bool)(σ F:L2.St):Prop:=∀i,P i=true->F[i]? =σ[i]?
variable{P:Nat->Bool}
theorem Ah.refl:Ah P σ σ:=λ_ _=>rfl
theorem Ah.trans{N σ2:L2.St}(a:Ah P σ N)(b:Ah P N σ2):Ah P σ σ2:=λi h=>(b i h).trans (a i h)
structure Mv(P:Nat->Bool)(H H':Hp)(σ σ':L2.St)(S S':Ad)(M:List Addr):Prop where
 kp:∀b u,H b=some u->¬inS S b->b∉M->H' b=some u
 gr:∀i a,a∈S' i->inS S a∨a∈M∨H a=none
 pr:Ah P σ σ'
variable{S:Ad}
theorem Mv.trans{H1:Hp}{N σ2:L2.St}{S1 S2:Ad}(a:Mv P H H1 σ N S S1 M)(b:Mv P H1 H2 N σ2 S1 S2 []):Mv P H H2 σ σ2 S S2 M where
 kp:=λc u h n m=>b.kp c u (a.kp c u h n m) (λ⟨i,z⟩=>(a.gr i c z).elim n λz=>z.elim m λe=>by rw[h]at e;cases e) (by simp)
 gr:=λi c z=>by
  rcases b.gr i c z with⟨j,q⟩|q|q
  .exact a.gr j c q
  .cases q
  .by_cases h:inS S c
   .exact .inl h
   .by_cases hm:c∈M
    .exact .inr (.inl hm)
    .refine .inr (.inr ?_)
     cases e:H c with
     |none=>rfl
     |some u=>rw[a.kp c u e h hm]at q;cases q
 pr:=a.pr.trans b.pr
theorem Eff.mv{S':Ad}(e:Eff ob H H' S S' M):Mv P H H' σ σ S S' []where
 kp:=λb u h n _=>e.kp b u h λ⟨i,_,z⟩=>n ⟨i,z⟩
 gr:=λi a z=>by
  cases h:ob i with
  |false=>rw[e.sn i h]at z;exact .inl ⟨i,z⟩
  |true=>exact(e.gr i a h z).imp (λ⟨j,_,q⟩=>⟨j,q⟩) .inr
 pr:=.refl
def Aft(G:Gc)(ob P:Nat->Bool)(H:Hp)(σ:L2.St)(S:Ad)(Fr:Addr->Prop)(E:Ends):Fl->Prop
 |.nx J=>∀F H' S',Sta G H' ob J F S' Fr->Mv P H H' σ F S S' []->E.nx F H'
 |.brk J=>∀F H' S',Sta G H' ob J F S' Fr->Mv P H H' σ F S S' []->E.bk F H'
 |.cnt J=>∀F H' S',Sta G H' ob J F S' Fr->Mv P H H' σ F S S' []->E.ct F H'
 |.ret d J=>∀v F H' M S',Sta G H' ob J F S' (plus M Fr)->Rep G H' (wn ob S' (plus M Fr)) d v M->clean d=true->M.Nodup->(∀a∈M,inS S a∨H a=none)->Mv P H H' σ F S S' []->E.rt v H'
def RfS(G:Gc)(ob P:Nat->Bool)(t:TS)(f:En->Option Fl):Prop:=∀(ρ:En)(r:Fl),f ρ=some r->∀(σ:L2.St)(H:Hp)(S:Ad)(Fr:Addr->Prop),Sta G H ob ρ σ S Fr->∀E:Ends,Aft G ob P H σ S Fr E r->t E σ H
def RfG(G:Gc)(ob P:Nat->Bool)(g:TG)(f:D->En->Option En):Prop:=∀(d:D)(ρ J:En),f d ρ=some J->∀(v:V)(σ:L2.St)(H:Hp)(S:Ad)(M:List Addr)(Fr:Addr->Prop),Sta G H ob ρ σ S (plus M Fr)->Rep G H (wn ob S (plus M Fr)) d v M->M.Nodup->(∀a∈M,¬Fr a)->
 ∀Q:L2.St->Hp->Prop,(∀F H' S',Sta G H' ob J F S' Fr->Mv P H H' σ F S S' M->Q F H')->g v σ H Q
def T5(G:Gc)(ob P:Nat->Bool)(g:TGs)(f:List D->En->Option En):Prop:=∀(ds:List D)(ρ J:En),f ds ρ=some J->∀(vs:List V)(σ:L2.St)(H:Hp)(S:Ad)(M:List Addr)(Fr:Addr->Prop),Sta G H ob ρ σ S (plus M Fr)->aF G H (wn ob S (plus M Fr)) ds vs M->M.Nodup->(∀a∈M,¬Fr a)->
 ∀Q:L2.St->Hp->Prop,(∀F H' S',Sta G H' ob J F S' Fr->Mv P H H' σ F S S' M->Q F H')->g vs σ H Q
structure PV{ι:Type}(X:ι->Cx)(G:Gc)(ob:Nat->Bool)(e:Expr)(f:En->Option D):Prop where
 mk::(ex:∃t,(∀c,PE (X c) e t)/\RfE G ob t f)
structure PVT{ι:Type}(X:ι->Cx)(G:Gc)(ob:Nat->Bool)(e:Expr)(f:En->Option Bool):Prop where
 mk::(ex:∃t,(∀c,PT (X c) e t)/\RfT G ob t f)
structure PVW{ι:Type}(X:ι->Cx)(G:Gc)(ob:Nat->Bool)(e:Expr)(f:En->Option Bool):Prop where
 mk::(ex:∃t,(∀c,PW (X c) e t)/\RfT G ob t f)
structure PVA{ι:Type}(X:ι->Cx)(G:Gc)(ob:Nat->Bool)(es:List Expr)(f:En->Option (List D)):Prop where
 mk::(ex:∃t,(∀c,PA (X c) es t)/\RfA G ob t f)
structure PVe{ι:Type}(X:ι->Cx)(G:Gc)(ob:Nat->Bool)(e:Expr)(f:En->Option (D×En)):Prop where
 mk::(ex:∃t,(∀c,PE (X c) e t)/\kh G ob t f)
structure yD{ι:Type}(X:ι->Cx)(G:Gc)(ob:Nat->Bool)(e:Expr)(f:En->Option (Bool×En)):Prop where
 mk::(ex:∃t,(∀c,PT (X c) e t)/\u_ G ob t f)
structure Lr{ι:Type}(X:ι->Cx)(G:Gc)(ob:Nat->Bool)(e:Expr)(f:En->Option (Bool×En)):Prop where
 mk::(ex:∃t,(∀c,PW (X c) e t)/\u_ G ob t f)
structure yV{ι:Type}(X:ι->Cx)(G:Gc)(ob:Nat->Bool)(es:List Expr)(f:En->Option (List D×En)):Prop where
 mk::(ex:∃t,(∀c,PA (X c) es t)/\xZ G ob t f)
structure PVS{ι:Type}(X:ι->Cx)(G:Gc)(ob P:Nat->Bool)(st:Stmt)(f:En->Option Fl):Prop where
 mk::(ex:∃t,(∀c,PS (X c) st t)/\RfS G ob P t f)
structure rH{ι:Type}(X:ι->Cx)(G:Gc)(ob P:Nat->Bool)(st:List Stmt)(f:En->Option Fl):Prop where
 mk::(ex:∃t,(∀c,PSs (X c) st t)/\RfS G ob P t f)
structure PVG{ι:Type}(X:ι->Cx)(G:Gc)(ob P:Nat->Bool)(tg:Expr)(f:D->En->Option En):Prop where
 mk::(ex:∃t,(∀c,PG (X c) tg t)/\RfG G ob P t f)
theorem dZ(h1:L.Nodup)(h2:M.Nodup)(F:∀a∈L,a∉M):(L++M).Nodup:=Ur.mpr ⟨h1,h2,λa Y b U e=>F a Y (e▸U)⟩
def Wn.drop(W:Wn)(L:List Addr):Wn:=⟨λa=>W.n a/\a∉L,W.s,W.o⟩
def Wn.tmp(W:Wn)(a:Addr):Prop:=W.n a/\¬W.s a/\¬W.o a
theorem WOk.tmp(w:WOk H W)(F:∀a∈L,H a=none):∀a∈L,(W.add L).tmp a:=λa Y=>by
 refine⟨.inl Y,λz=>?_,λz=>?_⟩
 .obtain⟨o,ho,_⟩:=w a (.inr (.inl z));rw[F a Y]at ho;cases ho
 .obtain⟨o,ho,_⟩:=w a (.inr (.inr z));rw[F a Y]at ho;cases ho
def Done(G:Gc)(H:Hp)(W:Wn)(J:List Addr)(d:D)(Q:VK):Prop:=∀v H' L,Same H H'->Rep G H' ((W.drop J).add L) d v L->(∀a∈L,a∈J∨H a=none)->L.Nodup->Q v H'
def OpV(G:Gc)(r:R2)(g:D->D->Option D):Prop:=∀(dx Y d:D),g dx Y=some d->∀(x y:V)(H:Hp)(W:Wn)(Z Ly:List Addr),Rep G H W dx x Z->Rep G H W Y y Ly->(Z++Ly).Nodup->(∀a∈Z++Ly,W.tmp a)->WOk H W->∀Q:VK,Done G H W (Z++Ly) d Q->r x y H Q
def UnV(G:Gc)(r:V->Hp->VK->Prop)(g:D->Option D):Prop:=∀(dx d:D),g dx=some d->∀(x:V)(H:Hp)(W:Wn)(Z:List Addr),Rep G H W dx x Z->Z.Nodup->(∀a∈Z,W.tmp a)->WOk H W->∀Q:VK,Done G H W Z d Q->r x H Q
def CaV(G:Gc)(r:List V->Hp->VK->Prop)(g:List D->Option D):Prop:=∀(ds:List D)(d:D),g ds=some d->∀(xs:List V)(H:Hp)(W:Wn)(J:List Addr),aF G H W ds xs J->J.Nodup->(∀a∈J,W.tmp a)->WOk H W->∀Q:VK,Done G H W J d Q->r xs H Q
def MtV(G:Gc)(r:V->List V->Hp->VK->Prop)(g:D->List D->Option D):Prop:=∀(dx:D)(ds:List D)(d:D),g dx ds=some d->∀(x:V)(xs:List V)(H:Hp)(W:Wn)(Z J:List Addr),Rep G H W dx x Z->aF G H W ds xs J->(Z++J).Nodup->(∀a∈Z++J,W.tmp a)->WOk H W->∀Q:VK,Done G H W (Z++J) d Q->r x xs H Q
theorem WOk.new(w:WOk H W)(F:∀a∈L,H a=none)(h:W.n a):a∉L:=λz=>by
 obtain⟨o,O,_⟩:=w a (.inl h);rw[F a z]at O;cases O
variable{Q:VK}
theorem Done.scal{J:List Addr}(h:Done G H W J d Q)(r:∀W,Rep G H W d v []):Q v H:=h v H [] (Same.refl H) (r _) (by simp) Va
theorem _root_.L2.Same.none'(s:Same H H')(h:H' a=none):H a=none:=Same.free s h
variable{ta tb:TE}{fa fb:En->Option D}{R:V->V->Hp->Prop}
theorem RfE.two(Y:RfE G ob ta fa)(U:RfE G ob tb fb){dx dy:D}(e1:fa ρ=some dx)(e2:fb ρ=some dy)(r:Rel G H W ob ρ σ)(w:WOk H W)
  (h:∀x y H' L M,Same H H'->Rep G H' (W.add (L++M)) dx x L->Rep G H' (W.add (L++M)) dy y M->(∀a∈L++M,H a=none)->(L++M).Nodup->WOk H' (W.add (L++M))->R x y H'):ta σ H λx H1=>tb σ H1 λy H2=>R x y H2:=by
 refine Y ρ dx e1 σ H W r w _ λx H1 L Z rx F nx=>?_;have u1:Up H H1 W (W.add L):=.add Z F;have w1:WOk H1 (W.add L):=w.add Z rx.dom;refine U ρ dy e2 σ H1 (W.add L) (r.up u1) w1 _ λy H2 M N J fy ny=>?_;have a1:∀a∈L,a∉M:=λa h1 h2=>by
  obtain⟨o,O,_⟩:=rx.dom a h1;rw[fy a h2]at O;cases O
 have eW:∀a,((W.add L).add M).n a↔(W.add (L++M)).n a:=λa=>by
  show(a∈M∨a∈L∨W.n a)↔(a∈L++M∨W.n a);rw[T_];constructor
  .rintro(z|z|z)
   .exact .inl (.inr z)
   .exact .inl (.inl z)
   .exact .inr z
  .rintro((z|z)|z)
   .exact .inr (.inl z)
   .exact .inl z
   .exact .inr (.inr z)
 have a0:(W.add L).add M=W.add (L++M):=by
  show Wn.mk _ _ _=Wn.mk _ _ _;congr 1;funext a;exact propext (eW a)
 have q:Up H1 H2 (W.add L) (W.add (L++M)):=by rw[←a0];exact .add N fy
 rw[a0]at J;refine h x y H2 L M (Z.trans N) (rx.up q) J (λa Y=>?_) (dZ nx ny a1) ?_
 .rcases T_.mp Y with z|z
  .exact F a z
  .exact Z.none' (fy a z)
 .rw[←a0]
  exact w1.add N J.dom
def ak(b:Bool)(i:Nat):En->Option D:=λρ=>match ρ[i]? with
 |some (some d)=>some (view b d)
 |_=>none
def eC(d:D):En->Option D:=λ_=>some d
theorem qx(W:Wn):W.add []=W:=by
 cases W;simp[Wn.add]
theorem Qy:RfE G ob (Ep i) (ak (ob i) i):=λρ d e σ H W r w Q q=>by
 unfold ak at e;split at e
 .rename_i d0 e0
  cases e;obtain⟨v,L,h1,h2,F⟩:=r i d0 e0;refine⟨v,h1,q v H [] (Same.refl H) ?_ (by simp) Va⟩;rw[qx];exact h2.view F
 .cases e
variable{X:ι->Cx}
theorem aa(b:Bool)(i:Nat)(U:ob i=b:=by rfl)(q:∀c,(X c).N[i]? =some x:=by intro _;rfl)(z:∀c,Vis (X c).env.scope x:=by intro _;first|exact Xe rfl|exact Wg (Xe rfl)|exact Wg (Wg rfl))(hd:(x==("__debug__":Str))=false:=by decide)(J:(x==("__classdict__":Str))=false:=by decide):PV X G ob (.Name x pos) (ak b i):=⟨_,λc=>pv i (q c) (z c) hd J,by rw[←U];exact Qy⟩
theorem zz(h:∀H W,Rep G H W d v []):RfE G ob (tC v) (eC d):=λρ d' e σ H W r w Q q=>by
 cases e;exact q v H [] (Same.refl H) (h _ _) (by simp) Va
theorem aJ{i j pos}:PV X G ob (.Constant (.int i) j pos) (eC (.int i)):=⟨_,λc=>Qi,zz λ_ _=>by simp[Rep]⟩
theorem rA{b j pos}:PV X G ob (.Constant (.bool b) j pos) (eC (.bl b)):=⟨_,λc=>Su,zz λ_ _=>by simp[Rep]⟩
theorem lB{j pos}:PV X G ob (.Constant .none j pos) (eC .non):=⟨_,λc=>QB,zz λ_ _=>by simp[Rep]⟩
theorem lw{x j pos}:PV X G ob (.Constant (.str x) j pos) (eC (.str x)):=⟨_,λc=>Oa,zz λ_ _=>by simp[Rep]⟩
theorem Ml{n:String}(z:∀c,Gl (X c) x)(V:∀c,(X c).mg x=none)(U:W2 x=some (.type n))(N:x≠"__name__":=by decide)(hd:(x==("__debug__":Str))=false:=by decide):PV X G ob (.Name x pos) (eC (.ty n)):=⟨_,λc=>RC (z c) (V c) U N hd,zz λ_ _=>by simp[Rep]⟩
structure OpB{ι:Type}(X:ι->Cx)(G:Gc)(f:Value->Value->Sem Value)(g:D->D->Option D):Prop where
 ex:∃r,(∀c,OpR (X c) f r)/\OpV G r g
structure UnB{ι:Type}(X:ι->Cx)(G:Gc)(f:Value->Sem Value)(g:D->Option D):Prop where
 ex:∃r,(∀c,UnR (X c) f r)/\UnV G r g
structure IxB{ι:Type}(X:ι->Cx)(G:Gc)(g:D->D->Option D):Prop where
 ex:∃r,(∀c,IxR (X c) r)/\OpV G r g
structure CaB{ι:Type}(X:ι->Cx)(G:Gc)(f:Value)(g:List D->Option D):Prop where
 ex:∃r,(∀c,eU (X c) f r)/\CaV G r g
structure MtB{ι:Type}(X:ι->Cx)(G:Gc)(T id:String)(g:D->List D->Option D):Prop where
 ex:∃r,(∀c,MtR (X c) id r)/\MtV G r g/\∀dx ds d,g dx ds=some d->∀(x:V)(H:Hp)(W:Wn)(Lx:List Addr),Rep G H W dx x Lx->tyV G.K T x H
def e2(g:D->D->Option D)(fa fb:En->Option D):En->Option D:=λρ=>(fa ρ).bind λx=>(fb ρ).bind λy=>g x y
def e1(g:D->Option D)(fa:En->Option D):En->Option D:=λρ=>(fa ρ).bind g
variable{g:D->D->Option D}
theorem Bw{r:R2}(O:OpV G r g)(Y:RfE G ob ta fa)(U:RfE G ob tb fb):RfE G ob (tOp r ta tb) (e2 g fa fb):=λρ d e σ H W V w Q q=>by
 unfold e2 at e;cases h1:fa ρ with
 |none=>rw[h1]at e;cases e
 |some dx=>
  rw[h1]at e;cases h2:fb ρ with
  |none=>simp[h2]at e
  |some dy=>
   have e:g dx dy=some d:=by simpa[h2]using e
   refine RfE.two Y U h1 h2 V w λx y H' L M s rx J F nd w'=>?_;refine O dx dy d e x y H' _ L M rx J nd (w.tmp F) w' Q λv H2 L2 N r2 f2 Z=>?_;refine q v H2 L2 (s.trans N) ?_ (λa Y=>(f2 a Y).elim (F a) λz=>s.none' z) Z;exact r2.up ⟨Same.refl _,λb u U f=>⟨λz=>z.elim (λz=>f.1 (.inl z)) λz=>f.1 (.inr ⟨.inr z,WOk.new w F z⟩),f.2⟩,λ_ _ _ f=>f⟩
theorem Nh{r:V->Hp->VK->Prop}{g:D->Option D}(O:UnV G r g)(Y:RfE G ob ta fa):RfE G ob (tUn r ta) (e1 g fa):=λρ d e σ H W rl w Q q=>by
 unfold e1 at e;cases h1:fa ρ with
 |none=>rw[h1]at e;cases e
 |some dx=>
  rw[h1]at e;have e:g dx=some d:=by simpa using e
  refine Y ρ dx h1 σ H W rl w _ λx H' L s rx F nd=>?_;refine O dx d e x H' _ L rx nd (w.tmp F) (w.add s rx.dom) Q λv H2 L2 N J f2 Z=>?_;refine q v H2 L2 (s.trans N) ?_ (λa Y=>(f2 a Y).elim (F a) λz=>s.none' z) Z;exact J.up ⟨Same.refl _,λb u U f=>⟨λz=>z.elim (λz=>f.1 (.inl z)) λz=>f.1 (.inr ⟨.inr z,WOk.new w F z⟩),f.2⟩,λ_ _ _ f=>f⟩
def aN:En->Option (List D):=λ_=>some []
def ao(fa:En->Option D)(F:En->Option (List D)):En->Option (List D):=λρ=>(fa ρ).bind λx=>(F ρ).bind λxs=>some (x::xs)
theorem tE:RfA G ob QL aN:=λρ ds e σ H W V w Q q=>by
 cases e;exact q [] H [] (Same.refl H) .nil (by simp) Va
variable{t:TA}
theorem Lk{F:En->Option (List D)}(Y:RfE G ob ta fa)(Z:RfA G ob t F):RfA G ob (B_ ta t) (ao fa F):=λρ ds e σ H W V w Q q=>by
 unfold ao at e;cases h1:fa ρ with
 |none=>rw[h1]at e;cases e
 |some dx=>
  rw[h1]at e;cases h2:F ρ with
  |none=>simp[h2]at e
  |some es=>
   have e:dx::es=ds:=by simpa[h2]using e
   subst e;refine Y ρ dx h1 σ H W V w _ λx H1 L s1 rx fx nx=>?_;have u1:Up H H1 W (W.add L):=.add s1 fx;have w1:WOk H1 (W.add L):=w.add s1 rx.dom;refine Z ρ es h2 σ H1 (W.add L) (V.up u1) w1 _ λys H2 M N J fy ny=>?_;have a0:∀a∈L,a∉M:=λa h1 h2=>by
    obtain⟨o,O,_⟩:=rx.dom a h1;rw[fy a h2]at O;cases O
   have u2:Up H1 H2 (W.add L) (W.add (L++M)):=⟨N,λb u U f=>⟨λz=>z.elim (λz=>(T_.mp z).elim (λz=>f.1 (.inl z)) λz=>by rw[fy b z]at U;cases U) λz=>f.1 (.inr z),f.2⟩,λ_ _ _ f=>f⟩;refine q (x::ys) H2 (L++M) (s1.trans N) (.cons (rx.up u2) (J.up ⟨Same.refl _,λb u U f=>⟨λz=>?_,f.2⟩,λ_ _ _ f=>f⟩)) (λa Y=>?_) (dZ nx ny a0)
   .rcases z with z|z
    .exact(T_.mp z).elim (λz=>f.1 (.inr (.inl z))) λz=>f.1 (.inl z)
    .exact f.1 (.inr (.inr z))
   .rcases T_.mp Y with z|z
    .exact fx a z
    .exact s1.none' (fy a z)
variable{r:List V->Hp->VK->Prop}{f:En->Option (List D)}
theorem rm{g:List D->Option D}(O:CaV G r g)(h:RfA G ob t f):RfE G ob (λσ H Q=>t σ H λvs H1=>r vs H1 Q) (λρ=>(f ρ).bind g):=λρ d e σ H W rl w Q q=>by
 cases h1:f ρ with
 |none=>simp[h1]at e
 |some ds=>
  have e:g ds=some d:=by simpa[h1]using e
  refine h ρ ds h1 σ H W rl w _ λxs H' L s rx F nd=>?_;refine O ds d e xs H' _ L rx nd (w.tmp F) (w.add s rx.dom) Q λv H2 L2 N J f2 Z=>?_;refine q v H2 L2 (s.trans N) ?_ (λa Y=>(f2 a Y).elim (F a) λz=>s.none' z) Z;exact J.up ⟨Same.refl _,λb u U f=>⟨λz=>z.elim (λz=>f.1 (.inl z)) λz=>f.1 (.inr ⟨.inr z,WOk.new w F z⟩),f.2⟩,λ_ _ _ f=>f⟩
def eAp(g:List D->Option D)(f:En->Option (List D)):En->Option D:=λρ=>(f ρ).bind g
variable{fo:En->Option D}
theorem Gb{r:V->List V->Hp->VK->Prop}{g:D->List D->Option D}{ty:V->Hp->Prop}{to:TE}(O:MtV G r g)(a1:∀dx ds d,g dx ds=some d->∀(x:V)(H:Hp)(W:Wn)(Lx:List Addr),Rep G H W dx x Lx->ty x H)
  (h0:RfE G ob to fo) (h:RfA G ob t f):RfE G ob (λσ H Q=>to σ H λx H1=>ty x H1/\t σ H1 λxs H2=>r x xs H2 Q) (λρ=>(fo ρ).bind λx=>(f ρ).bind λds=>g x ds):=λρ d e σ H W rl w Q q=>by
 cases h1:fo ρ with
 |none=>simp[h1]at e
 |some dx=>
  cases h2:f ρ with
  |none=>simp[h1,h2]at e
  |some ds=>
   have e:g dx ds=some d:=by simpa[h1,h2]using e
   refine h0 ρ dx h1 σ H W rl w _ λx H1 L Z rx F nx=>⟨a1 dx ds d e x H1 _ L rx,?_⟩;have u1:Up H H1 W (W.add L):=.add Z F;have w1:WOk H1 (W.add L):=w.add Z rx.dom;refine h ρ ds h2 σ H1 (W.add L) (rl.up u1) w1 _ λys H2 M N J fy ny=>?_;have a0:∀a∈L,a∉M:=λa h1 h2=>by
    obtain⟨o,O,_⟩:=rx.dom a h1;rw[fy a h2]at O;cases O
   have u2:Up H1 H2 (W.add L) (W.add (L++M)):=⟨N,λb u U f=>⟨λz=>z.elim (λz=>(T_.mp z).elim (λz=>f.1 (.inl z)) λz=>by rw[fy b z]at U;cases U) λz=>f.1 (.inr z),f.2⟩,λ_ _ _ f=>f⟩;have u3:Up H2 H2 ((W.add L).add M) (W.add (L++M)):=⟨Same.refl _,λb u U f=>⟨λz=>by
    rcases z with z|z
    .exact(T_.mp z).elim (λz=>f.1 (.inr (.inl z))) λz=>f.1 (.inl z)
    .exact f.1 (.inr (.inr z)),f.2⟩,λ_ _ _ f=>f⟩
   have w2:WOk H2 (W.add (L++M)):=w.add (Z.trans N) λa Y=>(T_.mp Y).elim (λz=>let⟨o,h,m⟩:=rx.dom a z;⟨o,N a o h,m⟩) (J.dom a);refine O dx ds d e x ys H2 (W.add (L++M)) L M (rx.up u2) (J.up u3) (dZ nx ny a0) (w.tmp λa Y=>(T_.mp Y).elim (F a) λz=>Z.none' (fy a z)) w2 Q λv H3 L3 s3 r3 f3 n3=>?_;refine q v H3 L3 ((Z.trans N).trans s3) ?_ (λa Y=>(f3 a Y).elim (λz=>?_) λz=>(Z.trans N).none' z) n3
   .exact r3.up ⟨Same.refl _,λb u U f=>⟨λz=>z.elim (λz=>f.1 (.inl z)) λz=>f.1 (.inr ⟨.inr z,WOk.new w (λa Y=>(T_.mp Y).elim (F a) λz=>Z.none' (fy a z)) z⟩),f.2⟩,λ_ _ _ f=>f⟩
   .rcases T_.mp z with z|z
    .exact F a z
    .exact Z.none' (fy a z)
variable{a b:Expr}
theorem bV{op:aa0}(o:OpB X G (V6 op) g)(Y:PV X G ob a fa)(U:PV X G ob b fb):PV X G ob (.BinOp a op b pos) (e2 g fa fb):=let⟨r,o1,o2⟩:=o.ex;let⟨t,a1,a2⟩:=Y.ex;let⟨u,b1,b2⟩:=U.ex;⟨_,λc=>Mt (o1 c) (a1 c) (b1 c),Bw o2 a2 b2⟩
theorem wQ(o:OpB X G (U4 op) g)(Y:PV X G ob a fa)(U:PV X G ob b fb)(V:YJ op b=false:=by with_unfolding_all rfl):PV X G ob (.Compare a [op] [b] pos) (e2 g fa fb):=let⟨r,o1,o2⟩:=o.ex;let⟨t,a1,a2⟩:=Y.ex;let⟨u,b1,b2⟩:=U.ex;⟨_,λc=>Ck (o1 c) (a1 c) (b1 c) V,Bw o2 a2 b2⟩
theorem pH{op:UnaryOp}{g:D->Option D}(o:UnB X G (unaryOp op) g)(Y:PV X G ob a fa):PV X G ob (.UnaryOp op a pos) (e1 g fa):=let⟨r,o1,o2⟩:=o.ex;let⟨t,a1,a2⟩:=Y.ex;⟨_,λc=>Sx (o1 c) (a1 c),Nh o2 a2⟩
theorem cD(o:IxB X G g)(Y:PV X G ob a fa)(U:PV X G ob b fb)(O:wW b:=by exact λ_ _=>rfl):PV X G ob (.Subscript a b pos) (e2 g fa fb):=let⟨r,o1,o2⟩:=o.ex;let⟨t,a1,a2⟩:=Y.ex;let⟨u,b1,b2⟩:=U.ex;⟨_,λc=>Ng (o1 c) (a1 c) (b1 c) O,Bw o2 a2 b2⟩
theorem aq:PVA X G ob [] aN:=⟨_,λc=>Pu,tE⟩
theorem aj{f:En->Option D}{F:En->Option (List D)}(Y:PV X G ob e f)(Z:PVA X G ob es F)(O:∀c,Ul (e::es) (X c).env=(false,eval e (X c).env)::Ul es (X c).env:=by intro _;rfl):PVA X G ob (e::es) (ao f F):=let⟨t,a1,a2⟩:=Y.ex;let⟨u,b1,b2⟩:=Z.ex;⟨_,λc=>wF (a1 c) (b1 c) (O c),Lk a2 b2⟩
theorem bL{id:String}{g:List D->Option D}(o:CaB X G (.builtin id) g)(z:∀c,Gl (X c) x)(V:∀c,(X c).mg x=none)(U:W2 x=some (.builtin id))(Y:PVA X G ob (e::es) f)(N:x≠"__name__":=by decide)(O:(x==("__debug__":Str))=false:=by decide)(q:∀c,Ul (e::es) (X c).env=(false,eval e (X c).env)::Ul es (X c).env:=by intro _;rfl)(J:∀c,(V3 pos (Ul es (X c).env)).any (·.1)=false:=by intro _;rfl):PV X G ob (.Call (.Name x p) (e::es) [] pos) (eAp g f):=let⟨r,o1,o2⟩:=o.ex;let⟨t,a1,a2⟩:=Y.ex;⟨_,λc=>GQ (o1 c) (z c) (V c) U (a1 c) N O (q c) (J c),rm o2 a2⟩
theorem nG{g:List D->Option D}(o:CaB X G (.type T) g)(z:∀c,Gl (X c) x)(V:∀c,(X c).mg x=none)(U:W2 x=some (.type T))(Y:PVA X G ob (e::es) f)(N:x≠"__name__":=by decide)(O:(x==("__debug__":Str))=false:=by decide)(q:∀c,Ul (e::es) (X c).env=(false,eval e (X c).env)::Ul es (X c).env:=by intro _;rfl)(J:∀c,(V3 pos (Ul es (X c).env)).any (·.1)=false:=by intro _;rfl):PV X G ob (.Call (.Name x p) (e::es) [] pos) (eAp g f):=let⟨r,o1,o2⟩:=o.ex;let⟨t,a1,a2⟩:=Y.ex;⟨_,λc=>Eb (o1 c) (z c) (V c) U (a1 c) N O (q c) (J c),rm o2 a2⟩
def fO(ds:List D):Option D:=if ds.length<=1000 then some (.tup ds)else none
def gF(ds:List D):Option D:=if ds.length<=1000 then some (.lst .own ds)else none
theorem yG(h:n<=1000):n<=Ui:=V2 h (by decide)
theorem Ar:CaV G (λxs H Q=>xs.length<=Ui/\∀p,H p=none->Q (.ref p) (upd H p (.tup xs))) fO:=λds d e xs H W J r nd N w Q q=>by
 unfold fO at e;split at e
 .rename_i hl
  cases e;refine⟨yG (by rw[←r.length];exact hl),λp V=>?_⟩;have F:Same H (upd H p (.tup xs)):=Same.new V;refine q (.ref p) _ J F ?_ (λa Y=>.inl Y) nd;rw[Rep];exact⟨p,xs,rfl,aZ,r.up ⟨F,λb u U f=>⟨λz=>z.elim (λz=>f.1 (N b z).1) λz=>f.1 z.1,f.2⟩,λ_ _ _ f=>f⟩⟩
 .cases e
theorem Bf:CaV G (λxs H Q=>xs.length<=Ui/\∀p,H p=none->Q (.ref p) (upd H p (.lst xs))) gF:=λds d e xs H W J r nd N w Q q=>by
 unfold gF at e;split at e
 .rename_i hl
  cases e;refine⟨yG (by rw[←r.length];exact hl),λp V=>?_⟩;have F:Same H (upd H p (.lst xs)):=Same.new V;refine q (.ref p) _ (p::J) F ?_ (λa Y=>(Uj.mp Y).elim (λz=>.inr (by rw[z];exact V)) .inl) (Uu.mpr ⟨λz=>?_,nd⟩)
  .rw[Rep]
   exact⟨p,xs,J,rfl,r.up ⟨F,λb u U f=>⟨λz=>z.elim (λz=>(Uj.mp z).elim (λz=>by rw[z,V]at U;cases U) λz=>f.1 (N b z).1) λz=>f.1 z.1,f.2⟩,λ_ _ _ f=>f⟩,aZ,rfl⟩
  .obtain⟨o,ho,_⟩:=r.dom p z
   rw[V]at ho;cases ho
 .cases e
variable{k:Nat}
theorem oF(h:PVA X G ob es f):PV X G ob (.Tuple es k pos) (eAp fO f):=let⟨t,a1,a2⟩:=h.ex;⟨_,λc=>HH (a1 c),rm Ar a2⟩
theorem qF(h:PVA X G ob es f):PV X G ob (.List es pos) (eAp gF f):=let⟨t,a1,a2⟩:=h.ex;⟨_,λc=>IK (a1 c),rm Bf a2⟩
section
variable{G:Gc}{ob:Nat->Bool}{H H1 H2:Hp}{S S1 S2:Ad}{L M:List Addr}{ρ ρ1:En}{σ:L2.St}{Fr:Addr->Prop}
theorem Eff.back(e:Eff ob H H1 S S1 L){a:Addr}(h:H1 a=none):inO ob S a∨H a=none:=by
 by_cases z:inO ob S a
 .exact .inl z
 .refine .inr ?_
  cases q:H a with
  |none=>rfl
  |some u=>rw[e.kp a u q z]at h;cases h
theorem Eff.inO(e:Eff ob H H1 S S1 L){a:Addr}(h:inO ob S1 a):inO ob S a∨H a=none:=let⟨i,h1,h2⟩:=h;e.gr i a h1 h2
theorem Eff.notO(e:Eff ob H H1 S S1 L){a:Addr}{u:HO}(h:H a=some u)(n:¬Jb.inO ob S a):¬Jb.inO ob S1 a:=λz=>(e.inO z).elim n λz=>by rw[h]at z;cases z
theorem Eff.trans(a:Eff ob H H1 S S1 L)(b:Eff ob H1 H2 S1 S2 M):Eff ob H H2 S S2 (L++M)where
 kp:=λc u h n=>b.kp c u (a.kp c u h n) (a.notO h n)
 sn:=λi h=>(b.sn i h).trans (a.sn i h)
 gr:=λi c h z=>(b.gr i c h z).elim a.inO a.back
 fm:=λc J=>(T_.mp J).elim (a.fm c) λz=>(b.fm c z).elim a.inO a.back
theorem Eff.same(a:Eff ob H H1 S S1 L)(s:Same H1 H2)(h:∀c∈M,c∈L∨H1 c=none):Eff ob H H2 S S1 M where
 kp:=λc u J n=>s c u (a.kp c u J n)
 sn:=a.sn
 gr:=a.gr
 fm:=λc J=>(h c J).elim (a.fm c) a.back
theorem Sta.notO(s:Sta G H ob ρ σ S Fr){a:Addr}(h:Fr a):¬inO ob S a:=λ⟨i,_,z⟩=>s.fdj i a h z
theorem Sta.tmp(s:Sta G H ob ρ σ S Fr){a:Addr}(h:Fr a):(wn ob S Fr).tmp a:=⟨h,λ⟨i,_,z⟩=>s.fdj i a h z,λ⟨i,_,z⟩=>s.fdj i a h z⟩
theorem Eff.evo(s:Sta G H ob ρ σ S Fr)(e:Eff ob H H1 S S1 M):Evo H H1 (wn ob S Fr) (wn ob S1 (plus M Fr))where
 k:=λb u h f=>⟨e.kp b u h f.2.2,λz=>z.elim (λz=>(e.fm b z).elim f.2.2 λq=>by rw[h]at q;cases q) f.1,λ⟨i,h1,h2⟩=>f.2.1 ⟨i,h1,by rw[←e.sn i h1];exact h2⟩,e.notO h f.2.2⟩
 t:=λb xs h=>by
  have F:∀u,H b=some u->muO u=false->H1 b=some u:=λu J m=>e.kp b u J λ⟨i,_,z⟩=>by
   obtain⟨o,O,V⟩:=s.mu z;rw[J]at O;cases O;rw[m]at V;cases V
  exact F _ h rfl
theorem Eff.evoN(s:Sta G H ob ρ σ S Fr)(e:Eff ob H H1 S S1 M):Jh H H1 (wn ob S Fr) (wn ob S1 (plus M Fr)):=λb u h ⟨i,h1,h2⟩=>
 ⟨e.kp b u h (λ⟨j,q1,q2⟩=>by rw[s.dj i j b h2 q2,q1]at h1;cases h1),⟨i,h1,by rw[e.sn i h1];exact h2⟩⟩
theorem Eff.keepsF(s:Sta G H ob ρ σ S Fr)(e:Eff ob H H1 S S1 M){a:Addr}(h:Fr a):∀u,H a=some u->H1 a=some u:=λu O=>e.kp a u O (s.notO h)
theorem vL{L M:List Addr}:plus M (plus L Fr)=plus (L++M) Fr:=by
 funext a;simp only[plus,T_,eq_iff_iff];constructor
 .rintro(z|z|z)
  .exact .inl (.inr z)
  .exact .inl (.inl z)
  .exact .inr z
 .rintro((z|z)|z)
  .exact .inr (.inl z)
  .exact .inl z
  .exact .inr (.inr z)
theorem M_{Z:List Addr}{d:D}{v:V}(s:Sta G H1 ob ρ1 σ S1 (plus L Fr))(e:Eff ob H H1 S S1 L)(F:Same H1 H2)(r:Rep G H2 (((wn ob S1 (plus L Fr)).drop L).add Z) d v Z)(f:∀a∈Z,a∈L∨H1 a=none)(J:Sta G H ob ρ σ S Fr) :
  Sta G H2 ob ρ1 σ S1 (plus Z Fr)/\Rep G H2 (wn ob S1 (plus Z Fr)) d v Z/\Eff ob H H2 S S1 Z:=by
 refine⟨s.grow F λa h=>?_,r.up ⟨Same.refl _,λb u U q=>⟨λz=>?_,q.2⟩,λ_ _ _ q=>q⟩,e.same F f⟩
 .rcases h with h|h
  .exact(f a h).imp .inl λz=>⟨z,r.dom a h⟩
  .exact .inl (.inr h)
 .rcases z with z|z
  .exact q.1 (.inl z)
  .refine q.1 (.inr ⟨.inr z,λh=>?_⟩)
   rcases e.fm b h with y|y
   .exact J.notO z y
   .obtain⟨o,ho,_⟩:=J.fdm b z
    rw[y]at ho;cases ho
end
def eUp(f:En->Option D):En->Option (D×En):=λρ=>(f ρ).map λd=>(d,ρ)
theorem yH{f:En->Option D}(h:RfE G ob ta f):kh G ob ta (eUp f):=λρ d J e σ H S Fr s Q q=>by
 unfold eUp at e;cases h1:f ρ with
 |none=>rw[h1]at e;cases e
 |some d0=>
  rw[h1]at e;cases e;refine h ρ d h1 σ H _ s.rel s.wok Q λv H' L N r F nd=>?_;exact q v H' L S (s.grow N λa z=>z.elim (λz=>.inr ⟨F a z,r.dom a z⟩) .inl) r nd ⟨λb u U _=>N b u U,λ_ _=>rfl,λi a h z=>.inl ⟨i,h,z⟩,λa Y=>.inr (F a Y)⟩
def jA(f:En->Option Bool):En->Option (Bool×En):=λρ=>(f ρ).map λd=>(d,ρ)
theorem Hr{t:TT}{f:En->Option Bool}(h:RfT G ob t f):u_ G ob t (jA f):=λρ d J e σ H S Fr s Q q=>by
 unfold jA at e;cases h1:f ρ with
 |none=>rw[h1]at e;cases e
 |some d0=>
  rw[h1]at e;cases e;refine h ρ d h1 σ H _ s.rel s.wok Q λH' F=>?_;exact q H' S (s.grow F λa z=>.inl z) ⟨λb u U _=>F b u U,λ_ _=>rfl,λi a h z=>.inl ⟨i,h,z⟩,by simp⟩
def dI(f:En->Option (List D)):En->Option (List D×En):=λρ=>(f ρ).map λd=>(d,ρ)
theorem wX(h:RfA G ob t f):xZ G ob t (dI f):=λρ d J e σ H S Fr s Q q=>by
 unfold dI at e;cases h1:f ρ with
 |none=>rw[h1]at e;cases e
 |some d0=>
  rw[h1]at e;cases e;refine h ρ d h1 σ H _ s.rel s.wok Q λv H' L N r F nd=>?_;exact q v H' L S (s.grow N λa z=>z.elim (λz=>.inr ⟨F a z,r.dom a z⟩) .inl) r nd ⟨λb u U _=>N b u U,λ_ _=>rfl,λi a h z=>.inl ⟨i,h,z⟩,λa Y=>.inr (F a Y)⟩
theorem bQ{f:En->Option D}(h:PV X G ob e f):PVe X G ob e (eUp f):=let⟨t,a1,a2⟩:=h.ex;⟨t,a1,yH a2⟩
theorem sH{f:En->Option Bool}(h:PVT X G ob e f):yD X G ob e (jA f):=let⟨t,a1,a2⟩:=h.ex;⟨t,a1,Hr a2⟩
theorem bY{e:List Expr}(h:PVA X G ob e f):yV X G ob e (dI f):=let⟨t,a1,a2⟩:=h.ex;⟨t,a1,wX a2⟩
variable{fa fb:En->Option (D×En)}
theorem kh.two(Y:kh G ob ta fa)(U:kh G ob tb fb){ρ1 ρ2:En}{dx dy:D}(e1:fa ρ=some (dx,ρ1))(e2:fb ρ1=some (dy,ρ2))(F:aC dx=true){Fr:Addr->Prop}(s:Sta G H ob ρ σ S Fr)
  (h:∀x y H' L M S',Sta G H' ob ρ2 σ S' (plus (L++M) Fr)->Rep G H' (wn ob S' (plus (L++M) Fr)) dx x L->Rep G H' (wn ob S' (plus (L++M) Fr)) dy y M->(L++M).Nodup->Eff ob H H' S S' (L++M)->R x y H'):ta σ H λx H1=>tb σ H1 λy H2=>R x y H2:=by
 refine Y ρ dx ρ1 e1 σ H S Fr s _ λx H1 L S1 Z rx nx f1=>?_;refine U ρ1 dy ρ2 e2 σ H1 S1 (plus L Fr) Z _ λy H2 M S2 N ry ny q=>?_;have a0:=rx.mono (q.evo Z) (.inr (q.evoN Z)) (.inl F) λc J u O=>q.keepsF Z (.inl J) u O;rw[vL]at N ry a0;refine h x y H2 L M S2 N a0 ry (dZ nx ny λa h1 h2=>?_) (f1.trans q);rcases q.fm a h2 with z|z
 .exact Z.notO (.inl h1) z
 .obtain⟨o,ho,_⟩:=rx.dom a h1
  rw[z]at ho;cases ho
def ee2(g:D->D->Option D)(fa fb:En->Option (D×En)):En->Option (D×En):=λρ=>(fa ρ).bind λp=>(fb p.2).bind λq=>if aC p.1 then(g p.1 q.1).map λd=>(d,q.2)else none
theorem xj{r:R2}(O:OpV G r g)(Y:kh G ob ta fa)(U:kh G ob tb fb):kh G ob (tOp r ta tb) (ee2 g fa fb):=λρ d J e σ H S Fr s Q q=>by
 unfold ee2 at e;cases h1:fa ρ with
 |none=>simp[h1]at e
 |some p=>
  obtain⟨dx,ρ1⟩:=p;cases h2:fb ρ1 with
  |none=>simp[h1,h2]at e
  |some p=>
   obtain⟨dy,ρ2⟩:=p;cases F:aC dx with
   |false=>simp[h1,h2,F]at e
   |true=>
    cases h3:g dx dy with
    |none=>simp[h1,h2,F,h3]at e
    |some d'=>
     obtain⟨rfl,rfl⟩:d'=d/\ρ2=J:=by simpa[h1,h2,F,h3]using e
     refine kh.two Y U h1 h2 F s λx y H' L M S' s' rx ry nd V=>?_;refine O dx dy _ h3 x y H' _ L M rx ry nd (λa Y=>s'.tmp (.inl Y)) s'.wok Q λv z Z s3 r3 f3 N=>?_;obtain⟨q1,q2,q3⟩:=M_ s' V s3 r3 f3 s;exact q v z Z S' q1 q2 N q3
def cI(fa:En->Option (D×En))(F:En->Option (List D×En)):En->Option (List D×En):=λρ=>(fa ρ).bind λp=>(F p.2).bind λq=>if aC p.1 then some (p.1::q.1,q.2)else none
theorem E_{fr:En->Option (List D×En)}(Y:kh G ob ta fa)(Z:xZ G ob t fr):xZ G ob (B_ ta t) (cI fa fr):=λρ ds a1 e σ H S Fr s Q q=>by
 unfold cI at e;cases h1:fa ρ with
 |none=>simp[h1]at e
 |some p=>
  obtain⟨dx,ρ1⟩:=p;cases h2:fr ρ1 with
  |none=>simp[h1,h2]at e
  |some p=>
   obtain⟨es,ρ2⟩:=p;cases F:aC dx with
   |false=>simp[h1,h2,F]at e
   |true=>
    obtain⟨rfl,rfl⟩:dx::es=ds/\ρ2=a1:=by simpa[h1,h2,F]using e
    refine Y ρ dx ρ1 h1 σ H S Fr s _ λx H1 L S1 s1 rx nx V=>?_;refine Z ρ1 es _ h2 σ H1 S1 (plus L Fr) s1 _ λys H2 M S2 N ry U f2=>?_;have a0:=rx.mono (f2.evo s1) (.inr (f2.evoN s1)) (.inl F) λc J u O=>f2.keepsF s1 (.inl J) u O;rw[vL]at N ry a0;refine q (x::ys) H2 (L++M) S2 N (.cons a0 ry) (dZ nx U λa h1 h2=>?_) (V.trans f2);rcases f2.fm a h2 with z|z
    .exact s1.notO (.inl h1) z
    .obtain⟨o,ho,_⟩:=rx.dom a h1
     rw[z]at ho;cases ho
def jt(g:List D->Option D)(f:En->Option (List D×En)):En->Option (D×En):=λρ=>(f ρ).bind λp=>(g p.1).map λd=>(d,p.2)
variable{f:En->Option (List D×En)}
theorem Al{g:List D->Option D}(O:CaV G r g)(h:xZ G ob t f):kh G ob (λσ H Q=>t σ H λvs H1=>r vs H1 Q) (jt g f):=λρ d J e σ H S Fr s Q q=>by
 unfold jt at e;cases h1:f ρ with
 |none=>simp[h1]at e
 |some p=>
  obtain⟨ds,ρ1⟩:=p;cases F:g ds with
  |none=>simp[h1,F]at e
  |some d'=>
   obtain⟨rfl,rfl⟩:d'=d/\ρ1=J:=by simpa[h1,F]using e
   refine h ρ ds _ h1 σ H S Fr s _ λxs H' L S' s' rx nd ef=>?_;refine O ds _ F xs H' _ L rx nd (λa Y=>s'.tmp (.inl Y)) s'.wok Q λv z Z U r3 f3 N=>?_;obtain⟨q1,q2,q3⟩:=M_ s' ef U r3 f3 s;exact q v z Z S' q1 q2 N q3
theorem Nu{op:aa0}(o:OpB X G (V6 op) g)(Y:PVe X G ob a fa)(U:PVe X G ob b fb):PVe X G ob (.BinOp a op b pos) (ee2 g fa fb):=let⟨r,o1,o2⟩:=o.ex;let⟨t,a1,a2⟩:=Y.ex;let⟨u,b1,b2⟩:=U.ex;⟨_,λc=>Mt (o1 c) (a1 c) (b1 c),xj o2 a2 b2⟩
theorem KD(o:OpB X G (U4 op) g)(Y:PVe X G ob a fa)(U:PVe X G ob b fb)(V:YJ op b=false:=by with_unfolding_all rfl):PVe X G ob (.Compare a [op] [b] pos) (ee2 g fa fb):=let⟨r,o1,o2⟩:=o.ex;let⟨t,a1,a2⟩:=Y.ex;let⟨u,b1,b2⟩:=U.ex;⟨_,λc=>Ck (o1 c) (a1 c) (b1 c) V,xj o2 a2 b2⟩
theorem oA(o:IxB X G g)(Y:PVe X G ob a fa)(U:PVe X G ob b fb)(O:wW b:=by exact λ_ _=>rfl):PVe X G ob (.Subscript a b pos) (ee2 g fa fb):=let⟨r,o1,o2⟩:=o.ex;let⟨t,a1,a2⟩:=Y.ex;let⟨u,b1,b2⟩:=U.ex;⟨_,λc=>Ng (o1 c) (a1 c) (b1 c) O,xj o2 a2 b2⟩
theorem fJ{f:En->Option (D×En)}{F:En->Option (List D×En)}(Y:PVe X G ob e f)(Z:yV X G ob es F)(O:∀c,Ul (e::es) (X c).env=(false,eval e (X c).env)::Ul es (X c).env:=by intro _;rfl):yV X G ob (e::es) (cI f F):=let⟨t,a1,a2⟩:=Y.ex;let⟨u,b1,b2⟩:=Z.ex;⟨_,λc=>wF (a1 c) (b1 c) (O c),E_ a2 b2⟩
theorem Ca(h:yV X G ob es f):PVe X G ob (.Tuple es k pos) (jt fO f):=let⟨t,a1,a2⟩:=h.ex;⟨_,λc=>HH (a1 c),Al Ar a2⟩
theorem K9(h:yV X G ob es f):PVe X G ob (.List es pos) (jt gF f):=let⟨t,a1,a2⟩:=h.ex;⟨_,λc=>IK (a1 c),Al Bf a2⟩
def truth:D->Option Bool
 |.non=>some false
 |.bl b=>some b
 |.int i=>some (i !=0)
 |.str y=>if y.length<=Ui then some ((y.length:Int)!=0)else none
 |.lst _ ds=>some (!ds.isEmpty)
 |.tup ds=>some (!ds.isEmpty)
 |.dct m _ ds=>if m= .scr then none else some (!ds.isEmpty)
 |_=>none
theorem qO(r:aF G H W ds xs L):ds.isEmpty=xs.isEmpty:=by
 have:=r.length;cases ds<;>cases xs<;>simp_all
theorem Ff{k:Bool}(r:Rep G H W d v L)(h:truth d=some k):Lb G.K v H k:=by
 cases d with
 |non=>rw[Rep]at r;obtain⟨rfl,_⟩:=r;cases h;rfl
 |bl b=>rw[Rep]at r;obtain⟨rfl,_⟩:=r;cases h;rfl
 |int i=>rw[Rep]at r;obtain⟨rfl,_⟩:=r;cases h;rfl
 |str y=>
  rw[Rep]at r;obtain⟨rfl,_⟩:=r;simp only[truth]at h;split at h
  .cases h;exact⟨‹_›,rfl⟩
  .cases h
 |ty n=>cases h
 |tup ds=>
  rw[Rep]at r;obtain⟨a,xs,rfl,Y,Z⟩:=r;cases h;exact .inr (.inl ⟨xs,SqT.of Y,by rw[qO Z]⟩)
 |lst m ds=>
  rw[Rep]at r;obtain⟨a,xs,M,rfl,Z,O⟩:=r;cases h;exact .inl ⟨xs,O.sq,by rw[qO Z]⟩
 |dct m ks ds=>
  rw[Rep]at r;obtain⟨a,kvs,M,rfl,q,Z,O⟩:=r;simp only[truth]at h;split at h
  .cases h
  .cases h
   refine .inr (.inr ⟨kvs,O.at ‹_›,?_⟩);rw[qO Z];cases kvs<;>rfl
 |ins m c fs ds=>cases h
section
variable{ι:Type}{X:ι->Cx}{G:Gc}{ob:Nat->Bool}{a b:Expr}{pos:Pos}
def kJ(f:En->Option D):En->Option Bool:=λρ=>(f ρ).bind truth
theorem Qg{ta:TE}{f:En->Option D}(h:RfE G ob ta f):RfT G ob (λσ H Q=>ta σ H λx H'=>∃k,Lb G.K x H' k/\Q k H') (kJ f):=λρ k e σ H W V w Q q=>by
 unfold kJ at e;cases h1:f ρ with
 |none=>simp[h1]at e
 |some d=>
  have e:truth d=some k:=by simpa[h1]using e
  exact h ρ d h1 σ H W V w _ λx H' L s r F nd=>⟨k,Ff r e,q H' s⟩
theorem xu{f:En->Option D}(h:PV X G ob a f)(N:∀c,∀q,abC a (X c).env q=(do let v ←q;Zh a.pos;Wu [v] (truthy v)):=by intro _;intro _;rfl)(F:∀c,(X c).K=G.K:=by intro _;rfl):PVT X G ob a (kJ f):=let⟨t,a1,a2⟩:=h.ex;⟨_,λc=>(by have h:=Jl (a1 c) (N c);rw[F c]at h;exact h),Qg a2⟩
def isB:D->Option Bool
 |.bl b=>some b
 |_=>none
def eB(f:En->Option D):En->Option Bool:=λρ=>(f ρ).bind isB
def eeB(f:En->Option (D×En)):En->Option (Bool×En):=λρ=>(f ρ).bind λp=>(isB p.1).map λb=>(b,p.2)
theorem yh{d:D}{k:Bool}(h:isB d=some k):d= .bl k:=by
 cases d<;>simp[isB]at h;rw[h]
theorem Rc{ta:TE}{f:En->Option D}(h:RfE G ob ta f):RfT G ob (Be ta) (eB f):=λρ k e σ H W V w Q q=>by
 unfold eB at e;cases h1:f ρ with
 |none=>simp[h1]at e
 |some d=>
  have e:isB d=some k:=by simpa[h1]using e
  have:=yh e;subst this;refine h ρ _ h1 σ H W V w _ λx H' L s r F nd=>⟨k,?_,q H' s⟩;rw[Rep]at r;exact r.1
theorem RL{ta:TE}{f:En->Option (D×En)}(h:kh G ob ta f):u_ G ob (Be ta) (eeB f):=λρ k J e σ H S Fr s Q q=>by
 unfold eeB at e;cases h1:f ρ with
 |none=>simp[h1]at e
 |some p=>
  obtain⟨d,ρ1⟩:=p;cases h2:isB d with
  |none=>simp[h1,h2]at e
  |some F=>
   obtain⟨rfl,rfl⟩:F=k/\ρ1=J:=by simpa[h1,h2]using e
   have:=yh h2;subst this;refine h ρ _ _ h1 σ H S Fr s _ λx H' M S' s' r nd V=>⟨F,?_,q H' S' (s'.lessF λa z=>.inr z) (V.same (Same.refl _) (by simp))⟩;rw[Rep]at r;exact r.1
theorem bz{fa fb:En->Option D}{op:CmpOp}{g:D->D->Option D}(o:OpB X G (U4 op) g)(Y:PV X G ob a fa)(U:PV X G ob b fb)(V:YJ op b=false:=by with_unfolding_all rfl):PVT X G ob (.Compare a [op] [b] pos) (eB (e2 g fa fb)):=let⟨r,o1,o2⟩:=o.ex;let⟨t,a1,a2⟩:=Y.ex;let⟨u,b1,b2⟩:=U.ex;⟨_,λc=>Cd (o1 c) (a1 c) (b1 c) V,Rc (Bw o2 a2 b2)⟩
theorem pX{fa fb:En->Option (D×En)}{op:CmpOp}{g:D->D->Option D}(o:OpB X G (U4 op) g)(Y:PVe X G ob a fa)(U:PVe X G ob b fb)(V:YJ op b=false:=by with_unfolding_all rfl):yD X G ob (.Compare a [op] [b] pos) (eeB (ee2 g fa fb)):=let⟨r,o1,o2⟩:=o.ex;let⟨t,a1,a2⟩:=Y.ex;let⟨u,b1,b2⟩:=U.ex;⟨_,λc=>Cd (o1 c) (a1 c) (b1 c) V,RL (xj o2 a2 b2)⟩
def jG(f g:En->Option Bool):En->Option Bool:=λρ=>(f ρ).bind λc=>if c then g ρ else some false
def eOr(f g:En->Option Bool):En->Option Bool:=λρ=>(f ρ).bind λc=>if c then some true else g ρ
def kj(f:En->Option Bool):En->Option Bool:=λρ=>(f ρ).map λc=>!c
def jY(f g:En->Option (Bool×En)):En->Option (Bool×En):=λρ=>(f ρ).bind λp=>if p.1 then g p.2 else some (false,p.2)
def IV(f g:En->Option (Bool×En)):En->Option (Bool×En):=λρ=>(f ρ).bind λp=>if p.1 then some (true,p.2)else g p.2
theorem Pj{t u:TT}{f g:En->Option Bool}(h:RfT G ob t f)(h':RfT G ob u g):RfT G ob (RT t u) (jG f g):=λρ k e σ H W V w Q q=>by
 unfold jG at e;cases h1:f ρ with
 |none=>simp[h1]at e
 |some c=>
  refine h ρ c h1 σ H W V w _ λH1 Z=>?_;cases c with
  |false=>
   have:false=k:=by simpa[h1]using e
   subst this;exact uM (q H1 Z)
  |true=>
   have e:g ρ=some k:=by simpa[h1]using e
   exact rQ (h' ρ k e σ H1 W (V.up (Up.same Z)) (λa Y=>let⟨o,z,m⟩:=w a Y;⟨o,Z a o z,m⟩) Q λH2 N=>q H2 (Z.trans N))
theorem Ro{t u:TT}{f g:En->Option Bool}(h:RfT G ob t f)(h':RfT G ob u g):RfT G ob (tOr t u) (eOr f g):=λρ k e σ H W V w Q q=>by
 unfold eOr at e;cases h1:f ρ with
 |none=>simp[h1]at e
 |some c=>
  refine h ρ c h1 σ H W V w _ λH1 Z=>?_;cases c with
  |true=>
   have:true=k:=by simpa[h1]using e
   subst this;exact rQ (q H1 Z)
  |false=>
   have e:g ρ=some k:=by simpa[h1]using e
   exact uM (h' ρ k e σ H1 W (V.up (Up.same Z)) (λa Y=>let⟨o,z,m⟩:=w a Y;⟨o,Z a o z,m⟩) Q λH2 N=>q H2 (Z.trans N))
theorem O5{t:TT}{f:En->Option Bool}(h:RfT G ob t f):RfT G ob (Rw t) (kj f):=λρ k e σ H W V w Q q=>by
 unfold kj at e;cases h1:f ρ with
 |none=>simp[h1]at e
 |some c=>
  have:(!c)=k:=by simpa[h1]using e
  subst this;exact h ρ c h1 σ H W V w _ λH1 Z=>q H1 Z
theorem Oc{t u:TT}{f g:En->Option (Bool×En)}(h:u_ G ob t f)(h':u_ G ob u g):u_ G ob (tOr t u) (IV f g):=λρ k J e σ H S Fr s Q q=>by
 unfold IV at e;cases h1:f ρ with
 |none=>simp[h1]at e
 |some p=>
  obtain⟨c,ρ1⟩:=p;refine h ρ c ρ1 h1 σ H S Fr s _ λH1 S1 Z V=>?_;cases c with
  |true=>
   obtain⟨rfl,rfl⟩:true=k/\ρ1=J:=by simpa[h1]using e
   exact rQ (q H1 S1 Z V)
  |false=>
   have e:g ρ1=some (k,J):=by simpa[h1]using e
   exact uM (h' ρ1 k J e σ H1 S1 Fr Z Q λH2 S2 N z=>q H2 S2 N (V.trans z))
variable{rest:List Expr}{fa fb:En->Option Bool}{ga gb:En->Option (Bool×En)}
theorem xq(Y:PVT X G ob a fa)(U:PVW X G ob (.BoolOp .And (b::rest) pos) fb):PVW X G ob (.BoolOp .And (a::b::rest) pos) (jG fa fb):=let⟨t,a1,a2⟩:=Y.ex;let⟨u,b1,b2⟩:=U.ex;⟨_,λc=>QK (a1 c) (b1 c),Pj a2 b2⟩
theorem w5(Y:PVT X G ob a fa)(U:PVW X G ob (.BoolOp .Or (b::rest) pos) fb):PVW X G ob (.BoolOp .Or (a::b::rest) pos) (eOr fa fb):=let⟨t,a1,a2⟩:=Y.ex;let⟨u,b1,b2⟩:=U.ex;⟨_,λc=>Ni (a1 c) (b1 c),Ro a2 b2⟩
theorem uc(Y:PVT X G ob a fa):PVW X G ob (.BoolOp .And [a] pos) fa:=let⟨t,a1,a2⟩:=Y.ex;⟨_,λc=>JQ (a1 c),a2⟩
theorem rZ(Y:PVT X G ob a fa):PVW X G ob (.BoolOp .Or [a] pos) fa:=let⟨t,a1,a2⟩:=Y.ex;⟨_,λc=>Hc (a1 c),a2⟩
theorem tM(h:PVW X G ob a fa):PVT X G ob a fa:=let⟨t,a1,a2⟩:=h.ex;⟨_,λc=>PW.pt (a1 c),a2⟩
theorem sG(Y:PVT X G ob a fa):PVT X G ob (.UnaryOp .Not a pos) (kj fa):=let⟨t,a1,a2⟩:=Y.ex;⟨_,λc=>Qc (a1 c),O5 a2⟩
theorem Mg(Y:yD X G ob a ga)(U:Lr X G ob (.BoolOp .Or (b::rest) pos) gb):Lr X G ob (.BoolOp .Or (a::b::rest) pos) (IV ga gb):=let⟨t,a1,a2⟩:=Y.ex;let⟨u,b1,b2⟩:=U.ex;⟨_,λc=>Ni (a1 c) (b1 c),Oc a2 b2⟩
theorem Hn(Y:yD X G ob a ga):Lr X G ob (.BoolOp .Or [a] pos) ga:=let⟨t,a1,a2⟩:=Y.ex;⟨_,λc=>Hc (a1 c),a2⟩
theorem Qh(h:Lr X G ob a ga):yD X G ob a ga:=let⟨t,a1,a2⟩:=h.ex;⟨_,λc=>PW.pt (a1 c),a2⟩
def pW(f g:En->Option D):En->Option D:=λρ=>(f ρ).bind λx=>(isB x).bind λc=>if c then g ρ else some (.bl false)
def aV(c:En->Option Bool)(f g:En->Option D):En->Option D:=λρ=>(c ρ).bind λb=>if b then f ρ else g ρ
def aH(c:En->Option (Bool×En))(f g:En->Option (D×En)):En->Option (D×En):=λρ=>(c ρ).bind λp=>if p.1 then f p.2 else g p.2
theorem WOk.up{H H':Hp}{W:Wn}(w:WOk H W)(s:Same H H'):WOk H' W:=λa Y=>let⟨o,z,m⟩:=w a Y;⟨o,s a o z,m⟩
theorem N8{t:TT}{ta tb:TE}{c:En->Option Bool}{f g:En->Option D}(J:RfT G ob t c)(h:RfE G ob ta f)(h':RfE G ob tb g):RfE G ob (tIf t ta tb) (aV c f g):=λρ d e σ H W V w Q q=>by
 unfold aV at e;cases h1:c ρ with
 |none=>simp[h1]at e
 |some b=>
  refine J ρ b h1 σ H W V w _ λH1 Z=>?_;cases b with
  |true=>
   have e:f ρ=some d:=by simpa[h1]using e
   exact rQ (h ρ d e σ H1 W (V.up (Up.same Z)) (w.up Z) Q λv H2 L N r F nd=>q v H2 L (Z.trans N) r (λa Y=>Z.none' (F a Y)) nd)
  |false=>
   have e:g ρ=some d:=by simpa[h1]using e
   exact uM (h' ρ d e σ H1 W (V.up (Up.same Z)) (w.up Z) Q λv H2 L N r F nd=>q v H2 L (Z.trans N) r (λa Y=>Z.none' (F a Y)) nd)
theorem LR{t:TT}{ta tb:TE}{c:En->Option (Bool×En)}{f g:En->Option (D×En)}(J:u_ G ob t c)(h:kh G ob ta f)(h':kh G ob tb g):kh G ob (tIf t ta tb) (aH c f g):=λρ d z e σ H S Fr s Q q=>by
 unfold aH at e;cases h1:c ρ with
 |none=>simp[h1]at e
 |some p=>
  obtain⟨b,ρ1⟩:=p;refine J ρ b ρ1 h1 σ H S Fr s _ λH1 S1 Z V=>?_;cases b with
  |true=>
   have e:f ρ1=some (d,z):=by simpa[h1]using e
   exact rQ (h ρ1 d z e σ H1 S1 Fr Z Q λv H2 M S2 N r nd F=>q v H2 M S2 N r nd (V.trans F))
  |false=>
   have e:g ρ1=some (d,z):=by simpa[h1]using e
   exact uM (h' ρ1 d z e σ H1 S1 Fr Z Q λv H2 M S2 N r nd F=>q v H2 M S2 N r nd (V.trans F))
section
variable{c:Expr}{fa fb:En->Option D}{fc:En->Option Bool}
theorem Nz(J:PVT X G ob c fc)(Y:PV X G ob a fa)(U:PV X G ob b fb):PV X G ob (.IfExp c a b pos) (aV fc fa fb):=let⟨v,c1,c2⟩:=J.ex;let⟨t,a1,a2⟩:=Y.ex;let⟨u,b1,b2⟩:=U.ex;⟨_,λc=>yF (c1 c) (a1 c) (b1 c),N8 c2 a2 b2⟩
theorem Jp{fa fb:En->Option (D×En)}{fc:En->Option (Bool×En)}(J:yD X G ob c fc)(Y:PVe X G ob a fa)(U:PVe X G ob b fb):PVe X G ob (.IfExp c a b pos) (aH fc fa fb):=let⟨v,c1,c2⟩:=J.ex;let⟨t,a1,a2⟩:=Y.ex;let⟨u,b1,b2⟩:=U.ex;⟨_,λc=>yF (c1 c) (a1 c) (b1 c),LR c2 a2 b2⟩
end
end
section
variable{G:Gc}{ob P:Nat->Bool}{H H1 H2:Hp}{S S1 S2:Ad}{L M:List Addr}{ρ ρ1:En}{σ:L2.St}{Fr:Addr->Prop}
def fU(S:Ad)(i:Nat)(M:List Addr):Ad:=λj=>if j=i then M else S j
theorem cu{i:Nat}:fU S i M i=M:=Uo rfl
theorem bU{i j:Nat}(h:j≠i):fU S i M j=S j:=Uq h
theorem dH{i j:Nat}{a:Addr}(h:a∈fU S i M j):(j=i/\a∈M)∨(j≠i/\a∈S j):=by
 by_cases e:j=i
 .rw[e,cu]at h;exact .inl ⟨e,h⟩
 .rw[bU e]at h;exact .inr ⟨e,h⟩
theorem Mv.refl:Mv P H H σ σ S S M:=⟨λ_ _ h _ _=>h,λi a z=>.inl ⟨i,z⟩,.refl⟩
theorem Sta.store{i:Nat}{d:D}{v:V}(s:Sta G H ob ρ σ S (plus M Fr))(r:Rep G H (wn ob S (plus M Fr)) d v M)(J:clean d=true)(nd:M.Nodup)(O:∀a∈M,¬Fr a) :
  ∃S',Sta G H ob (ρ.set i (some d)) (σ.set i (some v)) S' Fr/\∀j a,a∈S' j->inS S a∨a∈M:=by
 by_cases hi:i<ρ.length
 .refine⟨fU S i M,⟨by simp[s.len],λj e N=>?_,λj U=>?_,λj=>?_,λj k a h1 h2=>?_,λj a h1 h2=>?_,λa h=>s.fdm a (.inr h)⟩,λj a h=>?_⟩
  .have ev:Evo H H (wn ob S (plus M Fr)) (wn ob (fU S i M) Fr):=⟨λb u h f=>⟨h,⟨λz=>f.1 (.inr z),λ⟨k,h1,h2⟩=>?_,λ⟨k,h1,h2⟩=>?_⟩⟩,λ_ _ h=>h⟩
   .by_cases e:j=i
    .subst e
     have:d=e:=by simpa[hi]using N
     have:d=e:=this;subst this;have Y:j<σ.length:=by rw[←s.len];exact hi
     refine⟨v,by simp[Y],?_,J⟩;rw[cu];have q:aD d=true/\aC d=true:=by simpa[clean]using J
     exact r.mono ev (.inl q.1) (.inl q.2) λ_ _ _ h=>h
    .rw[UW (U3 e)]at N
     obtain⟨v',h1,h2,F⟩:=s.sl j _ N;refine⟨v',by rw[UW (U3 e)];exact h1,?_,F⟩;rw[bU e];have q:=(by simpa[clean]using F:aD _=true/\aC _=true);exact h2.mono ev (.inl q.1) (.inl q.2) λ_ _ _ h=>h
   .rcases dH h2 with⟨_,z⟩|⟨_,z⟩
    .exact f.1 (.inl z)
    .exact f.2.1 ⟨k,h1,z⟩
   .rcases dH h2 with⟨_,z⟩|⟨_,z⟩
    .exact f.1 (.inl z)
    .exact f.2.2 ⟨k,h1,z⟩
  .by_cases e:j=i
   .subst e
    exact absurd (by simp[hi]) (U d)
   .rw[bU e]
    exact s.em j λd'=>by have:=U d';rwa[UW (U3 e)]at this
  .by_cases e:j=i
   .rw[e,cu];exact nd
   .rw[bU e];exact s.nd j
  .rcases dH h1 with⟨e1,z1⟩|⟨e1,z1⟩<;>rcases dH h2 with⟨e2,Z⟩|⟨e2,Z⟩
   .rw[e1,e2]
   .exact absurd Z (s.fdj k a (.inl z1))
   .exact absurd z1 (s.fdj j a (.inl Z))
   .exact s.dj j k a z1 Z
  .rcases dH h2 with⟨_,z⟩|⟨_,z⟩
   .exact O a z h1
   .exact s.fdj j a (.inr h1) z
  .rcases dH h with⟨_,z⟩|⟨_,z⟩
   .exact .inr z
   .exact .inl ⟨j,z⟩
 .have h1:ρ.set i (some d)=ρ:=aa5 (by omega)
  have h2:σ.set i (some v)=σ:=aa5 (by rw[←s.len];omega);rw[h1,h2];exact⟨S,s.lessF λa z=>.inr z,λj a h=>.inl ⟨j,h⟩⟩
end
section
variable{ι:Type}{X:ι->Cx}{G:Gc}{ob P:Nat->Bool}
def eE:En->Option Fl:=λρ=>some (.nx ρ)
def bj(f g:En->Option Fl):En->Option Fl:=λρ=>match f ρ with
 |some (.nx ρ')=>g ρ'
 |r=>r
theorem Aft.from{G:Gc}{H H1:Hp}{σ N:L2.St}{S S1:Ad}{Fr:Addr->Prop}{E:Ends}(m:Mv P H H1 σ N S S1 []):∀{r:Fl},Aft G ob P H σ S Fr E r->Aft G ob P H1 N S1 Fr E r
 |.nx ρ',h=>λF H' S' s O=>h F H' S' s (m.trans O)
 |.brk ρ',h=>λF H' S' s O=>h F H' S' s (m.trans O)
 |.cnt ρ',h=>λF H' S' s O=>h F H' S' s (m.trans O)
 |.ret d ρ',h=>λv F H' M S' s r c n f O=>h v F H' M S' s r c n (λa Y=>by
  rcases f a Y with⟨i,z⟩|z
  .exact(m.gr i a z).elim .inl λz=>z.elim (λz=>by cases z) .inr
  .by_cases q:inS S a
   .exact .inl q
   .refine .inr ?_
    cases e:H a with
    |none=>rfl
    |some u=>rw[m.kp a u e q (by simp)]at z;cases z) (m.trans O)
theorem JV:RfS G ob P Mj eE:=λρ r e σ H S Fr s E h=>by
 cases e;exact h σ H S s .refl
theorem JF{t u:TS}{f g:En->Option Fl}(h1:RfS G ob P t f)(h2:RfS G ob P u g):RfS G ob P (SN t u) (bj f g):=λρ r e σ H S Fr s E h=>by
 unfold bj at e;cases q:f ρ with
 |none=>rw[q]at e;cases e
 |some fl=>
  rw[q]at e;refine h1 ρ fl q σ H S Fr s _ ?_;cases fl with
  |nx J=>exact λF H' S' s' m=>h2 J r e F H' S' Fr s' E (h.from m)
  |brk J=>cases e;exact h
  |cnt J=>cases e;exact h
  |ret d J=>cases e;exact h
theorem bZ:rH X G ob P [] eE:=⟨_,λc=>JW,JV⟩
theorem aA{st:Stmt}{rest:List Stmt}{f g:En->Option Fl}(h1:PVS X G ob P st f)(h2:rH X G ob P rest g):rH X G ob P (st::rest) (bj f g):=let⟨t,a1,a2⟩:=h1.ex;let⟨u,b1,b2⟩:=h2.ex;⟨_,λc=>FW (a1 c) (b1 c),JF a2 b2⟩
theorem aL{st:Stmt}{f:En->Option Fl}(h1:PVS X G ob P st f):rH X G ob P [st] f:=let⟨t,a1,a2⟩:=h1.ex;⟨_,λc=>K8 (a1 c),a2⟩
def wO:En->Option Fl:=λ_=>none
theorem qp{st:Stmt}:PVS X G ob P st wO:=⟨_,λc=>Fz,λρ r e=>by cases e⟩
def tgN(i:Nat):D->En->Option En:=λd ρ=>if clean d then some (ρ.set i (some d))else none
theorem h_{i:Nat}(N:P i=false):RfG G ob P (yZ i) (tgN i):=λd ρ J e v σ H S M Fr s r nd O Q q=>by
 unfold tgN at e;split at e
 .rename_i hc
  cases e;obtain⟨S',s',h⟩:=s.store r hc nd O (i:=i);refine q _ H S' s' ⟨λb u h _ _=>h,λj a z=>(h j a z).imp id .inl,λj U=>?_⟩;have:j≠i:=λz=>by rw[z,N]at U;cases U
  rw[UW (U3 this)]
 .cases e
def bM:List D->En->Option En:=λds ρ=>match ds with
 |[]=>some ρ
 |_=>none
def aO(f:D->En->Option En)(g:List D->En->Option En):List D->En->Option En:=λds ρ=>match ds with
 |d::r=>(f d ρ).bind λρ1=>g r ρ1
 |[]=>none
def tgT(n:Nat)(g:List D->En->Option En):D->En->Option En:=λd ρ=>match d with
 |.tup ds=>if ds.length=n/\az ds=true/\au ds=true then g ds ρ else none
 |_=>none
theorem Gh:T5 G ob P J_ bM:=λds ρ J e vs σ H S M Fr s r nd O Q q=>by
 cases ds with
 |nil=>
  cases e;obtain⟨rfl,rfl⟩:=r.inv0;exact⟨rfl,q σ H S (s.lessF λa z=>.inr z) .refl⟩
 |cons d r=>cases e
def DQ(G:Gc)(ob P:Nat->Bool)(g:TGs)(f:List D->En->Option En):Prop:=∀(ds:List D)(ρ J:En),au ds=true->az ds=true->f ds ρ=some J->∀(vs:List V)(σ:L2.St)(H:Hp)(S:Ad)(M:List Addr)(Fr:Addr->Prop),Sta G H ob ρ σ S (plus M Fr)->aF G H (wn ob S (plus M Fr)) ds vs M->M.Nodup->(∀a∈M,¬Fr a)->
 ∀Q:L2.St->Hp->Prop,(∀F H' S',Sta G H' ob J F S' Fr->Mv P H H' σ F S S' M->Q F H')->g vs σ H Q
theorem t8:DQ G ob P J_ bM:=λds ρ J _ _ e=>Gh ds ρ J e
theorem ji{t:TG}{u:TGs}{f:D->En->Option En}{g:List D->En->Option En}(h1:RfG G ob P t f)(h2:DQ G ob P u g):DQ G ob P (Ht t u) (aO f g):=λds ρ a1 c1 c2 e vs σ H S M Fr s r nd hF Q q=>by
 cases ds with
 |nil=>cases e
 |cons d ds=>
  obtain⟨x,ys,M1,M2,rfl,rfl,F,Z⟩:=r.inv;simp only[au,az,UT]at c1 c2;simp only[aO]at e;cases h3:f d ρ with
  |none=>rw[h3]at e;cases e
  |some ρ1=>
   have e:g ds ρ1=some a1:=by simpa[h3]using e
   have a0:=Ur.mp nd;have a2:plus (M1++M2) Fr=plus M1 (plus M2 Fr):=by
    funext a;simp only[plus,T_,or_assoc]
   rw[a2]at s F Z;refine⟨x,ys,rfl,h1 d ρ ρ1 h3 x σ H S M1 (plus M2 Fr) s F a0.1 (λa Y z=>?_) _ λa3 H1 S1 s1 m1=>?_⟩
   .rcases z with z|z
    .exact a0.2.2 a Y a z rfl
    .exact hF a (Uh _ Y) z
   .have ev:Evo H H1 (wn ob S (plus M1 (plus M2 Fr))) (wn ob S1 (plus M2 Fr)):=⟨λb u U f=>?_,λb xs h=>?_⟩
    .have hr1:aF G H1 (wn ob S1 (plus M2 Fr)) ds ys M2:=Z.mono ev (.inl c1.2) (.inl c2.2) λc J u hu=>m1.kp c u hu (λ⟨i,z⟩=>s.fdj i c (.inr (.inl J)) z) λz=>a0.2.2 c z c J rfl
     refine h2 ds ρ1 a1 c1.2 c2.2 e ys a3 H1 S1 M2 Fr s1 hr1 a0.2.1 (λa Y=>hF a (T9 _ Y)) Q λσ2 H2 S2 N m2=>q σ2 H2 S2 N ⟨λb u U n1 n2=>?_,λi a z=>?_,m1.pr.trans m2.pr⟩
     .have n3:b∉M1:=λz=>n2 (Uh _ z)
      exact m2.kp b u (m1.kp b u U n1 n3) (λ⟨i,z⟩=>(m1.gr i b z).elim n1 λz=>z.elim n3 λz=>by rw[U]at z;cases z) λz=>n2 (T9 _ z)
     .rcases m2.gr i a z with⟨j,z⟩|z|z
      .exact(m1.gr j a z).imp id λz=>z.imp (Uh _) id
      .exact .inr (.inl (T9 _ z))
      .by_cases q1:inS S a
       .exact .inl q1
       .by_cases q2:a∈M1
        .exact .inr (.inl (Uh _ q2))
        .refine .inr (.inr ?_)
         cases e:H a with
         |none=>rfl
         |some u=>rw[m1.kp a u e q1 q2]at z;cases z
    .have n1:¬inS S b:=λ⟨i,z⟩=>by
      cases O:ob i with
      |false=>exact f.2.1 ⟨i,O,z⟩
      |true=>exact f.2.2 ⟨i,O,z⟩
     have n2:b∉M1:=λz=>f.1 (.inl z);refine⟨m1.kp b u U n1 n2,λz=>f.1 (.inr z),λ⟨i,_,z⟩=>?_,λ⟨i,_,z⟩=>?_⟩
     .exact(m1.gr i b z).elim n1 λz=>z.elim n2 λz=>by rw[U]at z;cases z
     .exact(m1.gr i b z).elim n1 λz=>z.elim n2 λz=>by rw[U]at z;cases z
    .have no:∀u,H b=some u->muO u=false->H1 b=some u:=λu hu m=>m1.kp b u hu (λ⟨i,z⟩=>by
       obtain⟨o,O,V⟩:=s.mu z;rw[hu]at O;cases O;rw[m]at V;cases V) λz=>by
       obtain⟨o,O,V⟩:=F.dom b z;rw[hu]at O;cases O;rw[m]at V;cases V
     exact no _ h rfl
theorem Kv{n:Nat}{t:TGs}{g:List D->En->Option En}(h:DQ G ob P t g):RfG G ob P (QF G.K n t) (tgT n g):=λd ρ J e v σ H S M Fr s r nd O Q q=>by
 cases d with
 |tup ds=>
  simp only[tgT]at e;split at e
  .rename_i hl
   rw[Rep]at r;obtain⟨a,xs,rfl,Y,Z⟩:=r;exact⟨a,xs,rfl,SqT.of Y,by rw[←Z.length];exact hl.1,h ds ρ J hl.2.2 hl.2.1 e xs σ H S M Fr s Z nd O Q q⟩
  .cases e
 |_=>cases e
structure Fb{ι:Type}(X:ι->Cx)(G:Gc)(ob P:Nat->Bool)(tg:List Expr)(f:List D->En->Option En):Prop where
 mk::(ex:∃t,(∀c,PGs (X c) tg t)/\DQ G ob P t f)
theorem b_(i:Nat){x:Str}{pos:Pos}(q:∀c,(X c).N.Nodup)(z:P i=false:=by rfl)(hi:∀c,(X c).N[i]? =some x:=by intro _;rfl)(F:∀c,Loc (X c).env.scope x:=by intro _;first|exact Xe rfl|exact Wg rfl)(Z:∀c,(X c).fn x=true∨(X c).env.scope.names.lookup x=some .local:=by intro _;first|exact .inl rfl|exact .inr rfl):PVG X G ob P (.Name x pos) (tgN i):=⟨_,λc=>Bo (q c) (hi c) (F c) (Z c),h_ z⟩
theorem jB:Fb X G ob P [] bM:=⟨_,λc=>Ci,t8⟩
theorem cQ{e:Expr}{es:List Expr}{f:D->En->Option En}{g:List D->En->Option En}(h1:PVG X G ob P e f)(h2:Fb X G ob P es g)(O:∀c,(Vm (e::es) (X c).env).map (·.2)=YG e (X c).env::(Vm es (X c).env).map (·.2):=by intro _;rfl):Fb X G ob P (e::es) (aO f g):=let⟨t,a1,a2⟩:=h1.ex;let⟨u,b1,b2⟩:=h2.ex;⟨_,λc=>yl (a1 c) (b1 c) (O c),ji a2 b2⟩
theorem m8{es:List Expr}{k n:Nat}{pos:Pos}{g:List D->En->Option En}(J:∀c,(X c).calm=true)(h:Fb X G ob P es g)(N:∀c,(Vm es (X c).env).length=n:=by intro _;rfl)(q:∀c,(Vm es (X c).env).findIdx? (·.1)=none:=by intro _;rfl)(F:∀c,(X c).K=G.K:=by intro _;rfl):PVG X G ob P (.Tuple es k pos) (tgT n g):=let⟨t,a1,a2⟩:=h.ex;⟨_,λc=>(by rw[←F c];exact Gj (J c) (a1 c) (N c) (q c)),Kv a2⟩
def cA(f:En->Option D)(g:D->En->Option En):En->Option Fl:=λρ=>(f ρ).bind λd=>(g d ρ).map .nx
def bW(f:En->Option (D×En))(g:D->En->Option En):En->Option Fl:=λρ=>(f ρ).bind λp=>(g p.1 p.2).map .nx
theorem t6{Fr:Addr->Prop}:plus [] Fr=Fr:=by funext a;simp[plus]
theorem kZ{te:TE}{t:TG}{f:En->Option (D×En)}{g:D->En->Option En}(h:kh G ob te f)(hg:RfG G ob P t g):RfS G ob P (JR te t) (bW f g):=λρ r e σ H S Fr s E q=>by
 unfold bW at e;cases h1:f ρ with
 |none=>simp[h1]at e
 |some p=>
  obtain⟨d,ρ1⟩:=p;cases h2:g d ρ1 with
  |none=>simp[h1,h2]at e
  |some ρ2=>
   have:Fl.nx ρ2=r:=by simpa[h1,h2]using e
   subst this;refine h ρ d ρ1 h1 σ H S Fr s _ λv H1 M S1 Z J nd V=>?_;have hF:∀a∈M,¬Fr a:=λa Y z=>by
    rcases V.fm a Y with q|q
    .exact s.notO z q
    .obtain⟨o,O,_⟩:=s.fdm a z
     rw[q]at O;cases O
   refine hg d ρ1 ρ2 h2 v σ H1 S1 M Fr Z J nd hF _ λF H' S' s' m=>q F H' S' s' ⟨λb u U N n2=>?_,λi a z=>?_,m.pr⟩
   .have hno:¬inO ob S b:=λ⟨i,_,z⟩=>N ⟨i,z⟩
    refine m.kp b u (V.kp b u U hno) (λ⟨i,z⟩=>?_) λz=>(V.fm b z).elim hno λz=>by rw[U]at z;cases z
    cases O:ob i with
    |false=>rw[V.sn i O]at z;exact N ⟨i,z⟩
    |true=>exact(V.gr i b O z).elim hno λz=>by rw[U]at z;cases z
   .rcases m.gr i a z with⟨j,z⟩|z|z
    .cases O:ob j with
     |false=>rw[V.sn j O]at z;exact .inl ⟨j,z⟩
     |true=>exact(V.gr j a O z).imp (λ⟨k,_,z⟩=>⟨k,z⟩) .inr
    .exact(V.fm a z).imp (λ⟨k,_,z⟩=>⟨k,z⟩) .inr
    .exact(V.back z).imp (λ⟨k,_,z⟩=>⟨k,z⟩) .inr
theorem zU{f:En->Option D}{g:D->En->Option En}:bW (eUp f) g=cA f g:=by
 funext ρ;unfold bW cA eUp;cases f ρ<;>rfl
section
variable{tg e:Expr}{pos:Pos}{g:D->En->Option En}
theorem lL{f:En->Option D}(N:PV X G ob e f)(z:PVG X G ob P tg g)(O:∀c,Xx [tg] e pos.line (X c).env=pure false:=by intro _;rfl)(V:∀c,Yc [tg] e (X c).env=pure none:=by intro _;rfl)(h1:∀c,(Vm [tg] (X c).env).map (·.2)=[YG tg (X c).env]:=by intro _;rfl):PVS X G ob P (.Assign [tg] e pos) (cA f g):=let⟨t,a1,a2⟩:=N.ex;let⟨u,b1,b2⟩:=z.ex;⟨_,λc=>Gz (a1 c) (b1 c) (O c) (V c) (h1 c),by rw[←zU];exact kZ (yH a2) b2⟩
theorem uJ{f:En->Option (D×En)}(N:PVe X G ob e f)(z:PVG X G ob P tg g)(O:∀c,Xx [tg] e pos.line (X c).env=pure false:=by intro _;rfl)(V:∀c,Yc [tg] e (X c).env=pure none:=by intro _;rfl)(h1:∀c,(Vm [tg] (X c).env).map (·.2)=[YG tg (X c).env]:=by intro _;rfl):PVS X G ob P (.Assign [tg] e pos) (bW f g):=let⟨t,a1,a2⟩:=N.ex;let⟨u,b1,b2⟩:=z.ex;⟨_,λc=>Gz (a1 c) (b1 c) (O c) (V c) (h1 c),kZ a2 b2⟩
theorem cN(i:Nat){x:Str}{pos':Pos}{f:En->Option D}(q:∀c,(X c).N.Nodup)(J:PV X G ob e f)(z:P i=false:=by rfl)(hi:∀c,(X c).N[i]? =some x:=by intro _;rfl)(F:∀c,Loc (X c).env.scope x:=by intro _;first|exact Xe rfl|exact Wg rfl)(O:∀c,Yd e (some (.Name x pos')) pos.line (X c).env=pure false:=by intro _;rfl)(Z:∀c,(X c).fn x=true∨(X c).env.scope.names.lookup x=some .local:=by intro _;first|exact .inl rfl|exact .inr rfl):PVS X G ob P (.Assign [.Name x pos'] e pos) (cA f (tgN i)):=let⟨t,a1,a2⟩:=J.ex;⟨_,λc=>Ia (q c) (hi c) (F c) (a1 c) (O c) (Z c),by rw[←zU];exact kZ (yH a2) (h_ z)⟩
theorem jz(i:Nat){x:Str}{pos':Pos}{f:En->Option (D×En)}(q:∀c,(X c).N.Nodup)(J:PVe X G ob e f)(z:P i=false:=by rfl)(hi:∀c,(X c).N[i]? =some x:=by intro _;rfl)(F:∀c,Loc (X c).env.scope x:=by intro _;first|exact Xe rfl|exact Wg rfl)(O:∀c,Yd e (some (.Name x pos')) pos.line (X c).env=pure false:=by intro _;rfl)(Z:∀c,(X c).fn x=true∨(X c).env.scope.names.lookup x=some .local:=by intro _;first|exact .inl rfl|exact .inr rfl):PVS X G ob P (.Assign [.Name x pos'] e pos) (bW f (tgN i)):=let⟨t,a1,a2⟩:=J.ex;⟨_,λc=>Ia (q c) (hi c) (F c) (a1 c) (O c) (Z c),kZ a2 (h_ z)⟩
end
def dN(f:En->Option (List D×En))(g:List D->En->Option En):En->Option Fl:=λρ=>(f ρ).bind λp=>if au p.1/\az p.1 then(g p.1 p.2).map .nx else none
def aG(f:En->Option (List D))(g:List D->En->Option En):En->Option Fl:=λρ=>(f ρ).bind λp=>if au p/\az p then(g p ρ).map .nx else none
theorem KN{f:En->Option (List D)}{g:List D->En->Option En}:dN (dI f) g=aG f g:=by
 funext ρ;unfold dN aG dI;cases f ρ<;>rfl
theorem Fj{ta:TA}{i j:Nat}(hi:P i=false)(hj:P j=false){f:En->Option (List D×En)}(h:xZ G ob ta f):RfS G ob P (RW i j ta) (dN f (aO (tgN i) (aO (tgN j) bM))):=λρ r e σ H S Fr s E q=>by
 unfold dN at e;cases h1:f ρ with
 |none=>simp[h1]at e
 |some p=>
  obtain⟨ds,ρ1⟩:=p;by_cases J:au ds/\az ds
  .cases h2:(aO (tgN i) (aO (tgN j) bM)) ds ρ1 with
   |none=>simp[h1,h2,J]at e
   |some ρ2=>
    have:Fl.nx ρ2=r:=by simpa[h1,h2,J]using e
    subst this;refine h ρ ds ρ1 h1 σ H S Fr s _ λvs H1 M S1 Z r1 nd V=>?_;have hF:∀a∈M,¬Fr a:=λa Y z=>by
     rcases V.fm a Y with q|q
     .exact s.notO z q
     .obtain⟨o,O,_⟩:=s.fdm a z
      rw[q]at O;cases O
    have N:=ji (h_ (G:=G) (ob:=ob) hi) (ji (h_ hj) t8) ds ρ1 ρ2 J.1 J.2 h2 vs σ H1 S1 M Fr Z r1 nd hF (λF H'=>E.nx F H') λF H' S' s' m=>q F H' S' s' ⟨λb u U n1 n2=>?_,λi a z=>?_,m.pr⟩
    .obtain⟨v,rr,e1,v2,r2,e2,e3,k⟩:=N
     subst e3;exact⟨v,v2,by rw[e1,e2],k⟩
    .have hno:¬inO ob S b:=λ⟨i,_,z⟩=>n1 ⟨i,z⟩
     refine m.kp b u (V.kp b u U hno) (λ⟨i,z⟩=>?_) λz=>(V.fm b z).elim hno λz=>by rw[U]at z;cases z
     cases O:ob i with
     |false=>rw[V.sn i O]at z;exact n1 ⟨i,z⟩
     |true=>exact(V.gr i b O z).elim hno λz=>by rw[U]at z;cases z
    .rcases m.gr i a z with⟨j,z⟩|z|z
     .cases O:ob j with
      |false=>rw[V.sn j O]at z;exact .inl ⟨j,z⟩
      |true=>exact(V.gr j a O z).imp (λ⟨k,_,z⟩=>⟨k,z⟩) .inr
     .exact(V.fm a z).imp (λ⟨k,_,z⟩=>⟨k,z⟩) .inr
     .exact(V.back z).imp (λ⟨k,_,z⟩=>⟨k,z⟩) .inr
  .simp[h1,J]at e
section
variable{x y:Str}{a b:Expr}{px py pt pos:Pos}{kt k2 pt2}
theorem wy(i j:Nat){f:En->Option (List D)}(J:∀c,(X c).calm=true)(q:∀c,(X c).N.Nodup)(Y:PVA X G ob [a,b] f)(z:P i=false:=by rfl)(Z:P j=false:=by rfl)(hi:∀c,(X c).N[i]? =some x:=by intro _;rfl)(U:∀c,(X c).N[j]? =some y:=by intro _;rfl)(a0:i≠j:=by decide)(F:∀c,(X c).env.scope.names.lookup x=some .local:=by intro _;rfl)(hy:∀c,(X c).env.scope.names.lookup y=some .local:=by intro _;rfl)(V:∀c,Yc [.Tuple [.Name x px,.Name y py] kt pt] (.Tuple [a,b] k2 pt2) (X c).env=pure (some [x,y]):=by intro _;rfl)(O:∀c,Xx [.Tuple [.Name x px,.Name y py] kt pt] (.Tuple [a,b] k2 pt2) pos.line (X c).env=pure false:=by intro _;rfl) :
 PVS X G ob P (.Assign [.Tuple [.Name x px,.Name y py] kt pt] (.Tuple [a,b] k2 pt2) pos) (aG f (aO (tgN i) (aO (tgN j) bM))):=let⟨t,a1,a2⟩:=Y.ex;⟨_,λc=>Qx (J c) (q c) (hi c) (U c) a0 (F c) (hy c) (a1 c) (V c) (O c),by rw[←KN];exact Fj z Z (wX a2)⟩
end
def sIf(c:En->Option Bool)(f g:En->Option Fl):En->Option Fl:=λρ=>(c ρ).bind λb=>if b then f ρ else g ρ
def jw(c:En->Option (Bool×En))(f g:En->Option Fl):En->Option Fl:=λρ=>(c ρ).bind λp=>if p.1 then f p.2 else g p.2
theorem Ra{c:En->Option Bool}{f g:En->Option Fl}:jw (jA c) f g=sIf c f g:=by
 funext ρ;unfold jw sIf jA;cases c ρ<;>rfl
theorem Br{tc:TT}{t u:TS}{c:En->Option (Bool×En)}{f g:En->Option Fl}(J:u_ G ob tc c)(h1:RfS G ob P t f)(h2:RfS G ob P u g):RfS G ob P (RD tc t u) (jw c f g):=λρ r e σ H S Fr s E q=>by
 unfold jw at e;cases F:c ρ with
 |none=>simp[F]at e
 |some p=>
  obtain⟨b,ρ1⟩:=p;refine J ρ b ρ1 F σ H S Fr s _ λH1 S1 Z V=>?_;have m:Mv P H H1 σ σ S S1 []:=V.mv;cases b with
  |true=>exact rQ (h1 ρ1 r (by simpa[F]using e) σ H1 S1 Fr Z E (q.from m))
  |false=>exact uM (h2 ρ1 r (by simpa[F]using e) σ H1 S1 Fr Z E (q.from m))
theorem eG{c:Expr}{a b:List Stmt}{pos:Pos}{fc:En->Option Bool}{f g:En->Option Fl}(J:PVT X G ob c fc)(Y:rH X G ob P a f)(U:rH X G ob P b g):PVS X G ob P (.If c a b pos) (sIf fc f g):=let⟨v,c1,c2⟩:=J.ex;let⟨t,a1,a2⟩:=Y.ex;let⟨u,b1,b2⟩:=U.ex;⟨_,λc=>Mm (c1 c) (a1 c) (b1 c),by rw[←Ra];exact Br (Hr c2) a2 b2⟩
theorem sE{c:Expr}{a b:List Stmt}{pos:Pos}{fc:En->Option (Bool×En)}{f g:En->Option Fl}(J:yD X G ob c fc)(Y:rH X G ob P a f)(U:rH X G ob P b g):PVS X G ob P (.If c a b pos) (jw fc f g):=let⟨v,c1,c2⟩:=J.ex;let⟨t,a1,a2⟩:=Y.ex;let⟨u,b1,b2⟩:=U.ex;⟨_,λc=>Mm (c1 c) (a1 c) (b1 c),Br c2 a2 b2⟩
def sEx(f:En->Option (D×En)):En->Option Fl:=λρ=>(f ρ).map λp=>.nx p.2
theorem QR{te:TE}{f:En->Option (D×En)}(h:kh G ob te f):RfS G ob P (HY te) (sEx f):=λρ r e σ H S Fr s E q=>by
 unfold sEx at e;cases h1:f ρ with
 |none=>simp[h1]at e
 |some p=>
  obtain⟨d,ρ1⟩:=p;have:Fl.nx ρ1=r:=by simpa[h1]using e
  subst this;exact h ρ d ρ1 h1 σ H S Fr s _ λv H1 M S1 Z J nd V=>q σ H1 S1 (Z.lessF λa z=>.inr z) V.mv
theorem oG{e:Expr}{pos:Pos}{f:En->Option (D×En)}(N:PVe X G ob e f)(O:∀c,Yd e none pos.line (X c).env=pure false:=by intro _;rfl):PVS X G ob P (.Expr e pos) (sEx f):=let⟨t,a1,a2⟩:=N.ex;⟨_,λc=>A_ (a1 c) (O c),QR a2⟩
def gn(f:En->Option (D×En)):En->Option Fl:=λρ=>(f ρ).bind λp=>if clean p.1 then some (.ret p.1 p.2)else none
def eQ(f:En->Option D):En->Option Fl:=λρ=>(f ρ).bind λd=>if clean d then some (.ret d ρ)else none
theorem O8{f:En->Option D}:gn (eUp f)=eQ f:=by
 funext ρ;unfold gn eQ eUp;cases f ρ<;>rfl
theorem yC{te:TE}{f:En->Option (D×En)}(h:kh G ob te f):RfS G ob P (Og te) (gn f):=λρ r e σ H S Fr s E q=>by
 unfold gn at e;cases h1:f ρ with
 |none=>simp[h1]at e
 |some p=>
  obtain⟨d,ρ1⟩:=p;cases J:clean d with
  |false=>simp[h1,J]at e
  |true=>
   have:Fl.ret d ρ1=r:=by simpa[h1,J]using e
   subst this;exact h ρ d ρ1 h1 σ H S Fr s _ λv H1 M S1 Z F nd V=>q v σ H1 M S1 Z F J nd (λa Y=>(V.fm a Y).imp (λ⟨i,_,z⟩=>⟨i,z⟩) id) V.mv
theorem cB{e:Expr}{pos:Pos}{f:En->Option D}(N:PV X G ob e f):PVS X G ob P (.Return (some e) pos) (eQ f):=let⟨t,a1,a2⟩:=N.ex;⟨_,λc=>Af (a1 c),by rw[←O8];exact yC (yH a2)⟩
theorem uo{e:Expr}{pos:Pos}{f:En->Option (D×En)}(N:PVe X G ob e f):PVS X G ob P (.Return (some e) pos) (gn f):=let⟨t,a1,a2⟩:=N.ex;⟨_,λc=>Af (a1 c),yC a2⟩
theorem Sta.move{G:Gc}{H:Hp}{ρ:En}{σ:L2.St}{S:Ad}{Fr:Addr->Prop}{i:Nat}{d:D}(s:Sta G H ob ρ σ S Fr)(e:ρ[i]? =some (some d)) :
  ∃v,σ[i]? =some (some v)/\clean d=true/\Sta G H ob (ρ.set i none) σ (fU S i []) (plus (S i) Fr)/\Rep G H (wn ob (fU S i []) (plus (S i) Fr)) d v (S i):=by
 obtain⟨v,h1,h2,F⟩:=s.sl i d e;have J:Evo H H (wn ob S Fr) (wn ob (fU S i []) (plus (S i) Fr)):=⟨λb u h f=>⟨h,⟨λz=>z.elim (λz=>?_) f.1,λ⟨k,q1,q2⟩=>?_,λ⟨k,q1,q2⟩=>?_⟩⟩,λ_ _ h=>h⟩
 .have q:=(by simpa[clean]using F:aD d=true/\aC d=true)
  refine⟨v,h1,F,⟨by simp[s.len],λj d' N=>?_,λj U=>?_,λj=>?_,λj k a q1 q2=>?_,λj a q1 q2=>?_,λa h=>?_⟩,h2.mono J (.inl q.1) (.inl q.2) λ_ _ _ h=>h⟩
  .by_cases e':j=i
   .subst e'
    rw[aaL]at N;split at N
    .split at N
     .simp at N
     .cases N
    .exact absurd rfl ‹_›
   .rw[UW (U3 e')]at N
    obtain⟨V,q1,q2,O⟩:=s.sl j _ N;refine⟨V,q1,?_,O⟩;rw[bU e'];have q:=(by simpa[clean]using O:aD d'=true/\aC d'=true);exact q2.mono J (.inl q.1) (.inl q.2) λ_ _ _ h=>h
  .by_cases e':j=i
   .rw[e',cu]
   .rw[bU e']
    exact s.em j λd'=>by have:=U d';rwa[UW (U3 e')]at this
  .by_cases e':j=i
   .rw[e',cu];exact Va
   .rw[bU e'];exact s.nd j
  .rcases dH q1 with⟨_,z⟩|⟨_,z⟩
   .cases z
   .rcases dH q2 with⟨_,z'⟩|⟨_,z'⟩
    .cases z'
    .exact s.dj j k a z z'
  .rcases dH q2 with⟨_,z⟩|⟨n,z⟩
   .cases z
   .rcases q1 with q1|q1
    .exact n (s.dj j i a z q1)
    .exact s.fdj j a q1 z
  .rcases h with h|h
   .exact s.mu h
   .exact s.fdm a h
 .cases ho:ob i with
  |false=>exact f.2.1 ⟨i,ho,z⟩
  |true=>exact f.2.2 ⟨i,ho,z⟩
 .rcases dH q2 with⟨_,z⟩|⟨_,z⟩
  .cases z
  .exact f.2.1 ⟨k,q1,z⟩
 .rcases dH q2 with⟨_,z⟩|⟨_,z⟩
  .cases z
  .exact f.2.2 ⟨k,q1,z⟩
def eO(i:Nat):En->Option Fl:=λρ=>match ρ[i]? with
 |some (some d)=>some (.ret d (ρ.set i none))
 |_=>none
theorem FZ{i:Nat}:RfS G ob P (Og (Ep i)) (eO i):=λρ r e σ H S Fr s E q=>by
 unfold eO at e;split at e
 .rename_i d h1
  cases e;obtain⟨v,h2,F,V,Z⟩:=s.move h1;exact⟨v,h2,q v σ H (S i) (fU S i []) V Z F (s.nd i) (λa Y=>.inl ⟨i,Y⟩) ⟨λ_ _ h _ _=>h,λj a z=>(dH z).elim (λz=>by cases z.2) λz=>.inl ⟨j,z.2⟩,.refl⟩⟩
 .cases e
theorem jn(i:Nat){x:Str}{pos pos':Pos}(q:∀c,(X c).N[i]? =some x:=by intro _;rfl)(U:∀c,Vis (X c).env.scope x:=by intro _;first|exact Xe rfl|exact Wg (Xe rfl)|exact Wg (Wg rfl))(hd:(x==("__debug__":Str))=false:=by decide)(J:(x==("__classdict__":Str))=false:=by decide):PVS X G ob P (.Return (some (.Name x pos)) pos') (eO i):=⟨_,λc=>Af (pv i (q c) (U c) hd J),FZ⟩
end
def mkO:Mk->Mk
 |.own=>.frz
 |m=>m
mutual
noncomputable def fzo:D->D
 |.tup ds=>.tup (gf ds)
 |.lst m ds=>.lst (mkO m) (gf ds)
 |.dct m ks ds=>.dct (mkO m) ks (gf ds)
 |.ins m c fs ds=>.ins (mkO m) c fs (gf ds)
 |d=>d
noncomputable def gf:List D->List D
 |[]=>[]
 |d::r=>fzo d::gf r
end
theorem mG:∀ds:List D,gf ds=ds.map fzo
 |[]=>rfl
 |d::r=>by rw[gf,mG r];rfl
variable{a:Addr}
theorem dq.fzo(O:Les H W W' L)(N:∀a,W.s a->W'.s a)(h:dq J H W a o m L M):dq J H W' a o (mkO m) [] []:=by
 cases m with
 |own=>exact⟨h.1,O.l a (by rw[h.2];simp),rfl,rfl⟩
 |frz=>exact⟨h.1,O.f a h.2.1,rfl,rfl⟩
 |brw=>exact⟨h.1,N a h.2.1,rfl,rfl⟩
 |bro=>exact⟨h.1,rfl,rfl⟩
 |scr=>exact⟨h.1.imp (λz=>⟨z.1,O.f a z.2⟩) id,rfl,rfl⟩
mutual
theorem Rep.fzo(N:∀a,W.s a->W'.s a):∀{d:D}{v:V}{L:List Addr},Rep G H W d v L->Les H W W' L->Rep G H W' (fzo d) v []
 |.non,v,L,h,_=>by rw[Rep]at h;simp[Jb.fzo,Rep,h]
 |.bl _,v,L,h,_=>by rw[Rep]at h;simp[Jb.fzo,Rep,h]
 |.int _,v,L,h,_=>by rw[Rep]at h;simp[Jb.fzo,Rep,h]
 |.str _,v,L,h,_=>by rw[Rep]at h;simp[Jb.fzo,Rep,h]
 |.ty _,v,L,h,_=>by rw[Rep]at h;simp[Jb.fzo,Rep,h]
 |.tup ds,v,L,h,O=>by
  rw[Rep]at h;rw[Jb.fzo,Rep];obtain⟨a,xs,rfl,Y,Z⟩:=h;exact⟨a,xs,rfl,Y,aF.fzo N Z O⟩
 |.lst m ds,v,L,h,he=>by
  rw[Rep]at h;rw[Jb.fzo,Rep];obtain⟨a,xs,M,rfl,Z,O⟩:=h;exact⟨a,xs,[],rfl,aF.fzo N Z (he.sub λc J=>O.sub.subset J),O.fzo he N⟩
 |.dct m ks ds,v,L,h,he=>by
  rw[Rep]at h;rw[Jb.fzo,Rep];obtain⟨a,xs,M,rfl,q,Z,O⟩:=h;exact⟨a,xs,[],rfl,q,aF.fzo N Z (he.sub λc J=>O.sub.subset J),O.fzo he N⟩
 |.ins m c' fs ds,v,L,h,he=>by
  rw[Rep]at h;rw[Jb.fzo,Rep];obtain⟨a,C,dx,xs,M,rfl,F,q,Z,O⟩:=h;exact⟨a,C,dx,xs,[],rfl,F,q,aF.fzo N Z (he.sub λc J=>O.sub.subset J),O.fzo he N⟩
theorem aF.fzo(N:∀a,W.s a->W'.s a):∀{ds:List D}{vs:List V}{L:List Addr},aF G H W ds vs L->Les H W W' L->aF G H W' (gf ds) vs []
 |[],vs,L,h,_=>by obtain⟨rfl,_⟩:=h.inv0;rw[gf];exact .nil
 |d::r,vs,L,h,he=>by
  obtain⟨x,ys,M,M',rfl,rfl,h1,h2⟩:=h.inv;rw[gf];exact .cons (M:=[]) (M':=[]) (Rep.fzo N h1 (he.sub λc J=>Uh _ J)) (aF.fzo N h2 (he.sub λc J=>T9 _ J))
end
mutual
theorem Dm:∀{d:D},aD d=true->aD (Jb.fzo d)=true
 |.non,_=>rfl|.bl _,_=>rfl|.int _,_=>rfl|.str _,_=>rfl|.ty _,_=>rfl
 |.tup ds,h=>by simp[aD]at h;simp[Jb.fzo,aD,gR h]
 |.lst m ds,h=>by simp[aD]at h;cases m<;>simp[Jb.fzo,aD,gR h.2,mkO]<;>simp at h
 |.dct m _ ds,h=>by simp[aD]at h;cases m<;>simp[Jb.fzo,aD,gR h.2,mkO]<;>simp at h
 |.ins m _ _ ds,h=>by simp[aD]at h;cases m<;>simp[Jb.fzo,aD,gR h.2,mkO]<;>simp at h
theorem gR:∀{ds:List D},au ds=true->au (gf ds)=true
 |[],_=>rfl
 |d::r,h=>by simp[au]at h;simp[gf,au,Dm h.1,gR h.2]
end
mutual
theorem Dq:∀{d:D},aC d=true->aC (Jb.fzo d)=true
 |.non,_=>rfl|.bl _,_=>rfl|.int _,_=>rfl|.str _,_=>rfl|.ty _,_=>rfl
 |.tup ds,h=>by simp[aC]at h;simp[Jb.fzo,aC,gM h]
 |.lst m ds,h=>by simp[aC]at h;cases m<;>simp[Jb.fzo,aC,gM h.2,mkO]<;>simp at h
 |.dct m _ ds,h=>by simp[aC]at h;cases m<;>simp[Jb.fzo,aC,gM h.2,mkO]<;>simp at h
 |.ins m _ _ ds,h=>by simp[aC]at h;cases m<;>simp[Jb.fzo,aC,gM h.2,mkO]<;>simp at h
theorem gM:∀{ds:List D},az ds=true->az (gf ds)=true
 |[],_=>rfl
 |d::r,h=>by simp[az]at h;simp[gf,az,Dq h.1,gM h.2]
end
structure Wk(G:Gc)(J:It)(Lt:Hp->Wn->Prop)(items:List D):Prop where
 go:∀(i:Nat)(d:D),items[i]? =some d->∀H W,Lt H W->J.go i H
 yld:∀(i:Nat)(d:D),items[i]? =some d->∀H W,Lt H W->∀x H',J.yld i H x H'->Same H H'/\Rep G H' W d x []
 stop:∀H W,Lt H W->J.stop items.length H
def LtB(b:Bool)(H:Hp)(W:Wn):Hp->Wn->Prop:=λH2 N=>if b=true then Evo H H2 W N else Up H H2 W N
variable{b:Bool}
theorem LtB.up{N:Wn}(u:Up H H2 W N):LtB b H W H2 N:=by
 cases b with
 |true=>exact rQ u.evo
 |false=>exact uM u
def RfI(G:Gc)(ob:Nat->Bool)(wi:TI)(f:En->Option (Bool×List D)):Prop:=∀(ρ:En)(b:Bool)(items:List D),f ρ=some (b,items)->∀(σ:L2.St)(H:Hp)(W:Wn),Rel G H W ob ρ σ->WOk H W->∀R:It->Hp->Prop,
 (∀J H',Same H H'->Wk G J (LtB b H' W) items->R J H')->wi σ H R
structure PVI{ι:Type}(X:ι->Cx)(G:Gc)(ob:Nat->Bool)(tg it:Expr)(f:En->Option (Bool×List D)):Prop where
 mk::(ex:∃t,(∀c,PI (X c) tg it t)/\RfI G ob t f)
def jf(lo:Int)(n:Nat):List D:=(V1 n).map λ(k:Nat)=>D.int (lo+(k:Int))
def je(f:En->Option (List D)):En->Option (Bool×List D):=λρ=>(f ρ).bind λds=>match ds with
 |[.int j]=>if -(2 ^ 62)<=j/\j<2 ^ 62 then some (true,jf 0 j.toNat)else none
 |_=>none
theorem OJ{q:Hp->Wn->Prop}{lo:Int}:Wk G (Itr lo n) q (jf lo n)where
 go:=λi d e H W _=>by
  have:=(List.getElem?_eq_some_iff.mp e).1;show i<n;simpa[jf]using this
 yld:=λi d e H W _ x H' h=>by
  obtain⟨rfl,rfl⟩:=h;have:d= .int (lo+(i:Int)):=by
   unfold jf at e;rw[List.getElem?_map]at e;have hi:i<n:=by
    have:=(List.getElem?_eq_some_iff.mp (show(jf lo n)[i]? =some d by unfold jf;rw[List.getElem?_map];exact e)).1;simpa[jf]using this
   rw[aad hi]at e;simpa using e.symm
  subst this;exact⟨Same.refl _,by rw[Rep];exact⟨rfl,rfl⟩⟩
 stop:=λH W _=>by
  show n<=(jf lo n).length;simp[jf]
variable{f:En->Option (List D)}
theorem Ol(h:RfA G ob t f):RfI G ob (Ms t) (je f):=λρ b items e σ H W V w R q=>by
 unfold je at e;cases h1:f ρ with
 |none=>simp[h1]at e
 |some ds=>
  rw[h1]at e;simp only[Ua]at e;split at e
  .rename_i j
   split at e
   .rename_i hj
    cases e;refine h ρ _ h1 σ H W V w _ λvs H' L s r z nd=>?_;obtain⟨x,ys,M,M',rfl,_,F,O⟩:=r.inv;obtain⟨rfl,_⟩:=O.inv0;rw[Rep]at F;obtain⟨rfl,_⟩:=F;exact⟨j,rfl,hj.1,hj.2,q _ H' s OJ⟩
   .cases e
  .cases e
def cX:D->Option (Bool×List D)
 |.lst m ds=>some (clean (.lst m ds),gf ds)
 |.tup ds=>some (clean (.tup ds),gf ds)
 |_=>none
def itS(f:En->Option D):En->Option (Bool×List D):=λρ=>(f ρ).bind cX
theorem Df{W1 F:Wn}(h:dq J H W1 a o m L M)(q:Les H W1 W L)(N:W1.s a->W.s a)(U:b=true->m≠.brw/\m≠.bro)(l:LtB b H W H2 F):Rd H2 a o∨J a o:=by
 cases b with
 |false=>
  have u:Up H H2 W F:=(Uq Vs).mp l;exact h.rx.imp (Same.rd u.s) id
 |true=>
  have e:Evo H H2 W F:=(Uo rfl).mp l;cases m with
  |own=>exact .inl (.inl (e.k a o h.1 (q.l a (by rw[h.2];simp))).1)
  |frz=>exact .inl (.inl (e.k a o h.1 (q.f a h.2.1)).1)
  |brw=>exact absurd rfl (U rfl).1
  |bro=>exact absurd rfl (U rfl).2
  |scr=>exact h.1.imp (λz=>(e.rd z.1 (q.f a z.2)).1) id
theorem S8{K:Ub}(h:Rd H a (.lst xs)∨KO K a (.lst xs)):SqL K H a xs:=by
 rcases h with z|⟨ys,e,z⟩
 .exact .inl z
 .cases e
  exact .inr z
theorem LtB.rep{N:Wn}(l:LtB b H W H2 N)(U:b=true->aD d=true/\aC d=true)(r:Rep G H W d v []):Rep G H2 N d v []:=by
 cases b with
 |false=>exact r.up ((Uq Vs).mp l)
 |true=>exact r.mono ((Uo rfl).mp l) (.inl (U rfl).1) (.inl (U rfl).2) (by simp)
theorem LtB.tup{H H2:Hp}{W N:Wn}{b:Bool}{K:Ub}{a:Addr}{xs:List V}(l:LtB b H W H2 N)(h:H a=some (.tup xs)):SqT K H2 a xs:=by
 cases b with
 |false=>exact SqT.of (((Uq Vs).mp l).s a _ h)
 |true=>exact SqT.of (((Uo rfl).mp l).t a xs h)
theorem gP(h:au ds=true)(e:ds[i]? =some d):aD d=true:=by
 induction ds generalizing i with
 |nil=>simp at e
 |cons a r Z=>
  simp only[au,UT]at h;cases i with
  |zero=>
   have:a=d:=by simpa using e
   rw[←this];exact h.1
  |succ i=>exact Z h.2 (by simpa using e)
theorem gU(h:az ds=true)(e:ds[i]? =some d):aC d=true:=by
 induction ds generalizing i with
 |nil=>simp at e
 |cons a r Z=>
  simp only[az,UT]at h;cases i with
  |zero=>
   have:a=d:=by simpa using e
   rw[←this];exact h.1
  |succ i=>exact Z h.2 (by simpa using e)
structure Parts(G:Gc)(H:Hp)(W:Wn)(b:Bool)(es:List D)(xs:List V):Prop where
 r:aF G H W es xs []
 c:b=true->au es=true/\az es=true
theorem Parts.at{G:Gc}{H H2:Hp}{W N:Wn}{b:Bool}{es:List D}{xs:List V}(p:Parts G H W b es xs)(l:LtB b H W H2 N){i:Nat}{d:D}{x:V}(e:es[i]? =some d)(F:xs[i]? =some x):Rep G H2 N d x []:=by
 obtain⟨y,M,h1,h2,q⟩:=p.r.get e;rw[F]at h1;cases h1;have:M=[]:=by simpa using q
 subst this;exact l.rep (λz=>⟨gP (p.c z).1 e,gU (p.c z).2 e⟩) h2
theorem Bs{es:List D}(w:WOk H W)(s:Same H H')(r:Rep G H' (W.add L) d v L)(F:∀a∈L,H a=none)(e:cX d=some (b,es)) :
  ∃a xs,v= .ref a/\Parts G H' W b es xs/\((∀H2 N,LtB b H' W H2 N->SqL G.K H2 a xs)∨(∀H2 N,LtB b H' W H2 N->SqT G.K H2 a xs)):=by
 have free:∀a∈L,W.free a:=λa Y=>⟨λz=>?_,λz=>?_,λz=>?_⟩
 .have les:Les H' (W.add L) W L:=⟨λa f=>⟨λz=>f.1 (.inr z),f.2⟩,free⟩
  cases d with
  |lst m ds=>
   simp only[cX,XD,ab6]at e;obtain⟨rfl,rfl⟩:=e;rw[Rep]at r;obtain⟨a,xs,M,rfl,Z,O⟩:=r;refine⟨a,xs,rfl,⟨aF.fzo (W:=W.add L) (W':=W) (λ_ z=>z) Z (les.sub λc J=>O.sub.subset J),λz=>?_⟩,.inl λH2 N l=>S8 (Df O les (λz=>z) (λz=>?_) l)⟩
   .simp[clean,aD,aC]at z
    exact⟨gR z.1.2,gM z.2.2⟩
   .simp[clean,aD,aC]at z
    exact⟨z.1.1,z.2.1⟩
  |tup ds=>
   simp only[cX,XD,ab6]at e;obtain⟨rfl,rfl⟩:=e;rw[Rep]at r;obtain⟨a,xs,rfl,q,Z⟩:=r;refine⟨a,xs,rfl,⟨aF.fzo (W:=W.add L) (W':=W) (λ_ z=>z) Z les,λz=>?_⟩,.inr λH2 N l=>l.tup q⟩;simp[clean,aD,aC]at z;exact⟨gR z.1,gM z.2⟩
  |_=>simp[cX]at e
 .obtain⟨o,ho,_⟩:=w a (.inl z);rw[F a Y]at ho;cases ho
 .obtain⟨o,ho,_⟩:=w a (.inr (.inl z));rw[F a Y]at ho;cases ho
 .obtain⟨o,ho,_⟩:=w a (.inr (.inr z));rw[F a Y]at ho;cases ho
theorem aF.getV(h:aF G H W ds xs L)(e:ds[i]? =some d):∃x,xs[i]? =some x:=let⟨x,_,h,_⟩:=h.get e;⟨x,h⟩
theorem Kg{f:En->Option D}(h:RfE G ob te f):RfI G ob (Rp G.K te) (itS f):=λρ b items e σ H W V w R q=>by
 unfold itS at e;cases h1:f ρ with
 |none=>simp[h1]at e
 |some d=>
  have e:cX d=some (b,items):=by simpa[h1]using e
  refine h ρ d h1 σ H W V w _ λv H' L s r F nd=>?_;obtain⟨a,xs,rfl,p,O⟩:=Bs w s r F e;refine⟨a,rfl,?_⟩;rcases O with O|O
  .refine .inl ⟨⟨xs,O H' W (LtB.up Up.refl)⟩,q _ H' s ⟨λi d e H2 N l=>?_,λi d e H2 N l x z y=>?_,λH2 N l=>?_⟩⟩
   .obtain⟨x,hx⟩:=p.r.getV e
    exact⟨xs,x,O H2 N l,hx⟩
   .obtain⟨rfl,y⟩:=y
    exact⟨Same.refl _,p.at l e (y xs (O _ N l))⟩
   .exact⟨xs,O H2 N l,by rw[p.r.length];exact Uk _⟩
  .refine .inr ⟨⟨xs,O H' W (LtB.up Up.refl)⟩,q _ H' s ⟨λi d e H2 N l=>?_,λi d e H2 N l x z y=>?_,λH2 N l=>?_⟩⟩
   .obtain⟨x,hx⟩:=p.r.getV e
    exact⟨xs,x,O H2 N l,hx⟩
   .obtain⟨rfl,y⟩:=y
    exact⟨Same.refl _,p.at l e (y xs (O _ N l))⟩
   .exact⟨xs,O H2 N l,by rw[p.r.length];exact Uk _⟩
def k_:Nat->List D->List D
 |_,[]=>[]
 |i,d::r=>.tup [.int (i:Int),d]::k_ (i+1) r
theorem jl:∀(ds:List D)(k i:Nat),(k_ k ds)[i]? =(ds[i]?).map λd=>.tup [.int ((k+i:Nat):Int),d]
 |[],k,i=>by simp[k_]
 |d::r,k,i=>by
  cases i with
  |zero=>simp[k_]
  |succ i=>
   simp only[k_,Zk];rw[jl r (k+1) i,show k+1+i=k+(i+1)by omega]
theorem m7:∀(ds:List D)(k:Nat),(k_ k ds).length=ds.length
 |[],k=>rfl
 |d::r,k=>by simp[k_,m7 r (k+1)]
def itE(f:En->Option (List D)):En->Option (Bool×List D):=λρ=>(f ρ).bind λds=>match ds with
 |[d]=>(cX d).map λp=>(p.1,k_ 0 p.2)
 |_=>none
theorem Hi(h:RfA G ob t f):RfI G ob (Ex G.K t) (itE f):=λρ b items e σ H W rl w R q=>by
 unfold itE at e;cases h1:f ρ with
 |none=>simp[h1]at e
 |some ds=>
  rw[h1]at e;simp only[Ua]at e;split at e
  .rename_i d
   cases h2:cX d with
   |none=>simp[h2]at e
   |some p=>
    obtain⟨Z,es⟩:=p;obtain⟨rfl,rfl⟩:Z=b/\k_ 0 es=items:=by simpa[h2]using e
    refine h ρ _ h1 σ H W rl w _ λvs H' L s r fr nd=>?_;obtain⟨v,ys,M,M',rfl,rfl,U,hy⟩:=r.inv;obtain⟨rfl,rfl⟩:=hy.inv0;rw[UJ]at U fr;obtain⟨a,xs,rfl,p,O⟩:=Bs w s U fr h2;have a0:∀(i:Nat)(d':D)(J:Addr)(x:V)(H2:Hp)(N:Wn),(k_ 0 es)[i]? =some d'->LtB Z H' W H2 N->H2 J=none->xs[i]? =some x->Same H2 (upd H2 J (.tup [.int i,x]))/\Rep G (upd H2 J (.tup [.int i,x])) N d' (.ref J) []:=λi d' J x H2 N e l hp F=>by
     rw[jl]at e;cases h3:es[i]? with
     |none=>rw[h3]at e;cases e
     |some d0=>
      rw[h3]at e;have e:D.tup [.int (i:Int),d0]=d':=by simpa using e
      subst e;have sm:Same H2 (upd H2 J (.tup [.int i,x])):=Same.new hp;refine⟨sm,?_⟩;rw[Rep];refine⟨J,_,rfl,aZ,.cons (M:=[]) (M':=[]) (by rw[Rep];exact⟨rfl,rfl⟩) (.one ((p.at l h3 F).up (Up.same sm)))⟩
    refine⟨a,rfl,?_⟩;have Y:∀(i:Nat)(d':D),(k_ 0 es)[i]? =some d'->∃x,xs[i]? =some x:=λi d' e=>by
     rw[jl]at e;cases h3:es[i]? with
     |none=>rw[h3]at e;cases e
     |some d0=>exact p.r.getV h3
    rcases O with O|O
    .refine .inl ⟨⟨xs,O H' W (LtB.up Up.refl)⟩,q _ H' s ⟨λi d e H2 N l=>?_,λi d e H2 N l x z y=>?_,λH2 N l=>?_⟩⟩
     .obtain⟨x,F⟩:=Y i d e
      exact⟨xs,x,O H2 N l,F⟩
     .obtain⟨J,v,hp,rfl,U,rfl⟩:=y
      exact a0 i d J v H2 N e l hp (U xs (O _ N l))
     .exact⟨xs,O H2 N l,by rw[m7,p.r.length];exact Uk _⟩
    .refine .inr ⟨⟨xs,O H' W (LtB.up Up.refl)⟩,q _ H' s ⟨λi d e H2 N l=>?_,λi d e H2 N l x z y=>?_,λH2 N l=>?_⟩⟩
     .obtain⟨x,F⟩:=Y i d e
      exact⟨xs,x,O H2 N l,F⟩
     .obtain⟨J,v,hp,rfl,U,rfl⟩:=y
      exact a0 i d J v H2 N e l hp (U xs (O _ N l))
     .exact⟨xs,O H2 N l,by rw[m7,p.r.length];exact Uk _⟩
  .cases e
variable{a:Expr}
theorem Ho(z:∀c,Gl (X c) "range")(V:∀c,(X c).mg "range"=none)(Y:PVA X G ob [a] f)(O:∀c,Ul [a] (X c).env=[(false,eval a (X c).env)]:=by intro _;rfl):PVI X G ob tg (.Call (.Name "range" p) [a] [] pos) (je f):=let⟨t,a1,a2⟩:=Y.ex;⟨_,λc=>El (z c) (V c) (a1 c) (O c),Ol a2⟩
theorem gj{f:En->Option D}(Y:PV X G ob a f)(F:∀c,(X c).K=G.K:=by intro _;rfl):PVI X G ob tg a (itS f):=let⟨t,a1,a2⟩:=Y.ex;⟨_,λc=>(by rw[←F c];exact Od (a1 c)),Kg a2⟩
theorem xX(z:∀c,Gl (X c) "enumerate")(V:∀c,(X c).mg "enumerate"=none)(Y:PVA X G ob [a] f)(O:∀c,Ul [a] (X c).env=[(false,eval a (X c).env)]:=by intro _;rfl)(F:∀c,(X c).K=G.K:=by intro _;rfl):PVI X G ob (.Tuple elts x1 tpos) (.Call (.Name "enumerate" p) [a] [] pos) (itE f):=let⟨t,a1,a2⟩:=Y.ex;⟨_,λc=>(by rw[←F c];exact Hs (z c) (V c) (a1 c) (O c)),Hi a2⟩
def forL(tg:D->En->Option En)(Y:En->Option Fl):List D->En->Option Fl
 |[],ρ=>some (.nx ρ)
 |d::r,ρ=>(tg d ρ).bind λρ1=>match Y ρ1 with
  |some (.nx ρ2)=>forL tg Y r ρ2
  |some (.cnt ρ2)=>forL tg Y r ρ2
  |some (.brk ρ2)=>some (.nx ρ2)
  |o=>o
def iT(it:En->Option (Bool×List D))(tg:D->En->Option En)(Y:En->Option Fl):En->Option Fl:=λρ=>(it ρ).bind λp=>if p.1=true then forL tg Y p.2 ρ else none
theorem Hh{σ2:L2.St}{S2:Ad}{Fr:Addr->Prop}(s:Sta G H ob ρ σ S Fr)(m:Mv P H H2 σ σ2 S S2 []):Evo H H2 (wn ob S Fr) (wn ob S2 Fr)where
 k:=λb u U f=>by
  have q:¬inS S b:=λ⟨i,z⟩=>by
   cases O:ob i with
   |false=>exact f.2.1 ⟨i,O,z⟩
   |true=>exact f.2.2 ⟨i,O,z⟩
  have Z:¬inS S2 b:=λ⟨i,z⟩=>(m.gr i b z).elim q λz=>z.elim (λz=>by cases z) λz=>by rw[U]at z;cases z
  exact⟨m.kp b u U q (by simp),f.1,λ⟨i,_,z⟩=>Z ⟨i,z⟩,λ⟨i,_,z⟩=>Z ⟨i,z⟩⟩
 t:=λb xs h=>by
  have F:∀u,H b=some u->muO u=false->H2 b=some u:=λu J mu=>m.kp b u J (λ⟨i,z⟩=>by
   obtain⟨o,O,V⟩:=s.mu z;rw[J]at O;cases O;rw[mu]at V;cases V) (by simp)
  exact F _ h rfl
variable{tg:D->En->Option En}{tb:TS}{it:En->Option (Bool×List D)}
theorem Kc{wi:TI}{g:TG}{Y:En->Option Fl}(hi:RfI G ob wi it)(hg:RfG G ob P g tg)(U:RfS G ob P tb Y):RfS G ob P (SJ wi g tb) (iT it tg Y):=λρ r e σ H S Fr s E q=>by
 unfold iT at e;cases h1:it ρ with
 |none=>simp[h1]at e
 |some p=>
  obtain⟨b,items⟩:=p;cases b with
  |false=>simp[h1]at e
  |true=>
   have e:forL tg Y items ρ=some r:=by simpa[h1]using e
   refine hi ρ true items h1 σ H _ s.rel s.wok _ λJ H1 sm wk=>?_;have Z:Sta G H1 ob ρ σ S Fr:=s.grow sm λa z=>.inl z;have m1:Mv P H H1 σ σ S S []:=⟨λb u h _ _=>sm b u h,λi a z=>.inl ⟨i,z⟩,.refl⟩;have q1:=q.from m1;have a1:∀{ρ2:En}{σ2:L2.St}{H2:Hp}{S2:Ad},Mv P H1 H2 σ σ2 S S2 []->LtB true H1 (wn ob S Fr) H2 (wn ob S2 Fr):=λm=>rQ (Hh Z m);refine⟨λi m σ2 H2=>i+m=items.length/\∃ρ2 S2,Sta G H2 ob ρ2 σ2 S2 Fr/\Mv P H1 H2 σ σ2 S S2 []/\forL tg Y (items.drop i) ρ2=some r,⟨items.length,by omega,ρ,S,Z,.refl,e⟩,?_⟩;rintro i m σ2 H2 ⟨a7,ρ2,S2,N,m2,e2⟩;by_cases a4:i<items.length
   .refine .inr ⟨wk.go i items[i] (by simp[a4]) H2 _ (a1 (ρ2:=ρ2) m2),λF H'=>(i+1)+(m-1)=items.length/\∃ρ2 S2,Sta G H' ob ρ2 F S2 Fr/\Mv P H1 H' σ F S S2 []/\forL tg Y (items.drop (i+1)) ρ2=some r,λF H' h=>⟨m-1,by omega,h⟩,λx H3 O=>?_⟩
    obtain⟨s3,rx⟩:=wk.yld i items[i] (by simp[a4]) H2 _ (a1 (ρ2:=ρ2) m2) x H3 O;rw[←Yj a4,forL]at e2;cases h3:tg items[i] ρ2 with
    |none=>simp[h3]at e2
    |some a3=>
     rw[h3]at e2;simp only[Ua]at e2;have a6:Sta G H3 ob ρ2 σ2 S2 Fr:=N.grow s3 λa z=>.inl z;refine hg items[i] ρ2 a3 h3 x σ2 H3 S2 [] Fr (by rw[t6];exact a6) (by rw[t6];exact rx) Va (by simp) _ λa5 H4 S4 V m4=>?_;have a2:Mv P H1 H4 σ a5 S S4 []:=(m2.trans (S2:=S2) ⟨λb u h _ _=>s3 b u h,λi a z=>.inl ⟨i,z⟩,.refl⟩).trans m4;cases h5:Y a3 with
     |none=>rw[h5]at e2;cases e2
     |some fl=>
      rw[h5]at e2;refine U a3 fl h5 a5 H4 S4 Fr V _ ?_;cases fl with
      |nx a0=>exact λF H' S' s' m'=>⟨by omega,a0,S',s',a2.trans m',e2⟩
      |cnt a0=>exact λF H' S' s' m'=>⟨by omega,a0,S',s',a2.trans m',e2⟩
      |brk a0=>cases e2;exact λF H' S' s' m'=>q1 F H' S' s' (a2.trans m')
      |ret d a0=>cases e2;exact q1.from a2
   .have hl:i=items.length:=by omega
    rw[hl,Xg,forL]at e2;cases e2;subst hl;exact .inl ⟨wk.stop H2 _ (a1 (ρ2:=ρ2) m2),q1 σ2 H2 S2 N m2⟩
variable{f:En->Option Fl}
theorem lH{tg iter:Expr}{g:D->En->Option En}(V:∀c,aci (model (X c).prog (X c).w) (X c).A (X c).env (X c).xe)(J:∀c,(X c).calm=true)(hi:PVI X G ob tg iter it)(z:PVG X G ob P tg g)(U:rH X G ob P Y f)(O:∀c,∀x,Ww iter (X c).env x=pure x:=by intro _;intro _;rfl):PVS X G ob P (.For tg iter Y [] pos) (iT it g f):=let⟨v,c1,c2⟩:=hi.ex;let⟨t,a1,a2⟩:=z.ex;let⟨u,b1,b2⟩:=U.ex;⟨_,λc=>PJ (V c) (J c) (c1 c) (a1 c) (b1 c) (O c),Kc c2 a2 b2⟩
def jx(c:En->Option (Bool×En))(Y:En->Option Fl):Nat->En->Option Fl
 |0,_=>none
 |n+1,ρ=>(c ρ).bind λp=>if p.1=true then(match Y p.2 with
  |some (.nx ρ2)=>jx c Y n ρ2
  |some (.cnt ρ2)=>jx c Y n ρ2
  |some (.brk ρ2)=>some (.nx ρ2)
  |o=>o)else some (.nx p.2)
theorem Dp{tc:TT}{c:En->Option (Bool×En)}{Y:En->Option Fl}(n:Nat)(J:u_ G ob tc c)(U:RfS G ob P tb Y):RfS G ob P (Ft tc tb) (jx c Y n):=λρ r e σ H S Fr s E q=>by
 refine⟨λm σ2 H2=>∃ρ2 S2,Sta G H2 ob ρ2 σ2 S2 Fr/\Mv P H H2 σ σ2 S S2 []/\jx c Y m ρ2=some r,⟨n,ρ,S,s,.refl,e⟩,?_⟩;rintro m σ2 H2 ⟨ρ2,S2,N,m2,e2⟩;cases m with
 |zero=>cases e2
 |succ m=>
  rw[jx]at e2;cases h1:c ρ2 with
  |none=>simp[h1]at e2
  |some p=>
   obtain⟨b,a0⟩:=p;rw[h1]at e2;simp only[Ua]at e2;refine J ρ2 b a0 h1 σ2 H2 S2 Fr N _ λz S3 s3 f3=>?_;have m3:Mv P H z σ σ2 S S3 []:=m2.trans f3.mv;cases b with
   |false=>
    simp only[U0,VN]at e2;cases e2;exact uM (q σ2 z S3 s3 m3)
   |true=>
    simp only[Vj]at e2;refine rQ ⟨λF H'=>∃ρ2 S2,Sta G H' ob ρ2 F S2 Fr/\Mv P H H' σ F S S2 []/\jx c Y m ρ2=some r,λF H' h=>⟨m,VM m,h⟩,?_⟩;cases Z:Y a0 with
    |none=>rw[Z]at e2;cases e2
    |some fl=>
     rw[Z]at e2;refine U a0 fl Z σ2 z S3 Fr s3 _ ?_;cases fl with
     |nx V=>exact λF H' S' s' O=>⟨V,S',s',m3.trans O,e2⟩
     |cnt V=>exact λF H' S' s' O=>⟨V,S',s',m3.trans O,e2⟩
     |brk V=>cases e2;exact λF H' S' s' O=>q F H' S' s' (m3.trans O)
     |ret d V=>cases e2;exact q.from m3
theorem vV(n:Nat){fc:En->Option (Bool×En)}(V:∀c,aci (model (X c).prog (X c).w) (X c).A (X c).env (X c).xe)(J:yD X G ob c fc)(U:rH X G ob P Y f):PVS X G ob P (.While c Y [] pos) (jx fc f n):=let⟨v,c1,c2⟩:=J.ex;let⟨u,b1,b2⟩:=U.ex;⟨_,λc=>GP (V c) (c1 c) (b1 c),Dp n c2 b2⟩
def iV(i:Nat)(ρ:En):Option En:=match ρ[i]? with
 |some (some d)=>some (ρ.set i (some (fz d)))
 |_=>none
theorem Sta.freeze{J:En}{Fr:Addr->Prop}(s:Sta G H ob ρ σ S Fr)(e:iV i ρ=some J):Sta G H ob J σ (fU S i []) Fr:=by
 unfold iV at e;split at e
 .rename_i d h1
  cases e;obtain⟨v,h2,F,V,Z⟩:=s.move h1;have q:Sta G H ob (ρ.set i none) σ (fU S i []) Fr:=V.lessF λa z=>.inr z;have O:i<ρ.length:=(List.getElem?_eq_some_iff.mp h1).1;have rf:Rep G H (wn ob (fU S i []) Fr) (fz d) v []:=by
   refine Z.fz ⟨λa f=>⟨λz=>f.1 (.inr z),f.2⟩,λa Y=>⟨λz=>s.fdj i a z Y,λ⟨j,q1,q2⟩=>?_,λ⟨j,q1,q2⟩=>?_⟩⟩ (.inl F)
   .rcases dH q2 with⟨_,z⟩|⟨n,z⟩
    .cases z
    .exact n (s.dj j i a z Y)
   .rcases dH q2 with⟨_,z⟩|⟨n,z⟩
    .cases z
    .exact n (s.dj j i a z Y)
  refine⟨by simp[s.len],λj d' N=>?_,λj U=>?_,q.nd,q.dj,q.fdj,q.fdm⟩
  .by_cases e':j=i
   .subst e'
    have:fz d=d':=by simpa[O]using N
    subst this;exact⟨v,h2,by rw[cu];exact rf,G6 d⟩
   .rw[UW (U3 e')]at N
    exact q.sl j d' (by rw[UW (U3 e')];exact N)
  .by_cases e':j=i
   .rw[e',cu]
   .exact q.em j λd'=>by have:=U d';rw[UW (U3 e')]at this⊢;exact this
 .cases e
def sFz(i:Nat)(f:En->Option Fl):En->Option Fl:=λρ=>(iV i ρ).bind f
theorem Qv{t:TS}(h:RfS G ob P t f):RfS G ob P t (sFz i f):=λρ r e σ H S Fr s E q=>by
 unfold sFz at e;cases h1:iV i ρ with
 |none=>simp[h1]at e
 |some ρ1=>
  have e:f ρ1=some r:=by simpa[h1]using e
  have m:Mv P H H σ σ S (fU S i []) []:=⟨λ_ _ h _ _=>h,λj a z=>(dH z).elim (λz=>by cases z.2) λz=>.inl ⟨j,z.2⟩,.refl⟩;exact h ρ1 r e σ H (fU S i []) Fr (s.freeze h1) E (q.from m)
theorem Ik(i:Nat){st:Stmt}(h:PVS X G ob P st f):PVS X G ob P st (sFz i f):=let⟨t,a1,a2⟩:=h.ex;⟨t,a1,Qv a2⟩
mutual
noncomputable def bA:D->Bool
 |.tup ds=>bN ds
 |.lst m ds=>m== .own&&bN ds
 |.dct m _ ds=>m== .own&&bN ds
 |.ins m _ _ ds=>m== .own&&bN ds
 |_=>true
noncomputable def bN:List D->Bool
 |[]=>true
 |d::r=>bA d&&bN r
end
mutual
theorem Rep.own:∀{d:D}{v:V}{L:List Addr},Rep G H W d v L->bA d=true->Rep G H W' d v L
 |.non,v,L,h,_=>by rw[Rep]at h⊢;exact h
 |.bl _,v,L,h,_=>by rw[Rep]at h⊢;exact h
 |.int _,v,L,h,_=>by rw[Rep]at h⊢;exact h
 |.str _,v,L,h,_=>by rw[Rep]at h⊢;exact h
 |.ty _,v,L,h,_=>by rw[Rep]at h⊢;exact h
 |.tup ds,v,L,h,o=>by
  rw[Rep]at h⊢;obtain⟨a,xs,rfl,Y,Z⟩:=h;exact⟨a,xs,rfl,Y,aF.own Z (by simpa[bA]using o)⟩
 |.lst m ds,v,L,h,o=>by
  rw[Rep]at h⊢;obtain⟨a,xs,M,rfl,Z,O⟩:=h;simp[bA]at o;obtain⟨rfl,o⟩:=o;exact⟨a,xs,M,rfl,aF.own Z o,O⟩
 |.dct m ks ds,v,L,h,o=>by
  rw[Rep]at h⊢;obtain⟨a,xs,M,rfl,q,Z,O⟩:=h;simp[bA]at o;obtain⟨rfl,o⟩:=o;exact⟨a,xs,M,rfl,q,aF.own Z o,O⟩
 |.ins m c fs ds,v,L,h,o=>by
  rw[Rep]at h⊢;obtain⟨a,C,dx,xs,M,rfl,F,q,Z,O⟩:=h;simp[bA]at o;obtain⟨rfl,o⟩:=o;exact⟨a,C,dx,xs,M,rfl,F,q,aF.own Z o,O⟩
theorem aF.own:∀{ds:List D}{vs:List V}{L:List Addr},aF G H W ds vs L->bN ds=true->aF G H W' ds vs L
 |[],vs,L,h,_=>by rw[aF]at h⊢;exact h
 |d::r,vs,L,h,o=>by
  obtain⟨x,ys,M,M',rfl,rfl,h1,h2⟩:=h.inv;simp[bN]at o;exact .cons (Rep.own h1 o.1) (aF.own h2 o.2)
end
def W1(Fr:Addr->Prop):Wn:=⟨Fr,λ_=>False,λ_=>False⟩
def spP(G:Gc)(F:List D->Option D):Sp:=λvs H Q _=>∃(ds:List D)(Fr:Addr->Prop),aF G H (W1 Fr) ds vs []/\au ds=true/\az ds=true/\(∀a,Fr a->Mu H a)/\∃d,F ds=some d/\
 ∀v H' L,Same H H'->Rep G H' (W1 (plus L Fr)) d v L->(∀a∈L,H a=none)->L.Nodup->clean d=true->Q v H'
def en0(n:Nat)(ds:List D):En:=ds.map some++Vt (n-ds.length) none
def fnP(F n:Nat)(Y:En->Option Fl):List D->Option D:=λds=>if ds.length=F then(Y (en0 n ds)).bind λr=>match r with
 |.ret d _=>some d
 |.nx _=>some .non
 |_=>none else none
theorem Bp(h:(en0 n ds)[i]? =some (some d)):ds[i]? =some d:=by
 unfold en0 at h;by_cases hi:i<ds.length
 .rw[Vc (by simpa using hi)]at h
  simpa using h
 .rw[VF (by simpa using Nat.le_of_not_lt hi)]at h
  rw[abd]at h;split at h
  .simp at h
  .cases h
variable{vs:List V}
theorem Tp{Fr:Addr->Prop}(r:aF G H (W1 Fr) ds vs [])(Z:au ds=true)(q:az ds=true)(fm:∀a,Fr a->Mu H a):Sta G H ob (en0 N.length ds) (L2.start N vs) (λ_=>[]) Fr where
 len:=by simp[en0,L2.start,r.length]
 sl:=λi d e=>by
  have e:=Bp e;obtain⟨x,M,h1,h2,F⟩:=r.get e;have:M=[]:=by simpa using F
  subst this;refine⟨x,?_,h2.up ⟨Same.refl _,λb u U f=>⟨f.1,λ⟨j,_,z⟩=>(by cases z),λ⟨j,_,z⟩=>(by cases z)⟩,λb u U f=>f.elim⟩,by simp[clean,gP Z e,gU q e]⟩;unfold L2.start;have hi:i<vs.length:=(List.getElem?_eq_some_iff.mp h1).1;rw[Vc (by simpa using hi)];simp[h1]
 em:=λ_ _=>rfl
 nd:=λ_=>Va
 dj:=λi j a h=>by cases h
 fdj:=λi a _ h=>by cases h
 fdm:=fm
section
variable{P:Program}{w:World}{K:PySem.W.Frag}{mg:Str->Option Value}{base:Heap}
theorem Oo{a:Addr}:¬inS (λ_=>[]) a:=λ⟨_,z⟩=>by cases z
theorem okP{x a0:Str}{st:Stmt}{f:Addr}{fd:Vk}{N ps:List Str}{k:Nat}{ob Pr:Nat->Bool}{a3:En->Option Fl}(F:Fun K x a0 st f fd)(S:bJ N ps (aB st))
  (U:∀(O:Value)(A:Vu)(outer:List Env)(s:T7)(H:Hp)(E:XK),fV k (A.deeper (Zy a0 (aB st) s.heap.objs.size f O))->rH (λ_:Unit=>(xW CX0 P w K mg base N a0 (aB st) f O A outer s H E).nox) ⟨K,mg⟩ ob Pr (bu st) a3) :
  d8 P w K mg base CX0 (k+1) f fd ps (spP ⟨K,mg⟩ (fnP ps.length N.length a3)):=by
 refine F.ok S (λvs H Q E h=>?_) (λO A outer s H vs Q E Z h=>?_)
 .obtain⟨ds,Fr,r,_,_,_,d,e,_⟩:=h
  unfold fnP at e;split at e
  .rename_i hl
   rw[←r.length];exact hl
  .cases e
 .obtain⟨ds,Fr,r,c1,c2,fm,d,e,q⟩:=h
  obtain⟨t,a1,a2⟩:=(U O A outer s H E Z).ex;refine⟨t,a1 (),?_⟩;unfold fnP at e;split at e
  .cases h1:a3 (en0 N.length ds)with
   |none=>simp[h1]at e
   |some fl=>
    rw[h1]at e;simp only[Ua]at e;refine a2 _ fl h1 (L2.start N vs) H (λ_=>[]) Fr (Tp (ob:=ob) r c1 c2 fm) _ ?_;have V:∀{S':Ad}{M:List Addr}{b:Addr},(wn ob S' (plus M Fr)).free b->(W1 (plus M Fr)).free b:=λz=>⟨z.1,id,id⟩;cases fl with
    |nx J=>
     cases e;exact λa5 H' S' s' m=>q .non H' [] (λb o h=>m.kp b o h Oo (by simp)) (by rw[Rep];exact⟨rfl,rfl⟩) (by simp) Va rfl
    |ret d' J=>
     cases e;exact λv a5 H' M S' s' r' c n f m=>q v H' M (λb o h=>m.kp b o h Oo (by simp)) (by
      have a4:=(by simpa[clean]using c:aD d=true/\aC d=true);have ev:Evo H' H' (wn ob S' (plus M Fr)) (W1 (plus M Fr)):=⟨λb u h z=>⟨h,V z⟩,λ_ _ h=>h⟩;exact r'.mono ev (.inl a4.1) (.inl a4.2) λ_ _ _ h=>h) (λa Y=>(f a Y).resolve_left Oo) n c
    |brk J=>cases e
    |cnt J=>cases e
  .cases e
end
def cG(F:List D->Option D)(ds:List D):Option D:=(F (fzL ds)).bind λd=>if(au ds&&az ds)||bA d then some d else none
variable{E:XK}
theorem yg{F:List D->Option D}:CaV G (λvs H Q=>spP G F (vs++[]) H Q E) (cG F):=λds d e xs H W J r nd N w Q q=>by
 unfold cG at e;cases h1:F (fzL ds)with
 |none=>simp[h1]at e
 |some d'=>
  rw[h1]at e;simp only[Ua]at e;split at e
  .rename_i hc
   cases e;rw[UJ];by_cases V:au ds=true/\az ds=true
   .refine⟨fzL ds,λa=>(W.n a∨W.s a∨W.o a)/\a∉J,r.fz ⟨λa f=>⟨λz=>z.1.elim f.1 λz=>z.elim f.2.1 f.2.2,id,id⟩,λa Y=>⟨λz=>z.2 Y,id,id⟩⟩ (.inl V),gh ds,fY ds,λa h=>w a h.1,d,h1,λv H' L s r' Z n c=>?_⟩
    refine q v H' L s ?_ (λa Y=>.inr (Z a Y)) n;have U:=(by simpa[clean]using c:aD d=true/\aC d=true);have hL:∀a∈L,a∉J:=λa Y z=>by
     obtain⟨o,O,_⟩:=r.dom a z;rw[Z a Y]at O;cases O
    have ev:Evo H' H' (W1 (plus L λa=>(W.n a∨W.s a∨W.o a)/\a∉J)) ((W.drop J).add L):=⟨λb u h f=>⟨h,⟨λz=>z.elim (λz=>f.1 (.inl z)) λz=>f.1 (.inr ⟨.inl z.1,z.2⟩),λz=>f.1 (.inr ⟨.inr (.inl z),λy=>?_⟩),λz=>f.1 (.inr ⟨.inr (.inr z),λy=>?_⟩)⟩⟩,λ_ _ h=>h⟩
    .exact r'.mono ev (.inl U.1) (.inl U.2) λ_ _ _ h=>h
    .exact(N b y).2.1 z
    .exact(N b y).2.2 z
   .have O:bA d=true:=by
     simp only[Y0,UT]at hc;exact hc.resolve_left V
    refine⟨fzL ds,λ_=>False,r.fz ⟨λa f=>⟨id,id,id⟩,λa Y=>⟨id,id,id⟩⟩ (.inr λa=>⟨id,id,id⟩),gh ds,fY ds,λa h=>h.elim,d,h1,λv H' L s r' Z n c=>?_⟩;exact q v H' L s (r'.own O) (λa Y=>.inr (Z a Y)) n
  .cases e
theorem iy{F:List D->Option D}{f:En->Option (List D)}(C:∀c,Cal (X c).prog (X c).w (X c).K (X c).mg (X c).base k x ps (spP G F))(Z:∀c,fV k (X c).A)(Y:PVA X G ob (e::es) f)(z:∀c,Gl (X c) x:=by intro _;rfl)(O:(x==("__debug__":Str))=false:=by decide)(N:∀c,Ul (e::es) (X c).env=(false,eval e (X c).env)::Ul es (X c).env:=by intro _;rfl)(J:∀c,(V3 pos (Ul es (X c).env)).any (·.1)=false:=by intro _;rfl) :
 PV X G ob (.Call (.Name x p) (e::es) [] pos) (eAp (cG F) f):=let⟨t,a1,a2⟩:=Y.ex;⟨_,λc=>Gy (C c) (Z c) (z c) (a1 c) O (N c) (J c),rm yg a2⟩
variable{a:Addr}
theorem dq.fz2(O:Les H W W' L)(U:m≠.brw∨∀a,W.s a->W'.free a)(q:m≠.bro∨nu W')(h:dq J H W a o m L M):dq J H W' a o (mkF m) [] []:=by
 cases m with
 |own=>exact⟨h.1,O.l a (by rw[h.2];simp),rfl,rfl⟩
 |frz=>exact⟨h.1,O.f a h.2.1,rfl,rfl⟩
 |brw=>exact⟨h.1,U.elim (λz=>absurd rfl z) λz=>z a h.2.1,rfl,rfl⟩
 |bro=>exact⟨h.1,q.elim (λz=>absurd rfl z) λz=>z a,rfl,rfl⟩
 |scr=>exact⟨h.1.imp (λz=>⟨z.1,O.f a z.2⟩) id,rfl,rfl⟩
mutual
theorem Rep.fz2:∀{d:D}{v:V}{L:List Addr},Rep G H W d v L->Les H W W' L->(aD d=true∨∀a,W.s a->W'.free a)->(aC d=true∨nu W')->Rep G H W' (fz d) v []
 |.non,v,L,h,_,_,_=>by rw[Rep]at h;simp[Jb.fz,Rep,h]
 |.bl _,v,L,h,_,_,_=>by rw[Rep]at h;simp[Jb.fz,Rep,h]
 |.int _,v,L,h,_,_,_=>by rw[Rep]at h;simp[Jb.fz,Rep,h]
 |.str _,v,L,h,_,_,_=>by rw[Rep]at h;simp[Jb.fz,Rep,h]
 |.ty _,v,L,h,_,_,_=>by rw[Rep]at h;simp[Jb.fz,Rep,h]
 |.tup ds,v,L,h,O,c,o=>by
  rw[Rep]at h;rw[Jb.fz,Rep];obtain⟨a,xs,rfl,Y,Z⟩:=h;exact⟨a,xs,rfl,Y,aF.fz2 Z O (by simpa[aD]using c) (by simpa[aC]using o)⟩
 |.lst m ds,v,L,h,he,c,o=>by
  rw[Rep]at h;rw[Jb.fz,Rep];obtain⟨a,xs,M,rfl,Z,O⟩:=h;exact⟨a,xs,[],rfl,aF.fz2 Z (he.sub λc J=>O.sub.subset J) (c.imp (λz=>by simp[aD]at z;exact z.2) id) (o.imp (λz=>by simp[aC]at z;exact z.2) id),O.fz2 he (c.imp (λz=>by simp[aD]at z;exact z.1) id) (o.imp (λz=>by simp[aC]at z;exact z.1) id)⟩
 |.dct m ks ds,v,L,h,he,c,o=>by
  rw[Rep]at h;rw[Jb.fz,Rep];obtain⟨a,xs,M,rfl,q,Z,O⟩:=h;exact⟨a,xs,[],rfl,q,aF.fz2 Z (he.sub λc J=>O.sub.subset J) (c.imp (λz=>by simp[aD]at z;exact z.2) id) (o.imp (λz=>by simp[aC]at z;exact z.2) id),O.fz2 he (c.imp (λz=>by simp[aD]at z;exact z.1) id) (o.imp (λz=>by simp[aC]at z;exact z.1) id)⟩
 |.ins m c' fs ds,v,L,h,he,c,o=>by
  rw[Rep]at h;rw[Jb.fz,Rep];obtain⟨a,C,dx,xs,M,rfl,F,q,Z,O⟩:=h;exact⟨a,C,dx,xs,[],rfl,F,q,aF.fz2 Z (he.sub λc J=>O.sub.subset J) (c.imp (λz=>by simp[aD]at z;exact z.2) id) (o.imp (λz=>by simp[aC]at z;exact z.2) id),O.fz2 he (c.imp (λz=>by simp[aD]at z;exact z.1) id) (o.imp (λz=>by simp[aC]at z;exact z.1) id)⟩
theorem aF.fz2:∀{ds:List D}{vs:List V}{L:List Addr},aF G H W ds vs L->Les H W W' L->(au ds=true∨∀a,W.s a->W'.free a)->(az ds=true∨nu W')->aF G H W' (fzL ds) vs []
 |[],vs,L,h,_,_,_=>by obtain⟨rfl,_⟩:=h.inv0;rw[fzL];exact .nil
 |d::r,vs,L,h,he,c,o=>by
  obtain⟨x,ys,M,M',rfl,rfl,h1,h2⟩:=h.inv;rw[fzL];exact .cons (M:=[]) (M':=[]) (Rep.fz2 h1 (he.sub λc J=>Uh _ J) (c.imp (λz=>by simp[au]at z;exact z.1) id) (o.imp (λz=>by simp[az]at z;exact z.1) id))
   (aF.fz2 h2 (he.sub λc J=>T9 _ J) (c.imp (λz=>by simp[au]at z;exact z.2) id) (o.imp (λz=>by simp[az]at z;exact z.2) id))
end
def spI(G:Gc)(ob pr:Nat->Bool)(F:List D->Option (D×List D)):Sp:=λvs H Q _=>∃(ds:List D)(S:Ad)(Fr:Addr->Prop),Sta G H ob (ds.map some) (vs.map some) S Fr/\(∀i,pr i=false->S i=[])/\∃d J,F ds=some (d,J)/\
 ∀v H' M S',Sta G H' ob (J.map some) (vs.map some) S' (plus M Fr)->Rep G H' (wn ob S' (plus M Fr)) d v M->clean d=true->M.Nodup->(∀a∈M,inS S a∨H a=none)->Mv (λ_=>false) H H' [] [] S S' []->Q v H'
def outs(pr:Nat->Bool)(ρ:En):Nat->List D->Option (List D)
 |_,[]=>some []
 |i,d::r=>(if pr i=true then(match ρ[i]? with
  |some (some e)=>some e
  |_=>none)else some d).bind λe=>(outs pr ρ (i+1) r).map λt=>e::t
def fnI(pr:Nat->Bool)(F n:Nat)(Y:En->Option Fl):List D->Option (D×List D):=λds=>if ds.length=F then(Y (en0 n ds)).bind λr=>match r with
 |.ret d ρ=>(outs pr ρ 0 ds).map λo=>(d,o)
 |.nx ρ=>(outs pr ρ 0 ds).map λo=>(.non,o)
 |_=>none else none
theorem BJ{pr:Nat->Bool}{ρ:En}:∀{ds J:List D}{k:Nat},outs pr ρ k ds=some J->J.length=ds.length/\∀i d,J[i]? =some d->(pr (k+i)=true/\ρ[k+i]? =some (some d))∨(pr (k+i)=false/\ds[i]? =some d)
 |[],J,k,e=>by
  cases e;exact⟨rfl,λi d h=>by simp at h⟩
 |d0::r,J,k,e=>by
  rw[outs]at e;cases h2:outs pr ρ (k+1) r with
  |none=>
   rw[h2]at e;simp at e
  |some t=>
   rw[h2]at e;obtain⟨O,F⟩:=BJ h2;have N:∃U,J=U::t/\((pr k=true/\ρ[k]? =some (some U))∨(pr k=false/\d0=U)):=by
    split at e
    .rename_i hp
     split at e
     .rename_i U h0
      exact⟨U,by simpa using e.symm,.inl ⟨hp,h0⟩⟩
     .simp at e
    .rename_i hp
     exact⟨d0,by simpa using e.symm,.inr ⟨by simpa using hp,rfl⟩⟩
   obtain⟨U,rfl,q⟩:=N;refine⟨by simp[O],λi d h=>?_⟩;cases i with
   |zero=>
    have:U=d:=by simpa using h
    subst this;exact q.imp id λz=>⟨z.1,by simp[z.2]⟩
   |succ i=>
    have:=F i d (by simpa using h);rw[show k+1+i=k+(i+1)by omega]at this;simpa using this
theorem jb{xs:List α}{x:α}(h:(xs.map some)[i]? =some (some x)):xs[i]? =some x:=by
 rw[List.getElem?_map]at h;cases e:xs[i]? with
 |none=>rw[e]at h;cases h
 |some y=>rw[e]at h;simpa using h
theorem dY{xs:List α}{x:α}(h:xs[i]? =some x):(xs.map some)[i]? =some (some x):=by rw[List.getElem?_map,h];rfl
theorem S_{Fr:Addr->Prop}(s:Sta G H ob (ds.map some) (vs.map some) S Fr):Sta G H ob (en0 N.length ds) (L2.start N vs) S Fr where
 len:=by have:=s.len;simp at this;simp[en0,L2.start,this]
 sl:=λi d e=>by
  obtain⟨v,h1,h2,F⟩:=s.sl i d (dY (Bp e));refine⟨v,?_,h2,F⟩;unfold L2.start;have hi:i<(vs.map some).length:=(List.getElem?_eq_some_iff.mp h1).1;rw[Vc hi];exact h1
 em:=λi h=>s.em i λd e=>h d (by
  unfold en0;have hi:i<(ds.map some).length:=(List.getElem?_eq_some_iff.mp e).1;rw[Vc hi];exact e)
 nd:=s.nd
 dj:=s.dj
 fdj:=s.fdj
 fdm:=s.fdm
section
variable{P:Program}{w:World}{K:PySem.W.Frag}{mg:Str->Option Value}{base:Heap}
theorem yW{G:Gc}{H H':Hp}{ob pr:Nat->Bool}{ds J:List D}{vs:List V}{N:List Str}{S S1:Ad}{Fr:Addr->Prop}{ρ:En}{σ:L2.St}{M:List Addr}(s:Sta G H ob (ds.map some) (vs.map some) S Fr)(hp:∀i,pr i=false->S i=[])(Z:Sta G H' ob ρ σ S1 (plus M Fr))
  (m:Mv pr H H' (L2.start N vs) σ S S1 []) (hM:∀a∈M,inS S a∨H a=none) (e:outs pr ρ 0 ds=some J) :
  Sta G H' ob (J.map some) (vs.map some) (λi=>if pr i=true/\i<ds.length then S1 i else[]) (plus M Fr):=by
 obtain⟨Y,hg⟩:=BJ e;have lv:ds.length=vs.length:=by have:=s.len;simpa using this
 have sub:∀{i a},a∈(if pr i=true/\i<ds.length then S1 i else[])->a∈S1 i:=λ{i a} z=>by
  split at z
  .exact z
  .cases z
 refine⟨by simp[Y,lv],λi d h=>?_,λi h=>?_,λi=>?_,λi j a h1 h2=>Z.dj i j a (sub h1) (sub h2),λi a h z=>Z.fdj i a h (sub z),Z.fdm⟩
 .have h:=jb h
  have hi:i<ds.length:=by rw[←Y];exact(List.getElem?_eq_some_iff.mp h).1
  rcases hg i d h with⟨h1,h2⟩|⟨h1,h2⟩
  .rw[Z_]at h1 h2
   obtain⟨v,q1,q2,O⟩:=Z.sl i d h2;have e1:=m.pr i h1;rw[q1]at e1;refine⟨v,?_,?_,O⟩
   .unfold L2.start at e1
    rw[Vc (by simp;omega)]at e1;exact e1.symm
   .rw[Uo ⟨h1,hi⟩]
    have q:=(by simpa[clean]using O:aD d=true/\aC d=true);have ev:Evo H' H' (wn ob S1 (plus M Fr)) (wn ob (λi=>if pr i=true/\i<ds.length then S1 i else[]) (plus M Fr)):=⟨λb u U f=>⟨U,⟨f.1,λ⟨j,z1,F⟩=>f.2.1 ⟨j,z1,sub F⟩,λ⟨j,z1,F⟩=>f.2.2 ⟨j,z1,sub F⟩⟩⟩,λ_ _ h=>h⟩;exact q2.mono ev (.inl q.1) (.inl q.2) λ_ _ _ h=>h
  .rw[Z_]at h1
   obtain⟨v,q1,q2,O⟩:=s.sl i d (dY h2);refine⟨v,q1,?_,O⟩;rw[Uq λz=>by rw[h1]at z;cases z.1];rw[hp i h1]at q2;have q:=(by simpa[clean]using O:aD d=true/\aC d=true);have a0:=Hh s (σ2:=σ) (H2:=H') (S2:=S1) (P:=λ_=>false) ⟨m.kp,m.gr,λi h=>by cases h⟩;have ev:Evo H H' (wn ob S Fr) (wn ob (λi=>if pr i=true/\i<ds.length then S1 i else[]) (plus M Fr)):=⟨λb u U f=>?_,a0.t⟩
   .exact q2.mono ev (.inl q.1) (.inl q.2) (by simp)
   .obtain⟨k1,k2⟩:=a0.k b u U f
    refine⟨k1,λz=>z.elim (λz=>?_) f.1,λ⟨j,z1,F⟩=>k2.2.1 ⟨j,z1,sub F⟩,λ⟨j,z1,F⟩=>k2.2.2 ⟨j,z1,sub F⟩⟩;rcases hM b z with⟨j,y⟩|y
    .cases ho:ob j with
     |false=>exact f.2.1 ⟨j,ho,y⟩
     |true=>exact f.2.2 ⟨j,ho,y⟩
    .rw[U]at y;cases y
 .split
  .rename_i z
   exfalso;have hi:i<J.length:=by rw[Y];exact z.2
   exact h J[i] (dY (by simp[hi]))
  .rfl
 .show(if pr i=true/\i<ds.length then S1 i else[]).Nodup
  split
  .exact Z.nd i
  .exact Va
theorem okI{x a0:Str}{st:Stmt}{f:Addr}{fd:Vk}{N ps:List Str}{k:Nat}{ob pr:Nat->Bool}{Y:En->Option Fl}(F:Fun K x a0 st f fd)(S:bJ N ps (aB st))
  (U:∀(O:Value)(A:Vu)(outer:List Env)(s:T7)(H:Hp)(E:XK),fV k (A.deeper (Zy a0 (aB st) s.heap.objs.size f O))->rH (λ_:Unit=>(xW CX0 P w K mg base N a0 (aB st) f O A outer s H E).nox) ⟨K,mg⟩ ob pr (bu st) Y) :
  d8 P w K mg base CX0 (k+1) f fd ps (spI ⟨K,mg⟩ ob pr (fnI pr ps.length N.length Y)):=by
 refine F.ok S (λvs H Q E h=>?_) (λO A outer s H vs Q E Z h=>?_)
 .obtain⟨ds,S,Fr,st,_,d,ds',e,_⟩:=h
  unfold fnI at e;split at e
  .rename_i hl
   have:=st.len;simp at this;rw[←this];exact hl
  .cases e
 .obtain⟨ds,S0,Fr,st,hp,d,ds',e,q⟩:=h
  obtain⟨t,a1,a2⟩:=(U O A outer s H E Z).ex;refine⟨t,a1 (),?_⟩;unfold fnI at e;split at e
  .cases h1:Y (en0 N.length ds)with
   |none=>simp[h1]at e
   |some fl=>
    rw[h1]at e;simp only[Ua]at e;refine a2 _ fl h1 (L2.start N vs) H S0 Fr (S_ st) _ ?_;have sub:∀{S1:Ad}{i a},a∈(if pr i=true/\i<ds.length then S1 i else[])->a∈S1 i:=λ{S1 i a} z=>by
     split at z
     .exact z
     .cases z
    cases fl with
    |nx J=>
     cases h2:outs pr J 0 ds with
     |none=>simp[h2]at e
     |some o=>
      obtain⟨rfl,rfl⟩:D.non=d/\o=ds':=by simpa[h2]using e
      refine λa4 H' S1 s1 m=>q .non H' [] _ (yW st hp (M:=[]) (by rw[t6];exact s1) m (by simp) h2) (by rw[Rep];exact⟨rfl,rfl⟩) rfl Va (by simp) ⟨m.kp,λi a z=>m.gr i a (sub z),λi h=>by cases h⟩
    |ret d' J=>
     cases h2:outs pr J 0 ds with
     |none=>simp[h2]at e
     |some o=>
      obtain⟨rfl,rfl⟩:d'=d/\o=ds':=by simpa[h2]using e
      refine λv a4 H' M S1 s1 r c n f m=>q v H' M _ (yW st hp s1 m f h2) ?_ c n f ⟨m.kp,λi a z=>m.gr i a (sub z),λi h=>by cases h⟩;have a3:=(by simpa[clean]using c:aD d'=true/\aC d'=true);have ev:Evo H' H' (wn ob S1 (plus M Fr)) (wn ob (λi=>if pr i=true/\i<ds.length then S1 i else[]) (plus M Fr)):=⟨λb u U f=>⟨U,⟨f.1,λ⟨j,V,z2⟩=>f.2.1 ⟨j,V,sub z2⟩,λ⟨j,V,z2⟩=>f.2.2 ⟨j,V,sub z2⟩⟩⟩,λ_ _ h=>h⟩;exact r.mono ev (.inl a3.1) (.inl a3.2) λ_ _ _ h=>h
    |brk J=>cases e
    |cnt J=>cases e
  .cases e
end
def RfM(G:Gc)(ob:Nat->Bool)(t:TA)(js:List Nat)(f:En->Option (List D×En)):Prop:=∀(ρ:En)(ds:List D)(J:En),f ρ=some (ds,J)->∀(σ:L2.St)(H:Hp)(S:Ad)(Fr:Addr->Prop),Sta G H ob ρ σ S Fr->
 ∀us:List V,js.map (λj=>σ[j]?)=us.map (λu=>some (some u))->∀Q:List V->Hp->Prop,
 (∀vs H' M S',Sta G H' ob J σ S' (plus M Fr)->aF G H' (wn ob S' (plus M Fr)) ds vs M->M.Nodup->Eff ob H H' S S' M->Q (us++vs) H')->t σ H Q
structure PVM{ι:Type}(X:ι->Cx)(G:Gc)(ob:Nat->Bool)(es:List Expr)(js:List Nat)(f:En->Option (List D×En)):Prop where
 mk::(ex:∃t,(∀c,PA (X c) es t)/\RfM G ob t js f)
variable{f:En->Option (List D×En)}
theorem gK(h:yV X G ob es f):PVM X G ob es [] f:=by
 obtain⟨t,U,z⟩:=h.ex;refine⟨t,U,λρ ds J e σ H S Fr s us O Q q=>?_⟩;have:us=[]:=by simpa using O
 subst this;exact z ρ ds J e σ H S Fr s Q q
theorem gH(i:Nat)(h:PVM X G ob es js f)(hN:∀c,(X c).N[i]? =some x:=by intro _;rfl)(U:∀c,Vis (X c).env.scope x:=by intro _;first|exact Xe rfl|exact Wg (Xe rfl)|exact Wg (Wg rfl))(hd:(x==("__debug__":Str))=false:=by decide)(F:(x==("__classdict__":Str))=false:=by decide)(O:∀c,Ul (.Name x pos::es) (X c).env=(false,eval (.Name x pos) (X c).env)::Ul es (X c).env:=by intro _;rfl):PVM X G ob (.Name x pos::es) (i::js) f:=by
 obtain⟨t,Z,Y⟩:=h.ex;refine⟨_,λc=>wF (pv i (hN c) (U c) hd F) (Z c) (O c),λρ ds J e σ H S Fr s us z Q q=>?_⟩;cases us with
 |nil=>simp at z
 |cons u us=>
  rw[Um,Um]at z;injection z with h1 h2;exact⟨u,h1,Y ρ ds J e σ H S Fr s us h2 _ λvs H' M S' s' r n V=>q vs H' M S' s' r n V⟩
def objs(js:List Nat)(ρ:En):Option (List D):=js.mapM λj=>ρ[j]?.bind id
def fP:List Nat->List D->En->En
 |j::js,d::ds,ρ=>fP js ds (ρ.set j (some d))
 |_,_,ρ=>ρ
def eIo(F:List D->Option (D×List D))(js:List Nat)(f:En->Option (List D×En)):En->Option (D×En):=λρ=>if(objs js ρ).isSome=true then(f ρ).bind λp=>(objs js p.2).bind λos=>if az p.1=true then(F (os++fzL p.1)).bind λq=>
 if au p.1=true∨(bA q.1=true/\bN (q.2.take js.length)=true)then some (q.1,fP js q.2 p.2)else none else none else none
theorem wR{ρ:En}:∀{js:List Nat}{os:List D},objs js ρ=some os->os.length=js.length/\∀(k j:Nat),js[k]? =some j->∃d,os[k]? =some d/\ρ[j]? =some (some d)
 |[],os,h=>by
  have:os=[]:=by simpa[objs]using h.symm
  subst this;exact⟨rfl,λk j h=>by simp at h⟩
 |j::js,os,h=>by
  unfold objs at h;rw[List.mapM_cons]at h;cases h1:ρ[j]?.bind id with
  |none=>simp[h1]at h
  |some d=>
   cases h2:js.mapM (λj=>ρ[j]?.bind id)with
   |none=>simp[h1,h2]at h
   |some t=>
    have:os=d::t:=by simpa[h1,h2]using h.symm
    subst this;obtain⟨l,g⟩:=wR (js:=js) (os:=t) h2;refine⟨by simp[l],λk i e=>?_⟩;cases k with
    |zero=>
     have:j=i:=by simpa using e
     subst this;refine⟨d,rfl,?_⟩;cases F:ρ[j]? with
     |none=>rw[F]at h1;cases h1
     |some o=>rw[F]at h1;simpa using h1
    |succ k=>simpa using g k i (by simpa using e)
theorem v5:∀(js:List Nat)(ds:List D)(ρ:En),(fP js ds ρ).length=ρ.length
 |[],ds,ρ=>by cases ds<;>rfl
 |_::_,[],ρ=>rfl
 |j::js,d::ds,ρ=>by rw[fP,v5 js ds];simp
theorem pM:∀{js:List Nat}{ds:List D}{ρ:En}{j:Nat},j∉js->(fP js ds ρ)[j]? =ρ[j]?
 |[],ds,ρ,j,_=>by cases ds<;>rfl
 |_::_,[],ρ,j,_=>rfl
 |i::js,d::ds,ρ,j,h=>by
  rw[fP,pM (λz=>h (Ut _ z)),UW λz=>h (by rw[z];exact Vb)]
theorem tH:∀{js:List Nat}{ds:List D}{ρ:En}{k j:Nat}{d:D},js.Nodup->js[k]? =some j->ds[k]? =some d->j<ρ.length->(fP js ds ρ)[j]? =some (some d)
 |[],ds,ρ,k,j,d,_,h,_,_=>by simp at h
 |_::_,[],ρ,k,j,d,_,_,h,_=>by simp at h
 |i::js,d0::ds,ρ,k,j,d,n,h1,h2,hl=>by
  rw[fP];cases k with
  |zero=>
   have e1:i=j:=by simpa using h1
   have e2:d0=d:=by simpa using h2
   subst e1 e2;rw[pM (Uu.mp n).1];simp[hl]
  |succ k=>exact tH (Uu.mp n).2 (by simpa using h1) (by simpa using h2) (by simpa using hl)
def pick(S:Ad)(js:List Nat):Ad:=λi=>match js[i]? with
 |some j=>S j
 |none=>[]
theorem iM(h:a∈pick S js i):∃j,js[i]? =some j/\a∈S j:=by
 unfold pick at h;split at h
 .rename_i j e;exact⟨j,e,h⟩
 .cases h
def back(S:Ad)(js:List Nat)(Sc:Ad):Ad:=λj=>match js.idxOf? j with
 |some i=>Sc i
 |none=>S j
theorem tZ(h:js.idxOf? j=some i):js[i]? =some j:=by
 obtain⟨h1,h2,F⟩:=Vl.mp h;have:js[i]=j:=by simpa using h2
 rw[Ug h1,this]
theorem yM(h:js.idxOf? j=none):j∉js:=by
 intro z;have:=Wq.mp h j z;simp at this
theorem Pg(n:js.Nodup)(h:js[i]? =some j):js.idxOf? j=some i:=by
 cases e:js.idxOf? j with
 |none=>exact absurd (Vd h) (yM e)
 |some k=>
  have:=tZ e;have q:k<js.length:=(List.getElem?_eq_some_iff.mp this).1;rw[(Wy q n).mp (this.trans h.symm)]
theorem JK{Sc:Ad}(n:js.Nodup)(h:js[i]? =some j):back S js Sc j=Sc i:=by unfold back;rw[Pg n h]
theorem wY{Sc:Ad}(h:j∉js):back S js Sc j=S j:=by
 unfold back;split
 .rename_i i e;exact absurd (Vd (tZ e)) h
 .rfl
theorem kO{Sc:Ad}(h:a∈back S js Sc j):(∃i,js[i]? =some j/\a∈Sc i)∨(j∉js/\a∈S j):=by
 unfold back at h;split at h
 .rename_i i e;exact .inl ⟨i,tZ e,h⟩
 .rename_i e;exact .inr ⟨yM e,h⟩
theorem xJ(h:bN (ds.take k)=true)(e:ds[i]? =some d)(hi:i<k):bA d=true:=by
 induction ds generalizing k i with
 |nil=>simp at e
 |cons a r Z=>
  cases k with
  |zero=>omega
  |succ k=>
   rw[acd,bN,UT]at h;cases i with
   |zero=>
    have:a=d:=by simpa using e
    rw[←this];exact h.1
   |succ i=>exact Z h.2 (by simpa using e) (by omega)
theorem By:∀{js:List Nat},(∀j∈js,∃u,σ[j]? =some (some u))->∃us:List V,js.map (λj=>σ[j]?)=us.map (λu=>some (some u))
 |[],_=>⟨[],rfl⟩
 |j::js,h=>by
  obtain⟨us,O⟩:=By (js:=js) λi hi=>h i (Ut _ hi);obtain⟨u,q⟩:=h j Vb;exact⟨u::us,by rw[Um,Um,O,q]⟩
theorem Fp{F:List D->Option (D×List D)}(hj:js.Nodup)(O:∀j∈js,ob j=true)(hp:∀i,i<js.length->pr i=true)(h:RfM G ob t js f) :
  kh G ob (λσ H Q=>t σ H λvs H1=>spI G oc pr F (vs++[]) H1 Q E) (eIo F js f):=λρ d d2 e σ H S Fr s Q q=>by
 unfold eIo at e;split at e
 .rename_i hsome
  cases h0:objs js ρ with
  |none=>rw[h0]at hsome;cases hsome
  |some d6=>
   cases h1:f ρ with
   |none=>simp[h1]at e
   |some p=>
    obtain⟨ds,ρ1⟩:=p;rw[h1]at e;simp only[Ua]at e;cases h2:objs js ρ1 with
    |none=>simp[h2]at e
    |some os=>
     rw[h2]at e;simp only[Ua]at e;split at e
     .rename_i hbro
      cases h3:F (os++fzL ds)with
      |none=>simp[h3]at e
      |some z=>
       obtain⟨d1,a2⟩:=z;rw[h3]at e;simp only[Ua]at e;split at e
       .rename_i b5
        obtain⟨rfl,rfl⟩:d1=d/\fP js a2 ρ1=d2:=by simpa using e
        obtain⟨l0,g0⟩:=wR h0;obtain⟨l1,g1⟩:=wR h2;have b0:∃us:List V,js.map (λj=>σ[j]?)=us.map (λu=>some (some u)):=by
         have:∀j∈js,∃u,σ[j]? =some (some u):=λj hj=>by
          obtain⟨k,hk⟩:=VD.mp hj;obtain⟨d0,_,q2⟩:=g0 k j hk;obtain⟨v,q3,_⟩:=s.sl j d0 q2;exact⟨v,q3⟩
         exact By this
        obtain⟨us,b0⟩:=b0;have c0:us.length=js.length:=by have:=congrArg WX b0;simpa using this.symm
        have c5:∀(k j:Nat)(u:V),js[k]? =some j->us[k]? =some u->σ[j]? =some (some u):=λk j u h1 h2=>by
         have:=congrArg (λl=>l[k]?) b0;simp only[List.getElem?_map,h1,h2,W7,XD]at this;exact this
        refine h ρ ds ρ1 h1 σ H S Fr s us b0 _ λvs H1 M S1 Z r1 d5 c7=>?_;rw[UJ];have b1:∀{i a},a∈pick S1 js i->inO ob S1 a:=λ{i a} z=>by
         obtain⟨j,e,y⟩:=iM z;exact⟨j,O j (Vd e),y⟩
        have a1:∀{a},inS (pick S1 js) a->inO ob S1 a:=λ⟨i,z⟩=>b1 z;have a9:∀{i a},a∈S1 i->¬(wn ob S1 (plus M Fr)).free a:=λ{i a} z f=>by
         cases a8:ob i with
         |false=>exact f.2.1 ⟨i,a8,z⟩
         |true=>exact f.2.2 ⟨i,a8,z⟩
        let a4:Addr->Prop:=λa=>au ds=true/\((Fr a∨inS S1 a)/\¬inS (pick S1 js) a)
        have b3:∀a,(wn ob S1 (plus M Fr)).free a->(wn oc (pick S1 js) a4).free a:=λa f=>by
         refine⟨λz=>?_,λ⟨i,_,z⟩=>?_,λ⟨i,_,z⟩=>?_⟩
         .rcases z.2.1 with y|⟨i,y⟩
          .exact f.1 (.inr y)
          .exact a9 y f
         .exact f.2.2 (b1 z)
         .exact f.2.2 (b1 z)
        have d3:∀a∈M,¬Fr a:=λa Y z=>by
         rcases c7.fm a Y with y|y
         .exact s.notO z y
         .obtain⟨o,O,_⟩:=s.fdm a z
          rw[y]at O;cases O
        have b7:∀a∈M,(wn oc (pick S1 js) a4).free a:=λa Y=>by
         refine⟨λz=>?_,λ⟨i,_,z⟩=>?_,λ⟨i,_,z⟩=>?_⟩
         .rcases z.2.1 with y|⟨i,y⟩
          .exact d3 a Y y
          .exact Z.fdj i a (.inl Y) y
         .obtain⟨j,_,y⟩:=iM z;exact Z.fdj j a (.inl Y) y
         .obtain⟨j,_,y⟩:=iM z;exact Z.fdj j a (.inl Y) y
        have c4:aF G H1 (wn oc (pick S1 js) a4) (fzL ds) vs []:=by
         refine r1.fz2 ⟨b3,b7⟩ ?_ (.inl hbro);by_cases c6:au ds=true
         .exact .inl c6
         .refine .inr λa Y=>⟨λz=>c6 z.1,λ⟨i,_,z⟩=>?_,λ⟨i,_,z⟩=>?_⟩
          .obtain⟨i1,o1,y1⟩:=Y
           obtain⟨i2,o2,y2⟩:=b1 z;rw[Z.dj i1 i2 a y1 y2,o2]at o1;cases o1
          .obtain⟨i1,o1,y1⟩:=Y
           obtain⟨i2,o2,y2⟩:=b1 z;rw[Z.dj i1 i2 a y1 y2,o2]at o1;cases o1
        have sc:Sta G H1 oc ((os++fzL ds).map some) ((us++vs).map some) (pick S1 js) a4:=by
         refine⟨by simp[l1,c0,c4.length],λi d0 hi=>?_,λi hi=>?_,λi=>?_,λi k a h1 h2=>?_,λi a h1 h2=>h1.2.2 ⟨i,h2⟩,λa Y=>?_⟩
         .have hi:=jb hi
          by_cases b4:i<js.length
          .obtain⟨dd,q1,q2⟩:=g1 i js[i] (by simp[b4])
           rw[Vc (by omega),q1]at hi;cases hi;obtain⟨v,q3,q4,q5⟩:=Z.sl _ _ q2;have a6:=(by simpa[clean]using q5:aD d0=true/\aC d0=true);have c8:∃u,us[i]? =some u:=⟨us[i],by simp[c0,b4]⟩;obtain⟨u,hu⟩:=c8;have:=c5 i js[i] u (by simp[b4]) hu;rw[q3]at this;cases this;refine⟨v,dY (by rw[Vc (by omega)];exact hu),?_,q5⟩;have:pick S1 js i=S1 js[i]:=by unfold pick;rw[Ug b4]
           rw[this];have ev:Evo H1 H1 (wn ob S1 (plus M Fr)) (wn oc (pick S1 js) a4):=⟨λb u h f=>⟨h,b3 b f⟩,λ_ _ h=>h⟩;exact q4.mono ev (.inl a6.1) (.inl a6.2) λ_ _ _ h=>h
          .rw[VF (by omega)]at hi
           obtain⟨x,M',q1,q2,q3⟩:=c4.get hi;have:M'=[]:=by simpa using q3
           subst this;refine⟨x,dY (by rw[VF (by omega),c0,←l1];exact q1),?_,by simp[clean,gP (gh ds) hi,gU (fY ds) hi]⟩;have:pick S1 js i=[]:=by unfold pick;rw[Xv (by omega)]
           rw[this];exact q2
         .unfold pick
          split
          .rename_i j hj'
           exfalso;obtain⟨dd,q1,q2⟩:=g1 i j hj';exact hi dd (dY (by rw[Vc (by rw[l1];exact(List.getElem?_eq_some_iff.mp hj').1)];exact q1))
          .rfl
         .unfold pick
          split
          .exact Z.nd _
          .exact Va
         .obtain⟨j1,e1,y1⟩:=iM h1
          obtain⟨j2,e2,y2⟩:=iM h2;have:=Z.dj j1 j2 a y1 y2;rw[this,←e2]at e1;exact(Wy (by
           cases hh:js[i]? with
           |none=>rw[hh,e2]at e1;cases e1
           |some _=>exact(List.getElem?_eq_some_iff.mp hh).1) hj).mp e1
         .rcases Y.2.1 with y|⟨i,y⟩
          .exact Z.fdm a (.inr y)
          .exact Z.mu y
        refine⟨os++fzL ds,pick S1 js,a4,sc,λi hi=>?_,d1,a2,h3,λv H2 Mc Sc s2 r2 c2 n2 b6 m2=>?_⟩
        .unfold pick
         split
         .rename_i j hj'
          rw[hp i (List.getElem?_eq_some_iff.mp hj').1]at hi;cases hi
         .rfl
        .have l2:a2.length=(os++fzL ds).length:=by
          have h1:=s2.len;have h2:=sc.len;simp only[Ux]at h1 h2;rw[h1,←h2]
         have kept:∀b u,H1 b=some u->¬inS (pick S1 js) b->H2 b=some u:=λb u U n=>m2.kp b u U n (by simp);have a3:∀{i b},b∈Sc i->inS (pick S1 js) b∨H1 b=none:=λ{i b} z=>(m2.gr i b z).imp id λy=>y.resolve_left (by simp);have b8:∀{b},Fr b->¬inS (pick S1 js) b:=λ{b} z ⟨i,y⟩=>by obtain⟨j,_,y⟩:=iM y;exact Z.fdj j b (.inr z) y
         have a0:∀{j b},j∉js->b∈S1 j->¬inS (pick S1 js) b:=λ{j b} N z ⟨i,y⟩=>by
          obtain⟨k,e,y⟩:=iM y;rw[Z.dj j k b z y]at N;exact N (Vd e)
         have b9:∀{i b},b∈S1 i->H1 b≠none:=λ{i b} z y=>by obtain⟨o,O,_⟩:=Z.mu z;rw[y]at O;cases O
         have ev:Evo H1 H2 (wn ob S1 (plus M Fr)) (wn ob (back S1 js Sc) (plus Mc Fr)):=by
          refine⟨λb u U f=>?_,λb xs h=>?_⟩
          .have n1:¬inS (pick S1 js) b:=λz=>f.2.2 (a1 z)
           have n2:∀i,b∉back S1 js Sc i:=λi z=>by
            rcases kO z with⟨k,_,y⟩|⟨_,y⟩
            .rcases a3 y with y|y
             .exact n1 y
             .rw[U]at y;cases y
            .exact a9 y f
           refine⟨kept b u U n1,λz=>?_,λ⟨i,_,z⟩=>n2 i z,λ⟨i,_,z⟩=>n2 i z⟩;rcases z with z|z
           .rcases b6 b z with y|y
            .exact n1 y
            .rw[U]at y;cases y
           .exact f.1 (.inr z)
          .have no:∀u,H1 b=some u->muO u=false->H2 b=some u:=λu hu mu=>kept b u hu λ⟨i,z⟩=>by
            obtain⟨j,_,z⟩:=iM z;obtain⟨o,O,hm⟩:=Z.mu z;rw[hu]at O;cases O;rw[mu]at hm;cases hm
           exact no _ h rfl
         have conv:∀(e:D)(x:V)(L:List Addr),(au ds=true∨bA e=true)->clean e=true->Rep G H2 (wn oc Sc (plus Mc a4)) e x L->Rep G H2 (wn ob (back S1 js Sc) (plus Mc Fr)) e x L:=λe x L J b5 r=>by
          rcases J with J|J
          .have a6:=(by simpa[clean]using b5:aD e=true/\aC e=true)
           have d4:Evo H2 H2 (wn oc Sc (plus Mc a4)) (wn ob (back S1 js Sc) (plus Mc Fr)):=⟨λb u U f=>?_,λ_ _ h=>h⟩
           .exact r.mono d4 (.inl a6.1) (.inl a6.2) λ_ _ _ h=>h
           .have nSc:∀i,b∉Sc i:=λi z=>by
             cases a8:oc i with
             |false=>exact f.2.1 ⟨i,a8,z⟩
             |true=>exact f.2.2 ⟨i,a8,z⟩
            have nb:∀j,b∉back S1 js Sc j:=λj z=>by
             rcases kO z with⟨k,_,y⟩|⟨N,y⟩
             .exact nSc k y
             .exact f.1 (.inr ⟨J,.inr ⟨j,y⟩,a0 N y⟩)
            refine⟨U,λz=>?_,λ⟨i,_,z⟩=>nb i z,λ⟨i,_,z⟩=>nb i z⟩;rcases z with z|z
            .exact f.1 (.inl z)
            .exact f.1 (.inr ⟨J,.inl z,b8 z⟩)
          .exact r.own J
         have c9:∀(j:Nat)(d0:D),(fP js a2 ρ1)[j]? =some (some d0)->∃v,σ[j]? =some (some v)/\Rep G H2 (wn ob (back S1 js Sc) (plus Mc Fr)) d0 v (back S1 js Sc j)/\clean d0=true:=λj d0 a7=>by
          by_cases a5:j∈js
          .obtain⟨k,hk⟩:=VD.mp a5
           have c3:k<js.length:=(List.getElem?_eq_some_iff.mp hk).1;obtain⟨dd,q1,q2⟩:=g1 k j hk;have c1:j<ρ1.length:=(List.getElem?_eq_some_iff.mp q2).1;have b2:k<a2.length:=by rw[l2,We];omega
           rw[tH hj hk (d:=a2[k]) (by simp[b2]) c1]at a7;cases a7;obtain⟨v,q3,q4,q5⟩:=s2.sl k a2[k] (dY (by simp[b2]));have q3:=jb q3;rw[Vc (by omega)]at q3;refine⟨v,c5 k j v hk q3,?_,q5⟩;rw[JK hj hk];refine conv _ _ _ (b5.imp id λz=>xJ z.2 (by simp[b2]) c3) q5 q4
          .rw[pM a5]at a7
           obtain⟨v,q1,q2,q3⟩:=Z.sl j d0 a7;have a6:=(by simpa[clean]using q3:aD d0=true/\aC d0=true);refine⟨v,q1,?_,q3⟩;rw[wY a5];exact q2.mono ev (.inl a6.1) (.inl a6.2) λc J u hu=>kept c u hu (a0 a5 J)
         refine q v H2 Mc (back S1 js Sc) ⟨?_,c9,?_,?_,?_,?_,?_⟩ (conv _ _ _ (b5.imp id λz=>z.1) c2 r2) n2 ?_
         .rw[v5];exact Z.len
         .intro j a7
          by_cases a5:j∈js
          .obtain⟨k,hk⟩:=VD.mp a5
           obtain⟨dd,q1,q2⟩:=g1 k j hk;have c1:j<ρ1.length:=(List.getElem?_eq_some_iff.mp q2).1;have c3:k<js.length:=(List.getElem?_eq_some_iff.mp hk).1;have b2:k<a2.length:=by rw[l2,We];omega
           exact absurd (tH hj hk (d:=a2[k]) (by simp[b2]) c1) (a7 _)
          .rw[wY a5]
           exact Z.em j λd0=>by have:=a7 d0;rwa[pM a5]at this
         .intro j
          unfold back;split
          .exact s2.nd _
          .exact Z.nd j
         .intro i k a y1 y2
          rcases kO y1 with⟨i1,e1,z1⟩|⟨e1,z1⟩<;>rcases kO y2 with⟨i2,e2,z2⟩|⟨e2,z2⟩
          .have:=s2.dj i1 i2 a z1 z2
           rw[this,e2]at e1;exact(Vw e1).symm
          .rcases a3 z1 with y|y
           .exact absurd y (a0 e2 z2)
           .exact absurd y (b9 z2)
          .rcases a3 z2 with y|y
           .exact absurd y (a0 e1 z1)
           .exact absurd y (b9 z1)
          .exact Z.dj i k a z1 z2
         .intro j a Y z
          rcases kO z with⟨i,_,y⟩|⟨N,y⟩
          .rcases Y with Y|Y
           .exact s2.fdj i a (.inl Y) y
           .rcases a3 y with y|y
            .exact b8 Y y
            .obtain⟨o,O,_⟩:=Z.fdm a (.inr Y)
             rw[y]at O;cases O
          .rcases Y with Y|Y
           .rcases b6 a Y with y'|y'
            .exact a0 N y y'
            .exact b9 y y'
           .exact Z.fdj j a (.inr Y) y
         .intro a Y
          rcases Y with Y|Y
          .exact r2.dom a Y
          .obtain⟨o,O,hm⟩:=Z.fdm a (.inr Y)
           exact⟨o,kept a o O (b8 Y),hm⟩
         .have ef2:Eff ob H1 H2 S1 (back S1 js Sc) Mc:=by
           refine⟨λb u U n=>kept b u U λz=>n (a1 z),λi hi=>wY (λz=>by rw[O i z]at hi;cases hi),λi a hi z=>?_,λa Y=>(b6 a Y).imp (λy=>a1 y) id⟩;rcases kO z with⟨k,_,y⟩|⟨_,y⟩
           .exact(a3 y).imp (λy=>a1 y) id
           .exact .inl ⟨i,hi,y⟩
          exact(c7.trans ef2).same (Same.refl _) λc J=>.inl (T9 _ J)
       .cases e
     .cases e
 .cases e
theorem iU(js:List Nat){F:List D->Option (D×List D)}(C:∀c,Cal (X c).prog (X c).w (X c).K (X c).mg (X c).base k x ps (spI G oc pr F))(Z:∀c,fV k (X c).A)(Y:PVM X G ob (e::es) js f)(U:js.Nodup:=by decide)(O:∀j∈js,ob j=true:=by decide)(V:∀i,i<js.length->pr i=true:=by decide)(z:∀c,Gl (X c) x:=by intro _;rfl)(q:(x==("__debug__":Str))=false:=by decide)(N:∀c,Ul (e::es) (X c).env=(false,eval e (X c).env)::Ul es (X c).env:=by intro _;rfl)(J:∀c,(V3 pos (Ul es (X c).env)).any (·.1)=false:=by intro _;rfl) :
 PVe X G ob (.Call (.Name x p) (e::es) [] pos) (eIo F js f):=let⟨t,a1,a2⟩:=Y.ex;⟨_,λc=>Gy (C c) (Z c) (z c) (a1 c) q (N c) (J c),Fp U O V a2⟩
def kids:D->List D
 |.tup ds=>ds
 |.lst _ ds=>ds
 |.dct _ _ ds=>ds
 |.ins _ _ _ ds=>ds
 |_=>[]
def Ea:D->List D->D
 |.tup _,es=>.tup es
 |.lst m _,es=>.lst m es
 |.dct m ks _,es=>.dct m ks es
 |.ins m c fs _,es=>.ins m c fs es
 |d,_=>d
def e_:List Nat->D->Option D
 |[],d=>some d
 |j::p,d=>((kids d)[j]?).bind (e_ p)
def eV:List Nat->D->D->D
 |[],e,_=>e
 |j::p,e,d=>match(kids d)[j]? with
  |some c=>Ea d ((kids d).set j (eV p e c))
  |none=>d
theorem Evo.trans{H1:Hp}{W1 N:Wn}(a:Evo H H1 W W1)(b:Evo H1 H2 W1 N):Evo H H2 W N:=⟨λc u h f=>let⟨h1,f1⟩:=a.k c u h f;b.k c u h1 f1,λc xs h=>b.t c xs (a.t c xs h)⟩
structure Foc(G:Gc)(H:Hp)(W:Wn)(d0:D)(v0:V)(L:List Addr)(p:List Nat)(d:D)(v:V)(M:List Addr):Prop where
 r:Rep G H W d v M
 b:∃A B,L=A++(M++B)/\∀H' W' d' M',Evo H H' W W'->(∀c∈A++B,∀u,H c=some u->H' c=some u)->Rep G H' W' d' v M'->Rep G H' W' (eV p d' d0) v0 (A++(M'++B))
theorem Foc.nil(r:Rep G H W d v L):Foc G H W d v L [] d v L:=⟨r,[],[],by simp,λH' W' d' M' _ _ h=>by simpa[eV]using h⟩
variable{p:List Nat}{d0:D}
theorem Foc.mono{H1:Hp}{W1:Wn}{Y:V}(f:Foc G H W d0 Y L p d v M)(J:clean d=true∨Up H H1 W W1)(e:Evo H H1 W W1)(k:∀c∈L,∀u,H c=some u->H1 c=some u):Foc G H1 W1 d0 Y L p d v M:=by
 obtain⟨A,B,q,U⟩:=f.b;refine⟨?_,A,B,q,λH' W' d' M' Z F N=>U H' W' d' M' (e.trans Z) (λc J u O=>F c J u (k c ?_ u O)) N⟩
 .rcases J with J|J
  .have hcc:=(by simpa[clean]using J:aD d=true/\aC d=true)
   exact f.r.mono e (.inl hcc.1) (.inl hcc.2) λc J u O=>k c (by rw[q];simp[J]) u O
  .exact f.r.up J
 .rw[q]
  simp only[T_]at J⊢;rcases J with z|z<;>simp[z]
theorem Ir(p:List Nat)(j:Nat)(e:D):∀(d0:D){d:D},e_ p d0=some d->(kids d)[j]?≠none->eV (p++[j]) e d0=eV p (eV [j] e d) d0:=by
 induction p with
 |nil=>intro d0 d h _;cases h;rfl
 |cons k p Z=>
  intro d0 d h N;simp only[e_]at h;cases h1:(kids d0)[k]? with
  |none=>simp[h1]at h
  |some c=>
   have h:e_ p c=some d:=by simpa[h1]using h
   rw[U8,eV,eV,h1];simp only;rw[Z c h N]
theorem Ha(p:List Nat)(j:Nat):∀(d0:D){d:D},e_ p d0=some d->e_ (p++[j]) d0=(kids d)[j]?:=by
 induction p with
 |nil=>
  intro d0 d h;cases h;simp only[Vq,e_];cases (kids d0)[j]?<;>rfl
 |cons k p Z=>
  intro d0 d h;simp only[e_]at h;cases h1:(kids d0)[k]? with
  |none=>simp[h1]at h
  |some c=>
   have h:e_ p c=some d:=by simpa[h1]using h
   rw[U8,e_,h1];exact Z c h
theorem qz(h:clean (.lst m ds)=true):au ds=true/\az ds=true:=by simp[clean,aD,aC]at h;exact⟨h.1.2,h.2.2⟩
theorem bB{a b:List D}:au (a++b)=(au a&&au b):=by
 induction a with
 |nil=>rfl
 |cons d r Z=>rw[U8,au,au,Z,acZ]
theorem bH{a b:List D}:az (a++b)=(az a&&az b):=by
 induction a with
 |nil=>rfl
 |cons d r Z=>rw[U8,az,az,Z,acZ]
variable{c:D}
theorem aF.kid(Z:aF G H W ds xs L)(U:au ds=true)(O:az ds=true)(e:ds[j]? =some c) :
  ∃x A M B,xs[j]? =some x/\L=A++(M++B)/\Rep G H W c x M/\∀H' W' d' M',Evo H H' W W'->(∀b∈A++B,∀u,H b=some u->H' b=some u)->Rep G H' W' d' x M'->aF G H' W' (ds.set j d') xs (A++(M'++B)):=by
 obtain⟨P,Q,x,ys,zs,LA,z,LB,rfl,J,rfl,Y,rfl,h1,h2,F⟩:=Z.at e;simp only[bB,bH,au,az,UT]at U O;refine⟨x,LA,z,LB,by rw[VF (by omega),Y,X7];rfl,rfl,h2,λH' W' d' M' q kp N=>?_⟩;rw[←J,ZZ _ _ (Uk _),X7];exact aF.append (h1.mono q (.inl U.1) (.inl O.1) λb U u hu=>kp b (Uh _ U) u hu) (aF.cons N (F.mono q (.inl U.2.2) (.inl O.2.2) λb U u hu=>kp b (T9 _ U) u hu))
theorem Foc.ins{cl:Str}{fs:List Str}{ds:List D}(r:Rep G H W (.ins .own cl fs ds) v L)(J:clean (.ins .own cl fs ds)=true)(e:ds[j]? =some c):∃a C dx kvs x M,v= .ref a/\G.mg cl=some (.ref C)/\H a=some (.ins C dx kvs)/\kvs.map (·.1)=fs/\(kvs.map (·.2))[j]? =some x/\Foc G H W (.ins .own cl fs ds) v L [j] c x M:=by
 rw[Rep]at r;obtain⟨a,C,dx,kvs,N,rfl,hC,q,Z,Y,rfl⟩:=r;have V:au ds=true/\az ds=true:=by simp[clean,aD,aC]at J;exact J
 obtain⟨x,A,M,B,F,rfl,rx,U⟩:=Z.kid V.1 V.2 e;refine⟨a,C,dx,kvs,x,M,rfl,hC,Y,q,F,rx,a::A,B,by simp,λH' W' d' M' ev kp r'=>?_⟩;have z:eV [j] d' (.ins .own cl fs ds)= .ins .own cl fs (ds.set j d'):=by simp only[eV,kids,e,Ea]
 rw[z,Rep];exact⟨a,C,dx,kvs,A++(M'++B),rfl,hC,q,U H' W' d' M' ev (λb U u O=>kp b (Ut _ U) u O) r',kp a (by simp) _ Y,by simp⟩
theorem Foc.trans{Y x:V}{J:List Addr}(f:Foc G H W d0 Y J p d v L)(g:Foc G H W d v L [j] c x M)(hp:e_ p d0=some d)(hj:(kids d)[j]?≠none):Foc G H W d0 Y J (p++[j]) c x M:=by
 obtain⟨A,B,F,U⟩:=f.b;obtain⟨A',B',a0,Z⟩:=g.b;refine⟨g.r,A++A',B'++B,by rw[F,a0];simp,λH' W' d' M' q kp N=>?_⟩;rw[Ir p j d' d0 hp hj];have:=U H' W' (eV [j] d' d) (A'++(M'++B')) q (λb U u O=>kp b ?_ u O) (Z H' W' d' M' q (λb U u O=>kp b ?_ u O) N)
 .simpa using this
 .simp only[T_]at U⊢
  rcases U with z|z<;>simp[z]
 .simp only[T_]at U⊢
  rcases U with z|z<;>simp[z]
def RfP(G:Gc)(ob:Nat->Bool)(t:TE)(i:Nat)(pf:En->Option (List Nat)):Prop:=∀(ρ:En)(p:List Nat),pf ρ=some p->∀(σ:L2.St)(H:Hp)(S:Ad)(Fr:Addr->Prop),Sta G H ob ρ σ S Fr->∃d0 d,ρ[i]? =some (some d0)/\e_ p d0=some d/\∀Q:VK,
 (∀v Y H' M,Same H H'->σ[i]? =some (some Y)->Foc G H' (wn ob S Fr) d0 Y (S i) p d v M->Q v H')->t σ H Q
structure PVP{ι:Type}(X:ι->Cx)(G:Gc)(ob:Nat->Bool)(e:Expr)(i:Nat)(pf:En->Option (List Nat)):Prop where
 mk::(ex:∃t,(∀c,PE (X c) e t)/\RfP G ob t i pf)
def dM(i:Nat):En->Option (List Nat):=λρ=>match ρ[i]? with
 |some (some _)=>some []
 |_=>none
theorem cT(i:Nat)(z:∀c,(X c).N[i]? =some x:=by intro _;rfl)(U:∀c,Vis (X c).env.scope x:=by intro _;first|exact Xe rfl|exact Wg (Xe rfl)|exact Wg (Wg rfl))(hd:(x==("__debug__":Str))=false:=by decide)
  (J:(x==("__classdict__":Str))=false:=by decide):PVP X G ob (.Name x pos) i (dM i):=by
 refine⟨_,λc=>pv i (z c) (U c) hd J,λρ p e σ H S Fr s=>?_⟩;unfold dM at e;split at e
 .rename_i d h1
  cases e;obtain⟨v,h2,F,V⟩:=s.sl i d h1;exact⟨d,d,h1,rfl,λQ q=>⟨v,h2,q v v H _ (Same.refl H) h2 (.nil F)⟩⟩
 .cases e
theorem qG:∀{p:List Nat}{d:D},clean d0=true->e_ p d0=some d->clean d=true:=by
 intro p
 induction p generalizing d0 with
 |nil=>intro d h e;cases e;exact h
 |cons j p Z=>
  intro d h e;simp only[e_]at e;cases h1:(kids d0)[j]? with
  |none=>simp[h1]at e
  |some c=>
   have e:e_ p c=some d:=by simpa[h1]using e
   refine Z ?_ e;have q:au (kids d0)=true/\az (kids d0)=true:=by
    cases d0<;>simp[kids,clean,aD,aC,au,az]at h h1⊢<;>(try exact h)<;>exact⟨h.1.2,h.2.2⟩
   simp[clean,gP q.1 h1,gU q.2 h1]
def cZ:D->Option Key
 |.int i=>some (.inl i)
 |.str x=>some (.inr x)
 |_=>none
def dR(ks:List Key)(k:Key):Option Nat:=ks.findIdx? λx=>decide (x=k)
def ixP:D->D->Option Nat
 |.lst .own ds,.int i=>ixN ds.length i
 |.tup ds,.int i=>ixN ds.length i
 |.dct .own ks ds,k=>(cZ k).bind λk=>(dR ks k).bind λj=>if j<ds.length then some j else none
 |_,_=>none
def o5(i:Nat)(pf:En->Option (List Nat))(fk:En->Option D):En->Option (List Nat):=λρ=>(pf ρ).bind λp=>(fk ρ).bind λk=>match ρ[i]? with
 |some (some d0)=>(e_ p d0).bind λd=>(ixP d k).bind λj=>if j<(kids d).length then some (p++[j])else none
 |_=>none
def NB:R2:=λx y H Q=>∃a v,x= .ref a/\lU H a y (some v)/\Q v H
variable{Y:Cx}
theorem Kd(hu:Y.A.units+1<cLine):IxR Y NB:=by
 intro value Z pins s σ H x y v u Q I rx J h O;obtain⟨a,z,rfl,g,q⟩:=h;cases rx;exact tail_any (yq I g) PySem.F.slot_dict_getitem.lookup (vA hu I g J λw' U V N=>⟨z,H,V,N,q⟩) O
theorem Oj(O:Y.A.units+1<cLine):IxR Y (λx y H Q=>rIx Y.K x y H Q∨NB x y H Q):=Pb.or (Kd O)
theorem jE:∀{kvs:List (Key×V)}{k:Key}{j:Nat},dR (kvs.map (·.1)) k=some j->jJ kvs k=(kvs.map (·.2))[j]?
 |[],k,j,h=>by simp[dR]at h
 |(k0,v)::r,k,j,h=>by
  simp only[Um,dR,WW]at h;by_cases e:k0=k
  .subst e
   simp at h;subst h;simp[jJ]
  .rw[U9 e]at h
   simp only[U0,VN]at h;cases h1:(r.map (·.1)).findIdx? (λx=>decide (x=k))with
   |none=>rw[h1]at h;cases h
   |some i=>
    rw[h1]at h;have:i+1=j:=by simpa using h
    subst this;have Z:=jE (kvs:=r) (k:=k) (j:=i) h1;simp only[jJ,W5,U9 e,Um,Zk];exact Z
theorem m6:∀{kvs:List (Key×V)}{k:Key},dR (kvs.map (·.1)) k=none->jJ kvs k=none
 |[],k,h=>rfl
 |(k0,v)::r,k,h=>by
  simp only[Um,dR,WW]at h;by_cases e:k0=k
  .subst e
   simp at h
  .rw[U9 e]at h
   simp only[U0,VN]at h;have h1:(r.map (·.1)).findIdx? (λx=>decide (x=k))=none:=by
    cases h1:(r.map (·.1)).findIdx? (λx=>decide (x=k))with
    |none=>rfl
    |some i=>rw[h1]at h;cases h
   have Z:=m6 (kvs:=r) (k:=k) h1;simp only[jJ,W5,U9 e];exact Z
theorem iI{k:Key}(r:Rep G H W d v L)(h:cZ d=some k):v=kV k:=by
 cases d<;>simp[cZ]at h<;>subst h<;>rw[Rep]at r<;>exact r.1
def MuV(G:Gc)(r:V->List V->Hp->VK->Prop)(op:D->List D->Option (D×D)):Prop:=∀(d:D)(es:List D)(d' res:D),op d es=some (d',res)->∀(v:V)(xs:List V)(H:Hp)(W:Wn)(M N:List Addr),Rep G H W d v M->aF G H W es xs N->(M++N).Nodup->(∀a∈M,¬W.free a)->
 clean d=true->au es=true->az es=true->∀Q:VK,(∀x H' M' R,(∀b u,H b=some u->b∉M->H' b=some u)->(∀W',Evo H H' W W'->Rep G H' W' d' v M'/\Rep G H' W' res x R)->(M'++R).Nodup->(∀a∈M'++R,a∈M∨a∈N∨H a=none)->clean d'=true->clean res=true->Q x H')->r v xs H Q
theorem zr{e:D}:∀{p:List Nat},clean d0=true->clean e=true->clean (eV p e d0)=true:=by
 intro p
 induction p generalizing d0 with
 |nil=>intro _ h;exact h
 |cons j p Z=>
  intro h N;simp only[eV];cases h1:(kids d0)[j]? with
  |none=>exact h
  |some c=>
   have J:clean c=true:=qG (p:=[j]) h (by simp[e_,h1]);have:=Z (d0:=c) J N;have q:∀{ds:List D}{j:Nat}{x:D},au ds=true->az ds=true->clean x=true->au (ds.set j x)=true/\az (ds.set j x)=true:=λ{ds}=>by
    induction ds with
    |nil=>intro j x a b _;simp[a,b]
    |cons y r z=>
     intro j x a b F;simp only[au,az,UT]at a b;have O:=(by simpa[clean]using F:aD x=true/\aC x=true);cases j with
     |zero=>simp[au,az,O,a,b]
     |succ j=>simp only[Zc,au,az,UT];exact⟨⟨a.1,(z a.2 b.2 F).1⟩,⟨b.1,(z a.2 b.2 F).2⟩⟩
   cases d0<;>simp only[kids,List.getElem?_nil]at h1<;>(try cases h1)<;>simp only[Ea,kids]<;>simp[clean,aD,aC]at h⊢
   .exact⟨(q h.1 h.2 this).1,(q h.1 h.2 this).2⟩
   .exact⟨⟨h.1.1,(q h.1.2 h.2.2 this).1⟩,h.2.1,(q h.1.2 h.2.2 this).2⟩
   .exact⟨⟨h.1.1,(q h.1.2 h.2.2 this).1⟩,h.2.1,(q h.1.2 h.2.2 this).2⟩
   .exact⟨⟨h.1.1,(q h.1.2 h.2.2 this).1⟩,h.2.1,(q h.1.2 h.2.2 this).2⟩
variable{res:D}
theorem Sta.mut{Fr:Addr->Prop}{d':D}{v0 x:V}{N M' R:List Addr}(s:Sta G H ob ρ σ S (plus N Fr))(e:ρ[i]? =some (some d0))(b1:σ[i]? =some (some v0))(b4:Foc G H (wn ob S (plus N Fr)) d0 v0 (S i) p d v M)
  (hF:∀a∈N,¬Fr a) (kp:∀b u,H b=some u->b∉M->H' b=some u) (Z:∀W',Evo H H' (wn ob S (plus N Fr)) W'->Rep G H' W' d' v M'/\Rep G H' W' res x R) (nd:(M'++R).Nodup) (gr:∀a∈M'++R,a∈M∨a∈N∨H a=none) (J:clean d'=true) :
  ∃S',Sta G H' ob (ρ.set i (some (eV p d' d0))) σ S' (plus R Fr)/\Rep G H' (wn ob S' (plus R Fr)) res x R/\(∀j,j≠i->S' j=S j)/\(∀a∈S' i,a∈S i∨a∈N∨H a=none)/\(∀a∈R,a∈S i∨a∈N∨H a=none)/\(∀b u,H b=some u->b∉S i->H' b=some u):=by
 obtain⟨A,B,hL,U⟩:=b4.b;have a8:i<ρ.length:=(List.getElem?_eq_some_iff.mp e).1;have a1:∀a∈M,a∈S i:=λa Y=>by rw[hL];simp[Y]
 have a2:∀a∈A++B,a∈S i/\a∉M:=λa Y=>by
  have hn:=s.nd i;rw[hL]at hn;have h1:=Ur.mp hn;have h2:=Ur.mp h1.2.1;rcases T_.mp Y with z|z
  .exact⟨by rw[hL];simp[z],λy=>h1.2.2 a z a (by simp[y]) rfl⟩
  .exact⟨by rw[hL];simp[z],λy=>h2.2.2 a y a z rfl⟩
 have a9:∀a∈M'++R,∀j,j≠i->a∉S j:=λa Y j hj z=>by
  rcases gr a Y with y|y|y
  .exact hj (s.dj j i a z (a1 a y))
  .exact s.fdj j a (.inl y) z
  .obtain⟨o,O,_⟩:=s.mu z;rw[y]at O;cases O
 have b3:∀a∈M'++R,¬Fr a:=λa Y z=>by
  rcases gr a Y with y|y|y
  .exact s.fdj i a (.inr z) (a1 a y)
  .exact hF a y z
  .obtain⟨o,O,_⟩:=s.fdm a (.inr z);rw[y]at O;cases O
 have a3:∀a∈M'++R,a∉A++B:=λa Y z=>by
  obtain⟨z1,F⟩:=a2 a z;rcases gr a Y with y|y|y
  .exact F y
  .exact s.fdj i a (.inl y) z1
  .obtain⟨o,O,_⟩:=s.mu z1;rw[y]at O;cases O
 let S':=fU S i (A++(M'++B))
 have a5:∀a∈S' i,a∈S i∨a∈N∨H a=none:=λa Y=>by
  have Y:a∈fU S i (A++(M'++B)) i:=Y;rw[cu]at Y;simp only[T_]at Y;rcases Y with z|z|z
  .exact .inl (a2 a (Uh _ z)).1
  .exact(gr a (Uh _ z)).imp (a1 a) id
  .exact .inl (a2 a (T9 _ z)).1
 have a6:∀b u,H b=some u->(wn ob S (plus N Fr)).free b->H' b=some u/\(wn ob S' (plus R Fr)).free b:=λb u U f=>by
  have nS:∀j,b∉S j:=λj z=>by
   cases O:ob j with
   |false=>exact f.2.1 ⟨j,O,z⟩
   |true=>exact f.2.2 ⟨j,O,z⟩
  have a7:∀j,b∉S' j:=λj z=>by
   by_cases hj:j=i
   .subst hj
    rcases a5 b z with y|y|y
    .exact nS j y
    .exact f.1 (.inl y)
    .rw[U]at y;cases y
   .have z:b∈fU S i (A++(M'++B)) j:=z
    rw[bU hj]at z;exact nS j z
  refine⟨kp b u U λz=>nS i (a1 b z),λz=>?_,λ⟨j,_,z⟩=>a7 j z,λ⟨j,_,z⟩=>a7 j z⟩;rcases z with z|z
  .rcases gr b (T9 _ z)with y|y|y
   .exact nS i (a1 b y)
   .exact f.1 (.inl y)
   .rw[U]at y;cases y
  .exact f.1 (.inr z)
 have ev:Evo H H' (wn ob S (plus N Fr)) (wn ob S' (plus R Fr)):=⟨a6,λb xs h=>by
  have no:∀u,H b=some u->muO u=false->H' b=some u:=λu hu mu=>kp b u hu λz=>by
   obtain⟨o,O,hm⟩:=s.mu (a1 b z);rw[hu]at O;cases O;rw[mu]at hm;cases hm
  exact no _ h rfl⟩
 obtain⟨r1,r2⟩:=Z _ ev;have b0:=Ur.mp nd;refine⟨S',⟨by simp[s.len],λj dj hj=>?_,λj hj=>?_,λj=>?_,λj k a h1 h2=>?_,λj a h1 h2=>?_,λa Y=>?_⟩,r2,λj hj=>bU hj,a5,λa Y=>(gr a (T9 _ Y)).imp (a1 a) id,λb u U n=>kp b u U λz=>n (a1 b z)⟩
 .by_cases a0:j=i
  .subst a0
   have:eV p d' d0=dj:=by simpa[a8]using hj
   subst this;have b2:clean d0=true:=let⟨_,_,_,h⟩:=s.sl j d0 e;h;refine⟨v0,b1,?_,zr b2 J⟩;show Rep G H' _ _ v0 (fU S j (A++(M'++B)) j);rw[cu];exact U H' _ d' M' ev (λc J u hu=>kp c u hu (a2 c J).2) r1
  .rw[UW (U3 a0)]at hj
   obtain⟨w,q1,q2,q3⟩:=s.sl j dj hj;have q:=(by simpa[clean]using q3:aD dj=true/\aC dj=true);refine⟨w,q1,?_,q3⟩;show Rep G H' _ dj w (fU S i (A++(M'++B)) j);rw[bU a0];exact q2.mono ev (.inl q.1) (.inl q.2) λc J u hu=>kp c u hu λz=>a0 (s.dj j i c J (a1 c z))
 .by_cases a0:j=i
  .subst a0
   exact absurd (by simp[a8]) (hj (eV p d' d0))
  .show fU S i (A++(M'++B)) j=[]
   rw[bU a0];exact s.em j λd1=>by have:=hj d1;rwa[UW (U3 a0)]at this
 .by_cases a0:j=i
  .subst a0
   show(fU S j (A++(M'++B)) j).Nodup;rw[cu];have hn:=s.nd j;rw[hL]at hn;have h1:=Ur.mp hn;have h2:=Ur.mp h1.2.1;refine dZ h1.1 (dZ b0.1 h2.2.1 λa Y z=>a3 a (Uh _ Y) (T9 _ z)) λa Y z=>?_;rcases T_.mp z with z|z
   .exact a3 a (Uh _ z) (Uh _ Y)
   .exact h1.2.2 a Y a (by simp[z]) rfl
  .show(fU S i (A++(M'++B)) j).Nodup
   rw[bU a0];exact s.nd j
 .have key:∀{j:Nat}{a:Addr},j≠i->a∈S j->a∈S' i->False:=λ{j a} hj z1 F=>by
   have F:a∈fU S i (A++(M'++B)) i:=F;rw[cu]at F;simp only[T_]at F;rcases F with z|z|z
   .exact hj (s.dj j i a z1 (a2 a (Uh _ z)).1)
   .exact a9 a (Uh _ z) j hj z1
   .exact hj (s.dj j i a z1 (a2 a (T9 _ z)).1)
  by_cases a0:j=i<;>by_cases a4:k=i
  .rw[a0,a4]
  .subst a0
   have h2:a∈fU S j (A++(M'++B)) k:=h2;rw[bU a4]at h2;exact(key a4 h2 h1).elim
  .subst a4
   have h1:a∈fU S k (A++(M'++B)) j:=h1;rw[bU a0]at h1;exact(key a0 h1 h2).elim
  .have h1:a∈fU S i (A++(M'++B)) j:=h1
   have h2:a∈fU S i (A++(M'++B)) k:=h2;rw[bU a0]at h1;rw[bU a4]at h2;exact s.dj j k a h1 h2
 .by_cases a0:j=i
  .subst a0
   have h2:a∈fU S j (A++(M'++B)) j:=h2;rw[cu]at h2;simp only[T_]at h2;rcases h1 with h1|h1
   .rcases h2 with z|z|z
    .exact a3 a (T9 _ h1) (Uh _ z)
    .exact b0.2.2 a z a h1 rfl
    .exact a3 a (T9 _ h1) (T9 _ z)
   .rcases h2 with z|z|z
    .exact s.fdj j a (.inr h1) (a2 a (Uh _ z)).1
    .exact b3 a (Uh _ z) h1
    .exact s.fdj j a (.inr h1) (a2 a (T9 _ z)).1
  .have h2:a∈fU S i (A++(M'++B)) j:=h2
   rw[bU a0]at h2;rcases h1 with h1|h1
   .exact a9 a (T9 _ h1) j a0 h2
   .exact s.fdj j a (.inr h1) h2
 .rcases Y with Y|Y
  .exact r2.dom a Y
  .obtain⟨o,O,hm⟩:=s.fdm a (.inr Y)
   exact⟨o,kp a o O λz=>s.fdj i a (.inr Y) (a1 a z),hm⟩
section
variable{ι:Type}{X:ι->Cx}{G:Gc}{ob P:Nat->Bool}
theorem mj{G:Gc}{r:V->List V->Hp->VK->Prop}{op:D->List D->Option (D×D)}{H:Hp}{ρ:En}{σ:L2.St}{S:Ad}{Fr:Addr->Prop}{i:Nat}{p:List Nat}{d0 d d' res:D}{v v0:V}{M N:List Addr}{es:List D}{xs:List V}(hm:MuV G r op)(s:Sta G H ob ρ σ S (plus N Fr))(e:ρ[i]? =some (some d0))(a0:σ[i]? =some (some v0))(hp:e_ p d0=some d)
  (z:Foc G H (wn ob S (plus N Fr)) d0 v0 (S i) p d v M) (re:aF G H (wn ob S (plus N Fr)) es xs N) (nd:N.Nodup) (O:∀a∈N,¬Fr a) (c1:au es=true) (c2:az es=true) (h:op d es=some (d',res)) {Q:VK}
  (q:∀x H' R S',Sta G H' ob (ρ.set i (some (eV p d' d0))) σ S' (plus R Fr)->Rep G H' (wn ob S' (plus R Fr)) res x R->R.Nodup->clean res=true->(∀j,j≠i->S' j=S j)->(∀a∈S' i,a∈S i∨a∈N∨H a=none)->(∀a∈R,a∈S i∨a∈N∨H a=none)->(∀b u,H b=some u->b∉S i->H' b=some u)->Q x H'):r v xs H Q:=by
 have U:V5 M (S i):=by
  obtain⟨A,B,F,_⟩:=z.b;rw[F];exact(W6 M B).trans (Vx A _)
 have a2:clean d0=true:=let⟨_,_,_,h⟩:=s.sl i d0 e;h;refine hm d es d' res h v xs H _ M N z.r re (dZ (U.nodup (s.nd i)) nd λa h1 h2=>s.fdj i a (.inl h2) (U.subset h1)) (λa Y f=>?_) (qG a2 hp) c1 c2 Q λx H' M' R kp Z J gr a1 a3=>?_
 .cases ho:ob i with
  |false=>exact f.2.1 ⟨i,ho,U.subset Y⟩
  |true=>exact f.2.2 ⟨i,ho,U.subset Y⟩
 .obtain⟨S',q1,q2,q3,q4,q5,q6⟩:=s.mut e a0 z O kp Z J gr a1
  exact q x H' R S' q1 q2 (Ur.mp J).2.1 a3 q3 q4 q5 q6
def upS(op:D->List D->Option (D×D))(i:Nat)(p:List Nat)(es:List D)(ρ:En):Option (D×En):=match ρ[i]? with
 |some (some d0)=>(e_ p d0).bind λd=>if au es=true/\az es=true then(op d es).map λq=>(q.2,ρ.set i (some (eV p q.1 d0)))else none
 |_=>none
theorem tG{op:D->List D->Option (D×D)}{i:Nat}{p:List Nat}{es:List D}{ρ z:En}{res:D}(h:upS op i p es ρ=some (res,z)):∃d0 d d',ρ[i]? =some (some d0)/\e_ p d0=some d/\au es=true/\az es=true/\op d es=some (d',res)/\z=ρ.set i (some (eV p d' d0)):=by
 unfold upS at h;split at h
 .rename_i d0 h1
  cases h2:e_ p d0 with
  |none=>simp[h2]at h
  |some d=>
   by_cases J:au es=true/\az es=true
   .cases h3:op d es with
    |none=>simp[h2,J,h3]at h
    |some q=>
     obtain⟨d',N⟩:=q;obtain⟨rfl,rfl⟩:N=res/\ρ.set i (some (eV p d' d0))=z:=by simpa[h2,J,h3]using h
     exact⟨d0,d,d',h1,h2,J.1,J.2,h3,rfl⟩
   .simp[h2,J]at h
 .cases h
def jK(op:D->List D->Option (D×D))(i:Nat)(pf:En->Option (List Nat))(f:En->Option (List D)):En->Option (D×En):=λρ=>(pf ρ).bind λp=>(f ρ).bind λes=>upS op i p es ρ
def kE(op:D->List D->Option (D×D))(i:Nat)(pf:En->Option (List Nat))(f:En->Option (List D)):En->Option Fl:=λρ=>(jK op i pf f ρ).map λq=>.nx q.2
def Gu(G:Gc)(T:String)(op:D->List D->Option (D×D)):Prop:=∀d es q,op d es=some q->∀(v:V)(H:Hp)(W:Wn)(L:List Addr),Rep G H W d v L->tyV G.K T v H
theorem FJ{T:String}{r:V->List V->Hp->VK->Prop}{op:D->List D->Option (D×D)}{to:TE}{t:TA}{i:Nat}{pf:En->Option (List Nat)}{f:En->Option (List D)}(hm:MuV G r op)(ht:Gu G T op)(O:RfP G ob to i pf)(Y:RfA G ob t f){ρ J:En}{res:D}(e:jK op i pf f ρ=some (res,J))
  {σ:L2.St} {H:Hp} {S:Ad} {Fr:Addr->Prop} (s:Sta G H ob ρ σ S Fr) {Q:VK}
  (q:∀x H' R S',Sta G H' ob J σ S' (plus R Fr)->Rep G H' (wn ob S' (plus R Fr)) res x R->R.Nodup->clean res=true->(∀j,j≠i->S' j=S j)->(∀a∈S' i,a∈S i∨H a=none)->(∀a∈R,a∈S i∨H a=none)->(∀b u,H b=some u->b∉S i->H' b=some u)->Q x H'):tBM G.K T r to t σ H Q:=by
 unfold jK at e;cases h1:pf ρ with
 |none=>simp[h1]at e
 |some p=>
  cases h2:f ρ with
  |none=>simp[h1,h2]at e
  |some es=>
   have e:upS op i p es ρ=some (res,J):=by simpa[h1,h2]using e
   obtain⟨d0,d,d',g1,g2,c1,c2,g3,rfl⟩:=tG e;obtain⟨a5,dd,k1,k2,k3⟩:=O ρ p h1 σ H S Fr s;rw[g1]at k1;cases k1;rw[g2]at k2;cases k2;refine k3 _ λv v0 H1 M Z a3 a2=>⟨ht d es _ g3 v H1 _ M a2.r,?_⟩;have a0:Sta G H1 ob ρ σ S Fr:=s.grow Z λa z=>.inl z;refine Y ρ es h2 σ H1 _ a0.rel a0.wok _ λxs H2 N s2 re F nd=>?_;have a4:Sta G H2 ob ρ σ S (plus N Fr):=a0.grow s2 λa z=>z.elim (λz=>.inr ⟨F a z,re.dom a z⟩) .inl;have up:Up H1 H2 (wn ob S Fr) (wn ob S (plus N Fr)):=Up.add s2 F;have a1:=a2.mono (.inr up) up.evo λc _ u hu=>s2 c u hu;have hF:∀a∈N,¬Fr a:=λa Y z=>by
    obtain⟨o,O,_⟩:=a0.fdm a z;rw[F a Y]at O;cases O
   have nf:∀{a},a∈S i∨a∈N∨H2 a=none->a∈S i∨H a=none:=λ{a} z=>z.imp id λz=>z.elim (λz=>Z.none' (F a z)) λz=>(Z.trans s2).none' z;exact mj hm a4 g1 a3 g2 a1 re nd hF c1 c2 g3 λx H' R S' q1 q2 q3 q4 q5 q6 q7 q8=>q x H' R S' q1 q2 q3 q4 q5 (λa Y=>nf (q6 a Y)) (λa Y=>nf (q7 a Y)) λb u U n=>q8 b u ((Z.trans s2) b u U) n
theorem Jr{T:String}{r:V->List V->Hp->VK->Prop}{op:D->List D->Option (D×D)}{to:TE}{t:TA}{i:Nat}{pf:En->Option (List Nat)}{f:En->Option (List D)}(hm:MuV G r op)(ht:Gu G T op)(O:RfP G ob to i pf)(Y:RfA G ob t f):RfS G ob P (HY (tBM G.K T r to t)) (kE op i pf f):=λρ r e σ H S Fr s E q=>by
 unfold kE at e;cases h1:jK op i pf f ρ with
 |none=>simp[h1]at e
 |some p=>
  obtain⟨res,J⟩:=p;have:Fl.nx J=r:=by simpa[h1]using e
  subst this;refine FJ hm ht O Y h1 s λx H' R S' q1 q2 q3 q4 Z F N q8=>q σ H' S' (q1.lessF λa z=>.inr z) ⟨λb u U n _=>q8 b u U λz=>n ⟨i,z⟩,λj a z=>?_,.refl⟩;by_cases hj:j=i
  .subst hj;exact(F a z).imp (λz=>⟨j,z⟩) .inr
  .rw[Z j hj]at z;exact .inl ⟨j,z⟩
theorem K1{T:String}{r:V->List V->Hp->VK->Prop}{op:D->List D->Option (D×D)}{to:TE}{t:TA}{i:Nat}{pf:En->Option (List Nat)}{f:En->Option (List D)}(a0:ob i=true)(hm:MuV G r op)(ht:Gu G T op)(O:RfP G ob to i pf)(Y:RfA G ob t f):kh G ob (tBM G.K T r to t) (jK op i pf f):=λρ d J e σ H S Fr s Q q=>by
 refine FJ hm ht O Y e s λx H' R S' q1 q2 q3 q4 Z q6 N q8=>q x H' R S' q1 q2 q3 ⟨λb u U n=>q8 b u U λz=>n ⟨i,a0,z⟩,λj hj=>Z j (λz=>by rw[z,a0]at hj;cases hj),λj a hj z=>?_,λa Y=>(N a Y).imp (λz=>⟨i,a0,z⟩) id⟩;by_cases F:j=i
 .subst F;exact(q6 a z).imp (λz=>⟨j,a0,z⟩) id
 .rw[Z j F]at z;exact .inl ⟨j,hj,z⟩
structure MuB{ι:Type}(X:ι->Cx)(G:Gc)(T id:String)(op:D->List D->Option (D×D)):Prop where
 ex:∃r,(∀c,MtR (X c) id r)/\MuV G r op/\Gu G T op
section
variable{T name id:String}{op:D->List D->Option (D×D)}{o e:Expr}{es:List Expr}{apos cpos pos:Pos}{i:Nat}{pf:En->Option (List Nat)}
theorem wI{Z:Str}(m:MuB X G T id op)(J:aaS T)(slot:Slot T Z id)(N:typeOf (.builtin id)=pure (.type "method_descriptor")){f:En->Option (List D)}(ho:PVP X G ob o i pf)(Y:PVA X G ob (e::es) f)(a0:∀c,Yd (.Call (.Attribute o Z apos) (e::es) [] cpos) none pos.line (X c).env=pure false:=by intro _;rfl)(U:∀c,Xb o Z (X c).env (eval o (X c).env)=eval o (X c).env:=by intro _;rfl)(V:∀c,((V3 cpos (Ul (e::es) (X c).env)).all (λx=>!x.1)&&(Y9 cpos (XN [] (X c).env)).all (λx=>x.1.isSome)
  &&decide ((e::es).length+([]:List abG).length+(if([]:List abG).isEmpty then 0 else 1)<30))=true:=by intro _;rfl) (q:(apos.endLine==cpos.line)=true:=by rfl) (O:∀c,Ul (e::es) (X c).env=(false,eval e (X c).env)::Ul es (X c).env:=by intro _;rfl) (z:∀c,(V3 cpos (Ul es (X c).env)).any (·.1)=false:=by intro _;rfl) (F:∀c,(X c).K=G.K:=by intro _;rfl) :
 PVS X G ob P (.Expr (.Call (.Attribute o Z apos) (e::es) [] cpos) pos) (kE op i pf f):=let⟨r,m1,m2,m3⟩:=m.ex;let⟨t,a1,a2⟩:=ho.ex;let⟨u,b1,b2⟩:=Y.ex;⟨_,λc=>(by rw[←F c];exact A_ (M9 J slot N (m1 c) (a1 c) (b1 c) (U c) (V c) q (O c) (z c)) (a0 c)),Jr m2 m3 a2 b2⟩
theorem FQ{Z:Str}(m:MuB X G T id op)(J:aaS T)(slot:Slot T Z id)(N:typeOf (.builtin id)=pure (.type "method_descriptor"))(O:PVP X G ob o i pf)(Y:ob i=true:=by rfl)(U:∀c,Xb o Z (X c).env (eval o (X c).env)=eval o (X c).env:=by intro _;rfl)(q:(apos.endLine==cpos.line)=true:=by rfl)(F:∀c,(X c).K=G.K:=by intro _;rfl) :
 PVe X G ob (.Call (.Attribute o Z apos) [] [] cpos) (jK op i pf aN):=let⟨r,m1,m2,m3⟩:=m.ex;let⟨t,a1,a2⟩:=O.ex;⟨_,λc=>(by rw[←F c];exact Oi J slot N (m1 c) (a1 c) (U c) q),K1 Y m2 m3 a2 tE⟩
end
structure MuT{ι:Type}(X:ι->Cx)(G:Gc)(op:D->List D->Option (D×D)):Prop where
 ex:∃t:Ew,(∀c,K4 (X c) t)/\MuV G (λo xs H Q=>∃i v,xs=[i,v]/\t o i v H λH'=>Q .non H') op
def fQ(op:D->List D->Option (D×D))(i:Nat)(pf:En->Option (List Nat))(fk:En->Option D):D->En->Option En:=λd ρ=>(pf ρ).bind λp=>(fk ρ).bind λk=>(upS op i p [k,d] ρ).map λq=>q.2
theorem J3{t:Ew}{op:D->List D->Option (D×D)}{to ti:TE}{i:Nat}{pf:En->Option (List Nat)}{fk:En->Option D}(V:MuV G (λo xs H Q=>∃i v,xs=[i,v]/\t o i v H λH'=>Q .non H') op)(O:RfP G ob to i pf)(hi:RfE G ob ti fk):RfG G ob P (sO to ti t) (fQ op i pf fk):=λd ρ J e v σ H S M Fr s r nd hF Q q=>by
 unfold fQ at e;cases h1:pf ρ with
 |none=>simp[h1]at e
 |some p=>
  cases h2:fk ρ with
  |none=>simp[h1,h2]at e
  |some k=>
   cases F:upS op i p [k,d] ρ with
   |none=>simp[h1,h2,F]at e
   |some w=>
    obtain⟨res,ρ1⟩:=w;obtain rfl:ρ1=J:=by simpa[h1,h2,F]using e
    obtain⟨d0,dd,d',g1,g2,c1,c2,g3,rfl⟩:=tG F;obtain⟨b0,b1,k1,k2,k3⟩:=O ρ p h1 σ H S (plus M Fr) s;rw[g1]at k1;cases k1;rw[g2]at k2;cases k2;refine k3 _ λo v0 H1 M1 Z a4 a5=>?_;have a0:Sta G H1 ob ρ σ S (plus M Fr):=s.grow Z λa z=>.inl z;refine hi ρ k h2 σ H1 _ a0.rel a0.wok _ λy H2 N s2 ry fr nN=>?_;have a8:Sta G H2 ob ρ σ S (plus (N++M) Fr):=a0.grow s2 λa z=>z.elim (λz=>(T_.mp z).elim (λz=>.inr ⟨fr a z,ry.dom a z⟩) λz=>.inl (.inl z)) λz=>.inl (.inr z);have up:Up H1 H2 (wn ob S (plus M Fr)) (wn ob S (plus (N++M) Fr)):=⟨s2,λb u U f=>⟨λz=>z.elim (λz=>(T_.mp z).elim (λz=>by rw[fr b z]at U;cases U) λz=>f.1 (.inl z)) λz=>f.1 (.inr z),f.2⟩,λ_ _ _ f=>f⟩;have a3:Up H H2 (wn ob S (plus M Fr)) (wn ob S (plus (N++M) Fr)):=(Up.same Z).trans up;have a1:=a5.mono (.inr up) up.evo λc _ u hu=>s2 c u hu;have a7:(wn ob S (plus M Fr)).add N=wn ob S (plus (N++M) Fr):=by
     show Wn.mk _ _ _=Wn.mk _ _ _;congr 1;funext a;simp only[plus,T_,eq_iff_iff,or_assoc];constructor
     .rintro(z|z)
      .exact .inl z
      .exact .inr z
     .rintro(z|z)
      .exact .inl z
      .exact .inr z
    rw[a7]at ry;have a6:∀a∈N,a∉M:=λa h1 h2=>by
     obtain⟨o,O,_⟩:=r.dom a h2;rw[Z.none' (fr a h1)]at O;cases O
    have re:aF G H2 (wn ob S (plus (N++M) Fr)) [k,d] [y,v] (N++M):=.cons ry (.one (r.up a3));have a2:∀a∈N++M,¬Fr a:=λa Y z=>by
     rcases T_.mp Y with y|y
     .obtain⟨o,O,_⟩:=a0.fdm a (.inr z)
      rw[fr a y]at O;cases O
     .exact hF a y z
    have a9:=mj V a8 g1 a4 g2 a1 re (dZ nN nd a6) a2 c1 c2 g3 (Q:=λ_ H'=>Q σ H') λx H' R S' q1 q2 q3 q4 q5 q6 q7 q8=>q σ H' S' (q1.lessF λa z=>.inr z) ⟨λb u U n m=>?_,λj a z=>?_,.refl⟩
    .obtain⟨i1,v1,e1,k⟩:=a9
     cases e1;exact k
    .exact q8 b u ((Z.trans s2) b u U) λz=>n ⟨i,z⟩
    .by_cases hj:j=i
     .subst hj
      rcases q6 a z with y|y|y
      .exact .inl ⟨j,y⟩
      .exact(T_.mp y).elim (λy=>.inr (.inr (Z.none' (fr a y)))) λy=>.inr (.inl y)
      .exact .inr (.inr ((Z.trans s2).none' y))
     .rw[q5 j hj]at z;exact .inl ⟨j,z⟩
theorem pJ{op:D->List D->Option (D×D)}{o k:Expr}{pos:Pos}{i:Nat}{pf:En->Option (List Nat)}{fk:En->Option D}(m:MuT X G op)(O:PVP X G ob o i pf)(q:PV X G ob k fk)(Y:∀c,∀v,YG (.Subscript o k pos) (X c).env v=(do
 let ov ←Wu [v] (eval o (X c).env)
 let iv ←Wu [v,ov] (eval k (X c).env)
 Zh pos
 Wu [v,ov,iv] (abD ov iv v)
 release [v,ov,iv] []):=by intro _;intro _;rfl):PVG X G ob P (.Subscript o k pos) (fQ op i pf fk):=let⟨t,m1,m2⟩:=m.ex;let⟨_,a1,a2⟩:=O.ex;let⟨_,b1,b2⟩:=q.ex;⟨_,λc=>QQ (a1 c) (b1 c) (m1 c) (Y c),J3 m2 a2 b2⟩
theorem lF{G:Gc}{H:Hp}{W:Wn}:Rep G H W .non .non []:=by rw[Rep];exact⟨rfl,rfl⟩
theorem ql{ds:List D}(h1:au ds=true)(h2:az ds=true):clean (.lst .own ds)=true:=by simp[clean,aD,aC,h1,h2]
theorem BW{G:Gc}{H:Hp}{W W':Wn}{a:Addr}{xs:List V}{ds:List D}{M:List Addr}{ys:List V}(Z:aF G H W ds xs M)(F:au ds=true)(U:az ds=true)(N:a∉M)(q:Evo H (upd H a (.lst ys)) W W'):aF G (upd H a (.lst ys)) W' ds xs M:=
 Z.mono q (.inl F) (.inl U) λc J u O=>by rw[aK (show c≠a from λz=>N (z▸J))];exact O
def eF:D->List D->Option (D×D)
 |.lst .own ds,[e]=>if ds.length<1000000 then some (.lst .own (ds++[e]),.non)else none
 |_,_=>none
theorem Fd{n:Nat}(h:n<1000000):n<Ui:=Us h (by decide)
theorem zL{G:Gc}:MuV G Ax eF:=λd es d' res h v xs H W M N r re nd hM J c1 V Q q=>by
 unfold eF at h;split at h
 .rename_i ds e
  split at h
  .rename_i hl
   cases h;rw[Rep]at r;obtain⟨a,ys,M0,rfl,Z,Y,rfl⟩:=r;obtain⟨x,zs,N1,N2,rfl,rfl,F,hz⟩:=re.inv;obtain⟨rfl,rfl⟩:=hz.inv0;rw[UJ]at nd re;obtain⟨k1,k2⟩:=qz J;have a0:=Ur.mp nd;have hn:=Uu.mp a0.1;have a1:a∉N1:=λz=>a0.2.2 a (by simp) a z rfl;simp only[au,az,UT]at c1 V;refine⟨a,ys,x,rfl,rfl,Y,Fd (by rw[←Z.length];exact hl),q .non _ (a::(M0++N1)) [] (λb u U n=>by rw[aK (show b≠a from λz=>n (by rw[z];simp))];exact U) (λW' ev=>⟨?_,lF⟩) ?_ (λb U=>?_) (ql (by rw[bB];simp[k1,au,c1]) (by rw[bH];simp[k2,az,V])) rfl⟩
   .rw[Rep]
    refine⟨a,ys++[x],M0++N1,rfl,(BW Z k1 k2 hn.1 ev).append (.one (F.mono ev (.inl c1.1) (.inl V.1) λc J u O=>?_)),aZ,rfl⟩;rw[aK (show c≠a from λz=>a1 (z▸J))];exact O
   .rw[UJ]
    exact nd
   .rw[UJ]at U
    rcases Uj.mp U with z|z
    .exact .inl (by simp[z])
    .rcases T_.mp z with z|z
     .exact .inl (by simp[z])
     .exact .inr (.inl (by simp[z]))
  .cases h
 .cases h
theorem Jd{T:String}{op:D->List D->Option (D×D)}(z:T="list")(h:∀d es q,op d es=some q->∃m ds,d= .lst m ds):Gu G T op:=λd es q e v H W L r=>by
 obtain⟨m,ds,rfl⟩:=h d es q e;rw[Rep]at r;obtain⟨a,xs,M,rfl,Z,O⟩:=r;exact .inl ⟨z,xs,O.sq⟩
theorem ou:MuB X G "list" "list.append" eF:=⟨_,λc=>Cz,zL,Jd rfl λd es q e=>by
 unfold eF at e;split at e
 .exact⟨_,_,rfl⟩
 .cases e⟩
def iH(ks:List Key)(ds:List D)(k:Key)(v:D):List Key×List D:=match dR ks k with
 |some j=>(ks,ds.set j v)
 |none=>(ks++[k],ds++[v])
def gW:D->List D->Option (D×D)
 |.lst .own ds,[.int k,v]=>(ixN ds.length k).map λj=>(.lst .own (ds.set j v),.non)
 |.dct .own ks ds,[k,v]=>(cZ k).bind λk=>if ks.length<1000000 then some (.dct .own (iH ks ds k v).1 (iH ks ds k v).2,.non)else none
 |_,_=>none
def Nq:Ew:=λo i v H Q=>MF o i v H Q∨∃a H',o= .ref a/\DY H a i v H'/\Q H'
theorem Lz{Y:Cx}(O:Y.A.units+1<cLine):K4 Y Nq:=by
 intro pins s σ H o i v z J u Q I N U Z h;rcases h with h|⟨a,H',rfl,g,q⟩
 .exact set_list pins s σ H o i v z J u Q I N U Z h
 .cases N
  exact vY O I g U Z λV F=>⟨H',F,q⟩
theorem aF.set{G:Gc}{H:Hp}{W:Wn}{ds:List D}{xs:List V}{L:List Addr}{j:Nat}{c d':D}{y:V}{M':List Addr}(Z:aF G H W ds xs L)(e:ds[j]? =some c)(N:Rep G H W d' y M'):∃A M B,L=A++(M++B)/\aF G H W (ds.set j d') (xs.set j y) (A++(M'++B)):=by
 obtain⟨P,Q,x,ys,zs,O,z,q,rfl,J,rfl,Y,rfl,h1,h2,F⟩:=Z.at e;refine⟨O,z,q,rfl,?_⟩;rw[←J,ZZ _ _ (Uk _),X7];rw[show P.length=ys.length by omega,ZZ _ _ (Uk _),X7];exact aF.append h1 (aF.cons N F)
theorem iu{ds:List D}{j:Nat}{x:D}(h:au ds=true)(F:aD x=true):au (ds.set j x)=true:=by
 induction ds generalizing j with
 |nil=>simpa using h
 |cons y r Z=>
  simp only[au,UT]at h;cases j with
  |zero=>simp[au,F,h]
  |succ j=>simp only[Zc,au,UT];exact⟨h.1,Z h.2⟩
theorem ik{ds:List D}{j:Nat}{x:D}(h:az ds=true)(F:aC x=true):az (ds.set j x)=true:=by
 induction ds generalizing j with
 |nil=>simpa using h
 |cons y r Z=>
  simp only[az,UT]at h;cases j with
  |zero=>simp[az,F,h]
  |succ j=>simp only[Zc,az,UT];exact⟨h.1,Z h.2⟩
theorem Qs{n:Nat}{k:Int}{j:Nat}(h:ixN n k=some j):j<n:=by
 unfold ixN at h;split at h
 .split at h
  .cases h;omega
  .cases h
 .split at h
  .cases h;omega
  .cases h
theorem rW{ks:List Key}{k:Key}{j:Nat}(h:dR ks k=some j):j<ks.length:=(Vl.mp h).1
theorem yJ:∀{kvs:List (Key×V)}{k:Key}{j:Nat}{v:V},dR (kvs.map (·.1)) k=some j->(kvs.map (·.1)).Nodup->(putK kvs k v).map (·.1)=kvs.map (·.1)/\(putK kvs k v).map (·.2)=(kvs.map (·.2)).set j v:=by
 intro kvs k j v h n;have U:=Vl.mp h;obtain⟨Y,q,_⟩:=U;have J:j<kvs.length:=by simpa using Y
 have a0:kvs[j].1=k:=by simpa using q
 have a1:(kvs.any λN=>decide (N.1=k))=true:=ZP.mpr ⟨kvs[j],WT _,by simpa using a0⟩;unfold putK;rw[Uo a1];constructor
 .rw[Vg]
  apply Xf;intro p _;simp only[ac4];split<;>rfl
 .apply Zu
  intro i;rw[Vg,List.getElem?_map];by_cases F:j=i
  .subst F
   rw[Zw (by simpa using J)];simp[J,a0]
  .rw[UW F,List.getElem?_map]
   cases e:kvs[i]? with
   |none=>rfl
   |some p=>
    have O:i<kvs.length:=(List.getElem?_eq_some_iff.mp e).1;have a2:kvs[i]=p:=(List.getElem?_eq_some_iff.mp e).2;have Z:p.1≠k:=λz=>by
     have e1:(kvs.map (·.1))[i]? =(kvs.map (·.1))[j]?:=by
      rw[List.getElem?_map,List.getElem?_map,e,Ug J];simp[z,a0]
     exact F ((Wy (by simpa using O) n).mp e1).symm
    simp[Z]
theorem pq{kvs:List (Key×V)}{k:Key}{v:V}(h:dR (kvs.map (·.1)) k=none):putK kvs k v=kvs++[(k,v)]:=by
 unfold putK;rw[Uq];intro z;obtain⟨p,q,e⟩:=ZP.mp z;have:=Wq.mp h p.1 (Uw.mpr ⟨p,q,rfl⟩);simp at this e;exact this e
theorem uP{ks:List Key}{k:Key}(h:dR ks k=none):k∉ks:=λz=>by
 have:=Wq.mp h k z;simp at this
theorem Aw{G:Gc}:MuV G (λo xs H Q=>∃i v,xs=[i,v]/\Nq o i v H λH'=>Q .non H') gW:=λd es d' res h v xs H W M N r re nd hM J c1 c2 Q q=>by
 unfold gW at h;split at h
 .rename_i ds k e
  cases hj:ixN ds.length k with
  |none=>simp[hj]at h
  |some j=>
   obtain⟨rfl,rfl⟩:D.lst .own (ds.set j e)=d'/\D.non=res:=by simpa[hj]using h
   rw[Rep]at r;obtain⟨a,ys,M0,rfl,Z,Y,rfl⟩:=r;obtain⟨x1,zs,N1,N2,rfl,rfl,a2,hz⟩:=re.inv;obtain⟨x,zs,N3,N4,rfl,rfl,F,hz⟩:=hz.inv;obtain⟨rfl,rfl⟩:=hz.inv0;rw[Rep]at a2;obtain⟨rfl,rfl⟩:=a2;rw[UJ,Vq]at nd re;obtain⟨k1,k2⟩:=qz J;have a0:=Ur.mp nd;have hn:=Uu.mp a0.1;have a1:a∉N3:=λz=>a0.2.2 a (by simp) a z rfl;simp only[au,az,UT]at c1 c2;have a6:=Qs hj;obtain⟨A,M1,B,a5,a3⟩:=Z.set (Ug a6) F;have V:V5 (A++B) M0:=by rw[a5];exact(W_ A).append (Vx M1 B)
   refine⟨_,_,rfl,.inl ⟨a,ys,k,j,rfl,rfl,Y,by rw[←Z.length];exact hj,q .non _ (a::(A++(N3++B))) [] (λb u U n=>by rw[aK (show b≠a from λz=>n (by rw[z];simp))];exact U) (λW' ev=>⟨?_,lF⟩) ?_ (λb U=>?_) (ql (iu k1 c1.2.1) (ik k2 c2.2.1)) rfl⟩⟩
   .rw[Rep]
    refine⟨a,_,A++(N3++B),rfl,?_,aZ,rfl⟩;refine a3.mono ev (.inl (iu k1 c1.2.1)) (.inl (ik k2 c2.2.1)) λc J u O=>?_;rw[aK (show c≠a from λz=>?_)]
    .exact O
    .subst z
     simp only[T_]at J;rcases J with y|y|y
     .exact hn.1 (V.subset (by simp[y]))
     .exact a1 y
     .exact hn.1 (V.subset (by simp[y]))
   .rw[UJ]
    have n2:=V.nodup hn.2;have n3:=Ur.mp n2;have a4:∀z∈N3,z∉A++B:=λz h1 h2=>a0.2.2 z (Ut _ (V.subset h2)) z h1 rfl;refine Uu.mpr ⟨λy=>?_,dZ n3.1 (dZ a0.2.1 n3.2.1 λz h1 h2=>a4 z h1 (by simp[h2])) λz h1 h2=>?_⟩
    .simp only[T_]at y
     rcases y with y|y|y
     .exact hn.1 (V.subset (by simp[y]))
     .exact a1 y
     .exact hn.1 (V.subset (by simp[y]))
    .rcases T_.mp h2 with y|y
     .exact a4 z y (by simp[h1])
     .exact n3.2.2 z h1 z y rfl
   .rw[UJ]at U
    rcases Uj.mp U with z|z
    .exact .inl (by simp[z])
    .simp only[T_]at z
     rcases z with z|z|z
     .exact .inl (Ut _ (V.subset (by simp[z])))
     .exact .inr (.inl (by simp[z]))
     .exact .inl (Ut _ (V.subset (by simp[z])))
 .rename_i ks ds k0 e
  cases hk:cZ k0 with
  |none=>simp[hk]at h
  |some k=>
   rw[hk]at h;simp only[Ua]at h;split at h
   .rename_i hl
    cases h;rw[Rep]at r;obtain⟨a,kvs,M0,rfl,⟨rfl,a7⟩,Z,Y,rfl⟩:=r;obtain⟨x1,zs,N1,N2,rfl,rfl,a2,hz⟩:=re.inv;obtain⟨x,zs,N3,N4,rfl,rfl,F,hz⟩:=hz.inv;obtain⟨rfl,rfl⟩:=hz.inv0;have a8:=iI a2 hk;subst a8;have b0:N1=[]:=by
     cases k0<;>simp[cZ]at hk<;>rw[Rep]at a2<;>exact a2.2
    subst b0;rw[UJ,Vq]at nd re;have k1:au ds=true/\az ds=true:=by simp[clean,aD,aC]at J;exact J
    have a0:=Ur.mp nd;have hn:=Uu.mp a0.1;have a1:a∉N3:=λz=>a0.2.2 a (by simp) a z rfl;simp only[au,az,UT]at c1 c2;have a9:kvs.length<Ui:=Fd (by simpa using hl);refine⟨_,_,rfl,.inr ⟨a,_,rfl,DY.k (k:=k) Y a9,?_⟩⟩;cases hj:dR (kvs.map (·.1)) k with
    |some j=>
     have a6:j<ds.length:=by rw[Z.length];simpa using rW hj
     obtain⟨A,M1,B,a5,a3⟩:=Z.set (Ug a6) F;obtain⟨p1,p2⟩:=yJ (v:=x) hj a7;have V:V5 (A++B) M0:=by rw[a5];exact(W_ A).append (Vx M1 B)
     refine q .non _ (a::(A++(N3++B))) [] (λb u U n=>by rw[aK (show b≠a from λz=>n (by rw[z];simp))];exact U) (λW' ev=>⟨?_,lF⟩) ?_ (λb U=>?_) ?_ rfl
     .simp only[iH,hj]
      rw[Rep];refine⟨a,_,A++(N3++B),rfl,⟨p1,a7⟩,?_,aZ,rfl⟩;rw[p2];refine a3.mono ev (.inl (iu k1.1 c1.2.1)) (.inl (ik k1.2 c2.2.1)) λc J u O=>?_;rw[aK (show c≠a from λz=>?_)]
      .exact O
      .subst z
       simp only[T_]at J;rcases J with y|y|y
       .exact hn.1 (V.subset (by simp[y]))
       .exact a1 y
       .exact hn.1 (V.subset (by simp[y]))
     .rw[UJ]
      have n2:=V.nodup hn.2;have n3:=Ur.mp n2;have a4:∀z∈N3,z∉A++B:=λz h1 h2=>a0.2.2 z (Ut _ (V.subset h2)) z h1 rfl;refine Uu.mpr ⟨λy=>?_,dZ n3.1 (dZ a0.2.1 n3.2.1 λz h1 h2=>a4 z h1 (by simp[h2])) λz h1 h2=>?_⟩
      .simp only[T_]at y
       rcases y with y|y|y
       .exact hn.1 (V.subset (by simp[y]))
       .exact a1 y
       .exact hn.1 (V.subset (by simp[y]))
      .rcases T_.mp h2 with y|y
       .exact a4 z y (by simp[h1])
       .exact n3.2.2 z h1 z y rfl
     .rw[UJ]at U
      rcases Uj.mp U with z|z
      .exact .inl (by simp[z])
      .simp only[T_]at z
       rcases z with z|z|z
       .exact .inl (Ut _ (V.subset (by simp[z])))
       .exact .inr (.inl (by simp[z]))
       .exact .inl (Ut _ (V.subset (by simp[z])))
     .simp[iH,hj,clean,aD,aC,iu k1.1 c1.2.1,ik k1.2 c2.2.1]
    |none=>
     rw[pq hj];refine q .non _ (a::(M0++N3)) [] (λb u U n=>by rw[aK (show b≠a from λz=>n (by rw[z];simp))];exact U) (λW' ev=>⟨?_,lF⟩) ?_ (λb U=>?_) ?_ rfl
     .simp only[iH,hj]
      rw[Rep];refine⟨a,_,M0++N3,rfl,⟨by simp,?_⟩,?_,aZ,rfl⟩
      .exact Ur.mpr ⟨a7,by simp,λy hy z hz=>by
        have:z=k:=by simpa using hz
        subst this;exact λe=>uP hj (e▸hy)⟩
      .rw[Vr]
       refine(Z.mono ev (.inl k1.1) (.inl k1.2) λc J u O=>?_).append (.one (F.mono ev (.inl c1.2.1) (.inl c2.2.1) λc J u O=>?_))
       .rw[aK (show c≠a from λz=>hn.1 (z▸J))];exact O
       .rw[aK (show c≠a from λz=>a1 (z▸J))];exact O
     .rw[UJ];exact nd
     .rw[UJ]at U
      rcases Uj.mp U with z|z
      .exact .inl (by simp[z])
      .rcases T_.mp z with z|z
       .exact .inl (by simp[z])
       .exact .inr (.inl (by simp[z]))
     .simp[iH,hj,clean,aD,aC,bB,bH,au,az,k1,c1,c2]
   .cases h
 .cases h
theorem pY(O:∀c,(X c).A.units+1<cLine):MuT X G gW:=⟨_,λc=>Lz (O c),Aw⟩
end
noncomputable abbrev InX(X:ι->Cx)(N':List Str)(scope:Scope):ι×(Addr×T7×Hp×List Addr)->Cx:=λp=>bw (X p.1) N' scope p.2.1 p.2.2.1 p.2.2.2.1 p.2.2.2.2
def fK(cap:List (Option Nat))(ρ:En):En:=cap.map λo=>o.bind λj=>(ρ[j]?).bind id
def obC(cap:List (Option Nat))(ob:Nat->Bool):Nat->Bool:=λi=>match cap[i]? with
 |some (some j)=>ob j
 |_=>false
variable{x:α}{l:List (Option α)}
theorem BZ{α:Type}{cap:List (Option Nat)}{l:List (Option α)}{x:α}(h:(cap.map λo=>o.bind λj=>(l[j]?).bind id)[i]? =some (some x)):∃j,cap[i]? =some (some j)/\l[j]? =some (some x):=by
 rw[List.getElem?_map]at h;cases e:cap[i]? with
 |none=>rw[e]at h;cases h
 |some o=>
  rw[e]at h;cases o with
  |none=>simp at h
  |some j=>
   refine⟨j,rfl,?_⟩;have h:(l[j]?).bind id=some x:=by simpa using h
   cases e2:l[j]? with
   |none=>rw[e2]at h;cases h
   |some o=>rw[e2]at h;simpa using h
theorem Mh{α:Type}{cap:List (Option Nat)}{l:List (Option α)}{x:α}(h:cap[i]? =some (some j))(h2:l[j]? =some (some x)):(cap.map λo=>o.bind λj=>(l[j]?).bind id)[i]? =some (some x):=by
 rw[List.getElem?_map,h];simp[h2]
theorem Rel.cap{cap:List (Option Nat)}(r:Rel G H W ob ρ σ):Rel G H W (obC cap ob) (fK cap ρ) (ig cap σ):=λi d e=>by
 obtain⟨j,h1,h2⟩:=BZ e;obtain⟨v,L,q1,q2,O⟩:=r j d h2;refine⟨v,L,Mh h1 q1,q2,λz=>O ?_⟩;unfold obC at z;rw[h1]at z;exact z
def CK(G:Gc)(ob own:Nat->Bool)(g:TG)(f:D->En->Option En):Prop:=∀(d:D)(ρ J:En),f d ρ=some J->∀(x:V)(σ:L2.St)(H:Hp)(W:Wn),Rep G H W d x []->Rel G H W ob ρ σ->σ.length=ρ.length->∀Q:L2.St->Hp->Prop,
 (∀F,Rel G H W ob J F->F.length=J.length->(∀j,own j=false->F[j]? =σ[j]?)->Q F H)->g x σ H Q
def yI(G:Gc)(ob own:Nat->Bool)(g:TGs)(f:List D->En->Option En):Prop:=∀(ds:List D)(ρ J:En),f ds ρ=some J->∀(xs:List V)(σ:L2.St)(H:Hp)(W:Wn),aF G H W ds xs []->Rel G H W ob ρ σ->σ.length=ρ.length->∀Q:L2.St->Hp->Prop,
 (∀F,Rel G H W ob J F->F.length=J.length->(∀j,own j=false->F[j]? =σ[j]?)->Q F H)->g xs σ H Q
structure DP{ι:Type}(X:ι->Cx)(G:Gc)(ob own:Nat->Bool)(tg:Expr)(f:D->En->Option En):Prop where
 mk::(ex:∃t,(∀c,PG (X c) tg t)/\CK G ob own t f)
structure Cw{ι:Type}(X:ι->Cx)(G:Gc)(ob own:Nat->Bool)(tg:List Expr)(f:List D->En->Option En):Prop where
 mk::(ex:∃t,(∀c,PGs (X c) tg t)/\yI G ob own t f)
def tpN(i:Nat):D->En->Option En:=λd ρ=>some (ρ.set i (some d))
def tpT(n:Nat)(g:List D->En->Option En):D->En->Option En:=λd ρ=>match d with
 |.tup ds=>if ds.length=n then g ds ρ else none
 |_=>none
theorem DR{own:Nat->Bool}(O:own i=true):CK G ob own (yZ i) (tpN i):=λd ρ N e x σ H W r V Y Q q=>by
 cases e;refine q _ (λj d' U=>?_) (by simp[Y]) λj U=>?_
 .by_cases e:i=j
  .subst e
   rw[aaL]at U;split at U
   .split at U
    .rename_i h2
     have:d=d':=by simpa using U
     subst this;exact⟨x,[],by simp[Y,h2],r,λ_ c J=>by cases J⟩
    .cases U
   .exact absurd rfl ‹_›
  .rw[UW e]at U
   obtain⟨v,L,h1,h2,F⟩:=V j d' U;exact⟨v,L,by rw[UW e];exact h1,h2,F⟩
 .have:i≠j:=λz=>by rw[←z,O]at U;cases U
  rw[UW this]
theorem Ed{own:Nat->Bool}:yI G ob own J_ bM:=λds ρ J e xs σ H W r V Y Q q=>by
 cases ds with
 |nil=>
  cases e;obtain⟨rfl,_⟩:=r.inv0;exact⟨rfl,q σ V Y λ_ _=>rfl⟩
 |cons d r=>cases e
variable{g:List D->En->Option En}
theorem Ai{own:Nat->Bool}{t:TG}{u:TGs}{f:D->En->Option En}(h1:CK G ob own t f)(h2:yI G ob own u g):yI G ob own (Ht t u) (aO f g):=λds ρ J e xs σ H W r V Y Q q=>by
 cases ds with
 |nil=>cases e
 |cons d ds=>
  obtain⟨x,ys,z,M2,rfl,hL,F,Z⟩:=r.inv;obtain⟨rfl,rfl⟩:z=[]/\M2=[]:=by simpa using hL.symm
  simp only[aO]at e;cases h3:f d ρ with
  |none=>rw[h3]at e;cases e
  |some ρ1=>
   have e:g ds ρ1=some J:=by simpa[h3]using e
   exact⟨x,ys,rfl,h1 d ρ ρ1 h3 x σ H W F V Y _ λN a1 a3 O=>h2 ds ρ1 J e ys N H W Z a1 a3 Q λσ2 a2 a0 k2=>q σ2 a2 a0 λj U=>(k2 j U).trans (O j U)⟩
theorem G5{own:Nat->Bool}{t:TGs}(h:yI G ob own t g):CK G ob own (QF G.K n t) (tpT n g):=λd ρ J e x σ H W r V Y Q q=>by
 cases d with
 |tup ds=>
  simp only[tpT]at e;split at e
  .rename_i hn
   rw[Rep]at r;obtain⟨a,xs,rfl,z,Z⟩:=r;exact⟨a,xs,rfl,SqT.of z,by rw[←Z.length];exact hn,h ds ρ J e xs σ H W Z V Y Q q⟩
  .cases e
 |_=>cases e
section
variable{ι:Type}{X:ι->Cx}{G:Gc}{ob own:Nat->Bool}
theorem dg(i:Nat){x:Str}{pos:Pos}(q:∀c,(X c).N.Nodup)(O:own i=true:=by rfl)(hi:∀c,(X c).N[i]? =some x:=by intro _;rfl)(F:∀c,Loc (X c).env.scope x:=by intro _;first|exact Xe rfl|exact Wg rfl)(Z:∀c,(X c).fn x=true∨(X c).env.scope.names.lookup x=some .local:=by intro _;first|exact .inl rfl|exact .inr rfl):DP X G ob own (.Name x pos) (tpN i):=⟨_,λc=>Bo (q c) (hi c) (F c) (Z c),DR O⟩
theorem vO:Cw X G ob own [] bM:=⟨_,λc=>Ci,Ed⟩
theorem lg{e:Expr}{es:List Expr}{f:D->En->Option En}{g:List D->En->Option En}(h1:DP X G ob own e f)(h2:Cw X G ob own es g)(O:∀c,(Vm (e::es) (X c).env).map (·.2)=YG e (X c).env::(Vm es (X c).env).map (·.2):=by intro _;rfl):Cw X G ob own (e::es) (aO f g):=
 let⟨t,a1,a2⟩:=h1.ex;let⟨u,b1,b2⟩:=h2.ex;⟨_,λc=>yl (a1 c) (b1 c) (O c),Ai a2 b2⟩
theorem yz{es:List Expr}{k n:Nat}{pos:Pos}{g:List D->En->Option En}(J:∀c,(X c).calm=true)(h:Cw X G ob own es g)(N:∀c,(Vm es (X c).env).length=n:=by intro _;rfl)(q:∀c,(Vm es (X c).env).findIdx? (·.1)=none:=by intro _;rfl)(F:∀c,(X c).K=G.K:=by intro _;rfl):DP X G ob own (.Tuple es k pos) (tpT n g):=
 let⟨t,a1,a2⟩:=h.ex;⟨_,λc=>(by rw[←F c];exact Gj (J c) (a1 c) (N c) (q c)),G5 a2⟩
structure Fq{ι:Type}(X:ι->Cx)(G:Gc)(ob:Nat->Bool)(ifs:List Expr)(f:En->Option Bool):Prop where
 mk::(ex:∃t,(∀c,PTs (X c) ifs t)/\RfT G ob t f)
def eTT:En->Option Bool:=λ_=>some true
theorem iK:Fq X G ob [] eTT:=⟨_,λc=>Lh,λρ b e σ H W V w Q q=>by cases e;exact q H (Same.refl H)⟩
theorem ux{c:Expr}{f:En->Option Bool}(h:PVT X G ob c f):Fq X G ob [c] f:=let⟨t,a1,a2⟩:=h.ex;⟨t,λc=>J7 (a1 c),a2⟩
def fL(tg:D->En->Option En)(c:En->Option Bool)(e:En->Option D)(ρ0:En):List D->Option (List D)
 |[]=>some []
 |d::r=>(tg d ρ0).bind λρ1=>(c ρ1).bind λb=>if b=true then(e ρ1).bind λx=>(fL tg c e ρ0 r).map λt=>x::t else fL tg c e ρ0 r
def cY(cap:List (Option Nat))(it:En->Option (Bool×List D))(tg:D->En->Option En)(c:En->Option Bool)(e:En->Option D):En->Option D:=λρ=>(it ρ).bind λp=>if p.2.length<=1000000 then(fL tg c e (fK cap ρ) p.2).map λys=>.lst .own ys else none
theorem six{n:Nat}(h:n<=1000000):n<Ui:=Nat.lt_of_le_of_lt h (by decide)
theorem Gx{cap:List (Option Nat)}{σ F:L2.St}(J:∀i:Nat,own i=true->cap[i]?≠none->cap[i]? =some none)(h:∀j,own j=false->F[j]? =(ig cap σ)[j]?):Kp (ig cap σ) F:=λi v e=>by
 cases O:own i with
 |false=>rw[h i O];exact e
 |true=>
  obtain⟨j,h1,_⟩:=BZ e;rw[J i O (by rw[h1];simp)]at h1;cases h1
theorem Av{cap:List (Option Nat)}{wi:TI}{g:TG}{tt:TT}{te:TE}{it:En->Option (Bool×List D)}{tg:D->En->Option En}{c:En->Option Bool}{e:En->Option D}(a8:∀i:Nat,own i=true->cap[i]?≠none->cap[i]? =some none)(hi:RfI G ob wi it)(hg:CK G (obC cap ob) own g tg)(ht:RfT G (obC cap ob) tt c)(N:RfE G (obC cap ob) te e):RfE G ob (Gn cap wi g tt te) (cY cap it tg c e):=λρ d ee σ H W rl w Q q=>by
 unfold cY at ee;cases h1:it ρ with
 |none=>simp[h1]at ee
 |some p=>
  obtain⟨b,items⟩:=p;rw[h1]at ee;simp only[Ua]at ee;split at ee
  .rename_i hlen
   cases h2:fL tg c e (fK cap ρ) items with
   |none=>simp[h2]at ee
   |some a3=>
    obtain rfl:D.lst .own a3=d:=by simpa[h2]using ee
    refine hi ρ b items h1 σ H W rl w _ λJ H1 Z wk=>?_;refine⟨λi m ys H2=>i+m=items.length/\ys.length<=i/\∃V L rest,Same H1 H2/\aF G H2 (W.add L) V ys L/\(∀a∈L,H1 a=none)/\L.Nodup/\WOk H2 (W.add L)/\fL tg c e (fK cap ρ) (items.drop i)=some rest/\V++rest=a3,⟨items.length,by omega,by simp,[],[],a3,Same.refl _,.nil,by simp,Va,?_,h2,rfl⟩,?_⟩
    .rw[qx];exact w.up Z
    rintro i m ys H2 ⟨b5,b4,V,L,rest,s2,ra,fa,na,wa,a0,a1⟩;have a5:Up H1 H2 W (W.add L):=Up.add s2 fa
    .by_cases hil:i<items.length
     .have hdr:=(Yj hil).symm
      rw[hdr,fL]at a0;refine .inr ⟨wk.go i items[i] (by simp[hil]) H2 _ (LtB.up a5),by have:=six hlen;omega,λa6 H'=>(i+1)+(m-1)=items.length/\a6.length<=i+1/\∃V L rest,Same H1 H'/\aF G H' (W.add L) V a6 L/\(∀a∈L,H1 a=none)/\L.Nodup/\WOk H' (W.add L)/\fL tg c e (fK cap ρ) (items.drop (i+1))=some rest/\V++rest=a3,λa6 H' h=>⟨m-1,by omega,h⟩,λx H3 hy=>?_⟩;obtain⟨s3,rx⟩:=wk.yld i items[i] (by simp[hil]) H2 _ (LtB.up a5) x H3 hy;cases F:tg items[i] (fK cap ρ)with
      |none=>simp[F]at a0
      |some ρ1=>
       rw[F]at a0;simp only[Ua]at a0;have b2:Rel G H3 (W.add L) (obC cap ob) (fK cap ρ) (ig cap σ):=(rl.cap).up ((Up.same Z).trans (a5.trans (Up.same s3)));have a4:=ra.up (Up.same s3 (W:=W.add L));have b0:WOk H3 (W.add L):=wa.up s3;refine hg items[i] _ ρ1 F x _ H3 (W.add L) rx b2 (by simp[fK,ig]) _ λσ2 a7 b6 k4=>⟨Gx a8 k4,?_⟩;cases h4:c ρ1 with
       |none=>simp[h4]at a0
       |some bb=>
        rw[h4]at a0;simp only[Ua]at a0;refine ht ρ1 bb h4 σ2 H3 (W.add L) a7 b0 _ λH4 s4=>?_;have b3:=a7.up (Up.same s4);have a9:=b0.up s4;cases bb with
        |false=>
         simp only[U0,VN]at a0;exact uM ⟨by omega,by omega,V,L,rest,((s2.trans s3).trans s4),a4.up (Up.same s4),fa,na,a9,a0,a1⟩
        |true=>
         simp only[Vj]at a0;cases h5:e ρ1 with
         |none=>simp[h5]at a0
         |some y=>
          cases h6:fL tg c e (fK cap ρ) (items.drop (i+1))with
          |none=>simp[h5,h6]at a0
          |some a2=>
           obtain rfl:y::a2=rest:=by simpa[h5,h6]using a0
           refine rQ (N ρ1 y h5 σ2 H4 (W.add L) b3 a9 _ λv H5 M s5 ry fy ny=>?_);have fM:∀a∈M,H1 a=none:=λa Y=>(((s2.trans s3).trans s4)).none' (fy a Y);have b1:∀a∈L,a∉M:=λa h1 h2=>by
            obtain⟨o,O,_⟩:=(a4.up (Up.same s4 (W:=W.add L))).dom a h1;rw[fy a h2]at O;cases O
           have u5:Up H4 H5 (W.add L) (W.add (L++M)):=⟨s5,λb u U f=>⟨λz=>z.elim (λz=>(T_.mp z).elim (λz=>f.1 (.inl z)) λz=>by rw[fy b z]at U;cases U) λz=>f.1 (.inr z),f.2⟩,λ_ _ _ f=>f⟩;have u6:Up H5 H5 ((W.add L).add M) (W.add (L++M)):=⟨Same.refl _,λb u U f=>⟨λz=>by
            rcases z with z|z
            .exact(T_.mp z).elim (λz=>f.1 (.inr (.inl z))) λz=>f.1 (.inl z)
            .exact f.1 (.inr (.inr z)),f.2⟩,λ_ _ _ f=>f⟩
           refine⟨by omega,by simp;omega,V++[y],L++M,a2,((s2.trans s3).trans s4).trans s5,((a4.up (Up.same s4)).up u5).append (.one (ry.up u6)),λa Y=>(T_.mp Y).elim (fa a) (fM a),dZ na ny b1,?_,rfl,by rw[←a1];simp⟩;exact w.add (((Z.trans s2).trans s3).trans s4 |>.trans s5) λa Y=>(T_.mp Y).elim (λz=>let⟨o,h,m⟩:=(a4.up (Up.same s4 (W:=W.add L))).dom a z;⟨o,s5 a o h,m⟩) (ry.dom a)
     .have hl:i=items.length:=by omega
      subst hl;rw[Xg,fL]at a0;cases a0;refine .inl ⟨wk.stop H2 _ (LtB.up a5),XX (six (by omega)),λp hp=>?_⟩;have sm:Same H2 (upd H2 p (.lst ys)):=Same.new hp;rw[UJ]at a1;subst a1;refine q (.ref p) _ (p::L) ((Z.trans s2).trans sm) ?_ (λa Y=>(Uj.mp Y).elim (λz=>by rw[z];exact(Z.trans s2).none' hp) λz=>Z.none' (fa a z)) (Uu.mpr ⟨λz=>?_,na⟩)
      .rw[Rep]
       exact⟨p,ys,L,rfl,ra.up ⟨sm,λb u U f=>⟨λz=>z.elim (λz=>(Uj.mp z).elim (λz=>by rw[z,hp]at U;cases U) λz=>f.1 (.inl z)) λz=>f.1 (.inr z),f.2⟩,λ_ _ _ f=>f⟩,aZ,rfl⟩
      .obtain⟨o,O,_⟩:=ra.dom p z
       rw[hp]at O;cases O
  .cases ee
end
section
variable{G:Gc}{ob own:Nat->Bool}{cap:List (Option Nat)}
def iG:List (Option Nat)->En->En->En
 |some j::cs,d::ds,ρ=>iG cs ds (ρ.set j d)
 |none::cs,_::ds,ρ=>iG cs ds ρ
 |_,_,ρ=>ρ
end
section
variable{ι:Type}{X:ι->Cx}{G:Gc}{ob own:Nat->Bool}
def Hj(cap:List (Option Nat))(tg:D->En->Option En)(c:En->Option Bool)(e:En->Option (D×En)):List D->En->Option (List D×En)
 |[],ρ=>some ([],ρ)
 |d::r,ρ=>(tg d (fK cap ρ)).bind λρ1=>(c ρ1).bind λb=>if b=true then(e ρ1).bind λp=>if clean p.1=true then(Hj cap tg c e r (iG cap p.2 ρ)).map λt=>(p.1::t.1,t.2)else none else Hj cap tg c e r ρ
def g_(cap:List (Option Nat))(it:En->Option (Bool×List D))(tg:D->En->Option En)(c:En->Option Bool)(e:En->Option (D×En)):En->Option (D×En):=λρ=>(it ρ).bind λp=>if p.1=true/\p.2.length<=1000000 then(Hj cap tg c e p.2 ρ).map λt=>(.lst .own t.1,t.2)else none
section
variable{elt target iter:Expr}{ifs:List Expr}{scope:Scope}{pos pos' pos2:Pos}{N':List Str}{it:En->Option (Bool×List D)}{tg:D->En->Option En}{fc:En->Option Bool}
theorem mY(cap:List (Option Nat))(own:Nat->Bool){fe:En->Option D}(F:∀c,(X c).xe=NoX)(J:∀c,(X c).calm=true)(O:∀c,dU (X c).env.scope (X c).N N' scope cap)(U:∀i:Nat,own i=true->cap[i]?≠none->cap[i]? =some none)(hi:PVI X G ob target iter it)(z:DP (InX X N' scope) G (obC cap ob) own target tg)(Y:Fq (InX X N' scope) G (obC cap ob) ifs fc)(q:PV (InX X N' scope) G (obC cap ob) elt fe)
  (V:∀c,∀x,Ww iter (X c).env x=pure x:=by intro _ _;rfl):PV X G ob (.ListComp elt [⟨target,iter,ifs,0⟩] scope pos) (cY cap it tg fc fe):=
 let⟨_,i1,i2⟩:=hi.ex;let⟨_,g1,g2⟩:=z.ex;let⟨_,t1,t2⟩:=Y.ex;let⟨_,e1,e2⟩:=q.ex
 ⟨_,λc=>Mf (F c) (J c) (O c) (i1 c) (λC s H fp=>g1 (c,C,s,H,fp)) (λC s H fp=>t1 (c,C,s,H,fp)) (λC s H fp=>e1 (c,C,s,H,fp)) (V c),Av U i2 g2 t2 e2⟩
variable{P:Nat->Bool}{x:Str}
theorem uw(i:Nat)(cap:List (Option Nat))(own:Nat->Bool){fe:En->Option D}(q:∀c,(X c).N.Nodup)(F:∀c,(X c).xe=NoX)(J:∀c,(X c).calm=true)(O:∀c,dU (X c).env.scope (X c).N N' scope cap)(U:∀i:Nat,own i=true->cap[i]?≠none->cap[i]? =some none)(hi:PVI X G ob target iter it)(z:DP (InX X N' scope) G (obC cap ob) own target tg)(ht:Fq (InX X N' scope) G (obC cap ob) ifs fc)(he:PV (InX X N' scope) G (obC cap ob) elt fe)
  (hP:P i=false:=by rfl) (a0:∀c,(X c).N[i]? =some x:=by intro _;rfl) (Y:∀c,Loc (X c).env.scope x:=by intro _;first|exact Xe rfl|exact Wg rfl) (V:∀c,Yd (.ListComp elt [⟨target,iter,ifs,0⟩] scope pos) (some (.Name x pos')) pos2.line (X c).env=pure true:=by intro _;rfl) (hs:∀c,∀x,Ww iter (X c).env x=pure x:=by intro _ _;rfl)
  (Z:∀c,(X c).fn x=true∨(X c).env.scope.names.lookup x=some .local:=by intro _;first|exact .inl rfl|exact .inr rfl):PVS X G ob P (.Assign [.Name x pos'] (.ListComp elt [⟨target,iter,ifs,0⟩] scope pos) pos2) (cA (cY cap it tg fc fe) (tgN i)):=
 let⟨_,i1,i2⟩:=hi.ex;let⟨_,g1,g2⟩:=z.ex;let⟨_,t1,t2⟩:=ht.ex;let⟨_,e1,e2⟩:=he.ex
 ⟨_,λc=>JN (F c) (J c) (q c) (a0 c) (Y c) (O c) (i1 c) (λC s H fp=>g1 (c,C,s,H,fp)) (λC s H fp=>t1 (c,C,s,H,fp)) (λC s H fp=>e1 (c,C,s,H,fp)) (V c) (hs c) (Z c),by rw[←zU];exact kZ (yH (Av U i2 g2 t2 e2)) (h_ hP)⟩
end
end
inductive Sc:Dt->Dt->Prop
 |bl (a b:Bool):Sc (.bl a) (.bl b)
 |int (a b:Int):Sc (.int a) (.int b)
 |str (a b:Str):Sc (.str a) (.str b)
 |non:Sc .non .non
def Flt(d e:Dt):Prop:=∃a b,d= .tup a/\e= .tup b/\∀p∈a.zip b,Sc p.1 p.2
def Rf(d e:Dt):Prop:=∃a b,d= .lst a/\e= .lst b/\∀p∈a.zip b,Sc p.1 p.2
inductive Alk:Dt->Dt->Prop
 |sc {d e:Dt}:Sc d e->Alk d e
 |lst {a b:List Dt}:(∀p∈a.zip b,Sc p.1 p.2)->Alk (.lst a) (.lst b)
 |tup {a b:List Dt}:(∀p∈a.zip b,Sc p.1 p.2)->Alk (.tup a) (.tup b)
 |deep {a b:List Dt}:(∀p∈a.zip b,Flt p.1 p.2)->Alk (.lst a) (.lst b)
 |deepL {a b:List Dt}:(∀p∈a.zip b,Rf p.1 p.2)->Alk (.lst a) (.lst b)
 |deepT {a b:List Dt}:(∀p∈a.zip b,Flt p.1 p.2)->Alk (.tup a) (.tup b)
section
variable{X:Cx}{pins:List (Addr×Obj)}{σ:L2.St}{H:Hp}{s:Shared}{A:Around}
open PySem.SeqAt
theorem BX{d e:Dt}{v u:V}{z Y:Value}(h:Sc d e)(h1:Brs X.K H d v)(h2:Brs X.K H e u)(J:RelV v z)(q:RelV u Y):EqAt A s z Y (eqD d e)/\RcAt A s z Y (eqD d e)/\RcNeAt A s z Y (!eqD d e):=by
 cases h<;>simp only[Brs]at h1 h2<;>subst h1 h2
 case bl a b=>cases J;cases q;exact⟨EqAt.bool_bool a b,RcAt.bool_bool a b,RcNeAt.bool_bool a b⟩
 case int a b=>obtain⟨t,rfl⟩:=J;obtain⟨t',rfl⟩:=q;exact⟨EqAt.int_int a t b t',RcAt.int_int a t b t',RcNeAt.int_int a t b t'⟩
 case non=>cases J;cases q;exact⟨ac1 _,RcAt.none_none,RcNeAt.none_none⟩
 case str a b=>obtain⟨t,rfl⟩:=J;obtain⟨t',rfl⟩:=q;exact⟨EqAt.str_str a t b t',RcAt.str_str a t b t',RcNeAt.str_str a t b t'⟩
theorem uI{R:Dt->Dt->Prop}(J:∀{d e:Dt}{v u:V}{z Y:Value},R d e->Brs X.K H d v->Brs X.K H e u->RelV v z->RelV u Y->EqAt A s z Y (eqD d e)):∀{ds es:List Dt}{ys xs:List V}{F its:List Value},(∀p∈ds.zip es,R p.1 p.2)->jd X.K H ds ys->jd X.K H es xs->Vals ys F->Vals xs its->
  ∀j (h1:j<F.toArray.size)(h2:j<its.toArray.size),EqAt A s F.toArray[j] its.toArray[j] (eqJ ds es j)
 |[],es,ys,xs,F,its,_,h,h',r,r',j,h1,h2=>by
  simp only[jd]at h;subst h;cases r;simp at h1
 |d::ds,[],ys,xs,F,its,_,h,h',r,r',j,h1,h2=>by
  simp only[jd]at h';subst h';cases r';simp at h2
 |d::ds,e::es,ys,xs,F,its,ha,h,h',r,r',j,h1,h2=>by
  simp only[jd]at h h';obtain⟨y,q,rfl,hd,Z⟩:=h;obtain⟨x,a2,rfl,N,U⟩:=h';cases r with
  |cons O rb=>
   cases r' with
   |cons a0 a1=>
    cases j with
    |zero=>exact J (ha (d,e) (by simp)) hd N O a0
    |succ j=>exact uI J (λp hp=>ha p (by simp[hp])) Z U rb a1 j (by simpa using h1) (by simpa using h2)
theorem ww(I:Inv X pins σ H s){R:Dt->Dt->Prop}(hR:∀{d e:Dt}{v u:V}{z u':Value},R d e->Brs X.K H d v->Brs X.K H e u->RelV v z->RelV u u'->EqAt A.in1 s z u' (eqD d e)){ds es:List Dt}{v u:V}{z u':Value}(h:∀p∈ds.zip es,R p.1 p.2)(h1:Brs X.K H (.lst ds) v)(h2:Brs X.K H (.lst es) u)(J:RelV v z)(q:RelV u u')(hz:A.units<cLine):RcAt A s z u' (eqD (.lst ds) (.lst es))/\RcNeAt A s z u' (!eqD (.lst ds) (.lst es)):=by
 simp only[Brs]at h1 h2;obtain⟨U,a7,rfl,a6,Z⟩:=h1;obtain⟨O,a8,rfl,a5,F⟩:=h2;cases J;cases q;obtain⟨a0,a4,p1,_⟩:=I.list a6;obtain⟨N,a3,p2,_⟩:=I.list a5;have l1:=Z.length;have l2:=F.length;have l3:=a4.length;have l4:=a3.length;rw[show eqD (.lst ds) (.lst es)=eqL ds es by simp[eqD]];by_cases Y:ds.length=es.length
 .have e1:a0.toArray.size=N.toArray.size:=by rw[List.size_toArray,List.size_toArray];omega
  have e2:ds.length=a0.toArray.size:=by rw[List.size_toArray];omega
  rw[←xm Y,e2];exact⟨RcAt.lists p1.isList p2.isList e1 hz (uI hR h Z F a4 a3),RcNeAt.lists p1.isList p2.isList e1 hz (uI hR h Z F a4 a3)⟩
 .have e1:(a0.toArray.size !=N.toArray.size)=true:=by rw[List.size_toArray,List.size_toArray];exact bne_iff_ne.mpr (by omega)
  rw[wV Y];exact⟨RcAt.lists_lengths p1.isList p2.isList e1 hz,RcNeAt.lists_lengths p1.isList p2.isList e1 hz⟩
theorem Ba(I:Inv X pins σ H s){R:Dt->Dt->Prop}(hR:∀{d e:Dt}{v u:V}{z u':Value},R d e->Brs X.K H d v->Brs X.K H e u->RelV v z->RelV u u'->EqAt A.in1 s z u' (eqD d e)){ds es:List Dt}{v u:V}{z u':Value}(h:∀p∈ds.zip es,R p.1 p.2)(h1:Brs X.K H (.tup ds) v)(h2:Brs X.K H (.tup es) u)(J:RelV v z)(q:RelV u u')(hz:A.units<cLine):RcAt A s z u' (eqD (.tup ds) (.tup es))/\RcNeAt A s z u' (!eqD (.tup ds) (.tup es)):=by
 simp only[Brs]at h1 h2;obtain⟨U,a7,rfl,a6,Z⟩:=h1;obtain⟨O,a8,rfl,a5,F⟩:=h2;cases J;cases q;obtain⟨a0,a4,p1,_⟩:=I.tuple a6;obtain⟨N,a3,p2,_⟩:=I.tuple a5;have l1:=Z.length;have l2:=F.length;have l3:=a4.length;have l4:=a3.length;have e:eqD (.tup ds) (.tup es)=((V1 (min a0.toArray.size N.toArray.size)).all (eqJ ds es)&&a0.toArray.size==N.toArray.size):=by
  rw[show eqD (.tup ds) (.tup es)=eqL ds es by simp[eqD],List.size_toArray,List.size_toArray];by_cases Y:ds.length=es.length
  .rw[show min a0.length N.length=ds.length by omega,xm Y,show(a0.length==N.length)=true by simp;omega,Bool.and_true]
  .rw[wV Y,show(a0.length==N.length)=false by simp;omega,Bool.and_false]
 rw[e];exact⟨RcAt.tuples p1 p2 hz (uI hR h Z F a4 a3),RcNeAt.tuples p1 p2 hz (uI hR h Z F a4 a3)⟩
theorem Hm(I:Inv X pins σ H s){ds es:List Dt}{v u:V}{z Y:Value}(h:∀p∈ds.zip es,Sc p.1 p.2)(h1:Brs X.K H (.tup ds) v)(h2:Brs X.K H (.tup es) u)(J:RelV v z)(q:RelV u Y)(hz:A.units<cLine):RcAt A s z Y (eqD (.tup ds) (.tup es))/\RcNeAt A s z Y (!eqD (.tup ds) (.tup es)):=
 Ba I (λh a b c d=>(BX h a b c d).1) h h1 h2 J q hz
theorem wC{K:Ub}:∀{ds es:List Dt}{xs:List V},(∀p∈ds.zip es,Sc p.1 p.2)->jd K H ds xs->jd K H es xs->eqL ds es=true
 |[],[],_,_,_,_=>by simp[eqL]
 |[],_::_,_,_,h,h'=>by simp only[jd]at h;subst h;simp[jd]at h'
 |_::_,[],_,_,h,h'=>by simp only[jd]at h';subst h';simp[jd]at h
 |d::r,e::q,_,ha,h,h'=>by
  simp only[jd]at h h';obtain⟨x,ys,rfl,hd,Z⟩:=h;obtain⟨_,_,e1,N,U⟩:=h';cases e1;rw[eqL,wC (λp z=>ha p (by simp[z])) Z U,Bool.and_true];have O:=ha (d,e) (by simp);dsimp only at O;cases O<;>simp only[Brs]at hd N<;>rw[hd]at N<;>first|(cases N;simp[eqD])|simp[eqD]
theorem H9(I:Inv X pins σ H s)(hz:A.units<cLine){d e:Dt}{v u:V}{z Y:Value}(h:Flt d e)(h1:Brs X.K H d v)(h2:Brs X.K H e u)(J:RelV v z)(q:RelV u Y):EqAt A s z Y (eqD d e):=by
 obtain⟨a,b,rfl,rfl,h⟩:=h;have O:=(Hm I h h1 h2 J q hz).1;simp only[Brs]at h1 h2;obtain⟨U,a5,rfl,a3,Z⟩:=h1;obtain⟨a2,a4,rfl,a0,F⟩:=h2;cases J;cases q;by_cases N:U=a2
 .subst N
  obtain rfl:=I.tuple_inj a3 a0;rw[show eqD (.tup a) (.tup b)=true by rw[eqD];exact wC h Z F];exact ac1 _
 .exact EqAt.of_refs N O
theorem JC(I:Inv X pins σ H s)(hz:A.units<cLine){d e:Dt}{v u:V}{z Y:Value}(h:Rf d e)(h1:Brs X.K H d v)(h2:Brs X.K H e u)(J:RelV v z)(q:RelV u Y):EqAt A s z Y (eqD d e):=by
 obtain⟨a,b,rfl,rfl,h⟩:=h;have O:=(ww I (λh a b c d=>(BX h a b c d).1) h h1 h2 J q hz).1;simp only[Brs]at h1 h2;obtain⟨U,a5,rfl,a3,Z⟩:=h1;obtain⟨a2,a4,rfl,a0,F⟩:=h2;cases J;cases q;by_cases N:U=a2
 .subst N
  obtain rfl:=I.list_inj a3 a0;rw[show eqD (.lst a) (.lst b)=true by rw[eqD];exact wC h Z F];exact ac1 _
 .exact EqAt.of_refs N O
theorem HW(I:Inv X pins σ H s){d e:Dt}{v u:V}{z Y:Value}(h:Alk d e)(h1:Brs X.K H d v)(h2:Brs X.K H e u)(J:RelV v z)(q:RelV u Y)(hz:A.units+1<cLine):RcAt A s z Y (eqD d e)/\RcNeAt A s z Y (!eqD d e):=by
 cases h with
 |sc h=>exact(BX h h1 h2 J q).2
 |lst h=>exact ww I (λh a b c d=>(BX h a b c d).1) h h1 h2 J q (by omega)
 |tup h=>exact Hm I h h1 h2 J q (by omega)
 |deepL h=>exact ww I (λh a b c d=>JC I (show A.units+1<cLine from hz) h a b c d) h h1 h2 J q (by omega)
 |deepT h=>exact Ba I (λh a b c d=>H9 I (show A.units+1<cLine from hz) h a b c d) h h1 h2 J q (by omega)
 |deep h=>exact ww I (λh a b c d=>H9 I (show A.units+1<cLine from hz) h a b c d) h h1 h2 J q (by omega)
def RG(K:Ub)(A:Vu):R2:=λx y H Q=>∃d e,Alk d e/\Brs K H d x/\Brs K H e y/\A.units+1<cLine/\Q (.bl (eqD d e)) H
def R7(K:Ub)(A:Vu):R2:=λx y H Q=>∃d e,Alk d e/\Brs K H d x/\Brs K H e y/\A.units+1<cLine/\Q (.bl (!eqD d e)) H
theorem Qq:OpR X (U4 .Eq) (RG X.K X.A):=by
 intro pins s σ H x y v u Q I rx J ⟨d,e,h,h1,h2,O,q⟩;exact(HW I h h1 h2 rx J O).1 _ _ _ _ ⟨.bl (eqD d e),H,I,rfl,q⟩
theorem Ow:OpR X (U4 .NotEq) (R7 X.K X.A):=by
 intro pins s σ H x y v u Q I rx J ⟨d,e,h,h1,h2,O,q⟩;exact(HW I h h1 h2 rx J O).2 _ _ _ _ ⟨.bl (!eqD d e),H,I,rfl,q⟩
end
theorem OpR.or{f:Value->Value->Sem Value}{r N:R2}(h:OpR Y f r)(h':OpR Y f N):OpR Y f (λx y H Q=>r x y H Q∨N x y H Q):=λpins s σ H x y v u Q I rx J q=>q.elim (h pins s σ H x y v u Q I rx J) (h' pins s σ H x y v u Q I rx J)
theorem eU.or{f:Value}{N:List V->Hp->VK->Prop}(h:eU Y f r)(h':eU Y f N):eU Y f (λxs H Q=>r xs H Q∨N xs H Q):=λpins s σ H xs us Q I Z q=>q.elim (h pins s σ H xs us Q I Z) (h' pins s σ H xs us Q I Z)
variable{i:Int}
theorem cg:Rep G H W (.int i) (.int i) []:=by rw[Rep];exact⟨rfl,rfl⟩
theorem wH{i:Str}:Rep G H W (.str i) (.str i) []:=by rw[Rep];exact⟨rfl,rfl⟩
theorem eY{i:Bool}:Rep G H W (.bl i) (.bl i) []:=by rw[Rep];exact⟨rfl,rfl⟩
theorem aX(r:Rep G H W (.int i) v L):v= .int i/\L=[]:=by rw[Rep]at r;exact r
theorem cV{i:Str}(r:Rep G H W (.str i) v L):v= .str i/\L=[]:=by rw[Rep]at r;exact r
theorem lz{i:Bool}(r:Rep G H W (.bl i) v L):v= .bl i/\L=[]:=by rw[Rep]at r;exact r
variable{g:Int->Int->V}{z:D->D->Option D}
theorem Bb{C:Int->Int->Prop}(h:∀dx Y d,z dx Y=some d->∃i j,dx= .int i/\Y= .int j/\C i j/\∀H W,Rep G H W d (g i j) []):OpV G (rI C g) z:=λdx Y d e x y H W O Ly rx F nd N w Q q=>by
 obtain⟨i,j,rfl,rfl,J,Z⟩:=h dx Y d e;obtain⟨rfl,rfl⟩:=aX rx;obtain⟨rfl,rfl⟩:=aX F;exact⟨i,j,rfl,rfl,J,q.scal (λW=>Z H W)⟩
theorem wL(h:∀dx Y d,z dx Y=some d->∃i j,dx= .int i/\Y= .int j/\∀H W,Rep G H W d (g i j) []):OpV G (rI0 g) z:=λdx Y d e x y H W F Ly rx J nd N w Q q=>by
 obtain⟨i,j,rfl,rfl,Z⟩:=h dx Y d e;obtain⟨rfl,rfl⟩:=aX rx;obtain⟨rfl,rfl⟩:=aX J;exact⟨i,j,rfl,rfl,q.scal (λW=>Z H W)⟩
def sO:D->D->Option D
 |.int a,.int b=>some (.int (a-b))
 |_,_=>none
def qM:D->D->Option D
 |.int a,.int b=>if(-(2 ^ 64)<a/\a<2 ^ 64)∨(-(2 ^ 64)<b/\b<2 ^ 64)then some (.int (a*b))else none
 |_,_=>none
def km:D->D->Option D
 |.int a,.int b=>if 0<b/\b<18446744073709551616 then some (.int (a / b))else none
 |_,_=>none
def j5:D->D->Option D
 |.int a,.int b=>if 0<b then some (.int (a % b))else none
 |_,_=>none
def Ek:D->D->Option D
 |.int a,.int b=>if 0<=b/\b<=1000000/\a.natAbs<2 ^ 64 then some (.int (a ^ b.toNat))else none
 |_,_=>none
theorem Ii:OpB X G (V6 .Sub) sO:=⟨_,λc=>N6,wL λdx Y d e=>by
 unfold sO at e;split at e
 .cases e;exact⟨_,_,rfl,rfl,λ_ _=>cg⟩
 .cases e⟩
theorem oN:OpB X G (V6 .Mult) qM:=⟨_,λc=>Oe,Bb λdx Y d e=>by
 unfold qM at e;split at e
 .split at e
  .cases e;exact⟨_,_,rfl,rfl,‹_›,λ_ _=>cg⟩
  .cases e
 .cases e⟩
theorem mW:OpB X G (V6 .FloorDiv) km:=⟨_,λc=>Gq,Bb λdx Y d e=>by
 unfold km at e;split at e
 .split at e
  .cases e;exact⟨_,_,rfl,rfl,‹_›,λ_ _=>cg⟩
  .cases e
 .cases e⟩
theorem ju:OpB X G (V6 .Mod) j5:=⟨_,λc=>Qu,Bb λdx Y d e=>by
 unfold j5 at e;split at e
 .split at e
  .cases e;exact⟨_,_,rfl,rfl,‹_›,λ_ _=>cg⟩
  .cases e
 .cases e⟩
theorem Qw:OpB X G (V6 .Pow) Ek:=⟨_,λc=>QJ,Bb λdx Y d e=>by
 unfold Ek at e;split at e
 .split at e
  .cases e;exact⟨_,_,rfl,rfl,‹_›,λ_ _=>cg⟩
  .cases e
 .cases e⟩
def j6:D->Option D
 |.int a=>some (.int (-a))
 |_=>none
theorem lE:UnB X G (unaryOp .USub) j6:=⟨_,λc=>N7,λdx d e x H W Z rx nd N w Q q=>by
 unfold j6 at e;split at e
 .cases e
  obtain⟨rfl,rfl⟩:=aX rx;exact⟨_,rfl,q.scal λW=>cg⟩
 .cases e⟩
def gQ:D->D->Option D
 |.int a,.int b=>some (.int (a+b))
 |.str a,.str b=>if a.length+b.length<=Ui then some (.str (a++b))else none
 |.lst m a,.lst n b=>if m≠.scr/\n≠.scr/\a.length+b.length<=1000000 then some (.lst .own (a++b))else none
 |.tup a,.tup b=>if a.length+b.length<=1000000 then some (.tup (a++b))else none
 |_,_=>none
theorem v4{dx Y:List D}{ys:List V}{Z Ly J My:List Addr}(F:aF G H W dx xs J)(O:aF G H W Y ys My)(sx:V5 J Z)(sy:V5 My Ly)(N:∀a∈Z++Ly,W.tmp a)(s:Same H H')(q:List Addr)(he:∀a∈q,H a=none):aF G H' ((W.drop (Z++Ly)).add (q++(J++My))) (dx++Y) (xs++ys) (J++My):=by
 refine(F.append O).up ⟨s,λb u U f=>⟨λz=>z.elim (λz=>?_) λz=>f.1 z.1,f.2⟩,λ_ _ _ f=>f⟩;rcases T_.mp z with z|z
 .rw[he b z]at U;cases U
 .rcases T_.mp z with z|z
  .exact f.1 (N b (Uh _ (sx.subset z))).1
  .exact f.1 (N b (T9 _ (sy.subset z))).1
def SX(K:Ub):R2:=λx y H Q=>((rI0 (λi j=>.int (i+j)) x y H Q∨(∃i j,x= .str i/\y= .str j/\i.length+j.length<=Ui/\Q (.str (i++j)) H))∨Q4 x y H Q)∨Hx K x y H Q
theorem Kw:OpV G (SX G.K) gQ:=λdx Y d e x y H W Lx Ly rx ry nd N w Q q=>by
 unfold gQ at e;split at e
 .cases e
  obtain⟨rfl,rfl⟩:=aX rx;obtain⟨rfl,rfl⟩:=aX ry;exact .inl (.inl (.inl ⟨_,_,rfl,rfl,q.scal λ_=>cg⟩))
 .split at e
  .cases e
   obtain⟨rfl,rfl⟩:=cV rx;obtain⟨rfl,rfl⟩:=cV ry;exact .inl (.inl (.inr ⟨_,_,rfl,rfl,‹_›,q.scal λ_=>wH⟩))
  .cases e
 .rename_i m a n b
  split at e
  .rename_i J
   cases e;rw[Rep]at rx ry;obtain⟨p,xs,Mx,rfl,F,sx⟩:=rx;obtain⟨p',ys,My,rfl,hy,sy⟩:=ry;refine .inl (.inr ⟨p,p',xs,ys,rfl,rfl,sx.at J.1,sy.at J.2.1,by rw[←F.length,←hy.length];exact XX (six J.2.2),λr Z=>?_⟩);have sm:Same H (upd H r (.lst (xs++ys))):=Same.new Z;have nr:r∉Mx++My:=λz=>by
    obtain⟨o,O,_⟩:=(F.append hy).dom r z;rw[Z]at O;cases O
   have U:(Mx++My).Nodup:=(sx.sub.append sy.sub).nodup nd;refine q (.ref r) _ (r::(Mx++My)) sm ?_ (λc J=>?_) (Uu.mpr ⟨nr,U⟩)
   .rw[Rep]
    exact⟨r,xs++ys,Mx++My,rfl,v4 F hy sx.sub sy.sub N sm [r] (by simpa using Z),aZ,rfl⟩
   .rcases Uj.mp J with z|z
    .exact .inr (by rw[z];exact Z)
    .exact .inl ((sx.sub.append sy.sub).subset z)
  .cases e
 .rename_i a b
  split at e
  .rename_i J
   cases e;rw[Rep]at rx ry;obtain⟨p,xs,rfl,V,F⟩:=rx;obtain⟨p',ys,rfl,a0,hy⟩:=ry;have base:∀H' p2,Same H H'->H' p2=some (.tup (xs++ys))->Q (.ref p2) H':=λH' p2 sm hq=>by
    refine q (.ref p2) H' (Lx++Ly) sm ?_ (λc J=>.inl J) nd;rw[Rep];exact⟨p2,xs++ys,rfl,hq,v4 F hy (W_ _) (W_ _) N sm [] (by simp)⟩
   refine .inr ⟨p,p',xs,ys,rfl,rfl,SqT.of V,SqT.of a0,by rw[←F.length,←hy.length];exact XX (six J),λz=>base H p' (Same.refl H) (by rw[z];exact a0),λ_ z=>base H p (Same.refl H) (by rw[z,UJ];exact V),λ_ _ r Z=>base _ r (Same.new Z) aZ⟩
  .cases e
 .cases e
theorem gZ(F:∀c,(X c).K=G.K:=by intro _;rfl):OpB X G (V6 .Add) gQ:=⟨_,λc=>by rw[←F c];exact OpR.or (OpR.or (OpR.or Nx zA) NP) Fy,Kw⟩
def gLt:D->D->Option D
 |.int a,.int b=>some (.bl (decide (a<b)))
 |.str a,.str b=>some (.bl (decide (a.cps.toList<b.cps.toList)))
 |_,_=>none
def gLe:D->D->Option D
 |.int a,.int b=>some (.bl (decide (a<=b)))
 |_,_=>none
def gGt:D->D->Option D
 |.int a,.int b=>some (.bl (decide (b<a)))
 |_,_=>none
def gGe:D->D->Option D
 |.int a,.int b=>some (.bl (decide (b<=a)))
 |_,_=>none
theorem Bt:OpB X G (U4 .Lt) gLt:=⟨_,λc=>OpR.or R3 Ds,λdx Y d e x y H W Z Ly rx J nd N w Q q=>by
 unfold gLt at e;split at e
 .cases e
  obtain⟨rfl,rfl⟩:=aX rx;obtain⟨rfl,rfl⟩:=aX J;exact .inl ⟨_,_,rfl,rfl,q.scal λ_=>eY⟩
 .cases e
  obtain⟨rfl,rfl⟩:=cV rx;obtain⟨rfl,rfl⟩:=cV J;exact .inr ⟨_,_,rfl,rfl,q.scal λ_=>eY⟩
 .cases e⟩
theorem Cv:OpB X G (U4 .LtE) gLe:=⟨_,λc=>Rb,wL λdx Y d e=>by
 unfold gLe at e;split at e
 .cases e;exact⟨_,_,rfl,rfl,λ_ _=>eY⟩
 .cases e⟩
theorem xQ:OpB X G (U4 .Gt) gGt:=⟨_,λc=>Q7,wL λdx Y d e=>by
 unfold gGt at e;split at e
 .cases e;exact⟨_,_,rfl,rfl,λ_ _=>eY⟩
 .cases e⟩
theorem QZ:OpB X G (U4 .GtE) gGe:=⟨_,λc=>Rt,wL λdx Y d e=>by
 unfold gGe at e;split at e
 .cases e;exact⟨_,_,rfl,rfl,λ_ _=>eY⟩
 .cases e⟩
def iD:D->Bool
 |.non=>true
 |_=>false
def gIs:D->D->Option D
 |x,.non=>some (.bl (iD x))
 |_,_=>none
def g8:D->D->Option D
 |x,.non=>some (.bl (!iD x))
 |_,_=>none
theorem vH(r:Rep G H W d v L):decide (v= .non)=iD d:=by
 cases d<;>rw[Rep]at r
 case non=>obtain⟨rfl,_⟩:=r;rfl
 case bl=>obtain⟨rfl,_⟩:=r;rfl
 case int=>obtain⟨rfl,_⟩:=r;rfl
 case str=>obtain⟨rfl,_⟩:=r;rfl
 case ty=>obtain⟨rfl,_⟩:=r;rfl
 case tup=>obtain⟨a,xs,rfl,_⟩:=r;rfl
 case lst=>obtain⟨a,xs,M,rfl,_⟩:=r;rfl
 case dct=>obtain⟨a,xs,M,rfl,_⟩:=r;rfl
 case ins=>obtain⟨a,C,dx,xs,M,rfl,_⟩:=r;rfl
theorem Nr:OpB X G (U4 .Is) gIs:=⟨_,λc=>Qd,λdx Y d e x y H W Z Ly rx J nd N w Q q=>by
 unfold gIs at e;split at e
 .cases e
  rw[Rep]at J;exact⟨J.1,by rw[vH rx];exact q.scal λ_=>eY⟩
 .cases e⟩
theorem qd:OpB X G (U4 .IsNot) g8:=⟨_,λc=>Jq,λdx Y d e x y H W Z Ly rx J nd N w Q q=>by
 unfold g8 at e;split at e
 .cases e
  rw[Rep]at J;exact⟨J.1,by rw[vH rx];exact q.scal λ_=>eY⟩
 .cases e⟩
mutual
noncomputable def dt:D->Dt
 |.non=>.non
 |.bl b=>.bl b
 |.int i=>.int i
 |.str x=>.str x
 |.tup ds=>.tup (dtL ds)
 |.lst _ ds=>.lst (dtL ds)
 |_=>.non
noncomputable def dtL:List D->List Dt
 |[]=>[]
 |d::r=>dt d::dtL r
end
mutual
noncomputable def Dl:D->Bool
 |.ty _=>false
 |.dct _ _ _=>false
 |.ins _ _ _ _=>false
 |.tup ds=>yp ds
 |.lst _ ds=>yp ds
 |_=>true
noncomputable def yp:List D->Bool
 |[]=>true
 |d::r=>Dl d&&yp r
end
mutual
theorem Rep.brs{H:Hp}{W:Wn}:∀{d:D}{v:V}{L:List Addr},Rep G H W d v L->Dl d=true->Brs G.K H (dt d) v
 |.non,v,L,r,_=>by rw[Rep]at r;simp[dt,Brs,r]
 |.bl _,v,L,r,_=>by rw[Rep]at r;simp[dt,Brs,r]
 |.int _,v,L,r,_=>by rw[Rep]at r;simp[dt,Brs,r]
 |.str _,v,L,r,_=>by rw[Rep]at r;simp[dt,Brs,r]
 |.ty _,v,L,r,h=>by cases h
 |.dct _ _ _,v,L,r,h=>by cases h
 |.ins _ _ _ _,v,L,r,h=>by cases h
 |.tup ds,v,L,r,h=>by
  rw[Rep]at r;obtain⟨a,xs,rfl,Y,Z⟩:=r;rw[dt,Brs];exact⟨a,xs,rfl,SqT.of Y,aF.brs Z h⟩
 |.lst m ds,v,L,r,h=>by
  rw[Rep]at r;obtain⟨a,xs,M,rfl,Z,O⟩:=r;rw[dt,Brs];exact⟨a,xs,rfl,O.sq,aF.brs Z h⟩
theorem aF.brs{H:Hp}{W:Wn}:∀{ds:List D}{vs:List V}{L:List Addr},aF G H W ds vs L->yp ds=true->jd G.K H (dtL ds) vs
 |[],vs,L,r,_=>by obtain⟨rfl,_⟩:=r.inv0;simp[dtL,jd]
 |d::r,vs,L,hr,h=>by
  obtain⟨x,ys,M,M',rfl,rfl,h1,h2⟩:=hr.inv;rw[yp,UT]at h;rw[dtL,jd];exact⟨x,ys,rfl,Rep.brs h1 h.1,aF.brs h2 h.2⟩
end
open Classical in
def gEq:D->D->Option D:=λx y=>if Dl x=true/\Dl y=true/\Alk (dt x) (dt y)then some (.bl (eqD (dt x) (dt y)))else none
open Classical in
def gNe:D->D->Option D:=λx y=>if Dl x=true/\Dl y=true/\Alk (dt x) (dt y)then some (.bl (!eqD (dt x) (dt y)))else none
theorem cb_eq(A:Vu)(V:∀c,(X c).A=A)(O:A.units+64<cLine)(F:∀c,(X c).K=G.K:=by intro _;rfl):OpB X G (U4 .Eq) gEq:=⟨RG G.K A,λc=>by rw[←F c,←V c];exact Qq,λdx Y d e x y H W Z Ly rx J nd N w Q q=>by
 unfold gEq at e;split at e
 .rename_i hc
  cases e;exact⟨_,_,hc.2.2,rx.brs hc.1,J.brs hc.2.1,by omega,q.scal λ_=>eY⟩
 .cases e⟩
theorem yL(A:Vu)(V:∀c,(X c).A=A)(O:A.units+64<cLine)(F:∀c,(X c).K=G.K:=by intro _;rfl):OpB X G (U4 .NotEq) gNe:=⟨R7 G.K A,λc=>by rw[←F c,←V c];exact Ow,λdx Y d e x y H W Z Ly rx J nd N w Q q=>by
 unfold gNe at e;split at e
 .rename_i hc
  cases e;exact⟨_,_,hc.2.2,rx.brs hc.1,J.brs hc.2.1,by omega,q.scal λ_=>eY⟩
 .cases e⟩
def gIx:D->D->Option D
 |.lst _ ds,.int i=>atI ds i
 |.tup ds,.int i=>atI ds i
 |.str z,.int i=>if z.length<=Ui then(atI z.cps.toList i).map λc=>.str ⟨#[c]⟩else none
 |.dct _ ks ds,k=>(cZ k).bind λk=>(dR ks k).bind λj=>ds[j]?
 |_,_=>none
theorem GR(Z:aF G H W ds xs L)(e:atI ds i=some d):∃j:Nat,ds[j]? =some d/\∀x,xs[j]? =some x->atI xs i=some x:=by
 unfold atI at e⊢;rw[←Z.length];cases h:ixN ds.length i with
 |none=>simp[h]at e
 |some j=>
  refine⟨j,by simpa[h]using e,λx F=>by simpa using F⟩
variable{x:V}
theorem mX{Z Ly:List Addr}(r:Rep G H W d x M)(s:V5 M Z)(nd:(Z++Ly).Nodup)(N:∀a∈Z++Ly,W.tmp a)(q:Done G H W (Z++Ly) d Q):Q x H:=by
 refine q x H M (Same.refl H) (r.up ⟨Same.refl H,λb u U f=>⟨λz=>z.elim (λz=>f.1 (N b (Uh _ (s.subset z))).1) λz=>f.1 z.1,f.2⟩,λ_ _ _ f=>f⟩) (λa Y=>.inl (Uh _ (s.subset Y))) (s.nodup (Ur.mp nd).1)
theorem QM:OpV G (λx y H Q=>rIx G.K x y H Q∨NB x y H Q) gIx:=λdx dy d e x y H W Lx Ly rx J nd N w Q q=>by
 unfold gIx at e;split at e
 .rename_i m ds i
  obtain⟨rfl,rfl⟩:=aX J;rw[Rep]at rx;obtain⟨a,xs,M,rfl,Z,O⟩:=rx;obtain⟨j,h1,h2⟩:=GR Z e;obtain⟨z,Mz,F,V,h5⟩:=Z.get h1;exact .inl (.inl ⟨a,xs,i,z,rfl,rfl,O.sq,h2 z F,mX V (h5.trans O.sub) nd N q⟩)
 .rename_i ds i
  obtain⟨rfl,rfl⟩:=aX J;rw[Rep]at rx;obtain⟨a,xs,rfl,Y,Z⟩:=rx;obtain⟨j,h1,h2⟩:=GR Z e;obtain⟨z,Mz,F,V,h5⟩:=Z.get h1;exact .inl (.inr (.inl ⟨a,xs,i,z,rfl,rfl,SqT.of Y,h2 z F,mX V h5 nd N q⟩))
 .rename_i z i
  obtain⟨rfl,rfl⟩:=aX J;obtain⟨rfl,rfl⟩:=cV rx;split at e
  .rename_i hl
   cases h1:atI z.cps.toList i with
   |none=>simp[h1]at e
   |some c=>
    obtain rfl:D.str ⟨#[c]⟩=d:=by simpa[h1]using e
    exact .inl (.inr (.inr ⟨z,i,c,rfl,rfl,hl,h1,q.scal λ_=>wH⟩))
  .cases e
 .rename_i m ks ds
  cases hk:cZ dy with
  |none=>simp[hk]at e
  |some k=>
   cases U:dR ks k with
   |none=>simp[hk,U]at e
   |some j=>
    have e':ds[j]? =some d:=by simpa[hk,U]using e
    rw[Rep]at rx;obtain⟨a,kvs,M,rfl,⟨rfl,a0⟩,Z,O⟩:=rx;obtain⟨z,Mz,F,V,h5⟩:=Z.get e';have hv:=jE U;rw[F]at hv;refine .inr ⟨a,z,rfl,.inl ⟨kvs,k,O.rdD,iI J hk,hv.symm⟩,mX V (h5.trans O.sub) nd N q⟩
 .cases e
theorem ixb(O:∀c,(X c).A.units+1<cLine)(F:∀c,(X c).K=G.K:=by intro _;rfl):IxB X G gIx:=⟨_,λc=>by rw[←F c];exact Oj (O c),QM⟩
def scV:D->Option V
 |.non=>some .non
 |.bl b=>some (.bl b)
 |.int i=>some (.int i)
 |.str x=>some (.str x)
 |_=>none
def u0:List D->Option (List V)
 |[]=>some []
 |d::r=>(scV d).bind λv=>(u0 r).map λt=>v::t
theorem wN{u:V}(r:Rep G H W d v L)(h:scV d=some u):v=u/\lN u=true:=by
 cases d<;>simp[scV]at h<;>subst h<;>rw[Rep]at r<;>exact⟨r.1,rfl⟩
theorem ut:∀{ds:List D}{vs us:List V}{L:List Addr},aF G H W ds vs L->u0 ds=some us->vs=us/\us.all lN=true
 |[],vs,us,L,r,h=>by
  cases h;exact⟨r.inv0.1,rfl⟩
 |d::t,vs,us,L,r,h=>by
  obtain⟨x,ys,M,M',rfl,rfl,h1,h2⟩:=r.inv;rw[u0]at h;cases e1:scV d with
  |none=>simp[e1]at h
  |some v=>
   cases e2:u0 t with
   |none=>simp[e1,e2]at h
   |some w=>
    obtain rfl:v::w=us:=by simpa[e1,e2]using h
    obtain⟨rfl,z⟩:=wN h1 e1;obtain⟨rfl,q⟩:=ut h2 e2;exact⟨rfl,by simp[z,q]⟩
def Nj(x y:Str):Bool:=!(Xc y x 0 y.length 1).isEmpty
def wG:D->D->Option Bool
 |x,.lst _ ds=>(scV x).bind λv=>(u0 ds).map λvs=>inV v vs
 |x,.tup ds=>(scV x).bind λv=>(u0 ds).map λvs=>inV v vs
 |.str x,.str y=>some (Nj x y)
 |x,.dct _ ks _=>(cZ x).map λk=>(dR ks k).isSome
 |_,_=>none
def gIn(x y:D):Option D:=(wG x y).map .bl
def uE(x y:D):Option D:=(wG x y).map λb=>.bl !b
theorem zF(O:Y.A.units+1<cLine):OpR Y (U4 .In) (λx y H Q=>∃a o,y= .ref a/\lU H a x o/\Q (.bl o.isSome) H):=λpins s σ H x y v u Q I rx J h=>by
 obtain⟨a,o,rfl,g,q⟩:=h;cases J;exact T6 O I g rx λU V=>⟨.bl o.isSome,H,V,rfl,q⟩
theorem vm(O:Y.A.units+1<cLine):OpR Y (U4 .NotIn) (λx y H Q=>∃a o,y= .ref a/\lU H a x o/\Q (.bl (!o.isSome)) H):=λpins s σ H x y v u Q I rx J h=>by
 obtain⟨a,o,rfl,g,q⟩:=h;cases J;exact JX O I g rx λU V=>⟨.bl (!o.isSome),H,V,rfl,q⟩
theorem G9{dx N:D}{y:V}{Lx Ly:List Addr}(e:wG dx N=some b)(rx:Rep G H W dx x Lx)(J:Rep G H W N y Ly) :
  (∃p xs,y= .ref p/\(SqL G.K H p xs∨SqT G.K H p xs)/\lN x=true/\xs.all lN=true/\b=inV x xs)∨(∃i j,x= .str i/\y= .str j/\b=Nj i j)∨(∃a o,y= .ref a/\lU H a x o/\b=o.isSome):=by
 unfold wG at e;split at e
 .rename_i m ds
  cases e1:scV dx with
  |none=>simp[e1]at e
  |some v=>
   cases e2:u0 ds with
   |none=>simp[e1,e2]at e
   |some vs=>
    obtain rfl:inV v vs=b:=by simpa[e1,e2]using e
    rw[Rep]at J;obtain⟨a,xs,M,rfl,Z,O⟩:=J;obtain⟨rfl,F⟩:=wN rx e1;obtain⟨rfl,q⟩:=ut Z e2;exact .inl ⟨a,_,rfl,.inl O.sq,F,q,rfl⟩
 .rename_i ds
  cases e1:scV dx with
  |none=>simp[e1]at e
  |some v=>
   cases e2:u0 ds with
   |none=>simp[e1,e2]at e
   |some vs=>
    obtain rfl:inV v vs=b:=by simpa[e1,e2]using e
    rw[Rep]at J;obtain⟨a,xs,rfl,Y,Z⟩:=J;obtain⟨rfl,F⟩:=wN rx e1;obtain⟨rfl,q⟩:=ut Z e2;exact .inl ⟨a,_,rfl,.inr (SqT.of Y),F,q,rfl⟩
 .cases e
  obtain⟨rfl,_⟩:=cV rx;obtain⟨rfl,_⟩:=cV J;exact .inr (.inl ⟨_,_,rfl,rfl,rfl⟩)
 .rename_i m ks ds
  cases e1:cZ dx with
  |none=>simp[e1]at e
  |some k=>
   have e':(dR ks k).isSome=b:=by simpa[e1]using e
   rw[Rep]at J;obtain⟨a,kvs,M,rfl,⟨rfl,z⟩,Z,O⟩:=J;refine .inr (.inr ⟨a,jJ kvs k,rfl,.inl ⟨kvs,k,O.rdD,iI rx e1,rfl⟩,?_⟩);rw[←e'];cases U:dR (kvs.map (·.1)) k with
   |none=>rw[m6 U];rfl
   |some j=>
    rw[jE U,Ug (by simpa using rW U)];rfl
 .cases e
def TF(K:Ub):R2:=λx y H Q=>(rIn K false x y H Q∨(∃i j,x= .str i/\y= .str j/\Q (.bl (!(Xc j i 0 j.length 1).isEmpty)) H))∨∃a o,y= .ref a/\lU H a x o/\Q (.bl o.isSome) H
def Jy(K:Ub):R2:=λx y H Q=>(rIn K true x y H Q∨(∃i j,x= .str i/\y= .str j/\Q (.bl (!(!(Xc j i 0 j.length 1).isEmpty))) H))∨∃a o,y= .ref a/\lU H a x o/\Q (.bl (!o.isSome)) H
theorem Gw(O:∀c,(X c).A.units+1<cLine)(U:∀c,(X c).K=G.K:=by intro _;rfl):OpB X G (U4 .In) gIn:=⟨TF G.K,λc=>by rw[←U c];exact OpR.or (OpR.or DN De) (zF (O c)),λdx Y d e x y H W Z Ly rx J nd N w Q q=>by
 unfold gIn at e;cases h1:wG dx Y with
 |none=>simp[h1]at e
 |some b=>
  obtain rfl:D.bl b=d:=by simpa[h1]using e
  have z:Q (.bl b) H:=q.scal λ_=>eY;rcases G9 h1 rx J with⟨p,xs,rfl,h2,F,V,rfl⟩|⟨i,j,rfl,rfl,rfl⟩|⟨a,o,rfl,h2,rfl⟩
  .exact .inl (.inl ⟨p,xs,rfl,h2,F,V,z⟩)
  .exact .inl (.inr ⟨i,j,rfl,rfl,z⟩)
  .exact .inr ⟨a,o,rfl,h2,z⟩⟩
theorem Ie(O:∀c,(X c).A.units+1<cLine)(U:∀c,(X c).K=G.K:=by intro _;rfl):OpB X G (U4 .NotIn) uE:=⟨Jy G.K,λc=>by rw[←U c];exact OpR.or (OpR.or xN wg) (vm (O c)),λdx Y d e x y H W Z Ly rx J nd N w Q q=>by
 unfold uE at e;cases h1:wG dx Y with
 |none=>simp[h1]at e
 |some b=>
  obtain rfl:D.bl (!b)=d:=by simpa[h1]using e
  have z:Q (.bl (!b)) H:=q.scal λ_=>eY;rcases G9 h1 rx J with⟨p,xs,rfl,h2,F,V,rfl⟩|⟨i,j,rfl,rfl,rfl⟩|⟨a,o,rfl,h2,rfl⟩
  .exact .inl (.inl ⟨p,xs,rfl,h2,F,V,z⟩)
  .exact .inl (.inr ⟨i,j,rfl,rfl,z⟩)
  .exact .inr ⟨a,o,rfl,h2,z⟩⟩
theorem aF.inv1(r:aF G H W [d] xs L):∃x,xs=[x]/\Rep G H W d x L:=by
 obtain⟨x,ys,M,M',rfl,rfl,h1,h2⟩:=r.inv;obtain⟨rfl,rfl⟩:=h2.inv0;exact⟨x,rfl,by rw[UJ];exact h1⟩
theorem aF.inv2{e:D}(r:aF G H W [d,e] xs L):∃x y M N,xs=[x,y]/\L=M++N/\Rep G H W d x M/\Rep G H W e y N:=by
 obtain⟨x,ys,M,M',rfl,rfl,h1,h2⟩:=r.inv;obtain⟨y,rfl,F⟩:=h2.inv1;exact⟨x,y,M,M',rfl,rfl,h1,F⟩
def gG:List D->Option D
 |[.lst _ ds]=>some (.int ds.length)
 |[.tup ds]=>some (.int ds.length)
 |[.str z]=>if z.length<=Ui then some (.int z.length)else none
 |[.dct m _ ds]=>if m= .scr then none else some (.int ds.length)
 |_=>none
theorem gJ(F:∀c,(X c).K=G.K:=by intro _;rfl):CaB X G (.builtin "len") gG:=⟨λxs H Q=>((∃p ys,xs=[.ref p]/\(SqL G.K H p ys∨SqT G.K H p ys)/\Q (.int ys.length) H)∨∃z,xs=[.str z]/\z.length<=Ui/\Q (.int z.length) H)∨∃a kvs,xs=[V.ref a]/\H a=some (.dK kvs)/\Q (.int kvs.length) H,λc=>by rw[←F c];exact eU.or (eU.or wM xH) Es,λds d e xs H W J r nd N w Q q=>by
 unfold gG at e;split at e
 .cases e
  obtain⟨x,rfl,rx⟩:=r.inv1;rw[Rep]at rx;obtain⟨a,ys,M,rfl,Z,O⟩:=rx;exact .inl (.inl ⟨a,ys,rfl,.inl O.sq,by rw[←Z.length];exact q.scal λ_=>cg⟩)
 .cases e
  obtain⟨x,rfl,rx⟩:=r.inv1;rw[Rep]at rx;obtain⟨a,ys,rfl,Y,Z⟩:=rx;exact .inl (.inl ⟨a,ys,rfl,.inr (SqT.of Y),by rw[←Z.length];exact q.scal λ_=>cg⟩)
 .split at e
  .cases e
   obtain⟨x,rfl,rx⟩:=r.inv1;obtain⟨rfl,rfl⟩:=cV rx;exact .inl (.inr ⟨_,rfl,‹_›,q.scal λ_=>cg⟩)
  .cases e
 .split at e
  .cases e
  .cases e
   obtain⟨x,rfl,rx⟩:=r.inv1;rw[Rep]at rx;obtain⟨a,kvs,M,rfl,U,Z,O⟩:=rx;exact .inr ⟨a,kvs,rfl,O.at ‹_›,by have:=Z.length;simp at this;rw[←this];exact q.scal λ_=>cg⟩
 .cases e⟩
def Aq:List D->Option D
 |[.int i]=>some (.int (if i<0 then -i else i))
 |_=>none
theorem BK:CaB X G (.builtin "abs") Aq:=⟨_,λc=>Iz,λds d e xs H W J r nd N w Q q=>by
 unfold Aq at e;split at e
 .cases e
  obtain⟨x,rfl,rx⟩:=r.inv1;obtain⟨rfl,rfl⟩:=aX rx;exact⟨_,rfl,q.scal λ_=>cg⟩
 .cases e⟩
def yo:List D->Option D
 |[.int i]=>some (.int i)
 |[.bl k]=>some (.int (if k then 1 else 0))
 |_=>none
theorem Bg:CaB X G (.type "int") yo:=⟨_,λc=>Dh,λds d e xs H W J r nd N w Q q=>by
 unfold yo at e;split at e
 .cases e
  obtain⟨x,rfl,rx⟩:=r.inv1;obtain⟨rfl,rfl⟩:=aX rx;exact .inl ⟨_,rfl,q.scal λ_=>cg⟩
 .cases e
  obtain⟨x,rfl,rx⟩:=r.inv1;obtain⟨rfl,rfl⟩:=lz rx;exact .inr ⟨_,rfl,q.scal λ_=>cg⟩
 .cases e⟩
def uT:List D->Option D
 |[.int i,.int j]=>some (.int (if j<i then j else i))
 |_=>none
def F_:List D->Option D
 |[.int i,.int j]=>some (.int (if j>i then j else i))
 |_=>none
theorem Fw(J:∀c,(X c).calm=true):CaB X G (.builtin "min") uT:=⟨_,λc=>Ec (J c),λds d e xs H W F r nd O w Q q=>by
 unfold uT at e;split at e
 .cases e
  obtain⟨x,y,M,N,rfl,rfl,rx,z⟩:=r.inv2;obtain⟨rfl,rfl⟩:=aX rx;obtain⟨rfl,rfl⟩:=aX z;exact⟨_,_,rfl,q.scal λ_=>cg⟩
 .cases e⟩
theorem Fi(J:∀c,(X c).calm=true):CaB X G (.builtin "max") F_:=⟨_,λc=>Dg (J c),λds d e xs H W F r nd O w Q q=>by
 unfold F_ at e;split at e
 .cases e
  obtain⟨x,y,M,N,rfl,rfl,rx,z⟩:=r.inv2;obtain⟨rfl,rfl⟩:=aX rx;obtain⟨rfl,rfl⟩:=aX z;exact⟨_,_,rfl,q.scal λ_=>cg⟩
 .cases e⟩
variable{p:Addr}
theorem qC{J:List Addr}(Z:aF G H W ds xs M)(s:V5 M J)(nd:J.Nodup)(N:∀a∈J,W.tmp a)(hp:H p=none)(q:Done G H W J (.lst .own ds) Q):Q (.ref p) (upd H p (.lst xs)):=by
 have F:Same H (upd H p (.lst xs)):=Same.new hp;have np:p∉M:=λz=>by obtain⟨o,O,_⟩:=Z.dom p z;rw[hp]at O;cases O
 refine q (.ref p) _ (p::M) F ?_ (λa Y=>(Uj.mp Y).elim (λz=>.inr (by rw[z];exact hp)) λz=>.inl (s.subset z)) (Uu.mpr ⟨np,s.nodup nd⟩);rw[Rep];exact⟨p,xs,M,rfl,Z.up ⟨F,λb u U f=>⟨λz=>z.elim (λz=>(Uj.mp z).elim (λz=>by rw[z,hp]at U;cases U) λz=>f.1 (N b (s.subset z)).1) λz=>f.1 z.1,f.2⟩,λ_ _ _ f=>f⟩,aZ,rfl⟩
theorem Eo{J:List Addr}(Z:aF G H W ds xs M)(s:V5 M J)(nd:J.Nodup)(N:∀a∈J,W.tmp a)(O:H p=none)(q:Done G H W J (.tup ds) Q):Q (.ref p) (upd H p (.tup xs)):=by
 have F:Same H (upd H p (.tup xs)):=Same.new O;refine q (.ref p) _ M F ?_ (λa Y=>.inl (s.subset Y)) (s.nodup nd);rw[Rep];exact⟨p,xs,rfl,aZ,Z.up ⟨F,λb u U f=>⟨λz=>z.elim (λz=>f.1 (N b (s.subset z)).1) λz=>f.1 z.1,f.2⟩,λ_ _ _ f=>f⟩⟩
theorem lA{J:List Addr}(Z:Rep G H W d x M)(s:V5 M J)(nd:J.Nodup)(N:∀a∈J,W.tmp a)(q:Done G H W J d Q):Q x H:=by
 refine q x H M (Same.refl H) (Z.up ⟨Same.refl H,λb u U f=>⟨λz=>z.elim (λz=>f.1 (N b (s.subset z)).1) λz=>f.1 z.1,f.2⟩,λ_ _ _ f=>f⟩) (λa Y=>.inl (s.subset Y)) (s.nodup nd)
def Cr:List D->Option D
 |[.lst _ ds]=>some (.lst .own ds)
 |[.tup ds]=>some (.lst .own ds)
 |_=>none
def I_:List D->Option D
 |[.lst _ ds]=>some (.tup ds)
 |[.tup ds]=>some (.tup ds)
 |_=>none
theorem EY(F:∀c,(X c).K=G.K:=by intro _;rfl):CaB X G (.type "list") Cr:=⟨λxs H Q=>∃p ys,xs=[.ref p]/\(SqL G.K H p ys∨SqT G.K H p ys)/\∀l,H l=none->Q (.ref l) (upd H l (.lst ys)),λc=>by rw[←F c];exact wB,λds d e xs H W J r nd N w Q q=>by
 unfold Cr at e;split at e
 .cases e
  obtain⟨x,rfl,rx⟩:=r.inv1;rw[Rep]at rx;obtain⟨a,ys,M,rfl,Z,O⟩:=rx;exact⟨a,ys,rfl,.inl O.sq,λp V=>qC Z O.sub nd N V q⟩
 .cases e
  obtain⟨x,rfl,rx⟩:=r.inv1;rw[Rep]at rx;obtain⟨a,ys,rfl,Y,Z⟩:=rx;exact⟨a,ys,rfl,.inr (SqT.of Y),λp V=>qC Z (W_ _) nd N V q⟩
 .cases e⟩
def tyN:D->Option String
 |.non=>some "NoneType"
 |.bl _=>some "bool"
 |.int _=>some "int"
 |.str _=>some "str"
 |.tup _=>some "tuple"
 |.lst m _=>if m= .scr then none else some "list"
 |.dct m _ _=>if m= .scr then none else some "dict"
 |_=>none
def okT(n:String):Bool:=n=="int"||n=="bool"||n=="str"||n=="list"||n=="tuple"
def isT(t n:String):Bool:=t==n||(t=="bool"&&n=="int")
variable{t:String}
theorem BV{K:Ub}{n:String}(h1:tyN d=some t)(h2:okT n=true):aaf K (.type t) (.type n)=some (isT t n):=by
 have Y:t="NoneType"∨t="bool"∨t="int"∨t="str"∨t="tuple"∨t="list"∨t="dict":=by
  cases d<;>simp[tyN]at h1<;>(try split at h1)<;>simp_all
 have N:n="int"∨n="bool"∨n="str"∨n="list"∨n="tuple":=by simpa[okT,or_assoc]using h2
 rcases Y with rfl|rfl|rfl|rfl|rfl|rfl|rfl<;>rcases N with rfl|rfl|rfl|rfl|rfl<;>with_unfolding_all rfl
theorem yc(r:Rep G H W d v L)(h:tyN d=some t):lV G.K H v (.type t):=by
 cases d with
 |non=>rw[Rep]at r;obtain⟨rfl,_⟩:=r;cases h;exact .non
 |bl b=>rw[Rep]at r;obtain⟨rfl,_⟩:=r;cases h;exact .bl _
 |int b=>rw[Rep]at r;obtain⟨rfl,_⟩:=r;cases h;exact .int _
 |str b=>rw[Rep]at r;obtain⟨rfl,_⟩:=r;cases h;exact .str _
 |ty n=>cases h
 |tup ds=>rw[Rep]at r;obtain⟨a,xs,rfl,Y,Z⟩:=r;cases h;exact .tup Y
 |lst m ds=>
  rw[Rep]at r;obtain⟨a,xs,M,rfl,Z,O⟩:=r;simp only[tyN]at h;split at h
  .cases h
  .cases h;exact .lst (O.at ‹_›)
 |dct m ks ds=>
  rw[Rep]at r;obtain⟨a,xs,M,rfl,q,Z,O⟩:=r;simp only[tyN]at h;split at h
  .cases h
  .cases h;exact .dK (O.at ‹_›)
 |ins m c fs ds=>cases h
def ye:List D->Option (List String)
 |[]=>some []
 |.ty n::r=>(ye r).map λt=>n::t
 |_::_=>none
theorem v6:∀{ds:List D}{vs:List V}{L:List Addr}{ns:List String},aF G H W ds vs L->ye ds=some ns->vs=ns.map V.ty
 |[],vs,L,ns,r,h=>by cases h;rw[r.inv0.1];rfl
 |d::t,vs,L,ns,r,h=>by
  obtain⟨x,ys,M,M',rfl,rfl,h1,h2⟩:=r.inv;cases d<;>simp[ye]at h;obtain⟨w,F,rfl⟩:=h;rw[Rep]at h1;rw[h1.1,v6 h2 F];rfl
theorem uC{K:Ub}(h1:tyN d=some t):∀{ns:List String},ns.all okT=true->aah K (.type t) (ns.map VP)=some (ns.any (isT t))
 |[],_=>rfl
 |n::r,h=>by
  rw[YK,UT]at h;rw[Um,aah,BV h1 h.1];cases e:isT t n with
  |true=>simp[e]
  |false=>simp only[e];rw[uC h1 h.2];simp[e]
def o6:List D->Option D
 |[x,.ty n]=>(tyN x).bind λt=>if okT n=true then some (.bl (isT t n))else none
 |[x,.tup ts]=>(tyN x).bind λt=>(ye ts).bind λns=>if ns.all okT=true then some (.bl (ns.any (isT t)))else none
 |_=>none
theorem uK(F:∀c,(X c).K=G.K:=by intro _;rfl):CaB X G (.builtin "isinstance") o6:=⟨λxs H Q=>(∃x n t b,xs=[x,.ty n]/\lV G.K H x t/\aaf G.K t (.type n)=some b/\Q (.bl b) H)∨∃x tp z t b,xs=[x,.ref tp]/\H tp=some (.tup (Uz V.ty z))/\lV G.K H x t/\aah G.K t (z.map VP)=some b/\Q (.bl b) H,λc=>by rw[←F c];exact eU.or zc xK,λds d e xs H W U r nd O w Q q=>by
 unfold o6 at e;split at e
 .rename_i x n
  cases e1:tyN x with
  |none=>simp[e1]at e
  |some t=>
   rw[e1]at e;simp only[Ua]at e;split at e
   .cases e
    obtain⟨u,v,M,N,rfl,rfl,rx,J⟩:=r.inv2;rw[Rep]at J;obtain⟨rfl,_⟩:=J;exact .inl ⟨u,n,_,_,rfl,yc rx e1,BV e1 ‹_›,q.scal λ_=>eY⟩
   .cases e
 .rename_i x ts
  cases e1:tyN x with
  |none=>simp[e1]at e
  |some t=>
   cases e2:ye ts with
   |none=>simp[e1,e2]at e
   |some ns=>
    rw[e1,e2]at e;simp only[Ua]at e;split at e
    .cases e
     obtain⟨u,v,M,N,rfl,rfl,rx,J⟩:=r.inv2;rw[Rep]at J;obtain⟨a,ys,rfl,Y,Z⟩:=J;have:=v6 Z e2;subst this;exact .inr ⟨u,a,ns,_,_,rfl,Y,yc rx e1,uC e1 ‹_›,q.scal λ_=>eY⟩
    .cases e
 .cases e⟩
theorem Ij{a1:List V}{a0:List D}{M0 N M1 R:List Addr}(Z:aF G H W a0 a1 M1)(rr:Rep G H W res x R)(k1:au a0=true)(F:az a0=true)(kr:clean res=true)
  (Y:a∉M1++R) (nd:(M1++R).Nodup) (sub:∀b∈M1++R,b∈M0∨b∈N)
  (q:∀x H' M' R,(∀b u,H b=some u->b∉a::M0->H' b=some u)->(∀W',Evo H H' W W'->Rep G H' W' (.lst .own a0) (.ref a) M'/\Rep G H' W' res x R)->(M'++R).Nodup->(∀b∈M'++R,b∈a::M0∨b∈N∨H b=none)->clean (.lst .own a0)=true->clean res=true->Q x H'):Q x (upd H a (.lst a1)):=by
 have a2:=(by simpa[clean]using kr:aD res=true/\aC res=true);refine q x _ (a::M1) R (λb u U n=>by rw[aK (show b≠a from λz=>n (by rw[z];simp))];exact U) (λW' ev=>⟨?_,?_⟩) ?_ (λb U=>?_) (ql k1 F) kr
 .rw[Rep]
  exact⟨a,a1,M1,rfl,BW Z k1 F (λz=>Y (Uh _ z)) ev,aZ,rfl⟩
 .exact rr.mono ev (.inl a2.1) (.inl a2.2) λc J u O=>by rw[aK (show c≠a from λz=>Y (T9 _ (z▸J)))];exact O
 .rw[U8]
  exact Uu.mpr ⟨Y,nd⟩
 .rw[U8]at U
  rcases Uj.mp U with z|z
  .exact .inl (by simp[z])
  .exact(sub b z).imp (λz=>Ut _ z) .inl
theorem uB(h:au ds=true):∀d∈ds,aD d=true:=λd hd=>let⟨i,hi⟩:=abY hd;gP h hi
theorem uy(h:az ds=true):∀d∈ds,aC d=true:=λd hd=>let⟨i,hi⟩:=abY hd;gU h hi
theorem dm:∀{ds:List D},(∀d∈ds,aD d=true)->au ds=true
 |[],_=>rfl
 |d::r,h=>by rw[au,h d (by simp),dm λe N=>h e (by simp[N])];rfl
theorem dh:∀{ds:List D},(∀d∈ds,aC d=true)->az ds=true
 |[],_=>rfl
 |d::r,h=>by rw[az,h d (by simp),dh λe N=>h e (by simp[N])];rfl
theorem aF.erase(h:aF G H W ds xs L)(e:ds[j]? =some d):∃x M N,xs[j]? =some x/\Rep G H W d x M/\aF G H W (ds.eraseIdx j) (xs.eraseIdx j) N/\Vz (N++M) L:=by
 obtain⟨A,B,x,ys,zs,O,M,z,rfl,J,rfl,Y,rfl,h1,h2,F⟩:=h.at e;refine⟨x,M,O++z,by rw[VF (by omega),Y,X7];rfl,h2,?_,?_⟩
 .have e1:(A++d::B).eraseIdx j=A++B:=by rw[WN (by omega),J,X7];rfl
  have e2:(ys++x::zs).eraseIdx j=ys++zs:=by rw[WN (by omega),Y,X7];rfl
  rw[e1,e2];exact h1.append F
 .rw[Zt]
  exact List.Perm.append_left O List.perm_append_comm
theorem mZ(h:d∈ds.eraseIdx k):d∈ds:=(abJ ds k).subset h
theorem Gs{ys:List V}{e:D}{M0 N:List Addr}(Z:aF G H W ds ys M0)(nd:((a::M0)++N).Nodup)(J:clean (.lst .own ds)=true)(hk:ds[k]? =some e)
  (q:∀x H' M' R,(∀b u,H b=some u->b∉a::M0->H' b=some u)->(∀W',Evo H H' W W'->Rep G H' W' (.lst .own (ds.eraseIdx k)) (.ref a) M'/\Rep G H' W' e x R)->(M'++R).Nodup->(∀b∈M'++R,b∈a::M0∨b∈N∨H b=none)->clean (.lst .own (ds.eraseIdx k))=true->clean e=true->Q x H'):∃y,ys[k]? =some y/\Q y (upd H a (.lst (ys.eraseIdx k))):=by
 obtain⟨O,k2⟩:=qz J;obtain⟨x,M,L,F,rx,rl,pm⟩:=Z.erase hk;have Y:=Ur.mp nd;have hn:=Uu.mp Y.1;refine⟨x,F,Ij (M0:=M0) (N:=N) rl rx (dm λd hd=>uB O d (mZ hd)) (dh λd hd=>uy k2 d (mZ hd)) (by simp[clean,gP O hk,gU k2 hk]) (λz=>hn.1 (pm.mem_iff.mp z)) (pm.nodup_iff.mpr hn.2) (λb U=>.inl (pm.mem_iff.mp U)) q⟩
def uz:D->List D->Option (D×D)
 |.lst .own ds,[]=>(ds[ds.length-1]?).map λe=>(.lst .own ds.dropLast,e)
 |_,_=>none
theorem J8:MuV G Q_ uz:=λd es d' res h v xs H W M N r z nd hM J U V Q q=>by
 unfold uz at h;split at h
 .rename_i ds
  cases h2:ds[ds.length-1]? with
  |none=>simp[h2]at h
  |some e=>
   obtain⟨rfl,rfl⟩:D.lst .own ds.dropLast=d'/\e=res:=by simpa[h2]using h
   rw[Rep]at r;obtain⟨a,ys,M0,rfl,Z,Y,rfl⟩:=r;obtain⟨rfl,rfl⟩:=z.inv0;rw[←oK]at q;obtain⟨y,O,F⟩:=Gs Z nd J h2 q;rw[Z.length]at O F;rw[oK]at F;exact⟨a,ys,y,rfl,rfl,Y,O,F⟩
 .cases h
theorem JZ:MuB X G "list" "list.pop" uz:=⟨_,λc=>Qo,J8,Jd rfl λd es q e=>by
 unfold uz at e;split at e
 .exact⟨_,_,rfl⟩
 .cases e⟩
theorem aF.takeDrop(h:aF G H W ds xs L)(k:Nat):∃A B,aF G H W (ds.take k) (xs.take k) A/\aF G H W (ds.drop k) (xs.drop k) B/\L=A++B:=by
 rw[←ZX k ds]at h;obtain⟨ys,zs,A,B,rfl,rfl,h1,h2⟩:=h.split;have Y:=h1.length;by_cases q:k<=ds.length
 .have hk':ys.length=k:=by rw[←Y,WR];omega
  refine⟨A,B,?_,?_,rfl⟩
  .rw[←hk',List.take_left,hk'];exact h1
  .rw[←hk',List.drop_left,hk'];exact h2
 .have e1:ds.take k=ds:=Xi (by omega)
  have e2:ds.drop k=[]:=ZF (by omega);rw[e1]at h1 Y;rw[e2]at h2;obtain⟨rfl,rfl⟩:=h2.inv0;refine⟨A,[],?_,?_,by simp⟩
  .rw[e1,UJ,Xi (by omega)];exact h1
  .rw[e2,UJ,ZF (by omega)];exact .nil
def iC:List Key->List D->List (Key×D)->List Key×List D
 |ks,ds,[]=>(ks,ds)
 |ks,ds,p::r=>iC (iH ks ds p.1 p.2).1 (iH ks ds p.1 p.2).2 r
variable{k:Key}
theorem Kl{N:List Addr}(Z:aF G H W ds (Uz (·.2) kvs) M)(hn:(Uz (·.1) kvs).Nodup)(F:Rep G H W d x N)(nd:(M++N).Nodup) :
  (Uz (·.1) (putK kvs k x)=(iH (Uz (·.1) kvs) ds k d).1/\(Uz (·.1) (putK kvs k x)).Nodup)/\(putK kvs k x).length<=kvs.length+1/\∃M',aF G H W (iH (Uz (·.1) kvs) ds k d).2 (Uz (·.2) (putK kvs k x)) M'/\M'.Nodup/\∀a∈M',a∈M∨a∈N:=by
 have J:=Ur.mp nd;cases U:dR (kvs.map (·.1)) k with
 |some j=>
  have O:j<ds.length:=by rw[Z.length];simpa using rW U
  obtain⟨A,M1,B,a2,q⟩:=Z.set (Ug O) F;obtain⟨p1,p2⟩:=yJ (v:=x) U hn;have a0:V5 (A++B) M:=by rw[a2];exact(W_ A).append (Vx M1 B)
  have n3:=Ur.mp (a0.nodup J.1);have a1:∀z∈N,z∉A++B:=λz h1 h2=>J.2.2 z (a0.subset h2) z h1 rfl;simp only[iH,U];refine⟨⟨p1,by rw[p1];exact hn⟩,?_,A++(N++B),by rw[p2];exact q,dZ n3.1 (dZ J.2.1 n3.2.1 λz h1 h2=>a1 z h1 (by simp[h2])) λz h1 h2=>?_,λa Y=>?_⟩
  .have:(putK kvs k x).length=kvs.length:=by have:=congrArg WX p1;simpa using this
   omega
  .rcases T_.mp h2 with y|y
   .exact a1 z y (by simp[h1])
   .exact n3.2.2 z h1 z y rfl
  .simp only[T_]at Y
   rcases Y with z|z|z
   .exact .inl (a0.subset (by simp[z]))
   .exact .inr z
   .exact .inl (a0.subset (by simp[z]))
 |none=>
  simp only[iH,U];have e:putK kvs k x=kvs++[(k,x)]:=pq U;rw[e];refine⟨⟨by simp,?_⟩,by simp,M++N,by rw[Vr];exact Z.append (.one F),nd,λa Y=>T_.mp Y⟩;rw[Vr];exact Ur.mpr ⟨hn,by simp,λa h1 b h2 z=>by
   obtain rfl:b=k:=by simpa using h2
   exact uP U (z▸h1)⟩
theorem uN{H:Hp}{W:Wn}:∀{es:List (Key×D)}{prs kvs:List (Key×V)}{ds:List D}{M N:List Addr},Uz (·.1) es=Uz (·.1) prs->aF G H W (Uz (·.2) es) (Uz (·.2) prs) N->aF G H W ds (Uz (·.2) kvs) M->(Uz (·.1) kvs).Nodup->(M++N).Nodup->
  (Uz (·.1) (putAll kvs prs)=(iC (Uz (·.1) kvs) ds es).1/\(Uz (·.1) (putAll kvs prs)).Nodup)/\∃M',aF G H W (iC (Uz (·.1) kvs) ds es).2 (Uz (·.2) (putAll kvs prs)) M'/\M'.Nodup/\∀a∈M',a∈M∨a∈N
 |[],prs,kvs,ds,M,N,hk,h1,h2,hn,nd=>by
  have:prs=[]:=by cases prs with
   |nil=>rfl
   |cons p r=>cases hk
  subst this;exact⟨⟨rfl,hn⟩,M,h2,(Ur.mp nd).1,λa Y=>.inl Y⟩
 |e::es,prs,kvs,ds,M,N,hk,h1,h2,hn,nd=>by
  cases prs with
  |nil=>cases hk
  |cons p prs=>
   obtain⟨x,ys,U,N2,a2,rfl,F,a6⟩:=aF.inv h1;simp only[Um,List.cons.injEq]at hk a2;obtain⟨rfl,rfl⟩:=a2;have a0:=Ur.mp nd;have a1:=Ur.mp a0.2.1;have a4:(M++U).Nodup:=dZ a0.1 a1.1 λa z1 z2=>a0.2.2 a z1 a (by simp[z2]) rfl;obtain⟨⟨q1,q2⟩,O,M1,q4,q5,q6⟩:=Kl (k:=p.1) h2 hn F a4;have a5:(M1++N2).Nodup:=dZ q5 a1.2.1 λa z1 z2=>by
    rcases q6 a z1 with z|z
    .exact a0.2.2 a z a (by simp[z2]) rfl
    .exact a1.2.2 a z a z2 rfl
   rw[←hk.1]at q1 q2 q4;have Z:=uN (es:=es) (prs:=prs) (kvs:=putK kvs e.1 p.2) hk.2 a6 q4 q2 a5;rw[q1]at Z;obtain⟨⟨J,q⟩,M',r3,r4,r5⟩:=Z;have a3:putAll kvs (p::prs)=putAll (putK kvs e.1 p.2) prs:=by rw[hk.1];rfl
   rw[a3];refine⟨⟨J,q⟩,M',r3,r4,λa Y=>?_⟩;rcases r5 a Y with z|z
   .exact(q6 a z).imp id λz=>by simp[z]
   .exact .inr (by simp[z])
def xY:List D->Option (List (Key×D))
 |[]=>some []
 |.tup [k,v]::r=>(cZ k).bind λk=>(xY r).map λt=>(k,v)::t
 |_::_=>none
theorem GZ{k:D}{F:Key}(h:cZ k=some F)(r:Rep G H W k x L):L=[]:=by
 cases k<;>simp[cZ]at h<;>rw[Rep]at r<;>exact r.2
theorem yP{H:Hp}{W:Wn}:∀{ds:List D}{es:List (Key×D)}{ys:List V}{N:List Addr},xY ds=some es->aF G H W ds ys N->∃prs:List (Key×V),Uz (·.1) es=Uz (·.1) prs/\aF G H W (Uz (·.2) es) (Uz (·.2) prs) N/\prs.length=ys.length/\∀(j:Nat)(k:Key)(v:V),prs[j]? =some (k,v)->∃p:Addr,ys[j]? =some (V.ref p)/\H p=some (.tup [kV k,v])
 |[],es,ys,N,h,r=>by
  cases h;obtain⟨rfl,rfl⟩:=r.inv0;exact⟨[],rfl,.nil,rfl,λj k v e=>by simp at e⟩
 |d::r,es,ys,N,h,rr=>by
  unfold xY at h;split at h
  .rename_i e;cases e
  .rename_i k v t e
   cases e;cases h1:cZ k with
   |none=>simp[h1]at h
   |some k'=>
    cases h2:xY r with
    |none=>simp[h1,h2]at h
    |some w=>
     obtain rfl:(k',v)::w=es:=by simpa[h1,h2]using h
     obtain⟨x,zs,N1,O,rfl,rfl,F,hz⟩:=rr.inv;obtain⟨prs,U,z,q,g4⟩:=yP h2 hz;rw[Rep]at F;obtain⟨a,xs,rfl,Y,a1⟩:=F;obtain⟨y1,J,A,B,rfl,rfl,a0,Z⟩:=a1.inv2;have hA:=GZ h1 a0;subst hA;have:=iI a0 h1;subst this;refine⟨(k',J)::prs,by simp[U],.cons Z z,by simp[q],λj k v e=>?_⟩;cases j with
     |zero=>
      simp at e;obtain⟨rfl,rfl⟩:=e;exact⟨a,rfl,Y⟩
     |succ j=>exact g4 j k v (by simpa using e)
  .cases h
theorem dq.at2(h:dq J H W a o m L M)(V:(m== .scr)=false):H a=some o:=h.at (by intro z;rw[z]at V;cases V)
def tD:List D->Option D
 |[.lst m ds]=>if(m== .scr)=false/\ds.length<=50000 then(xY ds).map λes=>.dct .own (iC [] [] es).1 (iC [] [] es).2 else none
 |_=>none
theorem Im(J:∀c,(X c).calm=true):CaB X G (.type "dict") tD:=⟨_,λc=>rR (J c),λds d e xs H W L0 r nd N w Q q=>by
 unfold tD at e;split at e
 .rename_i m ds
  split at e
  .rename_i hm
   cases h1:xY ds with
   |none=>simp[h1]at e
   |some es=>
    obtain rfl:D.dct .own (iC [] [] es).1 (iC [] [] es).2=d:=by simpa[h1]using e
    obtain⟨x,rfl,rx⟩:=r.inv1;rw[Rep]at rx;obtain⟨a,ys,M,rfl,Z,O⟩:=rx;obtain⟨prs,g1,g2,g3,g4⟩:=yP h1 Z;have a1:M.Nodup:=O.sub.nodup nd;obtain⟨⟨p1,p2⟩,M',p3,p4,p5⟩:=uN (kvs:=[]) (M:=[]) g1 g2 .nil (by simp) (by simpa using a1);refine⟨a,ys,prs,rfl,O.at2 hm.1,g3,by rw[g3,←Z.length];exact hm.2,g4,λp V=>?_⟩;have F:Same H (upd H p (.dK (putAll [] prs))):=Same.new V;have np:p∉M':=λz=>by obtain⟨o,ho,_⟩:=p3.dom p z;rw[V]at ho;cases ho
    have a0:∀a∈M',a∈L0:=λa Y=>(p5 a Y).elim (λz=>by cases z) λz=>O.sub.subset z;refine q (.ref p) _ (p::M') F ?_ (λa Y=>(Uj.mp Y).elim (λz=>.inr (by rw[z];exact V)) λz=>.inl (a0 a z)) (Uu.mpr ⟨np,p4⟩);rw[Rep];exact⟨p,putAll [] prs,M',rfl,⟨p1,p1▸p2⟩,p3.up ⟨F,λb u U f=>⟨λz=>z.elim (λz=>(Uj.mp z).elim (λz=>by rw[z,V]at U;cases U) λz=>f.1 (N b (a0 b z)).1) λz=>f.1 z.1,f.2⟩,λ_ _ _ f=>f⟩,aZ,rfl⟩
  .cases e
 .cases e⟩
def eMt(g:D->List D->Option D)(N:En->Option D)(f:En->Option (List D)):En->Option D:=λρ=>(N ρ).bind λx=>(f ρ).bind λds=>g x ds
theorem RV{id:String}{Z:Str}{g:D->List D->Option D}{o:Expr}{f:En->Option (List D)}(m:MtB X G T id g)(J:aaS T)(slot:Slot T Z id)(N:typeOf (.builtin id)=pure (.type "method_descriptor"))(ho:PV X G ob o fo)(Y:PVA X G ob (e::es) f)(U:∀c,Xb o Z (X c).env (eval o (X c).env)=eval o (X c).env:=by intro _;rfl)(V:∀c,((V3 cpos (Ul (e::es) (X c).env)).all (λx=>!x.1)&&(Y9 cpos (XN [] (X c).env)).all (λx=>x.1.isSome)
  &&decide ((e::es).length+([]:List abG).length+(if([]:List abG).isEmpty then 0 else 1)<30))=true:=by intro _;rfl) (q:(apos.endLine==cpos.line)=true:=by rfl) (O:∀c,Ul (e::es) (X c).env=(false,eval e (X c).env)::Ul es (X c).env:=by intro _;rfl) (z:∀c,(V3 cpos (Ul es (X c).env)).any (·.1)=false:=by intro _;rfl) (F:∀c,(X c).K=G.K:=by intro _;rfl) :
 PV X G ob (.Call (.Attribute o Z apos) (e::es) [] cpos) (eMt g fo f):=let⟨r,m1,m2,m3⟩:=m.ex;let⟨t,a1,a2⟩:=ho.ex;let⟨u,b1,b2⟩:=Y.ex;⟨_,λc=>(by rw[←F c];exact M9 J slot N (m1 c) (a1 c) (b1 c) (U c) (V c) q (O c) (z c)),Gb m2 m3 a2 b2⟩
def Ao:D->List D->Option D
 |.dct m ks ds,[k]=>if m= .scr then none else(cZ k).bind λk=>match dR ks k with
  |some j=>ds[j]?
  |none=>some .non
 |.dct m ks ds,[k,x]=>if m= .scr then none else(cZ k).bind λk=>match dR ks k with
  |some j=>ds[j]?
  |none=>some x
 |_,_=>none
def Tn:V->List V->Hp->VK->Prop:=λx vs H Q=>∃a o y,x= .ref a/\lU H a y o/\(vs=[y]/\Q (o.getD .non) H∨∃z,vs=[y,z]/\Q (o.getD z) H)
theorem Qk(O:Y.A.units+1<cLine):MtR Y "dict.get" Tn:=λpins s σ H x vs v us Q I rx Z h=>by
 obtain⟨a,o,y,rfl,g,h⟩:=h;cases rx;rcases h with⟨rfl,q⟩|⟨z,rfl,q⟩
 .obtain⟨u,rfl,F⟩:=vals1 Z
  exact OD O I g F λw' U V N=>⟨_,H,V,N,q⟩
 .cases Z with
  |cons J Z=>
   obtain⟨u,rfl,F⟩:=vals1 Z;exact PL O I g J F λw' s4 I4 N=>⟨_,H,I4,N,q⟩
theorem Ma(hu:∀c,(X c).A.units+1<cLine):MtB X G "dict" "dict.get" Ao:=⟨_,λc=>Qk (hu c),λdx ds d e x xs H W Lx L0 rx r nd N w Q q=>(by
 have a0:∀{m:Mk}{ks:List Key}{es:List D}{k:D}{kk:Key}{y:V}{Ly:List Addr},m≠.scr->Rep G H W (.dct m ks es) x Lx->cZ k=some kk->Rep G H W k y Ly->∃a kvs M,x= .ref a/\H a=some (.dK kvs)/\lU H a y (jJ kvs kk)/\Uz (·.1) kvs=ks/\aF G H W es (Uz (·.2) kvs) M/\V5 M Lx:=λ{m ks es k kk y Ly} hm rx hk J=>by
  rw[Rep]at rx;obtain⟨a,kvs,M,rfl,⟨rfl,a1⟩,Z,O⟩:=rx;have:=iI J hk;subst this;exact⟨a,kvs,M,rfl,O.at hm,.inl ⟨kvs,kk,O.rdD,rfl,rfl⟩,rfl,Z,O.sub⟩
 unfold Ao at e;split at e
 .rename_i m ks es k
  split at e
  .cases e
  .rename_i hm
   cases hk:cZ k with
   |none=>simp[hk]at e
   |some kk=>
    obtain⟨y,rfl,J⟩:=r.inv1;obtain⟨a,kvs,M,rfl,Y,g,rfl,Z,sub⟩:=a0 hm rx hk J;refine⟨a,_,y,rfl,g,.inl ⟨rfl,?_⟩⟩;simp only[hk,Ua]at e;cases U:dR (Uz (·.1) kvs) kk with
    |none=>
     simp only[U]at e;cases e;rw[m6 U];exact q.scal λ_=>lF
    |some j=>
     simp only[U]at e;obtain⟨v,M',h1,h2,F⟩:=Z.get e;rw[jE U,h1];exact lA h2 (F.trans (sub.trans (W6 _ _))) nd N q
 .rename_i m ks es k x0
  split at e
  .cases e
  .rename_i hm
   cases hk:cZ k with
   |none=>simp[hk]at e
   |some kk=>
    obtain⟨y,z,A,B,rfl,rfl,J,rz⟩:=r.inv2;obtain⟨a,kvs,M,rfl,Y,g,rfl,Z,sub⟩:=a0 hm rx hk J;refine⟨a,_,y,rfl,g,.inr ⟨z,rfl,?_⟩⟩;simp only[hk,Ua]at e;cases U:dR (Uz (·.1) kvs) kk with
    |none=>
     simp only[U]at e;cases e;rw[m6 U];exact lA rz ((Vx _ _).trans (Vx _ _)) nd N q
    |some j=>
     simp only[U]at e;obtain⟨v,M',h1,h2,F⟩:=Z.get e;rw[jE U,h1];exact lA h2 (F.trans (sub.trans (W6 _ _))) nd N q
 .cases e),λdx ds d e x H W Lx rx=>by
 have a0:∀{m:Mk}{ks:List Key}{es:List D},m≠.scr->Rep G H W (.dct m ks es) x Lx->tyV G.K "dict" x H:=λ{m ks es} hm rx=>by
  rw[Rep]at rx;obtain⟨a,kvs,M,rfl,hk,Z,O⟩:=rx;exact .inr (.inr (.inl ⟨rfl,.inl ⟨_,O.at hm⟩⟩))
 unfold Ao at e;split at e
 .split at e
  .cases e
  .exact a0 ‹_› rx
 .split at e
  .cases e
  .exact a0 ‹_› rx
 .cases e⟩
def RfO(G:Gc)(ob:Nat->Bool)(t:TO)(f:En->Option (Option Int)):Prop:=∀(ρ:En)(o:Option Int),f ρ=some o->∀(σ:L2.St)(H:Hp)(W:Wn),Rel G H W ob ρ σ->WOk H W->∀Q:Option Int->Hp->Prop,(∀H',Same H H'->Q o H')->t σ H Q
structure PVO{ι:Type}(X:ι->Cx)(G:Gc)(ob:Nat->Bool)(e:Option Expr)(f:En->Option (Option Int)):Prop where
 mk::(ex:∃t,(∀c,PO (X c) e t)/\RfO G ob t f)
def gA:En->Option (Option Int):=λ_=>some none
def gq(f:En->Option D):En->Option (Option Int):=λρ=>(f ρ).bind λd=>match d with
 |.int i=>some (some i)
 |_=>none
theorem p_:PVO X G ob none gA:=⟨_,λc=>Kq,λρ o e σ H W V w Q q=>by cases e;exact q H (Same.refl H)⟩
variable{f:En->Option D}
theorem p6(h:PV X G ob e f):PVO X G ob (some e) (gq f):=let⟨t,a1,a2⟩:=h.ex;⟨_,λc=>Ky (a1 c),λρ o e σ H W V w Q q=>by
 unfold gq at e;cases h1:f ρ with
 |none=>simp[h1]at e
 |some d=>
  rw[h1]at e;simp only[Ua]at e;split at e
  .cases e
   refine a2 ρ _ h1 σ H W V w _ λv H' L s r F nd=>?_;obtain⟨rfl,rfl⟩:=aX r;exact⟨_,rfl,q H' s⟩
  .cases e⟩
def SlV(G:Gc)(r:V->Option Int->Option Int->Hp->VK->Prop)(g:D->Option Int->Option Int->Option D):Prop:=∀(dx:D)(lo hi:Option Int)(d:D),g dx lo hi=some d->∀(x:V)(H:Hp)(W:Wn)(Z:List Addr),Rep G H W dx x Z->Z.Nodup->(∀a∈Z,W.tmp a)->WOk H W->∀Q:VK,Done G H W Z d Q->r x lo hi H Q
structure SlB{ι:Type}(X:ι->Cx)(G:Gc)(g:D->Option Int->Option Int->Option D):Prop where
 ex:∃r,(∀c,SlR (X c) r)/\SlV G r g
def lR(g:D->Option Int->Option Int->Option D)(f:En->Option D)(fl q:En->Option (Option Int)):En->Option D:=λρ=>(f ρ).bind λx=>(fl ρ).bind λl=>(q ρ).bind λh=>g x l h
def jC(g:D->Option Int->Option Int->Option D)(f:En->Option (D×En))(fl q:En->Option (Option Int)):En->Option (D×En):=λρ=>(f ρ).bind λp=>(fl p.2).bind λl=>(q p.2).bind λh=>(g p.1 l h).map λd=>(d,p.2)
theorem R_{r:V->Option Int->Option Int->Hp->VK->Prop}{g:D->Option Int->Option Int->Option D}{tl th:TO}{fl fh:En->Option (Option Int)}(O:SlV G r g)(h:RfE G ob te f)(hl:RfO G ob tl fl)(hh:RfO G ob th fh):RfE G ob (tSl r te tl th) (lR g f fl fh):=λρ d e σ H W rl w Q q=>by
 unfold lR at e;cases h1:f ρ with
 |none=>simp[h1]at e
 |some x=>
  cases h2:fl ρ with
  |none=>simp[h1,h2]at e
  |some l=>
   cases F:fh ρ with
   |none=>simp[h1,h2,F]at e
   |some u=>
    have e:g x l u=some d:=by simpa[h1,h2,F]using e
    refine h ρ x h1 σ H W rl w _ λv H1 L Z J fr nd=>?_;have u1:Up H H1 W (W.add L):=.add Z fr;have w1:WOk H1 (W.add L):=w.add Z J.dom;refine hl ρ l h2 σ H1 _ (rl.up u1) w1 _ λH2 N=>?_;have u2:Up H1 H2 (W.add L) (W.add L):=.same N;have w2:WOk H2 (W.add L):=λa Y=>let⟨o,O,hm⟩:=w1 a Y;⟨o,N a o O,hm⟩;refine hh ρ u F σ H2 _ ((rl.up u1).up u2) w2 _ λH3 s3=>?_;have u3:Up H2 H3 (W.add L) (W.add L):=.same s3;have w3:WOk H3 (W.add L):=λa Y=>let⟨o,O,hm⟩:=w2 a Y;⟨o,s3 a o O,hm⟩;have ss:=(Z.trans N).trans s3;refine O x l u d e v H3 _ L ((J.up u2).up u3) nd (w.tmp fr) w3 Q λv' H4 L4 s4 r4 f4 n4=>?_;refine q v' H4 L4 (ss.trans s4) ?_ (λa Y=>(f4 a Y).elim (fr a) λz=>ss.none' z) n4;exact r4.up ⟨Same.refl _,λb u U f=>⟨λz=>z.elim (λz=>f.1 (.inl z)) λz=>f.1 (.inr ⟨.inr z,WOk.new w fr z⟩),f.2⟩,λ_ _ _ f=>f⟩
def cutD(ds:List D)(lo hi:Option Int):List D:=(ds.drop (HT.sIx ds.length 0 lo)).take (HT.sIx ds.length ds.length hi-HT.sIx ds.length 0 lo)
def gSl:D->Option Int->Option Int->Option D
 |.lst _ ds,lo,hi=>some (.lst .own (cutD ds lo hi))
 |.tup ds,lo,hi=>some (.tup (cutD ds lo hi))
 |_,_,_=>none
theorem aF.cut(h:aF G H W ds xs L)(lo hi:Option Int):∃M,aF G H W (cutD ds lo hi) (uA xs lo hi) M/\V5 M L:=by
 unfold cutD uA;rw[h.length];obtain⟨A,B,_,h2,rfl⟩:=h.takeDrop (HT.sIx xs.length 0 lo);obtain⟨U,z,F,_,rfl⟩:=h2.takeDrop (HT.sIx xs.length xs.length hi-HT.sIx xs.length 0 lo);exact⟨U,F,(W6 U z).trans (Vx A _)⟩
theorem slb(F:∀c,(X c).K=G.K:=by intro _;rfl):SlB X G gSl:=⟨λx lo hi H Q=>Ry G.K x lo hi H Q∨R9 G.K x lo hi H Q,λc=>by rw[←F c];exact SlR.or JP N_,λdx lo hi d e x H W U rx nd N w Q q=>by
 unfold gSl at e;split at e
 .cases e
  rw[Rep]at rx;obtain⟨a,xs,M,rfl,Z,O⟩:=rx;obtain⟨M',h1,h2⟩:=Z.cut lo hi;exact .inl ⟨a,xs,rfl,O.sq,λp V=>qC h1 (h2.trans O.sub) nd N V q⟩
 .rename_i ds
  cases e;have J:=rx;rw[Rep]at rx;obtain⟨a,xs,rfl,Y,Z⟩:=rx;obtain⟨M',h1,h2⟩:=Z.cut lo hi;refine .inr ⟨a,xs,rfl,SqT.of Y,λz=>?_,λp V=>Eo h1 h2 nd N V q⟩;rw[z]at h1;refine lA (d:=.tup (cutD ds lo hi)) (x:=.ref a) (M:=M') ?_ h2 nd N q;rw[Rep];exact⟨a,xs,rfl,Y,h1⟩
 .cases e⟩
def eSl:=lR gSl
def o8:=jC gSl
theorem pG{lo hi:Option Expr}{fl q:En->Option (Option Int)}(o:SlB X G gSl)(h:PV X G ob e f)(Y:PVO X G ob lo fl)(z:PVO X G ob hi q):PV X G ob (.Subscript e (.Slice lo hi none p2) pos) (eSl f fl q):=let⟨r,o1,o2⟩:=o.ex;let⟨t,a1,a2⟩:=h.ex;let⟨u,b1,b2⟩:=Y.ex;let⟨v,c1,c2⟩:=z.ex;⟨_,λc=>HX (o1 c) (a1 c) (b1 c) (c1 c),R_ o2 a2 b2 c2⟩
def inK(S:List Key)(k:Key):Bool:=S.any λx=>decide (x=k)
def gV(S:List Key)(k:Key):List Key:=if inK S k then S else S++[k]
def jy(ks:List Key):List Key:=ks.foldl gV []
variable{S:List Key}
theorem lK:inK S k=true↔k∈S:=by
 unfold inK;rw[ZP];constructor
 .rintro⟨x,h1,h2⟩
  rw[←of_decide_eq_true h2];exact h1
 .exact λh=>⟨k,h,by simp⟩
theorem wK{x:Key}:inK (gV S k) x=(inK S x||decide (x=k)):=by
 rw[Y4,Y0,lK,lK,decide_eq_true_iff];unfold gV;split
 .rename_i h
  rw[lK]at h;exact⟨.inl,λz=>z.elim id λz=>by rw[z];exact h⟩
 .simp
theorem jF:(gV S k).length=if inK S k then S.length else S.length+1:=by
 unfold gV;split<;>simp
theorem uD{P:U_}{w:World}(r:RelV (kV k) u):u.scannable=true:=by
 cases k with
 |inl i=>obtain⟨t,rfl⟩:=r;rfl
 |inr x=>obtain⟨t,rfl⟩:=r;rfl
variable{l:Addr}{ks:List Key}{A:Vu}
theorem Fv{S it:Addr}{R:Z6->T7->Prop}(z:A.handled=none)(hl:ks.length=its.length)(q:∀(j:Nat)(k:Key)(v:Value),ks[j]? =some k->its[j]? =some v->RelV (kV k) v)(U:its.length+1<Wl)(nS:S≠it)(nl:l≠it)(a6:l≠S):∀(m i:Nat)(V:List Key)(s:T7),its.length-i=m->i<=its.length->s.heap.IsList l its.toArray->s.heap.IsListIter it l i->s.heap.SetOf (aR prog w) S (inK V) V.length->V.length<=i->
  (∀h' tk,(∀b o,b≠S->b≠it->s.heap.get? b=some o->h'.get? b=some o)->h'.SetOf (aR prog w) S (inK ((ks.drop i).foldl gV V)) ((ks.drop i).foldl gV V).length->R (.ok (.ret .none)) {s with heap:=h',toks:=tk})->
  Wf (model prog w) A (.builtin "set.update.loop" ⟨[.ref S,.ref it],[]⟩) R s:=by
 intro m
 induction m with
 |zero=>
  intro i V s hm hi pl N hS Y k;have e:i=its.length:=by omega
  subst e;refine Vp Wv ?_;rw[Vi VG _];unfold Builtin.«set.update.loop»;dsimp only;refine gD (Xo (show A.in1.handled=none from z) N pl (by simp) λh' eb=>?_);dsimp only;refine yr (k h' _ (λb o _ b2 e=>eb b o b2 e) ?_);rw[←hl,Xg];obtain⟨o,es,ep,t,O,rest⟩:=hS;exact⟨o,es,ep,t,eb S _ nS O,rest⟩
 |succ m Z=>
  intro i V s hm hi pl N hS Y k;have J:i<its.length:=by omega
  have a2:i<ks.length:=by omega
  refine Vp Wv ?_;rw[Vi VG _];unfold Builtin.«set.update.loop»;dsimp only;refine gD (Xh N pl (x:=its[i]) (by simp[J]) λh1 a3 a0=>?_);dsimp only;have a5:h1.SetOf (aR prog w) S (inK V) V.length:=by
   obtain⟨o,es,ep,t,O,rest⟩:=hS;exact⟨o,es,ep,t,(a0.2 S nS).trans O,rest⟩
  have rk:=q i ks[i] its[i] (Ug a2) (Ug J);refine gD (U6 ?_);unfold setAdd;refine U6 ?_;refine gD ((aR prog w).pyHash (k:=ks[i]) (iW rk) ?_);refine abK (knd:=aR prog w) (iW rk) (uD (P:=prog) (w:=w) rk) a5 (by omega) λh2 a1 a8=>?_;refine yr ⟨Wb VG _,?_⟩;have a7:h2.SetOf (aR prog w) S (inK (gV V ks[i])) (gV V ks[i]).length:=by
   have e1:(λk'=>inK V k'||decide (k'=ks[i]))=inK (gV V ks[i]):=funext λk'=>wK.symm;rw[←e1,jF];exact a8
  refine Z (i+1) (gV V ks[i]) _ (by omega) J ?_ ?_ a7 ?_ λh' tk kp a4=>k h' tk (λb o b1 b2 e=>kp b o b1 b2 ((a1.2 b b1).trans ((a0.2 b b2).trans e))) ?_
  .obtain⟨o,h1',h2'⟩:=pl
   exact⟨o,(a1.2 l a6).trans ((a0.2 l nl).trans h1'),h2'⟩
  .exact a3.extBut a1.extBut (U3 nS)
  .rw[jF]
   split<;>omega
  .rw[Wo a2]
   exact a4
abbrev dJ(led:Bool):Obj:={cls:=.type "set",dict:=none,data:=.set #[] 0 (.fresh 0 0 led)}
def qK(prog:U_)(w:World)(s:T7)(ks:List Key)(N:T7):Prop:=∃h' tk,N={s with heap:=h',toks:=tk}/\h'.SetOf (aR prog w) s.heap.objs.size (inK (jy ks)) (jy ks).length/\∀b o,s.heap.get? b=some o->h'.get? b=some o
variable{R:abo->T7->Prop}{E:Value->T7->Prop}{s:T7}
theorem HD(z:A.handled=none)(Y:ks.length=its.length)(q:∀(j:Nat)(k:Key)(v:Value),ks[j]? =some k->its[j]? =some v->RelV (kV k) v)(U:its.length+1<Wl)(pl:s.heap.IsList l its.toArray)
  (hR:∀N,qK prog w s ks N->R (.done (.ret .none)) N):wpAny (model prog w) A (Builtin.«set.__init__» ⟨[.ref s.heap.objs.size,.ref l],[]⟩) R E {s with heap:=s.heap.push (dJ led)}:=by
 obtain⟨ol,a7,V,nl,a6⟩:=pl;obtain⟨b2,a1,a8,a0⟩:=ol;simp only at V a6;subst V a6;have J:(s.heap.push (dJ led)).get? s.heap.objs.size=some (dJ led):=Ue _ rfl;have hT:YL {s with heap:=s.heap.push (dJ led)} (.ref s.heap.objs.size) "set":=⟨_,J,rfl⟩;have a2:(s.heap.push (dJ led)).get? l=some {cls:=.type "list",dict:=a1,data:=.seq its.toArray nl,slots:=a0}:=T8 _ a7;have b0:=F.sub_list_set;have b1:=abZ;have Z:(VP "list"==VP "dict")=false:=by decide
 have a5:(s.heap.push (dJ led)).IsList l its.toArray:=⟨_,a2,rfl,nl,rfl⟩;unfold Builtin.«set.__init__» noKeywords Yu;generalize a9:Zx=PI
 wp_walk
 subst a9;refine Wx a5 ?_;refine gD (aak ?_);have a4:l<s.heap.objs.size:=Uc a7;refine Fv (prog:=prog) (w:=w) (its:=its) (ks:=ks) (A:=A) (S:=s.heap.objs.size) (l:=l) z Y q U ?_ ?_ (Ud a4) (its.length-0) 0 [] _ rfl (XM _) ?_ ?_ ?_ (Uk _) λh' tk kp O=>?_
 .show s.heap.objs.size≠(s.heap.push (dJ led)).objs.size
  rw[Ve];exact Ud (VM _)
 .show l≠(s.heap.push (dJ led)).objs.size
  rw[Ve];exact Ud (Vo a4)
 .exact a5.push _
 .exact⟨_,Ue _ rfl,rfl,rfl⟩
 .have hget:((s.heap.push (dJ led)).push {cls:=.type "list_iterator",data:=.fields #[.ref l,.int 0 0]}).get? s.heap.objs.size=some (dJ led):=T8 _ J
  letI:BEq Key:=instBEqOfDecidableEq
  haveI:LawfulBEq Key:=inferInstance
  have e0:(λ_:Key=>false)=inK []:=funext λ_=>rfl;rw[←e0];exact(aat (knd:=aR prog w) led).setOf hget (by unfold Wl;omega)
 .refine yr ?_
  show wpAny _ _ (ret VB) _ _ _;refine yr (hR _ ⟨h',tk,rfl,by rw[Yt]at O;exact O,λb o e=>?_⟩);have a3:b<s.heap.objs.size:=Uc e;refine kp b o (Ud a3) ?_ (T8 _ (T8 _ e));show b≠(s.heap.push (dJ led)).objs.size;rw[Ve];exact Ud (Vo a3)
variable{Q:Value->T7->Prop}
theorem Ef(z:A.handled=none)(a3:ks.length=its.length)(q:∀(j:Nat)(k:Key)(v:Value),ks[j]? =some k->its[j]? =some v->RelV (kV k) v)(U:its.length+1<Wl)(pl:s.heap.IsList l its.toArray)
  (h:∀N,qK prog w s ks N->Q (.ref s.heap.objs.size) N):wpAny (model prog w) A (call (.type "set") [.ref l]) Q E s:=by
 obtain⟨c,tl,a5⟩:=Vh.mro;have a4:=Vh.made;have V:=Vh.sub;refine aaR (aaa ?_);show wpAny _ _ (callAny (.type "set") _) _ _ _;refine yr ⟨aau _ (by decide +kernel),Vp aaM ?_⟩;rw[aav (Z2 "set" [.ref l] []) rfl];have h1:=Vh.notType;have h2:=Vh.canCreate;have a7:=aa6 (.ref l)
 repeat(any_goals(first|assumption|wp_step))
 refine WM (code_set_new_1 (.ref l) (E:=E) (Q₁:=λobj J=>∃led:Bool,obj= .ref s.heap.objs.size/\J={s with heap:=s.heap.push (dJ led)}) λled=>⟨led,rfl,rfl⟩) λr J Z=>?_;cases r with
 |error e=>exact Z
 |ok fl=>
  cases fl with
  |ret obj=>
   obtain⟨led,rfl,rfl⟩:=Z;have hS:(s.heap.push (dJ led)).get? s.heap.objs.size=some (dJ led):=Ue _ rfl;have hT:YL {s with heap:=s.heap.push (dJ led)} (.ref s.heap.objs.size) "set":=⟨_,hS,rfl⟩;have a6:=Vh.init.lookup;have a8:=Vh.init.bind (.ref s.heap.objs.size)
   repeat(any_goals(first|assumption|wp_step))
   refine WM (VL (R:=wants (λr Y=>r= .none/\qK prog w s ks Y) E) Vh.init.plain aa7 (aa8 hT ?_)) λa2 Y a0=>?_
   .exact HD (led:=led) (by simp[z]) a3 q U pl λN O=>⟨rfl,O⟩
   .cases a2 with
    |error e=>exact a0
    |ok a1=>
     cases a1 with
     |ret r=>
      obtain⟨rfl,O⟩:=a0
      repeat(any_goals(first|assumption|wp_step))
      exact h _ O
     |_=>exact a0.elim
  |_=>exact Z.elim
theorem Ej{S it:Addr}{R:Z6->T7->Prop}(z:A.handled=none)(hl:ks.length=its.length)(q:∀(j:Nat)(k:Key)(v:Value),ks[j]? =some k->its[j]? =some v->RelV (kV k) v)(U:its.length+1<Wl)(nS:S≠it)(nl:l≠it)(a6:l≠S):∀(m i:Nat)(V:List Key)(s:T7),its.length-i=m->i<=its.length->s.heap.IsTuple l its.toArray->s.heap.IsTupleIter it l i->s.heap.SetOf (aR prog w) S (inK V) V.length->V.length<=i->
  (∀h' tk,(∀b o,b≠S->b≠it->s.heap.get? b=some o->h'.get? b=some o)->h'.SetOf (aR prog w) S (inK ((ks.drop i).foldl gV V)) ((ks.drop i).foldl gV V).length->R (.ok (.ret .none)) {s with heap:=h',toks:=tk})->
  Wf (model prog w) A (.builtin "set.update.loop" ⟨[.ref S,.ref it],[]⟩) R s:=by
 intro m
 induction m with
 |zero=>
  intro i V s hm hi pl N hS Y k;have e:i=its.length:=by omega
  subst e;refine Vp Wv ?_;rw[Vi VG _];unfold Builtin.«set.update.loop»;dsimp only;refine gD (abr (show A.in1.handled=none from z) N pl (by simp) λh' eb=>?_);dsimp only;refine yr (k h' _ (λb o _ b2 e=>eb b o b2 e) ?_);rw[←hl,Xg];obtain⟨o,es,ep,t,O,rest⟩:=hS;exact⟨o,es,ep,t,eb S _ nS O,rest⟩
 |succ m Z=>
  intro i V s hm hi pl N hS Y k;have J:i<its.length:=by omega
  have a2:i<ks.length:=by omega
  refine Vp Wv ?_;rw[Vi VG _];unfold Builtin.«set.update.loop»;dsimp only;refine gD (abb N pl (x:=its[i]) (by simp[J]) λh1 a3 a0=>?_);dsimp only;have a5:h1.SetOf (aR prog w) S (inK V) V.length:=by
   obtain⟨o,es,ep,t,O,rest⟩:=hS;exact⟨o,es,ep,t,(a0.2 S nS).trans O,rest⟩
  have rk:=q i ks[i] its[i] (Ug a2) (Ug J);refine gD (U6 ?_);unfold setAdd;refine U6 ?_;refine gD ((aR prog w).pyHash (k:=ks[i]) (iW rk) ?_);refine abK (knd:=aR prog w) (iW rk) (uD (P:=prog) (w:=w) rk) a5 (by omega) λh2 a1 a8=>?_;refine yr ⟨Wb VG _,?_⟩;have a7:h2.SetOf (aR prog w) S (inK (gV V ks[i])) (gV V ks[i]).length:=by
   have e1:(λk'=>inK V k'||decide (k'=ks[i]))=inK (gV V ks[i]):=funext λk'=>wK.symm;rw[←e1,jF];exact a8
  refine Z (i+1) (gV V ks[i]) _ (by omega) J ?_ ?_ a7 ?_ λh' tk kp a4=>k h' tk (λb o b1 b2 e=>kp b o b1 b2 ((a1.2 b b1).trans ((a0.2 b b2).trans e))) ?_
  .obtain⟨o,h1',h2'⟩:=pl
   exact⟨o,(a1.2 l a6).trans ((a0.2 l nl).trans h1'),h2'⟩
  .exact a3.extBut a1.extBut (U3 nS)
  .rw[jF]
   split<;>omega
  .rw[Wo a2]
   exact a4
theorem D_(z:A.handled=none)(Y:ks.length=its.length)(q:∀(j:Nat)(k:Key)(v:Value),ks[j]? =some k->its[j]? =some v->RelV (kV k) v)(U:its.length+1<Wl)(pl:s.heap.IsTuple l its.toArray)
  (hR:∀N,qK prog w s ks N->R (.done (.ret .none)) N):wpAny (model prog w) A (Builtin.«set.__init__» ⟨[.ref s.heap.objs.size,.ref l],[]⟩) R E {s with heap:=s.heap.push (dJ led)}:=by
 obtain⟨ol,a7,V,nl,a6⟩:=pl;obtain⟨b2,a1,a8,a0⟩:=ol;simp only at V a6;subst V a6;have J:(s.heap.push (dJ led)).get? s.heap.objs.size=some (dJ led):=Ue _ rfl;have hT:YL {s with heap:=s.heap.push (dJ led)} (.ref s.heap.objs.size) "set":=⟨_,J,rfl⟩;have a2:(s.heap.push (dJ led)).get? l=some {cls:=.type "tuple",dict:=a1,data:=.seq its.toArray nl,slots:=a0}:=T8 _ a7;have b0:=F.sub_tuple_set;have b1:=F.sub_tuple_frozenset;have Z:(VP "tuple"==VP "dict")=false:=by decide
 have a5:(s.heap.push (dJ led)).IsTuple l its.toArray:=⟨_,a2,rfl,nl,rfl⟩;unfold Builtin.«set.__init__» noKeywords Yu;generalize a9:Zx=PI
 wp_walk
 subst a9;refine aas a5 ?_;refine gD (aak ?_);have a4:l<s.heap.objs.size:=Uc a7;refine Ej (prog:=prog) (w:=w) (its:=its) (ks:=ks) (A:=A) (S:=s.heap.objs.size) (l:=l) z Y q U ?_ ?_ (Ud a4) (its.length-0) 0 [] _ rfl (XM _) ?_ ?_ ?_ (Uk _) λh' tk kp O=>?_
 .show s.heap.objs.size≠(s.heap.push (dJ led)).objs.size
  rw[Ve];exact Ud (VM _)
 .show l≠(s.heap.push (dJ led)).objs.size
  rw[Ve];exact Ud (Vo a4)
 .exact a5.push _
 .exact⟨_,Ue _ rfl,rfl,rfl⟩
 .have hget:((s.heap.push (dJ led)).push {cls:=.type "tuple_iterator",data:=.fields #[.ref l,.int 0 0]}).get? s.heap.objs.size=some (dJ led):=T8 _ J
  letI:BEq Key:=instBEqOfDecidableEq
  haveI:LawfulBEq Key:=inferInstance
  have e0:(λ_:Key=>false)=inK []:=funext λ_=>rfl;rw[←e0];exact(aat (knd:=aR prog w) led).setOf hget (by unfold Wl;omega)
 .refine yr ?_
  show wpAny _ _ (ret VB) _ _ _;refine yr (hR _ ⟨h',tk,rfl,by rw[Yt]at O;exact O,λb o e=>?_⟩);have a3:b<s.heap.objs.size:=Uc e;refine kp b o (Ud a3) ?_ (T8 _ (T8 _ e));show b≠(s.heap.push (dJ led)).objs.size;rw[Ve];exact Ud (Vo a3)
theorem zP(z:A.handled=none)(a3:ks.length=its.length)(q:∀(j:Nat)(k:Key)(v:Value),ks[j]? =some k->its[j]? =some v->RelV (kV k) v)(U:its.length+1<Wl)(pl:s.heap.IsTuple l its.toArray)
  (h:∀N,qK prog w s ks N->Q (.ref s.heap.objs.size) N):wpAny (model prog w) A (call (.type "set") [.ref l]) Q E s:=by
 obtain⟨c,tl,a5⟩:=Vh.mro;have a4:=Vh.made;have V:=Vh.sub;refine aaR (aaa ?_);show wpAny _ _ (callAny (.type "set") _) _ _ _;refine yr ⟨aau _ (by decide +kernel),Vp aaM ?_⟩;rw[aav (Z2 "set" [.ref l] []) rfl];have h1:=Vh.notType;have h2:=Vh.canCreate;have a7:=aa6 (.ref l)
 repeat(any_goals(first|assumption|wp_step))
 refine WM (code_set_new_1 (.ref l) (E:=E) (Q₁:=λobj J=>∃led:Bool,obj= .ref s.heap.objs.size/\J={s with heap:=s.heap.push (dJ led)}) λled=>⟨led,rfl,rfl⟩) λr J Z=>?_;cases r with
 |error e=>exact Z
 |ok fl=>
  cases fl with
  |ret obj=>
   obtain⟨led,rfl,rfl⟩:=Z;have hS:(s.heap.push (dJ led)).get? s.heap.objs.size=some (dJ led):=Ue _ rfl;have hT:YL {s with heap:=s.heap.push (dJ led)} (.ref s.heap.objs.size) "set":=⟨_,hS,rfl⟩;have a6:=Vh.init.lookup;have a8:=Vh.init.bind (.ref s.heap.objs.size)
   repeat(any_goals(first|assumption|wp_step))
   refine WM (VL (R:=wants (λr Y=>r= .none/\qK prog w s ks Y) E) Vh.init.plain aa7 (aa8 hT ?_)) λa2 Y a0=>?_
   .exact D_ (led:=led) (by simp[z]) a3 q U pl λN O=>⟨rfl,O⟩
   .cases a2 with
    |error e=>exact a0
    |ok a1=>
     cases a1 with
     |ret r=>
      obtain⟨rfl,O⟩:=a0
      repeat(any_goals(first|assumption|wp_step))
      exact h _ O
     |_=>exact a0.elim
  |_=>exact Z.elim
def JB(K:Ub)(t:TA):TE:=λσ H Q=>t σ H λvs H1=>∃a ks,vs=[.ref a]/\(SqL K H1 a (Uz kV ks)∨SqT K H1 a (Uz kV ks))/\WX ks<4000/\Q (.int (jy ks).length) H1
theorem tL(ks:List Key):(jy ks).length<=ks.length:=by
 have:∀(ks V:List Key),(ks.foldl gV V).length<=V.length+ks.length:=by
  intro ks
  induction ks with
  |nil=>intro V;simp
  |cons k r Z=>
   intro V;have h1:=Z (gV V k);have h2:(gV V k).length<=V.length+1:=by rw[jF];split<;>omega
   simp only[Wr,Uy];omega
 have:=this ks [];rw[Vn,Z_]at this;exact this
variable{X:Cx}{t:TA}
theorem DW(z:Gl X "len")(V:X.mg "len"=none)(a8:X.mg "set"=none)(Y:PA X [e] t)(a5:Gl X "set":=by rfl)(O:Ul [e] X.env=[(false,eval e X.env)]:=by rfl)(J:X.calm=true:=by rfl) :
  PE X (.Call (.Name "len" p1) [.Call (.Name "set" p2) [e] [] q2] [] q1) (JB X.K t):=by
 intro pins s σ H Q I h;refine Ws (lu I z V Xz ?_);refine Yh rfl (Z7 ?_);show wpAny _ _ (spliced ((false,eval (.Call (.Name "set" p2) [e] [] q2) X.env)::V3 q1 (Ul [] X.env))) _ _ s;refine aao ?_;refine Ws (lu I a5 a8 boot_set ?_);refine Wz (thn (Y q2 pins s σ H _ I h) λus Z ⟨vs,H1,F,r1,a9⟩=>?_) O rfl;obtain⟨a,ks,ev,hq,hz,q⟩:=a9;subst ev;obtain⟨u,rfl,ru⟩:=vals1 r1;cases ru;have hh:X.A.handled=none:=F.ok.hd J;rcases hq with hq|hq
 .obtain⟨its,rv,pl,hz2⟩:=F.list hq
  have a0:=rv.length;rw[Ux]at a0;refine Ef (its:=its) (ks:=ks) hh a0 (λj k v e1 e2=>?_) (by show its.length+1<4096;omega) pl.isList λs2 a2=>?_
  .have:(Uz kV ks)[j]? =some (kV k):=by rw[List.getElem?_map,e1];rfl
   obtain⟨w',h1,h2⟩:=rv.get this;rw[e2]at h1;cases h1;exact h2
  .refine Zq ?_
   obtain⟨h',tk,rfl,hS,a1⟩:=a2;have I2:Inv X pins σ H1 {Z with heap:=h',toks:=tk}:=F.kept (t':=tk) a1;obtain⟨o,es,ep,tb,ho,a3,hd,a7,a4,U,hf,N⟩:=hS;have a6:=tL ks;refine call_len_set ho a3 hd hf (by rw[N];omega) ?_;rw[N];exact⟨.int (jy ks).length,H1,I2.tok _,⟨_,rfl⟩,q⟩
 .obtain⟨its,rv,pl,hz2⟩:=F.tuple hq
  have a0:=rv.length;rw[Ux]at a0;refine zP (its:=its) (ks:=ks) hh a0 (λj k v e1 e2=>?_) (by show its.length+1<4096;omega) pl λs2 a2=>?_
  .have:(Uz kV ks)[j]? =some (kV k):=by rw[List.getElem?_map,e1];rfl
   obtain⟨w',h1,h2⟩:=rv.get this;rw[e2]at h1;cases h1;exact h2
  .refine Zq ?_
   obtain⟨h',tk,rfl,hS,a1⟩:=a2;have I2:Inv X pins σ H1 {Z with heap:=h',toks:=tk}:=F.kept (t':=tk) a1;obtain⟨o,es,ep,tb,ho,a3,hd,a7,a4,U,hf,N⟩:=hS;have a6:=tL ks;refine call_len_set ho a3 hd hf (by rw[N];omega) ?_;rw[N];exact⟨.int (jy ks).length,H1,I2.tok _,⟨_,rfl⟩,q⟩
variable{bs:List Bool}
theorem range_all:((V1 bs.length).all λi=>bs.getD i true)=bs.all id:=by
 induction bs with
 |nil=>rfl
 |cons b r Z=>
  rw[Uy,abx,YK,List.all_map,YK,←Z];rfl
variable{v:Value}
theorem RQ(Z:Vals (bs.map V.bl) its){i:Nat}(h:its.toArray[i]? =some v):v= .bool (bs.getD i true):=by
 have h:its[i]? =some v:=by simpa using h
 have Y:=Z.length;rw[Ux]at Y;have hi:i<bs.length:=by rw[Y];exact(List.getElem?_eq_some_iff.mp h).1
 obtain⟨u,h1,h2⟩:=Z.get (show(bs.map V.bl)[i]? =some (V.bl bs[i])by rw[List.getElem?_map,Ug hi];rfl);rw[h]at h1;cases h1;cases h2;simp[List.getD,hi]
theorem vG{xs:List V}(I:Inv X pins σ H s)(pl:s.heap.IsList a its.toArray) :
  a≠s.heap.objs.size:=by
 obtain⟨o,h,_⟩:=pl;exact Ud (Uc h)
theorem Dv(J:X.calm=true):eU X (.builtin "all") (λxs H Q=>∃a bs,xs=[.ref a]/\SqL X.K H a (Uz V.bl bs)/\Q (.bl (List.all bs id)) H):=by
 intro pins s σ H xs us Q I r h;obtain⟨a,bs,rfl,O,q⟩:=h;obtain⟨u,rfl,F⟩:=vals1 r;cases F;obtain⟨its,Z,pl,hz⟩:=I.list O;have z:X.A.handled=none:=I.ok.hd J;have U:a≠s.heap.objs.size:=vG (xs:=[]) I pl.isList;have Y:=Z.length;rw[Ux]at Y;refine call_all_walk (Wx pl.isList ⟨s.heap.objs.size,[s.heap.objs.size,a],[s.heap.objs.size],its.toArray.size,_,_,λi=>bs.getD i true,rfl,ab0 (show X.A.in1.handled=none from z) s.heap.objs.size a U its.toArray,⟨⟨_,Ue _ rfl,rfl,rfl⟩,pl.isList.push _⟩,λi v N Q2 E2 hP hQ=>?_,λh' tk kp=>?_⟩)
 .rw[RQ Z hP]
  exact XC hQ
 .rw[List.size_toArray,←Y,range_all]
  exact⟨.bl _,H,I.kept (t':=tk) λb o e=>kp b o (by simp;exact Ud (Uc e)) (T8 _ e),rfl,q⟩
theorem int_at{ns:List Int}(Z:Vals (ns.map V.int) its){i:Nat}(h:its.toArray[i]? =some v):∃t,v= .int (ns.getD i 0) t:=by
 have h:its[i]? =some v:=by simpa using h
 have Y:=Z.length;rw[Ux]at Y;have hi:i<ns.length:=by rw[Y];exact(List.getElem?_eq_some_iff.mp h).1
 obtain⟨u,h1,h2⟩:=Z.get (show(ns.map V.int)[i]? =some (V.int ns[i])by rw[List.getElem?_map,Ug hi];rfl);rw[h]at h1;cases h1;obtain⟨t,rfl⟩:=h2;exact⟨t,by simp[List.getD,hi]⟩
theorem Di(J:X.calm=true):eU X (.builtin "sum") (λxs H Q=>∃a ns,xs=[.ref a]/\SqL X.K H a (Uz V.int ns)/\Q (.int (List.sum ns)) H):=by
 intro pins s σ H xs us Q I r h;obtain⟨a,ns,rfl,O,q⟩:=h;obtain⟨u,rfl,F⟩:=vals1 r;cases F;obtain⟨its,Z,pl,hz⟩:=I.list O;have hh:X.A.handled=none:=I.ok.hd J;have ne:a≠s.heap.objs.size:=vG (xs:=[]) I pl.isList;have Y:=Z.length;rw[Ux]at Y;have W:=(ab0 (prog:=X.prog) (w:=X.w) (show X.A.in1.handled=none from hh) s.heap.objs.size a ne its.toArray).toS;refine call_sum_walkAnyS (Wx pl.isList ⟨s.heap.objs.size,[s.heap.objs.size,a],[s.heap.objs.size],_,its.toArray.size,_,_,λi=>ns.getD i 0,rfl,W,⟨⟨_,Ue _ rfl,rfl,rfl⟩,pl.isList.push _⟩,λb U=>?_,λi v N=>int_at Z N,λs' t' mv=>?_⟩)
 .have h1:a<s.heap.objs.size:=let⟨_,h,_⟩:=pl.isList;Uc h
  show b<(s.heap.push _).objs.size;rw[Ve];simp at U;rcases U with z|z
  .rw[z];exact VM _
  .rw[z];exact Vo h1
 .rw[List.size_toArray,←Y,preSum_getD,YD]
  obtain⟨h',g',d',a1,a0⟩:=s';have eg:g'=s.gens:=mv.gens;have ed:d'=s.drawn:=mv.drawn;have eo:a0=s.os:=mv.os;subst eg ed eo;exact⟨.int _,H,I.kept (t':=a1) λb o e=>mv.heap b o (by simp;exact Ud (Uc e)) (T8 _ e),⟨_,rfl⟩,q⟩
def MN:D->D->Option D
 |.lst _ ds,.int i=>if i= -1 then some (.lst .own ds.reverse)else none
 |.tup ds,.int i=>if i= -1 then some (.tup ds.reverse)else if i=1 then some (.tup ds)else none
 |_,_=>none
def iJ:List D->Option (List Key)
 |[]=>some []
 |d::r=>(cZ d).bind λk=>(iJ r).map λt=>k::t
theorem qi:∀{ds:List D}{ks:List Key}{xs:List V}{L:List Addr},iJ ds=some ks->aF G H W ds xs L->xs=ks.map kV
 |[],ks,xs,L,h,r=>by cases h;exact r.inv0.1
 |d::t,ks,xs,L,h,r=>by
  obtain⟨x,ys,M,M',rfl,rfl,h1,h2⟩:=r.inv;cases e1:cZ d with
  |none=>simp[iJ,e1]at h
  |some k=>
   cases e2:iJ t with
   |none=>simp[iJ,e1,e2]at h
   |some w=>
    obtain rfl:k::w=ks:=by simpa[iJ,e1,e2]using h
    rw[qi e2 h2,iI h1 e1];rfl
def m5:List D->Option D
 |[.lst _ ds]=>if ds.length<4000 then(iJ ds).map λks=>.int (jy ks).length else none
 |[.tup ds]=>if ds.length<4000 then(iJ ds).map λks=>.int (jy ks).length else none
 |_=>none
theorem qm:∀{ds:List D}{ks:List Key},iJ ds=some ks->ks.length=ds.length
 |[],ks,h=>by cases h;rfl
 |d::t,ks,h=>by
  cases e1:cZ d with
  |none=>simp[iJ,e1]at h
  |some k=>
   cases e2:iJ t with
   |none=>simp[iJ,e1,e2]at h
   |some w=>
    obtain rfl:k::w=ks:=by simpa[iJ,e1,e2]using h
    simp[qm e2]
theorem Am:CaV G (λvs H Q=>∃a ks,vs=[.ref a]/\(SqL G.K H a (Uz kV ks)∨SqT G.K H a (Uz kV ks))/\WX ks<4000/\Q (.int (jy ks).length) H) m5:=λds d e xs H W J r nd N w Q q=>by
 unfold m5 at e;split at e
 .split at e
  .rename_i m ds hl
   cases h1:iJ ds with
   |none=>simp[h1]at e
   |some ks=>
    obtain rfl:D.int (jy ks).length=d:=by simpa[h1]using e
    obtain⟨x,rfl,rx⟩:=r.inv1;rw[Rep]at rx;obtain⟨a,ys,M,rfl,Z,O⟩:=rx;have:=qi h1 Z;subst this;exact⟨a,ks,rfl,.inl O.sq,by rw[qm h1];exact hl,q.scal λ_=>cg⟩
  .cases e
 .split at e
  .rename_i ds hl
   cases h1:iJ ds with
   |none=>simp[h1]at e
   |some ks=>
    obtain rfl:D.int (jy ks).length=d:=by simpa[h1]using e
    obtain⟨x,rfl,rx⟩:=r.inv1;rw[Rep]at rx;obtain⟨a,ys,rfl,Y,Z⟩:=rx;have:=qi h1 Z;subst this;exact⟨a,ks,rfl,.inr (SqT.of Y),by rw[qm h1];exact hl,q.scal λ_=>cg⟩
  .cases e
 .cases e
variable{X:ι->Cx}
theorem CN{f:En->Option (List D)}(z:∀c,Gl (X c) "len")(V:∀c,(X c).mg "len"=none)(N:∀c,(X c).mg "set"=none)(Y:PVA X G ob [e] f)(q:∀c,Gl (X c) "set":=by intro _;rfl)(O:∀c,Ul [e] (X c).env=[(false,eval e (X c).env)]:=by intro _;rfl)(J:∀c,(X c).calm=true:=by intro _;rfl)(F:∀c,(X c).K=G.K:=by intro _;rfl) :
 PV X G ob (.Call (.Name "len" p1) [.Call (.Name "set" p2) [e] [] q2] [] q1) (eAp m5 f):=let⟨t,a1,a2⟩:=Y.ex;⟨_,λc=>(by rw[←F c];exact DW (z c) (V c) (N c) (a1 c) (q c) (O c) (J c)),rm Am a2⟩
def Hu:List D->Option (List Bool)
 |[]=>some []
 |.bl b::r=>(Hu r).map λt=>b::t
 |_::_=>none
theorem ym:∀{ds:List D}{bs:List Bool}{xs:List V}{L:List Addr},Hu ds=some bs->aF G H W ds xs L->xs=bs.map V.bl
 |[],ks,xs,L,h,r=>by cases h;exact r.inv0.1
 |d::t,ks,xs,L,h,r=>by
  obtain⟨x,ys,M,M',rfl,rfl,h1,h2⟩:=r.inv;cases d<;>simp[Hu]at h;obtain⟨w,F,rfl⟩:=h;rw[Rep]at h1;rw[ym F h2,h1.1];rfl
def t_:List D->Option (List Int)
 |[]=>some []
 |.int b::r=>(t_ r).map λt=>b::t
 |_::_=>none
theorem vB:∀{ds:List D}{bs:List Int}{xs:List V}{L:List Addr},t_ ds=some bs->aF G H W ds xs L->xs=bs.map V.int
 |[],ks,xs,L,h,r=>by cases h;exact r.inv0.1
 |d::t,ks,xs,L,h,r=>by
  obtain⟨x,ys,M,M',rfl,rfl,h1,h2⟩:=r.inv;cases d<;>simp[t_]at h;obtain⟨w,F,rfl⟩:=h;rw[Rep]at h1;rw[vB F h2,h1.1];rfl
def N5:List D->Option D
 |[.lst _ ds]=>(Hu ds).map λbs=>.bl (bs.all id)
 |_=>none
def Hz:List D->Option D
 |[.lst _ ds]=>(t_ ds).map λns=>.int ns.sum
 |_=>none
theorem Jx(J:∀c,(X c).calm=true)(F:∀c,(X c).K=G.K:=by intro _;rfl):CaB X G (.builtin "all") N5:=⟨λxs H Q=>∃a bs,xs=[.ref a]/\SqL G.K H a (Uz V.bl bs)/\Q (.bl (List.all bs id)) H,λc=>by rw[←F c];exact Dv (J c),λds d e xs H W z r nd N w Q q=>by
 unfold N5 at e;split at e
 .rename_i m ds
  cases h1:Hu ds with
  |none=>simp[h1]at e
  |some ks=>
   obtain rfl:D.bl (ks.all id)=d:=by simpa[h1]using e
   obtain⟨x,rfl,rx⟩:=r.inv1;rw[Rep]at rx;obtain⟨a,ys,M,rfl,Z,O⟩:=rx;have:=ym h1 Z;subst this;exact⟨a,ks,rfl,O.sq,q.scal λ_=>eY⟩
 .cases e⟩
theorem KR(J:∀c,(X c).calm=true)(F:∀c,(X c).K=G.K:=by intro _;rfl):CaB X G (.builtin "sum") Hz:=⟨λxs H Q=>∃a ns,xs=[.ref a]/\SqL G.K H a (Uz V.int ns)/\Q (.int (List.sum ns)) H,λc=>by rw[←F c];exact Di (J c),λds d e xs H W z r nd N w Q q=>by
 unfold Hz at e;split at e
 .rename_i m ds
  cases h1:t_ ds with
  |none=>simp[h1]at e
  |some ks=>
   obtain rfl:D.int ks.sum=d:=by simpa[h1]using e
   obtain⟨x,rfl,rx⟩:=r.inv1;rw[Rep]at rx;obtain⟨a,ys,M,rfl,Z,O⟩:=rx;have:=vB h1 Z;subst this;exact⟨a,ks,rfl,O.sq,q.scal λ_=>cg⟩
 .cases e⟩
theorem H_{x:Str}:Rep G H W (.str x) (.str x) []:=by rw[Rep];exact⟨rfl,rfl⟩
def Hf:D->Bool
 |.non=>true
 |.bl _=>true
 |.int _=>true
 |.str _=>true
 |_=>false
theorem PB{v:V}(h:Hf d=true)(r:Rep G H W d v L):L=[]/\∀H' W',Rep G H' W' d v []:=by
 cases d<;>simp[Hf]at h<;>rw[Rep]at r<;>obtain⟨rfl,rfl⟩:=r<;>exact⟨rfl,λ_ _=>by rw[Rep];exact⟨rfl,rfl⟩⟩
def oR(g g':D->D->Option D)(fa fb fc:En->Option D):En->Option D:=λρ=>(fa ρ).bind λx=>(fb ρ).bind λy=>if Hf y then(g x y).bind λr=>match r with
 |.bl true=>(fc ρ).bind λz=>g' y z
 |.bl false=>some (.bl false)
 |_=>none else none
theorem Il{r r':R2}{g g':D->D->Option D}{tb tc:TE}{fa fb fc:En->Option D}(O:OpV G r g)(a0:OpV G r' g')(Y:RfE G ob ta fa)(U:RfE G ob tb fb)(J:RfE G ob tc fc):RfE G ob (Iw r r' ta tb tc) (oR g g' fa fb fc):=λρ d e σ H W rl w Q q=>by
 unfold oR at e;cases h1:fa ρ with
 |none=>simp[h1]at e
 |some dx=>
  cases h2:fb ρ with
  |none=>simp[h1,h2]at e
  |some dy=>
   rw[h1,h2]at e;simp only[Ua]at e;split at e
   .rename_i hsc
    cases F:g dx dy with
    |none=>simp[F]at e
    |some dr=>
     rw[F]at e;simp only[Ua]at e;refine RfE.two Y U h1 h2 rl w λx y H' L M s rx ry fr nd w'=>?_;obtain⟨rfl,hy⟩:=PB hsc ry;refine O dx dy dr F x y H' _ L [] rx ry nd (w.tmp fr) w' _ λv H2 L2 N r2 f2 Z=>?_;split at e
     .obtain⟨rfl,rfl⟩:=lz r2
      refine⟨true,rfl,rQ ?_⟩;cases V:fc ρ with
      |none=>simp[V]at e
      |some dz=>
       have e:g' dy dz=some d:=by simpa[V]using e
       have u2:Up H H2 W W:=.same (s.trans N);have w2:WOk H2 W:=λa Y=>let⟨o,O,hm⟩:=w a Y;⟨o,(s.trans N) a o O,hm⟩;refine J ρ dz V σ H2 W (rl.up u2) w2 _ λz H3 L3 s3 r3 f3 n3=>?_;refine a0 dy dz d e y z H3 (W.add L3) [] L3 (hy _ _) r3 (by simpa using n3) (w2.tmp f3) (w2.add s3 r3.dom) Q λv' H4 L4 s4 r4 f4 n4=>?_;refine q v' H4 L4 (((s.trans N).trans s3).trans s4) ?_ (λa Y=>(f4 a Y).elim (λz=>(s.trans N).none' (f3 a z)) λz=>((s.trans N).trans s3).none' z) n4;exact r4.up ⟨Same.refl _,λb u U f=>⟨λz=>z.elim (λz=>f.1 (.inl z)) λz=>f.1 (.inr ⟨.inr z,WOk.new w2 f3 z⟩),f.2⟩,λ_ _ _ f=>f⟩
     .cases e
      obtain⟨rfl,rfl⟩:=lz r2;exact⟨false,rfl,uM (q (.bl false) H2 [] (s.trans N) eY (by simp) Va)⟩
     .cases e
   .cases e
variable{a b c:Expr}
theorem v8{q:CmpOp}{g g':D->D->Option D}{fa fb fc:En->Option D}(o:OpB X G (U4 op) g)(o':OpB X G (U4 q) g')(Y:PV X G ob a fa)(U:PV X G ob b fb)(J:PV X G ob c fc)(V:lastMarks [op,q] [b,c]=false:=by with_unfolding_all rfl):PVT X G ob (.Compare a [op,q] [b,c] pos) (eB (oR g g' fa fb fc)):=
 let⟨r,o1,o2⟩:=o.ex;let⟨r',p1,p2⟩:=o'.ex;let⟨t,a1,a2⟩:=Y.ex;let⟨u,b1,b2⟩:=U.ex;let⟨v,c1,c2⟩:=J.ex;⟨_,λc=>HN (o1 c) (p1 c) (a1 c) (b1 c) (c1 c) V,Rc (Il o2 p2 a2 b2 c2)⟩
def oZ(g:Int->Int->Int)(i:Nat)(f:En->Option D):En->Option Fl:=λρ=>match ρ[i]? with
 |some (some (.int m))=>(f ρ).bind λd=>match d with
  |.int n=>some (.nx (ρ.set i (some (.int (g m n)))))
  |_=>none
 |_=>none
def jT(f:En->Option (List D×En)):En->Option (List D×En):=λρ=>(f ρ).bind λp=>match p.1 with
 |[.int j]=>if -(2 ^ 62)<=j/\j<2 ^ 62 then some (jf 0 j.toNat,p.2)else none
 |_=>none
def jV(it:En->Option (List D×En))(tg:D->En->Option En)(Y:En->Option Fl):En->Option Fl:=λρ=>(it ρ).bind λp=>forL tg Y p.1 p.2
def RZ(own:Nat->Bool)(cap:List (Option Nat)):Bool:=(V1 cap.length).all λi=>!own i||(match cap[i]? with
 |some none=>true
 |_=>false)
theorem ie{own:Nat->Bool}{cap:List (Option Nat)}(h:RZ own cap=true):∀i:Nat,own i=true->cap[i]?≠none->cap[i]? =some none:=λi O N=>by
 have hi:i<cap.length:=by
  by_cases z:i<cap.length
  .exact z
  .exact absurd (Xv (by omega)) N
 have:=List.all_eq_true.mp h i (Zg.mpr hi);rw[O]at this;simp only[ab5,Bool.false_or]at this;split at this
 .assumption
 .cases this
def Wp(o:Option α)(Q:α->Prop):Prop:=∃a,o=some a/\Q a
variable{a:α}{Q:α->Prop}
theorem aU:Wp (some a) Q↔Q a:=⟨λ⟨b,e,q⟩=>by cases e;exact q,λq=>⟨a,rfl,q⟩⟩
theorem fW:Wp (none:Option α) Q↔False:=⟨λ⟨b,e,q⟩=>(by cases e),λz=>z.elim⟩
variable{o:Option α}{R:β->Prop}
theorem bf{f:α->Option β}:Wp (o.bind f) R↔Wp o λa=>Wp (f a) R:=by
 cases o with
 |none=>simp[fW]
 |some a=>simp[aU]
variable{f:α->β}
theorem eZ:Wp (o.map f) R↔Wp o λa=>R (f a):=by
 cases o with
 |none=>simp[fW]
 |some a=>simp[aU]
theorem w_ite{c:Prop}[Decidable c]{a b:Option α}:Wp (if c then a else b) Q↔(if c then Wp a Q else Wp b Q):=by
 split<;>exact Iff.rfl
theorem Wp.mono{N:α->Prop}(h:Wp o Q)(k:∀a,Q a->N a):Wp o N:=let⟨a,e,q⟩:=h;⟨a,e,k a q⟩
theorem Wp.eq(h:Wp o λx=>x=a):o=some a:=let⟨b,e,q⟩:=h;by rw[e,q]
theorem Np(h:o=some a)(q:Q a):Wp o Q:=⟨a,h,q⟩
variable{Q:Fl->Prop}
theorem iY{f g:En->Option Fl}:Wp (bj f g ρ) Q↔Wp (f ρ) λr=>match r with
 |.nx J=>Wp (g J) Q
 |.ret d J=>Q (.ret d J)
 |.brk J=>Q (.brk J)
 |.cnt J=>Q (.cnt J):=by
 unfold bj;cases f ρ with
 |none=>simp[fW]
 |some r=>cases r<;>simp[aU]
variable{Y:En->Option Fl}
theorem Mp(I:Nat->En->Prop):∀{items:List D}{ρ:En}{k:Nat},I k ρ->
  (∀(i:Nat)(d:D)(ρ:En),items[i]? =some d->I (k+i) ρ->Wp (tg d ρ) λρ1=>Wp (Y ρ1) λr=>match r with
   |.nx ρ2=>I (k+i+1) ρ2
   |.cnt ρ2=>I (k+i+1) ρ2
   |.brk ρ2=>Q (.nx ρ2)
   |.ret d ρ2=>Q (.ret d ρ2))->
  (∀ρ,I (k+items.length) ρ->Q (.nx ρ))->Wp (forL tg Y items ρ) Q
 |[],ρ,k,h0,_,h=>by rw[forL];exact aU.mpr (h ρ h0)
 |d::r,ρ,k,h0,hs,h=>by
  rw[forL];obtain⟨ρ1,e1,w⟩:=hs 0 d ρ rfl h0;obtain⟨fl,e2,w⟩:=w;rw[e1,Ua,e2];have Z:∀{ρ2:En},I (k+1) ρ2->Wp (forL tg Y r ρ2) Q:=λV=>Mp I V (λi d ρ hi V=>by
   have:=hs (i+1) d ρ (by simpa using hi) (by rw[show k+(i+1)=k+1+i by omega];exact V);rw[show k+(i+1)+1=k+1+i+1 by omega]at this;exact this) λρ V=>h ρ (by rw[Uy,show k+(r.length+1)=k+1+r.length by omega];exact V)
  cases fl with
  |nx ρ2=>exact Z w
  |cnt ρ2=>exact Z w
  |brk ρ2=>exact aU.mpr w
  |ret d ρ2=>exact aU.mpr w
theorem ph{tg:D->En->Option En}{c:En->Option Bool}{e:En->Option D}{ρ0:En}{p:D->Bool}{f:D->D}:∀{items:List D},(∀d∈items,Wp (tg d ρ0) λρ1=>c ρ1=some (p d)/\(p d=true->e ρ1=some (f d)))->fL tg c e ρ0 items=some ((items.filter p).map f)
 |[],_=>rfl
 |d::r,h=>by
  obtain⟨ρ1,e1,h1,h2⟩:=h d (by simp);have Z:=ph (tg:=tg) (c:=c) (e:=e) (ρ0:=ρ0) (p:=p) (f:=f) (items:=r) λx F=>h x (by simp[F]);rw[fL];cases V:p d with
  |false=>simp[e1,h1,V,Z]
  |true=>simp[e1,h1,V,h2 V,Z]
theorem dX(l:List Str):au (l.map D.str)=true:=dm λd hd=>by obtain⟨x,_,rfl⟩:=Uw.mp hd;rfl
theorem cM(l:List Str):az (l.map D.str)=true:=dh λd hd=>by obtain⟨x,_,rfl⟩:=Uw.mp hd;rfl
theorem bO(b:Bool)(l:List Str):cW b (l.map D.str)=l.map D.str:=by rw[ir,Vg];rfl
theorem lC(l:List Str):fzL (l.map D.str)=l.map D.str:=by rw[nF,Vg];rfl
theorem lr(l:List Str):gf (l.map D.str)=l.map D.str:=by rw[mG,Vg];rfl
theorem pL{β:Type}{f:α->β}{l:List α}(N:0<=i)(h1:i<l.length):∃x,x∈l/\l[i.toNat]? =some x/\atI (l.map f) i=some (f x):=by
 have:i.toNat<l.length:=by omega
 refine⟨l[i.toNat],WT _,by simp[this],?_⟩;unfold atI ixN;rw[Uo N,Uo (by simpa using h1)];simp[this]
theorem filter_tt(l:List α):l.filter (λ_=>true)=l:=by simp
theorem Bq{i:Nat}(h:(jf 0 n)[i]? =some d):i<n/\d= .int (i:Int):=by
 have hi:i<n:=by have:=(List.getElem?_eq_some_iff.mp h).1;simpa[jf]using this
 refine⟨hi,?_⟩;unfold jf at h;rw[List.getElem?_map,aad hi]at h;simpa using h.symm
theorem Ko(h:k∈ks):∃j,dR ks k=some j/\j<ks.length:=by
 cases e:dR ks k with
 |none=>exact absurd h (uP e)
 |some j=>exact⟨j,rfl,rW e⟩
def pD(p:Str×Int):D:=.tup [.str p.1,.int p.2]
theorem Az:∀ps:List (Str×Int),xY (ps.map pD)=some (ps.map λp=>(U5 p.1,.int p.2))
 |[]=>rfl
 |p::r=>by simp[xY,pD,cZ,Az r]
theorem eq_int{j:Int}:gEq (.int i) (.int j)=some (.bl (decide (i=j))):=by
 unfold gEq;rw[Uo ⟨rfl,rfl,.sc (.int i j)⟩];simp[dt,eqD];exact Y4.mpr (by simp)
theorem oM(I:Nat->En->Prop){items:List D}(N:I 0 ρ)
  (O:∀(i:Nat)(d:D)(ρ:En),items[i]? =some d->I i ρ->Wp (tg d ρ) λρ1=>Wp (Y ρ1) λr=>match r with
   |.nx ρ2=>I (i+1) ρ2
   |.cnt ρ2=>I (i+1) ρ2
   |.brk ρ2=>Q (.nx ρ2)
   |.ret d ρ2=>Q (.ret d ρ2))
  (h:∀ρ,I items.length ρ->Q (.nx ρ)):Wp (forL tg Y items ρ) Q:=
 Mp (k:=0) I N (λi d ρ hi V=>by
  rw[Z_]at V⊢;exact O i d ρ hi V) λρ V=>h ρ (by rw[Z_]at V;exact V)
theorem a_{f g:En->Option Fl}(P:En->Prop)(h1:∀N:Fl->Prop,(∀J,P J->N (.nx J))->Wp (f ρ) N)(h2:∀J,P J->Wp (g J) Q):Wp (bj f g ρ) Q:=by
 rw[iY];exact h1 _ λJ h=>h2 J h
theorem Tg{l:List D}:gIx (.lst m l) (.int i)=atI l i:=rfl
open PySem PySem.W PyProof.Rows
variable{x:Value}{Q:Value->T7->Prop}{E:Value->Shared->Prop}{A:Around}{s:Shared}
theorem Ei(J:∀q (N:List Value->T7->Prop),(∀vs Z,wpAny (model prog w) A.in1 (abH vs >>=λl=>Wu [l] (call (.builtin "list.sort") [l] []) >>=λ_=>ret l) (λz s'=>∃v,z= .done (.ret v)/\Q v s') q Z->N vs Z)->wpAny (model prog w) A.in1 (collect x) N q s) :
  wpAny (model prog w) A (call (.builtin "sorted") [x]) Q E s:=by
 refine Calls.call_function_entry kind_sorted plain_sorted entry_sorted (args_sorted1 _) ?_;unfold Builtin.«sorted»;refine gD (m:=checkCount "sorted" 1 1 _) (yr ?_);exact gD (J _ _ λvs Z h=>h)
theorem tK{J:List Addr}{Q:VK}(Z:aF G H W ds xs M)(s:∀a∈M,a∈J)(nd:M.Nodup)(N:∀a∈J,W.tmp a)(hp:H p=none)(q:Done G H W J (.lst .own ds) Q):Q (.ref p) (upd H p (.lst xs)):=by
 have F:Same H (upd H p (.lst xs)):=Same.new hp;have np:p∉M:=λz=>by obtain⟨o,O,_⟩:=Z.dom p z;rw[hp]at O;cases O
 refine q (.ref p) _ (p::M) F ?_ (λa Y=>(Uj.mp Y).elim (λz=>.inr (by rw[z];exact hp)) λz=>.inl (s a z)) (Uu.mpr ⟨np,nd⟩);rw[Rep];exact⟨p,xs,M,rfl,Z.up ⟨F,λb u U f=>⟨λz=>z.elim (λz=>(Uj.mp z).elim (λz=>by rw[z,hp]at U;cases U) λz=>f.1 (N b (s b z)).1) λz=>f.1 z.1,f.2⟩,λ_ _ _ f=>f⟩,aZ,rfl⟩
def zO:List D->Option D
 |[]=>some (.dct .own [] [])
 |_=>none
theorem K3:CaV G (λxs H Q=>∀p,H p=none->Q (.ref p) (upd H p (.dK []))) zO:=λds d e xs H W J r nd N w Q q=>by
 unfold zO at e;split at e
 .cases e
  intro p V;have F:Same H (upd H p (.dK [])):=Same.new V;refine q (.ref p) _ [p] F ?_ (λa Y=>.inr (by rw[UG.mp Y];exact V)) (Uu.mpr ⟨by simp,Va⟩);rw[Rep];exact⟨p,[],[],rfl,⟨rfl,Va⟩,.nil,aZ,rfl⟩
 .cases e
theorem Bj:PV X G ob (.Dict [] [] pos) (eAp zO aN):=⟨_,λc=>Jc,rm K3 tE⟩
def jo(tg:D->En->Option En)(c:En->Option Bool)(fk N:En->Option D)(ρ0:En):List D->Option (List (Key×D))
 |[]=>some []
 |d::r=>(tg d ρ0).bind λρ1=>(c ρ1).bind λb=>if b=true then((fk ρ1).bind cZ).bind λk=>(N ρ1).bind λx=>(jo tg c fk N ρ0 r).map λt=>(k,x)::t else jo tg c fk N ρ0 r
def BL(es:List (Key×D)):Option D:=if(es.map (·.1)).Nodup then some (.dct .own (es.map (·.1)) (es.map (·.2)))else none
def qt(cap:List (Option Nat))(it:En->Option (Bool×List D))(tg:D->En->Option En)(c:En->Option Bool)(fk N:En->Option D):En->Option D:=λρ=>(it ρ).bind λp=>if p.2.length<=1000000 then(jo tg c fk N (fK cap ρ) p.2).bind BL else none
theorem JL(h:k∉ks):dR ks k=none:=Wq.mpr λx F=>by
 have:x≠k:=λz=>h (z▸F);simpa using this
theorem J5{x:V}(e:cZ d=some k)(r:Rep G H W d x L):x=kV k/\L=[]:=by
 cases d with
 |int i=>cases e;rw[Rep]at r;exact r
 |str i=>cases e;rw[Rep]at r;exact r
 |_=>cases e
section
variable{G:Gc}{ob own:Nat->Bool}
theorem Gf{cap:List (Option Nat)}{wi:TI}{g:TG}{tt:TT}{tk te:TE}{it:En->Option (Bool×List D)}{tg:D->En->Option En}{c:En->Option Bool}{fk e:En->Option D}(b4:∀i:Nat,own i=true->cap[i]?≠none->cap[i]? =some none)(hi:RfI G ob wi it)(hg:CK G (obC cap ob) own g tg)(ht:RfT G (obC cap ob) tt c)(hk:RfE G (obC cap ob) tk fk)(N:RfE G (obC cap ob) te e):RfE G ob (GD cap wi g tt tk te) (qt cap it tg c fk e):=λρ d ee σ H W rl w Q q=>by
 unfold qt at ee;cases h1:it ρ with
 |none=>simp[h1]at ee
 |some p=>
  obtain⟨b,items⟩:=p;rw[h1]at ee;simp only[Ua]at ee;split at ee
  .rename_i hlen
   cases h2:jo tg c fk e (fK cap ρ) items with
   |none=>simp[h2]at ee
   |some a7=>
    rw[h2]at ee;simp only[Ua,BL]at ee;split at ee
    .rename_i hnd
     cases ee;refine hi ρ b items h1 σ H W rl w _ λJ H1 Z wk=>?_;refine⟨λi m ys H2=>i+m=items.length/\ys.length<=i/\∃V L rest,Same H1 H2/\Uz (·.1) ys=Uz (·.1) V/\aF G H2 (W.add L) (Uz (·.2) V) (Uz (·.2) ys) L/\(∀a∈L,H1 a=none)/\L.Nodup/\WOk H2 (W.add L)/\jo tg c fk e (fK cap ρ) (items.drop i)=some rest/\V++rest=a7,⟨items.length,by omega,by simp,[],[],a7,Same.refl _,rfl,.nil,by simp,Va,?_,h2,rfl⟩,?_⟩
     .rw[qx];exact w.up Z
     rintro i m ys H2 ⟨c5,c4,V,L,rest,s2,a5,ra,fa,na,wa,a0,a1⟩;have a6:Up H1 H2 W (W.add L):=Up.add s2 fa
     .by_cases hil:i<items.length
      .have hdr:=(Yj hil).symm
       rw[hdr,jo]at a0;refine .inr ⟨wk.go i items[i] (by simp[hil]) H2 _ (LtB.up a6),by have:=six hlen;omega,λa4 H'=>(i+1)+(m-1)=items.length/\a4.length<=i+1/\∃V L rest,Same H1 H'/\Uz (·.1) a4=Uz (·.1) V/\aF G H' (W.add L) (Uz (·.2) V) (Uz (·.2) a4) L/\(∀a∈L,H1 a=none)/\L.Nodup/\WOk H' (W.add L)/\jo tg c fk e (fK cap ρ) (items.drop (i+1))=some rest/\V++rest=a7,λa4 H' h=>⟨m-1,by omega,h⟩,λx H3 hy=>?_⟩;obtain⟨s3,rx⟩:=wk.yld i items[i] (by simp[hil]) H2 _ (LtB.up a6) x H3 hy;cases F:tg items[i] (fK cap ρ)with
       |none=>simp[F]at a0
       |some ρ1=>
        rw[F]at a0;simp only[Ua]at a0;have c1:Rel G H3 (W.add L) (obC cap ob) (fK cap ρ) (ig cap σ):=(rl.cap).up ((Up.same Z).trans (a6.trans (Up.same s3)));have b3:=ra.up (Up.same s3 (W:=W.add L));have b6:WOk H3 (W.add L):=wa.up s3;refine hg items[i] _ ρ1 F x _ H3 (W.add L) rx c1 (by simp[fK,ig]) _ λσ2 b2 c7 k4=>⟨Gx b4 k4,?_⟩;cases h4:c ρ1 with
        |none=>simp[h4]at a0
        |some bb=>
         rw[h4]at a0;simp only[Ua]at a0;refine ht ρ1 bb h4 σ2 H3 (W.add L) b2 b6 _ λH4 s4=>?_;have b7:=b2.up (Up.same s4);have a8:=b6.up s4;cases bb with
         |false=>
          simp only[U0,VN]at a0;exact uM ⟨by omega,by omega,V,L,rest,((s2.trans s3).trans s4),a5,b3.up (Up.same s4),fa,na,a8,a0,a1⟩
         |true=>
          simp only[Vj]at a0;cases h7:fk ρ1 with
          |none=>simp[h7]at a0
          |some dk=>
          cases h8:cZ dk with
          |none=>simp[h7,h8]at a0
          |some k=>
          cases h5:e ρ1 with
          |none=>simp[h5,h7,h8]at a0
          |some y=>
           cases h6:jo tg c fk e (fK cap ρ) (items.drop (i+1))with
           |none=>simp[h5,h6,h7,h8]at a0
           |some a2=>
            obtain rfl:(k,y)::a2=rest:=by simpa[h5,h6,h7,h8]using a0
            refine rQ (hk ρ1 dk h7 σ2 H4 (W.add L) b7 a8 _ λxk b0 c3 a3 b8 c6 c8=>?_);obtain⟨rfl,rfl⟩:=J5 h8 b8;refine⟨k,rfl,?_⟩;have c0:=b7.up (Up.same a3);have c2:=a8.up a3;have a9:Same H1 b0:=((s2.trans s3).trans s4).trans a3;have b1:=(b3.up (Up.same s4 (W:=W.add L))).up (Up.same a3 (W:=W.add L));refine N ρ1 y h5 σ2 b0 (W.add L) c0 c2 _ λv H5 M s5 ry fy ny=>?_;have fM:∀a∈M,H1 a=none:=λa Y=>a9.none' (fy a Y);have b9:∀a∈L,a∉M:=λa h1 h2=>by
             obtain⟨o,O,_⟩:=b1.dom a h1;rw[fy a h2]at O;cases O
            have u5:Up b0 H5 (W.add L) (W.add (L++M)):=⟨s5,λb u U f=>⟨λz=>z.elim (λz=>(T_.mp z).elim (λz=>f.1 (.inl z)) λz=>by rw[fy b z]at U;cases U) λz=>f.1 (.inr z),f.2⟩,λ_ _ _ f=>f⟩;have u6:Up H5 H5 ((W.add L).add M) (W.add (L++M)):=⟨Same.refl _,λb u U f=>⟨λz=>by
             rcases z with z|z
             .exact(T_.mp z).elim (λz=>f.1 (.inr (.inl z))) λz=>f.1 (.inl z)
             .exact f.1 (.inr (.inr z)),f.2⟩,λ_ _ _ f=>f⟩
            have b5:dR (ys.map (·.1)) k=none:=JL λz=>by
             rw[a5]at z;rw[←a1,Vr]at hnd;exact(Ur.mp hnd).2.2 k z k (by simp) rfl
            rw[pq b5];refine⟨by omega,by simp;omega,V++[(k,y)],L++M,a2,a9.trans s5,by simp[a5],?_,λa Y=>(T_.mp Y).elim (fa a) (fM a),dZ na ny b9,?_,rfl,by rw[←a1];simp⟩
            .rw[Vr,Vr];exact(b1.up u5).append (.one (ry.up u6))
            exact w.add (Z.trans (a9.trans s5)) λa Y=>(T_.mp Y).elim (λz=>let⟨o,h,m⟩:=b1.dom a z;⟨o,s5 a o h,m⟩) (ry.dom a)
      .have hl:i=items.length:=by omega
       subst hl;rw[Xg,jo]at a0;cases a0;refine .inl ⟨wk.stop H2 _ (LtB.up a6),XX (six (by omega)),λp hp=>?_⟩;have sm:Same H2 (upd H2 p (.dK ys)):=Same.new hp;rw[UJ]at a1;subst a1;refine q (.ref p) _ (p::L) ((Z.trans s2).trans sm) ?_ (λa Y=>(Uj.mp Y).elim (λz=>by rw[z];exact(Z.trans s2).none' hp) λz=>Z.none' (fa a z)) (Uu.mpr ⟨λz=>?_,na⟩)
       .rw[Rep]
        exact⟨p,ys,L,rfl,⟨a5,hnd⟩,ra.up ⟨sm,λb u U f=>⟨λz=>z.elim (λz=>(Uj.mp z).elim (λz=>by rw[z,hp]at U;cases U) λz=>f.1 (.inl z)) λz=>f.1 (.inr z),f.2⟩,λ_ _ _ f=>f⟩,aZ,rfl⟩
       .obtain⟨o,O,_⟩:=ra.dom p z
        rw[hp]at O;cases O
    .cases ee
  .cases ee
end
section
variable{ι:Type}{X:ι->Cx}{G:Gc}{ob:Nat->Bool}{kx vx target iter:Expr}{ifs:List Expr}{scope:Scope}{pos pos' pos2:Pos}{N':List Str}{it:En->Option (Bool×List D)}{tg:D->En->Option En}{fc:En->Option Bool}{fk fe:En->Option D}
theorem zb(cap:List (Option Nat))(own:Nat->Bool)(F:∀c,(X c).xe=NoX)(J:∀c,(X c).calm=true)(O:∀c,dU (X c).env.scope (X c).N N' scope cap)(U:∀i:Nat,own i=true->cap[i]?≠none->cap[i]? =some none)(hi:PVI X G ob target iter it)(z:DP (InX X N' scope) G (obC cap ob) own target tg)(Y:Fq (InX X N' scope) G (obC cap ob) ifs fc)(q:PV (InX X N' scope) G (obC cap ob) kx fk)(V:PV (InX X N' scope) G (obC cap ob) vx fe)
  (Z:∀c,∀x,Ww iter (X c).env x=pure x:=by intro _ _;rfl):PV X G ob (.DictComp kx vx [⟨target,iter,ifs,0⟩] scope pos) (qt cap it tg fc fk fe):=
 let⟨_,i1,i2⟩:=hi.ex;let⟨_,g1,g2⟩:=z.ex;let⟨_,t1,t2⟩:=Y.ex;let⟨_,k1,k2⟩:=q.ex;let⟨_,e1,e2⟩:=V.ex
 ⟨_,λc=>Jm (F c) (J c) (O c) (i1 c) (λC s H fp=>g1 (c,C,s,H,fp)) (λC s H fp=>t1 (c,C,s,H,fp)) (λC s H fp=>k1 (c,C,s,H,fp)) (λC s H fp=>e1 (c,C,s,H,fp)) (Z c),Gf U i2 g2 t2 k2 e2⟩
end
theorem pQ:∀{ns:List Int}{vs:List V}{M:List Addr},aF G H W (ns.map D.int) vs M->vs=ns.map V.int
 |[],vs,M,r=>r.inv0.1
 |n::t,vs,M,r=>by
  obtain⟨x,F,z,q,rfl,rfl,q1,q2⟩:=aF.inv (r:=t.map D.int) r;rw[Rep]at q1;rw[q1.1,pQ q2];rfl
def l_:List D->Option (List Int)
 |[]=>some []
 |.int i::r=>(l_ r).map (i::·)
 |_=>none
theorem uf:∀{ds:List D}{ns:List Int},l_ ds=some ns->ds=ns.map D.int
 |[],ns,h=>by cases h;rfl
 |d::r,ns,h=>by
  cases d<;>simp only[l_]at h<;>try cases h
  simp only[abw]at h;obtain⟨t,h1,rfl⟩:=h;rw[uf h1];rfl
open PySem
def Ris(xs:Array Nat):Prop:=xs.toList.Pairwise (· < ·)
variable{xs:Array Nat}{i:Nat}
theorem Ris.lt(h:Ris xs)(F:i<j)(U:j<xs.size):xs.getD i 0<xs.getD j 0:=by
 have:=List.pairwise_iff_getElem.mp h i j (by simpa using Nat.lt_trans F U) (by simpa using U) F;rw[YF,YF]at this;rw[U7,U7,W8 xs i (Nat.lt_trans F U),W8 xs j U];exact this
theorem getD_in{a b:Nat}(h:i<xs.size):xs.getD i a=xs.getD i b:=by
 rw[U7,U7,W8 xs i h];rfl
theorem uL{xs:Array Nat}(Z:Ris xs)(j:Nat):∀(f lo hi:Nat),hi-lo<=f->lo<=hi->hi<=xs.size->(∀i,i<lo->xs.getD i 0<j)->(∀i,hi<=i->i<xs.size->j<=xs.getD i 0)->
  Zv xs j f lo hi<=xs.size/\(∀i,i<Zv xs j f lo hi->xs.getD i 0<j)/\∀i,Zv xs j f lo hi<=i->i<xs.size->j<=xs.getD i 0
 |0,lo,hi,hf,h1,h2,ha,hb=>by
  have e:lo=hi:=by omega
  subst e;exact⟨h2,ha,hb⟩
 |f+1,lo,hi,hf,h1,h2,ha,hb=>by
  rw[Zv];split
  .rename_i hlt
   dsimp only;have V:(lo+hi) / 2<hi:=by omega
   have J:lo<=(lo+hi) / 2:=by omega
   split
   .rename_i hc
    rw[getD_in (b:=0) (by omega)]at hc;refine uL Z j f _ hi (by omega) (by omega) h2 (λi q=>?_) hb;by_cases e:i=(lo+hi) / 2
    .subst e;exact hc
    .exact Nat.lt_trans (Z.lt (by omega) (by omega)) hc
   .rename_i hc
    rw[getD_in (b:=0) (by omega)]at hc;refine uL Z j f lo _ (by omega) (by omega) (by omega) ha λi q O=>?_;by_cases e:i=(lo+hi) / 2
    .subst e;omega
    .have:=Z.lt (i:=(lo+hi) / 2) (j:=i) (by omega) O
     omega
  .have e:lo=hi:=by omega
   subst e;exact⟨h2,ha,hb⟩
theorem tW(Z:Ris xs)(j:Nat):SetTable.below xs j<=xs.size/\(∀i,i<SetTable.below xs j->xs.getD i 0<j)/\∀i,SetTable.below xs j<=i->i<xs.size->j<=xs.getD i 0:=
 uL Z j xs.size 0 xs.size (by omega) (by omega) (Uk _) (λi h=>absurd h (acV i)) λi h1 h2=>by omega
theorem below_zero(Z:Ris xs):SetTable.below xs 0=0:=by
 obtain⟨h1,h2,_⟩:=tW Z 0;rcases acs (SetTable.below xs 0)with e|e
 .exact e
 .exact absurd (h2 0 e) (acV _)
theorem below_next(Z:Ris xs)(hi:i<xs.size):SetTable.below xs (xs.getD i 0+1)=i+1:=by
 obtain⟨h1,h2,F⟩:=tW Z (xs.getD i 0+1);rcases Nat.lt_trichotomy (SetTable.below xs (xs.getD i 0+1)) (i+1)with e|e|e
 .have:=F i (by omega) hi;omega
 .exact e
 .have:=h2 (i+1) e
  have:=Z.lt (i:=i) (j:=i+1) (by omega) (by omega);omega
theorem zG(Z:Ris xs)(q:xs[SetTable.below xs j]?≠some j):Ris (acH xs (SetTable.below xs j) j):=by
 obtain⟨h1,h2,F⟩:=tW Z j;generalize SetTable.below xs j=p at h1 h2 F q;unfold Ris acH;have e1:(xs.extract 0 p).toList=xs.toList.take p:=by simp
 have e2:(xs.extract p xs.size).toList=xs.toList.drop p:=by simp;exact Xi (by simp)
 rw[Array.toList_append,aaN,e1,e2];have O:=ZX p xs.toList;have V:(xs.toList.take p++xs.toList.drop p).Pairwise (· < ·):=by rw[O];exact Z
 obtain⟨p1,p2,p3⟩:=aab.mp V;have lo:∀a∈xs.toList.take p,a<j:=λa Y=>by
  obtain⟨i,hi,rfl⟩:=YW Y;rw[WR]at hi;have:=h2 i (by omega);rw[List.getElem_take,YF];rwa[U7,W8 xs i (by omega),ZQ]at this
 have hi:∀a∈xs.toList.drop p,j<a:=λa Y=>by
  obtain⟨i,hi,rfl⟩:=YW Y;rw[aa3,VR]at hi;have J:=F (p+i) (by omega) (by omega);rw[List.getElem_drop,YF];rw[U7,W8 xs (p+i) (by omega),ZQ]at J;rcases Nat.lt_or_eq_of_le J with z|z
  .exact z
  .exfalso
   rcases acs i with e|e
   .subst e;apply q;rw[W8 xs p (by omega)];simp only[Nat.add_zero]at z;rw[z]
   .have:=Z.lt (i:=p) (j:=p+i) (by omega) (by omega)
    have N:=F p (Uk _) (by omega);rw[U7,U7,W8 xs (p+i) (by omega),ZQ]at this;rw[U7]at N;omega
 refine aab.mpr ⟨aab.mpr ⟨p1,by simp,λa Y b U=>?_⟩,p2,λa Y b U=>?_⟩
 .rw[UG.mp U];exact lo a Y
 .rcases T_.mp Y with z|z
  .exact p3 a z b U
  .rw[UG.mp z];exact hi b U
theorem CZ(n:Nat):Ris (Array.range n):=by
 unfold Ris;rw[Array.toList_range];exact aby
def RisT(t:X8)(b:Bool):Prop:=Ris t.place/\t.led=b
variable{t:X8}
theorem uH{t:X8}{f:Nat->Int}{h:Int}{j:Nat}{d:Option Nat}:∀{k:Nat}{p:ac0},(∀x,p.dummy=some x->t.slot x= .dummy)->aaO t f h k p=some (.empty j d)->t.slot j= .empty/\∀x,d=some x->t.slot x= .dummy
 |0,p,_,e=>by simp[aaO]at e
 |k+1,p,hd,e=>by
  rw[aaO]at e;have z:∀q:ac0,(t.advance q).dummy=q.dummy:=λq=>by
   unfold SetTable.advance;split<;>rfl
  split at e
  .rename_i hs
   injection e with e;injection e with e1 e2;subst e1 e2;exact⟨hs,hd⟩
  .rename_i hs
   refine uH (λx F=>?_) e;rw[z]at F;injection F with F;subst F;exact hs
  .split at e
   .cases e
   .refine uH (λx F=>?_) e
    rw[z]at F;exact hd x F
theorem vC(h:t.slot j= .empty∨t.slot j= .dummy):t.place[SetTable.below t.place j]?≠some j:=λe=>by
 unfold SetTable.slot at h;dsimp only at h;rw[e]at h;simp at h
variable{b:Bool}
theorem jO(h:t.led=b):RisT (t.standIn n) b:=⟨CZ n,h⟩
variable{es:Array (Int×Value)}
theorem zZ{h:Int}(Y:RisT t b):RisT (layNew t es h x).2.1 b:=by
 unfold layNew;cases Z:t.freeSlot h with
 |none=>exact jO Y.2
 |some V=>
  obtain⟨slot,F⟩:=V;dsimp only;have q:t.place[SetTable.below t.place slot]?≠some slot:=by
   unfold SetTable.freeSlot at Z;split at Z
   .rename_i j d hp
    have O:=uH (t:=t) (by simp[SetTable.probeStart]) hp;injection Z with Z;injection Z with h1 h2;subst h1;cases d with
    |none=>exact vC (.inl O.1)
    |some y=>exact vC (.inr (O.2 y rfl))
   .cases Z
  have z:RisT (t.put slot).1 b:=⟨zG Y.1 q,Y.2⟩;unfold SetTable.orStandIn;split
  .exact z
  .exact jO z.2
theorem xn(ht:t.led=b):RisT (aa9 t es n).2.1 b:=by
 unfold aa9;cases Z:t.relaid (es.map (·.1)) n with
 |none=>exact jO ht
 |some V=>
  obtain⟨t',U⟩:=V;dsimp only;split
  .unfold SetTable.relaid SetTable.laid at Z
   cases O:SetTable.layClean (SetTable.sizeAbove n-1) (es.map (·.1))with
   |none=>simp[O]at Z
   |some owner=>
    simp only[O,Option.bind_eq_bind,Ua,Option.pure_def,XD,ab6]at Z;obtain⟨rfl,_⟩:=Z;refine⟨?_,ht⟩;unfold Ris;dsimp only;have N:∀l:List Nat,l.Pairwise (· < ·)->((l.filterMap λj=>(owner.getD j none).map (j,·)).map (·.1)).Pairwise (· < ·)/\∀x∈(l.filterMap λj=>(owner.getD j none).map (j,·)).map (·.1),x∈l:=by
     intro l
     induction l with
     |nil=>intro _;simp
     |cons a r ih=>
      intro hl;obtain⟨q,a0⟩:=Zd.mp hl;obtain⟨i1,J⟩:=ih a0;rw[YT];cases Y:owner.getD a none with
      |none=>simp only[Option.map_none];exact⟨i1,λx F=>Ut _ (J x F)⟩
      |some y=>
       simp only[W7,Um];refine⟨Zd.mpr ⟨λx F=>q x (J x F),i1⟩,λx F=>?_⟩;rcases Uj.mp F with z|z
       .rw[z];exact Vb ..
       .exact Ut _ (J x z)
    exact(N _ aby).1
  .exact jO ht
abbrev ledW(w:World):Bool:=!w.params.followText "set-order"
def uZ(knd:KeyKind prog w Key)(h:Heap)(a:Addr)(S:Key->Bool)(n:Nat):Prop:=∃o es ep t,h.get? a=some o/\o.ExactSet/\o.data= .set es ep t/\ElemsOf knd es.toList/\(∀k,S k=true↔∃e∈es.toList,knd.is k e.2=true)/\es.size<Wl/\t.fits es.size=true/\es.size=n/\RisT t (ledW w)
variable{a:Addr}{o:Obj}{S':Key->Bool}{knd:KeyKind prog w Key}
theorem uv(O:h.get? a=some o)(Y:o.ExactSet)(hd:o.data= .set es ep t)
  {J:Array (Int×Value)} {t':X8}  (F:ElemsOf knd J.toList) (q:∀k,S' k=true↔∃e∈J.toList,knd.is k e.2=true) (U:J.size<Wl) (N:t'.fits J.size=true) (Z:RisT t' (ledW w)) :
  (h.update a (acW J t')).get? a=some {o with data:=.set J (ep+1) t'}/\uZ knd (h.update a (acW J t')) a S' J.size:=by
 obtain⟨z,_⟩:=SetOf_store (knd:=knd) O Y hd F q U N;exact⟨z,_,J,ep+1,t',z,Y,rfl,F,q,U,N,rfl,Z⟩
theorem y_{g:Bool->Sem Unit}(hg:∀(b:Bool)(J:T7)(Q':Unit->T7->Prop),Q' () J->wpAny (model prog w) A (g b) Q' E J)
       (O:s.heap.get? a=some o) (Y:o.ExactSet) (hd:o.data= .set es ep t)
  {U:Array (Int×Value)} {t2:X8}  (a1:ElemsOf knd U.toList) (a0:∀F,S' F=true↔∃e∈U.toList,knd.is F e.2=true)
  (a2:U.size<Wl) (a9:t2.fits U.size=true) (a5:RisT t2 (ledW w)) {wd:Bool} {R:Option Bool->T7->Prop}
  (h:∀h',WL a s.heap h'->uZ knd h' a S' U.size->R (some true) {s with heap:=h'}) :
  wpAny (model prog w) A (do
   storeSet a U t2
   if(!wd&&t2.tooFull)=true then do
     g (aa9 t2 U (XS U.size)).2.2
     storeSet a (aa9 t2 U (XS U.size)).1 (aa9 t2 U (XS U.size)).2.1
     pure (some true)
    else pure (some true)) R E s:=by
 refine gD (wpAny_storeSet_of O hd ?_ (fits_of_scanBound a2));obtain⟨a7,a8⟩:=uv (knd:=knd) O Y hd a1 a0 a2 a9 a5;have V:=YX s.heap a (acW U t2);split
 .have p:=relayAll_perm t2 U (XS U.size)
  have f:=relayAll_fits t2 U (XS U.size);have r:=xn (t:=t2) (es:=U) (n:=XS U.size) a5.2;generalize aa9 t2 U (XS U.size)=Z at p f r⊢;obtain⟨a6,t3,g2⟩:=Z;dsimp only at p f r⊢;have z:a6.size=U.size:=by rw[←VR,p.length_eq,VR]
  have a4:a6.size<Wl:=by rw[z];exact a2
  refine gD (hg _ _ _ ?_);refine gD (wpAny_storeSet_of a7 rfl ?_ (fits_of_scanBound a4));obtain⟨_,a3⟩:=uv (knd:=knd) a7 Y rfl (a1.perm p) (S':=S') (λF=>(a0 F).trans ⟨λ⟨e,N,q⟩=>⟨e,p.mem_iff.mpr N,q⟩,λ⟨e,N,q⟩=>⟨e,p.mem_iff.mp N,q⟩⟩) a4 f r;rw[z]at a3;exact yr (h _ (V.trans (YX _ a _)) a3)
 .exact yr (h _ V a8)
theorem L_{S:Key->Bool}{Q:Bool->T7->Prop}(a0:knd.is k x=true)(a5:x.scannable=true)(hS:uZ knd s.heap a S n)(a8:n+1<Wl)
  (h:∀h',WL a s.heap h'->uZ knd h' a (λF=>S F||decide (F=k)) (if S k then n else n+1)->Q (!S k) {s with heap:=h'}) :
  wpAny (model prog w) A (setAddHashed a x (knd.hash k)) Q E s:=by
 obtain⟨o,es,ep,t,O,Y,hd,a4,a1,U,hf,N,hr⟩:=hS;unfold setAddHashed setAddHashedIn;refine U6 (gD (Xa O hd hf ?_));dsimp only;rw[byScan_of a5 U a4];simp only[↓reduceIte];unfold setAddByScan;refine gD (gD (W3 (gD (wpAny_setScan_of a0 O hd hf a4 ?_))));cases b0:ab7 (λe=>knd.is k e.2) es.toList with
 |some j=>
  dsimp only;obtain⟨hj,b2,_⟩:=Vl.mp b0;have a3:S k=true:=(a1 k).mpr ⟨es.toList[j],WT hj,b2⟩;refine yr (yr ?_);have:=h s.heap (Heap.SameBut.refl a s.heap) ⟨o,es,ep,t,O,Y,hd,a4,λF=>by
   rw[Y0,XF,←a1 F];exact⟨λz=>z.elim id (λe=>e▸a3),.inl⟩,U,hf,by rw[a3];exact N,hr⟩
  rw[a3]at this;obtain⟨V,g,d,tk,os⟩:=s;exact this
 |none=>
  dsimp only;have a3:S k=false:=by
   cases q:S k with
   |false=>rfl
   |true=>obtain⟨e,he,V⟩:=(a1 k).mp q;have:=Wq.mp b0 e he;rw[V]at this;exact Bool.noConfusion this
  have b1:∀(b:Bool){J:T7}{Q':Unit->T7->Prop},Q' () J->wpAny (model prog w) A (match b with|true=>rule "set.scan.the-table-gave-way"|false=>pure ()) Q' E J:=λb J Q' hq=>by
   cases b<;>first|exact yr hq|exact W3 hq
  have p:=layNew_perm t es (knd.hash k) x;have f:=layNew_fits t es (knd.hash k) x;have r:=zZ (es:=es) (h:=knd.hash k) (x:=x) hr;generalize layNew t es (knd.hash k) x=Z at p f r⊢;obtain⟨a7,t1,wd,gv⟩:=Z;dsimp only at p f r⊢;rw[aaN]at p;have z:a7.size=n+1:=by rw[←VR,p.length_eq,We,VR,N];rfl
  have a9:a7.size<Wl:=by rw[z];exact a8
  refine gD (b1 _ ?_);have a6:∀h',WL a s.heap h'->uZ knd h' a (λF=>S F||decide (F=k)) a7.size->Q true {s with heap:=h'}:=λh' sb a2=>by
   have:=h h' sb;rw[a3]at this;rw[z]at a2;exact this a2
  split
  .refine gD ?_
   rw[hashByValue_scannable 8 a5];refine yr ?_;refine y_ ?_ O Y hd ((a4.push a0 a5).perm p) (mem_push_iff a0 a1 p) a9 ?_ ?_ ?_
   .intro b J Q' hq;cases b<;>first|exact yr hq|exact W3 hq
   .split
    .exact f
    .exact SetTable.fits_plain_off f
   .split
    .exact r
    .exact r
   .intro h' sb a2;dsimp only;exact yr (a6 h' sb a2)
  .refine gD (yr ?_)
   simp only[↓reduceIte];refine y_ ?_ O Y hd ((a4.push a0 a5).perm p) (mem_push_iff a0 a1 p) a9 f r ?_
   .intro b J Q' hq;cases b<;>first|exact yr hq|exact W3 hq
   .intro h' sb a2;dsimp only;exact yr (a6 h' sb a2)
theorem LC(a:Value){Q₁:Value->T7->Prop}(h:Q₁ (.ref s.heap.objs.size) {s with heap:=s.heap.push (dJ (ledW w))}) :
  Wf (model prog w) A (.call (.builtin "set.__new__") ⟨[.type "set",a],[]⟩) (wants Q₁ E) s:=by
 refine aaa ?_;show wpAny _ A.in1 (do checkBuiltinCall "set.__new__" ⟨[.type "set",a],[]⟩;again (.builtin "set.__new__" ⟨[.type "set",a],[]⟩)) _ _ s;refine gD (XQ (F.newCall_set_1 a) (yr ⟨Wb F.plain_set_new _,Vp F.entry_set_new ?_⟩));rw[Vi F.plain_set_new _];unfold Builtin.«set.__new__» ac5;have q:=sub_set_self;obtain⟨V,g,d,tk,os⟩:=s;dsimp only
 wp_walk
 refine X_ (yr ?_);dsimp only;simp only[newObj];refine gD (wpAny_alloc (yr ?_));exact yr h
variable{A:Vu}
theorem Eh{S it:Addr}{R:Z6->T7->Prop}(z:A.handled=none)(hl:ks.length=its.length)(q:∀(j:Nat)(k:Key)(v:Value),ks[j]? =some k->its[j]? =some v->RelV (kV k) v)(U:its.length+1<Wl)(nS:S≠it)(nl:l≠it)(a6:l≠S):∀(m i:Nat)(V:List Key)(s:T7),its.length-i=m->i<=its.length->s.heap.IsList l its.toArray->s.heap.IsListIter it l i->uZ (aR prog w) s.heap S (inK V) V.length->V.length<=i->
  (∀h' tk,(∀b o,b≠S->b≠it->s.heap.get? b=some o->h'.get? b=some o)->uZ (aR prog w) h' S (inK ((ks.drop i).foldl gV V)) ((ks.drop i).foldl gV V).length->R (.ok (.ret .none)) {s with heap:=h',toks:=tk})->
  Wf (model prog w) A (.builtin "set.update.loop" ⟨[.ref S,.ref it],[]⟩) R s:=by
 intro m
 induction m with
 |zero=>
  intro i V s hm hi pl N hS Y k;have e:i=its.length:=by omega
  subst e;refine Vp Wv ?_;rw[Vi VG _];unfold Builtin.«set.update.loop»;dsimp only;refine gD (Xo (show A.in1.handled=none from z) N pl (by simp) λh' eb=>?_);dsimp only;refine yr (k h' _ (λb o _ b2 e=>eb b o b2 e) ?_);rw[←hl,Xg];obtain⟨o,es,ep,t,O,rest⟩:=hS;exact⟨o,es,ep,t,eb S _ nS O,rest⟩
 |succ m Z=>
  intro i V s hm hi pl N hS Y k;have J:i<its.length:=by omega
  have a2:i<ks.length:=by omega
  refine Vp Wv ?_;rw[Vi VG _];unfold Builtin.«set.update.loop»;dsimp only;refine gD (Xh N pl (x:=its[i]) (by simp[J]) λh1 a3 a0=>?_);dsimp only;have a5:uZ (aR prog w) h1 S (inK V) V.length:=by
   obtain⟨o,es,ep,t,O,rest⟩:=hS;exact⟨o,es,ep,t,(a0.2 S nS).trans O,rest⟩
  have rk:=q i ks[i] its[i] (Ug a2) (Ug J);refine gD (U6 ?_);unfold setAdd;refine U6 ?_;refine gD ((aR prog w).pyHash (k:=ks[i]) (iW rk) ?_);refine L_ (knd:=aR prog w) (iW rk) (uD (P:=prog) (w:=w) rk) a5 (by omega) λh2 a1 a8=>?_;refine yr ⟨Wb VG _,?_⟩;have a7:uZ (aR prog w) h2 S (inK (gV V ks[i])) (gV V ks[i]).length:=by
   have e1:(λk'=>inK V k'||decide (k'=ks[i]))=inK (gV V ks[i]):=funext λk'=>wK.symm;rw[←e1,jF];exact a8
  refine Z (i+1) (gV V ks[i]) _ (by omega) J ?_ ?_ a7 ?_ λh' tk kp a4=>k h' tk (λb o b1 b2 e=>kp b o b1 b2 ((a1.2 b b1).trans ((a0.2 b b2).trans e))) ?_
  .obtain⟨o,h1',h2'⟩:=pl
   exact⟨o,(a1.2 l a6).trans ((a0.2 l nl).trans h1'),h2'⟩
  .exact a3.extBut a1.extBut (U3 nS)
  .rw[jF]
   split<;>omega
  .rw[Wo a2]
   exact a4
def wA(prog:U_)(w:World)(s:T7)(ks:List Key)(N:T7):Prop:=∃h' tk,N={s with heap:=h',toks:=tk}/\uZ (aR prog w) h' s.heap.objs.size (inK (jy ks)) (jy ks).length/\∀b o,s.heap.get? b=some o->h'.get? b=some o
variable{E:Value->T7->Prop}{s:T7}
theorem CJ(z:A.handled=none)(Y:ks.length=its.length)(q:∀(j:Nat)(k:Key)(v:Value),ks[j]? =some k->its[j]? =some v->RelV (kV k) v)(U:its.length+1<Wl)(pl:s.heap.IsList l its.toArray){R:abo->T7->Prop}
  (hR:∀s2,wA prog w s ks s2->R (.done (.ret .none)) s2):wpAny (model prog w) A (Builtin.«set.__init__» ⟨[.ref s.heap.objs.size,.ref l],[]⟩) R E {s with heap:=s.heap.push (dJ (ledW w))}:=by
 obtain⟨ol,a7,V,nl,a6⟩:=pl;obtain⟨b2,a1,a8,a0⟩:=ol;simp only at V a6;subst V a6;have J:(s.heap.push (dJ (ledW w))).get? s.heap.objs.size=some (dJ (ledW w)):=Ue _ rfl;have hT:YL {s with heap:=s.heap.push (dJ (ledW w))} (.ref s.heap.objs.size) "set":=⟨_,J,rfl⟩;have a2:(s.heap.push (dJ (ledW w))).get? l=some {cls:=.type "list",dict:=a1,data:=.seq its.toArray nl,slots:=a0}:=T8 _ a7;have b0:=F.sub_list_set;have b1:=abZ;have Z:(VP "list"==VP "dict")=false:=by decide
 have a5:(s.heap.push (dJ (ledW w))).IsList l its.toArray:=⟨_,a2,rfl,nl,rfl⟩;unfold Builtin.«set.__init__» noKeywords Yu;generalize a9:Zx=PI
 wp_walk
 subst a9;refine Wx a5 ?_;refine gD (aak ?_);have a4:l<s.heap.objs.size:=Uc a7;refine Eh (prog:=prog) (w:=w) (its:=its) (ks:=ks) (A:=A) (S:=s.heap.objs.size) (l:=l) z Y q U ?_ ?_ (Ud a4) (its.length-0) 0 [] _ rfl (XM _) ?_ ?_ ?_ (Uk _) λh' tk kp O=>?_
 .show s.heap.objs.size≠(s.heap.push (dJ (ledW w))).objs.size
  rw[Ve];exact Ud (VM _)
 .show l≠(s.heap.push (dJ (ledW w))).objs.size
  rw[Ve];exact Ud (Vo a4)
 .exact a5.push _
 .exact⟨_,Ue _ rfl,rfl,rfl⟩
 .have hget:((s.heap.push (dJ (ledW w))).push {cls:=.type "list_iterator",data:=.fields #[.ref l,.int 0 0]}).get? s.heap.objs.size=some (dJ (ledW w)):=T8 _ J
  letI:BEq Key:=instBEqOfDecidableEq
  haveI:LawfulBEq Key:=inferInstance
  have e0:(λ_:Key=>false)=inK []:=funext λ_=>rfl;rw[←e0];exact⟨_,#[],0,_,hget,⟨rfl,rfl,rfl⟩,rfl,λe N=>by simp at N,λk=>by simp,by decide,by rfl,rfl,by simp[RisT,Ris,SetTable.fresh]⟩
 .refine yr ?_
  show wpAny _ _ (ret VB) _ _ _;refine yr (hR _ ⟨h',tk,rfl,by rw[Yt]at O;exact O,λb o e=>?_⟩);have a3:b<s.heap.objs.size:=Uc e;refine kp b o (Ud a3) ?_ (T8 _ (T8 _ e));show b≠(s.heap.push (dJ (ledW w))).objs.size;rw[Ve];exact Ud (Vo a3)
theorem Dd(z:A.handled=none)(a3:ks.length=its.length)(q:∀(j:Nat)(k:Key)(v:Value),ks[j]? =some k->its[j]? =some v->RelV (kV k) v)(U:its.length+1<Wl)(pl:s.heap.IsList l its.toArray)
  (h:∀N,wA prog w s ks N->Q (.ref s.heap.objs.size) N):wpAny (model prog w) A (call (.type "set") [.ref l]) Q E s:=by
 obtain⟨c,tl,a5⟩:=Vh.mro;have a4:=Vh.made;have V:=Vh.sub;refine aaR (aaa ?_);show wpAny _ _ (callAny (.type "set") _) _ _ _;refine yr ⟨aau _ (by decide +kernel),Vp aaM ?_⟩;rw[aav (Z2 "set" [.ref l] []) rfl];have h1:=Vh.notType;have h2:=Vh.canCreate;have a7:=aa6 (.ref l)
 repeat(any_goals(first|assumption|wp_step))
 refine WM (LC (.ref l) (E:=E) (Q₁:=λobj J=>obj= .ref s.heap.objs.size/\J={s with heap:=s.heap.push (dJ (ledW w))}) ⟨rfl,rfl⟩) λr J Z=>?_;cases r with
 |error e=>exact Z
 |ok fl=>
  cases fl with
  |ret obj=>
   obtain⟨rfl,rfl⟩:=Z;have hS:(s.heap.push (dJ (ledW w))).get? s.heap.objs.size=some (dJ (ledW w)):=Ue _ rfl;have hT:YL {s with heap:=s.heap.push (dJ (ledW w))} (.ref s.heap.objs.size) "set":=⟨_,hS,rfl⟩;have a6:=Vh.init.lookup;have a8:=Vh.init.bind (.ref s.heap.objs.size)
   repeat(any_goals(first|assumption|wp_step))
   refine WM (VL (R:=wants (λr Y=>r= .none/\wA prog w s ks Y) E) Vh.init.plain aa7 (aa8 hT ?_)) λa2 Y a0=>?_
   .exact CJ (by simp[z]) a3 q U pl λN O=>⟨rfl,O⟩
   .cases a2 with
    |error e=>exact a0
    |ok a1=>
     cases a1 with
     |ret r=>
      obtain⟨rfl,O⟩:=a0
      repeat(any_goals(first|assumption|wp_step))
      exact h _ O
     |_=>exact a0.elim
  |_=>exact Z.elim
end Jb
namespace PySem
theorem F.jb_owner_seti:Manifest.owners.lookup (String.ofList ['r','o','t','a','r','e','t','i','_','t','e','s'].reverse)=some Manifest.sig_set_iterator:=by kernel_rfl
theorem F.jb_slot_seti:Slot "set_iterator" "__next__" "set_iterator.__next__" :=
 .of (owner:="set_iterator") (n:="__next__") (by rw[Z9,Yq];kernel_rfl) (by decide +kernel) (by decide +kernel) (by decide +kernel)
  (by first|exact .inl (by decide +kernel)|exact .inr (by decide +kernel)) (by rw[aai];kernel_rfl)
theorem F.jb_entry_seti:entryFor table "set_iterator.__next__"=some Builtin.«set_iterator.__next__»:=entryFor_of_tree (by kernel_rfl)
theorem F.jb_args_seti(a:Value):argsOk "set_iterator.__next__" ⟨[a],[]⟩:=by
 unfold argsOk;rw[signature?_of (id:="set_iterator.__next__") (n:=['_','_','t','x','e','n','_','_']) (o:=['r','o','t','a','r','e','t','i','_','t','e','s']) (by kernel_rfl) F.jb_owner_seti];kernel_rfl
theorem F.jb_entry_set_iter:entryFor table "set.__iter__"=some Builtin.«frozenset.__iter__»:=entryFor_alias (id':="frozenset.__iter__") (by kernel_rfl) rfl (by decide +kernel) (by kernel_rfl)
theorem u9{q:Source}{Q:Nat->T7->Prop}(N:n≠0)(h:∀i,i<n->Q i {s with drawn:=s.drawn.bump q}):wpAny (model prog w) A (choose q n) Q E s:=λ_ _ _=>⟨N,h _ (Nat.mod_lt _ (Nat.pos_of_ne_zero N))⟩
theorem oU:∀{l:List α}{i:Nat}(h:i<l.length),Vz (l[i]::l.eraseIdx i) l
 |x::r,0,_=>abL _
 |x::r,i+1,h=>by
  have:=oU (l:=r) (i:=i) (by simpa using h);exact(List.Perm.swap ..).trans (this.cons x)
theorem lO{α:Type}:∀(n:Nat){xs:List α}{s:T7}{Q:List α->T7->Prop},xs.length=n->(∀ys d,Vz ys xs->Q ys {s with drawn:=d})->wpAny (model prog w) A (drawOrder n xs) Q E s
 |0,xs,s,Q,hl,h=>by
  have e:xs=[]:=Yk hl;subst e;unfold drawOrder;exact yr (h [] s.drawn (abL _))
 |n+1,[],s,Q,hl,h=>by simp at hl
 |n+1,x::r,s,Q,hl,h=>by
  unfold drawOrder;refine gD (u9 (by simp) λi hi=>?_);have z:(x::r)[i]? =some (x::r)[i]:=Ug hi;rw[z];dsimp only;refine gD (lO n (by rw[ab1,Uo hi];omega) λys d V=>yr (h _ d ?_));exact(List.Perm.cons _ V).trans (oU hi)
def lW(first:Value)(i:Nat)(S:Addr)(n ep:Nat):Obj:={cls:=.type "set_iterator",data:=.fields #[first,V7 i,.ref S,V7 n,V7 ep]}
def eV(ps:List Nat):Obj:={cls:=.type "tuple",data:=.seq (ps.map λ(i:Nat)=>V7 i).toArray}
variable{es:Array (Int×Value)}
theorem qL{t:X8}(O:s.heap.get? S=some o)(Y:o.ExactSet)(hd:o.data= .set es ep t)(hf:t.fits es.size=true)(hz:es.size<=Ui)
  (h1:w.params.followText "set-order"=true∨(!t.plain&&decide (es.size>1))=false->Q (.ref s.heap.objs.size) {s with heap:=s.heap.push (lW (V7 0) 0 S es.size ep)})
  (h2:w.params.followText "set-order"=false->∀ps d,Vz ps (V1 es.size)->Q (.ref (s.heap.push (eV ps)).objs.size) {s with heap:=(s.heap.push (eV ps)).push (lW (.ref s.heap.objs.size) 0 S es.size ep),drawn:=d}) :
  wpAny (model prog w) A (Zx (.ref S)) Q E s:=by
 have q:s.TypeIs (.ref S) "set":=⟨o,O,Y.1⟩;refine wpAny_pyIter_slot q F.slot_set_iter (YC F.slot_set_iter q F.jb_entry_set_iter ?_ (F.args_set_iter_1 _));unfold Builtin.«frozenset.__iter__» ac9 slotArgs;simp only[List.isEmpty_nil,ab5,U0,↓reduceIte,bind_assoc,Vn,bne_self_eq_false];unfold ac7 ac8 setDrawn setsByText;refine gD (yr ?_)
 try dsimp only
 refine gD (yr ?_);refine gD (gD (wpAny_setEntries_of O hd hf (yr ?_)));refine gD (gD (Xa O hd hf ?_));refine gD (gD (X_ (yr ?_)));refine yr ?_;have z:∀{first:Value}{Z:T7},Z.heap.get? S=some o->Q (.ref Z.heap.objs.size) {Z with heap:=Z.heap.push (lW first 0 S es.size ep)}->wpAny (model prog w) A.in1 (do
   let e ←setEpoch S
   let v ←newFields "set_iterator" [first,V7 0,UL S,V7 (es.size:Int),V7 (e:Int)]
   ret v) (λz s'=>∃v,z=Fin.done (Flow.ret v)/\∃U r,s'.TypeIs v U/\abS (VP U) (Yn "__next__")=pure (some r)/\Q v s') E Z:=λ{first Z} N hq=>by
  unfold setEpoch newFields;refine gD (gD (Xa N hd hf (yr ?_)));exact gD (Vf (yr ⟨_,rfl,"set_iterator",_,⟨_,Ue _ rfl,rfl⟩,F.jb_slot_seti.lookup,hq⟩))
 split
 .rename_i hc0
  have J:(!w.params.followText "set-order"&&(!t.plain&&decide (es.size>1)))=true:=hc0;rw[UT]at J;refine gD (lO es.size (by simp) λps d V=>?_);refine gD (wpAny_newTuple ?_ (by rw[Ux,V.length_eq,aaK];exact hz));exact z (T8 _ O) (h2 (by simpa using J.1) ps d V)
 .rename_i hc0
  have J:¬(!w.params.followText "set-order"&&(!t.plain&&decide (es.size>1)))=true:=hc0;refine gD (yr ?_);refine z O (h1 ?_);cases e:w.params.followText "set-order" with
  |true=>exact .inl rfl
  |false=>
   rw[e]at J;exact .inr (by simpa using J)
open PySem.Builtin
section
variable{prog:Program}{w:World}{A:Around}{E:Value->Shared->Prop}{it S:Addr}{o:Obj}{es:Array (Int×Value)}{ep i slot:Nat}{t:SetTable}{h:Heap}{g:Array GenState}{d:Drawn}{tk:Nat}{os:OsState}
theorem oY(Z:t.fits es.size=true):¬(t.place.size !=es.size||decide (t.fill>t.mask))=true:=by
 unfold ac6 at Z;simp only[UT,YB,XF]at Z;simp only[Y0,bne_iff_ne,ne_eq,XF,not_or,Decidable.not_not];exact⟨Z.1,Nat.not_lt.mpr Z.2⟩
theorem vD{Q:Option Value->T7->Prop}{x:Value}{next:Nat}(hz:h.get? it=some (lW (V7 slot) i S es.size ep))(ho:h.get? S=some o)(Y:o.ExactSet)(hd:o.data= .set es ep t)(Z:t.fits es.size=true)
  (O:∀(U:Vu)(E':Value->T7->Prop)(N:Option (Value×Nat)->T7->Prop),N (some (x,next)) ⟨h,g,d,tk,os⟩->wpAny (model prog w) U (abM S slot i ep) N E' ⟨h,g,d,tk,os⟩)
  (hq:∀h' J,h'.get? it=some (lW (V7 next) (i+1) S es.size ep)->(∀c o,c≠it->h.get? c=some o->h'.get? c=some o)->Q (some x) ⟨h',g,d,J,os⟩) :
  wpAny (model prog w) A (X3 (.ref it)) Q E ⟨h,g,d,tk,os⟩:=by
 have a0:(⟨h,g,d,tk,os⟩:T7).TypeIs (.ref it) "set_iterator":=⟨_,hz,rfl⟩;unfold X3;refine gD (ZK ?_);refine V0 a0 F.jb_slot_seti ?_
 repeat(any_goals(first|assumption|wp_step))
 refine VL F.jb_slot_seti.plain F.jb_entry_seti (F.jb_slot_seti.check _ _ _ _ _ _ _ _ a0 (F.jb_args_seti _) ?_);unfold Builtin.«set_iterator.__next__» lW at *
 repeat(any_goals(first|assumption|wp_step))
 rw[hd];dsimp only;rw[Uq (oY Z)];refine yr (yr ?_);dsimp only;rw[Uq (by simp)];simp only[V7,V_]at *
 refine gD (O _ _ _ ?_);dsimp only;refine gD (Xm hz (by simp) λh1 a1 V=>?_);refine gD (Xm a1 (by simp) λh2 z q=>?_);refine yr ?_;refine yr ?_;exact hq h2 tk (by rw[z];simp) λc o n e=>q.extBut c o n (V.extBut c o n e)
theorem yN{Q:Option Value->T7->Prop}(z:A.handled=none)(hz:h.get? it=some (lW (V7 slot) i S es.size ep))(ho:h.get? S=some o)(Y:o.ExactSet)(hd:o.data= .set es ep t)(Z:t.fits es.size=true)
  (O:∀(U:Vu)(J:Value->T7->Prop)(N:Option (Value×Nat)->T7->Prop),N none ⟨h,g,d,tk,os⟩->wpAny (model prog w) U (abM S slot i ep) N J ⟨h,g,d,tk,os⟩)
  (hq:∀h',(∀c o,c≠it->h.get? c=some o->h'.get? c=some o)->Q none ⟨h',g,d,tk,os⟩) :
  wpAny (model prog w) A (X3 (.ref it)) Q E ⟨h,g,d,tk,os⟩:=by
 have q:(⟨h,g,d,tk,os⟩:T7).TypeIs (.ref it) "set_iterator":=⟨_,hz,rfl⟩;unfold X3;refine gD (ZK ?_);refine V0 q F.jb_slot_seti ?_
 repeat(any_goals(first|assumption|wp_step))
 refine VL F.jb_slot_seti.plain F.jb_entry_seti (F.jb_slot_seti.check _ _ _ _ _ _ _ _ q (F.jb_args_seti _) ?_);unfold Builtin.«set_iterator.__next__» lW at *
 repeat(any_goals(first|assumption|wp_step))
 rw[hd];dsimp only;rw[Uq (oY Z)];refine yr (yr ?_);dsimp only;rw[Uq (by simp)];simp only[V7,V_]at *
 refine gD (O _ _ _ ?_);dsimp only;refine gD (Xm hz (by simp) λh1 a0 V=>?_);refine gD ?_;simp only[newExc,newTuple];refine gD (Vf ?_ (by size_fits));refine gD (m:=Yp _ _) (XQ (a:=VB) (by first|rfl|(simp only[Yp];rfl)) ?_);refine Vf ?_ (by size_fits);simp only[raiseNew];refine gD (aaD ?_);rw[show A.in1.handled=none from z];refine gD (yr (ZD ?_));refine gD (X5 (T:="StopIteration") (b:=true) ⟨_,Ue _ rfl,rfl⟩ isSubtype_stop ?_);exact yr (hq _ λc o n e=>T8 _ (T8 _ (V.extBut c o n e)))
theorem Dw{Q:Option Value->T7->Prop}{x:Value}{p:Addr}{ps:List Nat}{j:Nat}{c:Int}(hz:h.get? it=some (lW (.ref p) i S es.size ep))(V:h.get? p=some (eV ps))(O:h.get? S=some o)(Y:o.ExactSet)(hd:o.data= .set es ep t)(Z:t.fits es.size=true)(U:ps[i]? =some j)(hx:es[j]? =some (c,x))
  (hq:∀h' J,h'.get? it=some (lW (.ref p) (i+1) S es.size ep)->(∀c o,c≠it->h.get? c=some o->h'.get? c=some o)->Q (some x) ⟨h',g,d,J,os⟩) :
  wpAny (model prog w) A (X3 (.ref it)) Q E ⟨h,g,d,tk,os⟩:=by
 have q:(⟨h,g,d,tk,os⟩:T7).TypeIs (.ref it) "set_iterator":=⟨_,hz,rfl⟩;unfold X3;refine gD (ZK ?_);refine V0 q F.jb_slot_seti ?_
 repeat(any_goals(first|assumption|wp_step))
 refine VL F.jb_slot_seti.plain F.jb_entry_seti (F.jb_slot_seti.check _ _ _ _ _ _ _ _ q (F.jb_args_seti _) ?_);unfold Builtin.«set_iterator.__next__» lW at *
 repeat(any_goals(first|assumption|wp_step))
 rw[hd];dsimp only;rw[Uq (oY Z)];refine yr (yr ?_);dsimp only;rw[Uq (by simp)];have z:(ps.map λ(i:Nat)=>V7 i).toArray[((i:Nat):Int).toNat]? =some (V7 j):=by
  rw[V_,abN,List.getElem?_map,U];rfl
 refine gD ?_;unfold Za;refine gD (Z5 V ?_);refine yr ?_;dsimp only;rw[z];dsimp only[V7];refine gD ?_;unfold setNextDrawn;refine gD (Xa O hd Z ?_);simp only[V_,bne_self_eq_false,U0,VN,hx];refine yr ?_;refine gD (Xm hz (by simp) λh1 N a0=>?_);refine yr ?_;refine yr ?_;exact hq h1 tk (by rw[N];simp[V7]) λc o n e=>a0.extBut c o n e
theorem Gm{Q:Option Value->T7->Prop}{p:Addr}{ps:List Nat}(hh:A.handled=none)(hz:h.get? it=some (lW (.ref p) i S es.size ep))(V:h.get? p=some (eV ps))(O:h.get? S=some o)(Y:o.ExactSet)(hd:o.data= .set es ep t)(Z:t.fits es.size=true)(U:ps[i]? =none)
  (hq:∀h',(∀c o,c≠it->h.get? c=some o->h'.get? c=some o)->Q none ⟨h',g,d,tk,os⟩) :
  wpAny (model prog w) A (X3 (.ref it)) Q E ⟨h,g,d,tk,os⟩:=by
 have J:(⟨h,g,d,tk,os⟩:T7).TypeIs (.ref it) "set_iterator":=⟨_,hz,rfl⟩;unfold X3;refine gD (ZK ?_);refine V0 J F.jb_slot_seti ?_
 repeat(any_goals(first|assumption|wp_step))
 refine VL F.jb_slot_seti.plain F.jb_entry_seti (F.jb_slot_seti.check _ _ _ _ _ _ _ _ J (F.jb_args_seti _) ?_);unfold Builtin.«set_iterator.__next__» lW at *
 repeat(any_goals(first|assumption|wp_step))
 rw[hd];dsimp only;rw[Uq (oY Z)];refine yr (yr ?_);dsimp only;rw[Uq (by simp)];have z:(ps.map λ(i:Nat)=>V7 i).toArray[((i:Nat):Int).toNat]? =none:=by
  rw[V_,abN,List.getElem?_map,U];rfl
 refine gD ?_;unfold Za;refine gD (Z5 V ?_);refine yr ?_;dsimp only;rw[z];refine gD (Xm hz (by simp) λh1 N a0=>?_);refine gD (Xm N (by simp) λh2 a1 q=>?_);refine gD ?_;simp only[newExc,newTuple];refine gD (Vf ?_ (by size_fits));refine gD (m:=Yp _ _) (XQ (a:=VB) (by first|rfl|(simp only[Yp];rfl)) ?_);refine Vf ?_ (by size_fits);simp only[raiseNew];refine gD (aaD ?_);rw[show A.in1.handled=none from hh];refine gD (yr (ZD ?_));refine gD (X5 (T:="StopIteration") (b:=true) ⟨_,Ue _ rfl,rfl⟩ isSubtype_stop ?_);exact yr (hq _ λc o n e=>T8 _ (T8 _ (q.extBut c o n (a0.extBut c o n e))))
theorem oh{s:T7}{Q:Option (Value×Nat)->T7->Prop}(O:s.heap.get? S=some o)(hd:o.data= .set es ep t)(Z:t.fits es.size=true)(U:w.params.followText "set-order"=false)(q:(!t.plain&&decide (es.size>1))=false)(Y:t.led=true)
  (z:Q (match es[SetTable.below t.place slot]?,t.place[SetTable.below t.place slot]? with|some (_,x),some j=>some (x,j+1)|_,_=>none) s):wpAny (model prog w) A (abM S slot i ep) Q E s:=by
 unfold abM setsByText;refine gD (Xa O hd Z ?_);refine gD (gD (X_ (yr ?_)));dsimp only;rw[Uq (by rw[show(model prog w).w.params.followText "set-order"=false from U];simp)];split
 .rename_i hc
  have J:(!t.plain&&decide (es.size>1))=true:=hc;rw[q]at J;cases J
 .refine gD ?_
  show wpAny _ _ (if(!t.led&& !es.isEmpty)=true then aal "set:maker-not-led" else pure PUnit.unit) _ _ _;rw[Uq (by simp[Y])];exact yr (yr z)
theorem pP{s:T7}{Q:Option (Value×Nat)->T7->Prop}(O:s.heap.get? S=some o)(hd:o.data= .set es ep t)(Z:t.fits es.size=true)(U:w.params.followText "set-order"=true)
  (q:Q (((Ye (w.params.setOrder S ep) es)[i]?).map λe=>(e.2,slot)) s):wpAny (model prog w) A (abM S slot i ep) Q E s:=by
 unfold abM setWalk setsByText;refine gD (Xa O hd Z ?_);refine gD (gD (X_ (yr ?_)));dsimp only;rw[Uo (show(model prog w).w.params.followText "set-order"=true from U)];rw[Uq (by simp)];refine gD (gD (Xa O hd Z ?_));refine gD (gD (X_ (yr ?_)));dsimp only;rw[Uo (show(model prog w).w.params.followText "set-order"=true from U)];refine gD (X_ (yr ?_));exact yr q
end
theorem F.jb_slot_seti_iter:Slot "set_iterator" "__iter__" "set_iterator.__iter__" :=
 .of (owner:="set_iterator") (n:="__iter__") (by rw[Z9,Yq];kernel_rfl) (by decide +kernel) (by decide +kernel) (by decide +kernel)
  (by first|exact .inl (by decide +kernel)|exact .inr (by decide +kernel)) (by rw[aai];kernel_rfl)
theorem F.jb_entry_seti_iter:entryFor table "set_iterator.__iter__"=some Builtin.«dict_keyiterator.__iter__»:=entryFor_alias (id':="dict_keyiterator.__iter__") (by kernel_rfl) rfl (by decide +kernel) (by kernel_rfl)
theorem F.jb_args_seti_iter(a:Value):argsOk "set_iterator.__iter__" ⟨[a],[]⟩:=by
 unfold argsOk;rw[signature?_of (id:="set_iterator.__iter__") (n:=['_','_','r','e','t','i','_','_']) (o:=['r','o','t','a','r','e','t','i','_','t','e','s']) (by kernel_rfl) F.jb_owner_seti];kernel_rfl
theorem qj{s:T7}{f:Value}(hz:s.heap.get? it=some (lW f i S n ep))(h:Q (.ref it) s):wpAny (model prog w) A (Zx (.ref it)) Q E s:=by
 have q:s.TypeIs (.ref it) "set_iterator":=⟨_,hz,rfl⟩;refine wpAny_pyIter_slot q F.jb_slot_seti_iter (YC F.jb_slot_seti_iter q F.jb_entry_seti_iter ?_ (F.jb_args_seti_iter _));show wpAny _ _ (ret (.ref it)) _ _ s;exact yr ⟨_,rfl,"set_iterator",_,q,F.jb_slot_seti.lookup,h⟩
def atL(L:List (Int×Value))(i:Nat)(v:Value):Prop:=∃c,L[i]? =some (c,v)
def Ag(t:X8):Nat->Nat
 |0=>0
 |i+1=>t.place.getD i 0+1
variable{t:SetTable}
theorem yd(hh:A.handled=none)(N:S≠it)(a2:o.ExactSet)(hd:o.data= .set es ep t)(hf:t.fits es.size=true)(U:w.params.followText "set-order"=false)(O:(!t.plain&&decide (es.size>1))=false)(Y:t.led=true)(Z:Jb.Ris t.place) :
  Walks prog w A it [it,S] [it] es.size (atL es.toList) (λi h=>h.get? it=some (lW (V7 (Ag t i)) i S es.size ep)/\h.get? S=some o):=by
 have a5:t.place.size=es.size:=by
  unfold ac6 at hf;simp only[UT,YB]at hf;exact hf.1
 have a0:∀i,i<=es.size->SetTable.below t.place (Ag t i)=i:=λi hi=>by
  cases i with
  |zero=>exact Jb.below_zero Z
  |succ i=>exact Jb.below_next Z (by omega)
 refine⟨λb U=>by simp at U;simp[U],λi h h' st q=>⟨q it (by simp) _ st.1,q S (by simp) _ st.2⟩,λi s Q E hi st J=>?_,λs Q E st J=>?_,λi s Q E st J=>qj st.1 J⟩
 .obtain⟨hp,g,d,tk,os⟩:=s
  obtain⟨e1,e2⟩:∃c v,es[i]? =some (c,v):=⟨es[i].1,es[i].2,by simp[hi]⟩;obtain⟨v,e2⟩:=e2;have a3:t.place[i]? =some (t.place.getD i 0):=by
   rw[U7,W8 t.place i (by omega)];rfl
  refine vD (next:=Ag t (i+1)) (x:=v) st.1 st.2 a2 hd hf (λA' E' Q' a1=>oh st.2 hd hf U O Y ?_) λh' a4 V F=>?_
  .rw[a0 i (by omega),e2,a3];exact a1
  .exact J v h' a4 ⟨e1,by simpa using e2⟩ ⟨V,F S _ N st.2⟩ λb o U e=>F b o (λz=>U (by simp[z])) e
 .obtain⟨hp,g,d,tk,os⟩:=s
  refine yN hh st.1 st.2 a2 hd hf (λA' E' Q' a1=>oh st.2 hd hf U O Y ?_) λh' F=>J h' tk λb o U e=>F b o (λz=>U (by simp[z])) e;rw[a0 _ (Uk _),abz (Uk _)];exact a1
theorem p7{α:Type}(next:Nat->Nat):∀(f k:Nat)(left:List α)(out:Array α),left.length=f->Vz (acu next f k left out).toList (out.toList++left)
 |0,k,left,out,h=>by
  have e:left=[]:=Yk h;subst e;simp[acu]
 |f+1,k,left,out,h=>by
  have hi:next k % left.length<left.length:=Nat.mod_lt _ (by omega)
  rw[acu,Ug hi];dsimp only;refine(p7 next f (k+1) _ _ (by rw[ab1,Uo hi];omega)).trans ?_;rw[aaN,Zt];exact(oU hi).append_left _
theorem lZ(next:Nat->Nat)(xs:Array α):Vz (Ye next xs).toList xs.toList:=by
 have:=p7 next xs.size 0 xs.toList #[] (by simp)
 simpa[Ye]using this
theorem zy(hh:A.handled=none)(N:S≠it)(Y:o.ExactSet)(hd:o.data= .set es ep t)(Z:t.fits es.size=true)(U:w.params.followText "set-order"=true) :
  Walks prog w A it [it,S] [it] es.size (atL (Ye (w.params.setOrder S ep) es).toList) (λi h=>h.get? it=some (lW (V7 0) i S es.size ep)/\h.get? S=some o):=by
 have hsz:(Ye (w.params.setOrder S ep) es).size=es.size:=by
  have:=(lZ (w.params.setOrder S ep) es).length_eq;simpa using this
 refine⟨λb U=>by simp at U;simp[U],λi h h' st q=>⟨q it (by simp) _ st.1,q S (by simp) _ st.2⟩,λi s Q E hi st J=>?_,λs Q E st J=>?_,λi s Q E st J=>qj st.1 J⟩
 .obtain⟨hp,g,d,tk,os⟩:=s
  have O:i<(Ye (w.params.setOrder S ep) es).size:=by omega
  obtain⟨c,v,e1⟩:∃(c:Int)(v:Value),(Ye (w.params.setOrder S ep) es)[i]? =some (c,v):=⟨((Ye (w.params.setOrder S ep) es)[i]'O).1,((Ye (w.params.setOrder S ep) es)[i]'O).2,W8 (Ye (w.params.setOrder S ep) es) i O⟩;refine vD (slot:=0) (next:=0) (x:=v) st.1 st.2 Y hd Z (λA' E' Q' a0=>pP st.2 hd Z U ?_) λh' a1 V F=>?_
  .rw[e1];exact a0
  .exact J _ h' a1 ⟨c,by rw[Xq,e1]⟩ ⟨V,F S _ N st.2⟩ λb o U e=>F b o (λz=>U (by simp[z])) e
 .obtain⟨hp,g,d,tk,os⟩:=s
  refine yN (slot:=0) hh st.1 st.2 Y hd Z (λA' E' Q' a0=>pP st.2 hd Z U ?_) λh' F=>J h' tk λb o U e=>F b o (λz=>U (by simp[z])) e;rw[abz (by omega)];exact a0
variable{p:Addr}{ps:List Nat}
theorem xT(hh:A.handled=none)(N:S≠it)(V:p≠it)(a0:o.ExactSet)(hd:o.data= .set es ep t)(hf:t.fits es.size=true)(Z:Vz ps (V1 es.size)) :
  Walks prog w A it [it,S,p] [it] es.size (atL (ps.map λj=>es.getD j (0,.none))) (λi h=>h.get? it=some (lW (.ref p) i S es.size ep)/\h.get? S=some o/\h.get? p=some (eV ps)):=by
 have Y:ps.length=es.size:=by rw[Z.length_eq,aaK]
 refine⟨λb U=>by simp at U;simp[U],λi h h' st q=>⟨q it (by simp) _ st.1,q S (by simp) _ st.2.1,q p (by simp) _ st.2.2⟩,λi s Q E hi st J=>?_,λs Q E st J=>?_,λi s Q E st J=>qj st.1 J⟩
 .obtain⟨h0,g,d,tk,os⟩:=s
  have O:i<ps.length:=by omega
  have hj:ps[i]<es.size:=Zg.mp (Z.mem_iff.mp (WT O));refine Dw (j:=ps[i]) (c:=es[ps[i]].1) (x:=es[ps[i]].2) st.1 st.2.2 st.2.1 a0 hd hf (Ug O) (W8 es _ hj) λh' a1 z1 F=>?_;refine J _ h' a1 ⟨es[ps[i]].1,?_⟩ ⟨z1,F S _ N st.2.1,F p _ V st.2.2⟩ λb o U e=>F b o (λz=>U (by simp[z])) e;rw[List.getElem?_map,Ug O];simp[U7,hj]
 .obtain⟨h0,g,d,tk,os⟩:=s
  exact Gm hh st.1 st.2.2 st.2.1 a0 hd hf (Xv (by omega)) λh' F=>J h' tk λb o U e=>F b o (λz=>U (by simp[z])) e
theorem zX(Z:Vz ps (V1 es.size)):Vz (ps.map λj=>es.getD j (0,.none)) es.toList:=by
 refine(Z.map _).trans ?_;have e:(V1 es.size).map (λj=>es.getD j (0,VB))=es.toList:=by
  refine List.ext_getElem (by simp) λi h1 h2=>?_;simp at h1;simp[U7,h1]
 rw[e]
section
variable{prog:Program}{w:World}{A:Around}{E:Value->Shared->Prop}{S D:Addr}{o:Obj}{es:Array (Int×Value)}{ep:Nat}{t:SetTable}{s:Shared}
theorem Ih{Q:Bool->T7->Prop}(q:s.TypeIs (.ref S) "set")(h:Q false s):wpAny (model prog w) A (Yw (.ref S)) Q E s:=by
 unfold Yw;refine gD (wpAny_specialOf q PySem.F.slot_set_len.lookup ?_);generalize z:("set.__len__":String)=id0
 wp_delta
 rw[show splitId id0=some ("set","__len__")from by subst z;decide +kernel];subst z;refine gD (X5 (T:="set") (b:=true) q (by rw[aai];kernel_rfl) ?_);refine abp (λN=>absurd N (by decide)) (λ_=>?_);refine abp (λ_=>?_) (λN=>absurd (by decide +kernel) N);refine gD (X4 q ?_);exact yr h
theorem Ju{R:Z6->T7->Prop}(hh:A.handled=none)(O:s.heap.get? S=some o)(Y:o.ExactSet)(hd:o.data= .set es ep t)(hf:t.fits es.size=true)(Z:Jb.RisT t (Jb.ledW w))(hz:es.size<=Ui)(a6:D≠S)(res:Value)(a2:Nat)(hD:s.heap.get? D=some {cls:=.type "list",data:=.seq #[] a2})
  (hR:∀h' tk d' L V c,(∀b o,b≠D->s.heap.get? b=some o->h'.get? b=some o)->h'.get? D=some {cls:=.type "list",dict:=none,data:=.seq V c,slots:=#[]}->Vz L es.toList->ItemsOf (atL L) V es.size->R (.ok (.ret res)) {s with heap:=h',drawn:=d',toks:=tk}) :
  wpAny (model prog w) A.in1 (Yx (.ref D) (.ref S) res)
   (λa7 s'=>match a7 with|.done f=>R (.ok f) s'|.again c'=>c'.quiet=true/\Wf (model prog w) A c' R s') (λe s'=>R (.error e) s') s:=by
 have hT:s.TypeIs (.ref S) "set":=⟨o,O,Y.1⟩;have a4:D<s.heap.objs.size:=Uc hD;have a8:S<s.heap.objs.size:=Uc O;unfold Yx;refine gD (X4 (T:="set") hT ?_);have h1:aa_ (.ref D) (.ref S)=false:=by simp[aa_,a6]
 simp only[h1,show(VP "set"==VP "list")=false by decide,show(VP "set"==VP "tuple")=false by decide,Bool.or_false,U0,VN];have after:∀{it:Addr}{fp:List Addr}{L:List (Int×Value)}{St:Nat->Heap->Prop}{h1:Heap}{d1:Drawn}{b0:Bool},Walks prog w A.in1 it fp [it] es.size (atL L) St->D∉fp->Vz L es.toList->St 0 h1->h1.get? D=some {cls:=.type "list",data:=.seq #[] a2}->h1.get? S=some o->s.heap.objs.size<=it->(∀b o,s.heap.get? b=some o->h1.get? b=some o)->
   wpAny (model prog w) A.in1 (do
    let room ←Wu [.ref it] (Yw (.ref S))
    if(room||b0)=true then do
     rule "list.extend.makes-room"
     Builtin.List.listTouch (.ref D)
     again (.builtin "list.extend.loop" ⟨[.ref D,.ref it,res],[]⟩)
    else again (.builtin "list.extend.loop" ⟨[.ref D,.ref it,res],[]⟩))
   (λa7 s'=>match a7 with|.done f=>R (.ok f) s'|.again c'=>c'.quiet=true/\Wf (model prog w) A c' R s') (λe s'=>R (.error e) s') {s with heap:=h1,drawn:=d1}:=λ{it fp L St h1 d1 b0} W b5 hL st a9 b7 b6 kp=>by
  have N:∀(h:Heap)(a1 tk:Nat),St 0 h->(∀b o,b≠D->h1.get? b=some o->h.get? b=some o)->
    h.get? D=some {cls:=.type "list",data:=.seq #[] a1}->Wf (model prog w) A (.builtin "list.extend.loop" ⟨[.ref D,.ref it,res],[]⟩) R {s with heap:=h,drawn:=d1,toks:=tk}:=by
   intro h a1 tk c1 q b8;refine codeAny_extend_loopS W.toS hz D b5 res es.size 0 _ #[] a1 rfl (XM _) c1 b8 (ItemsOf.nil _) λs' b2 c' hm c0 b3=>?_;rw[Moved.eq_with hm];refine hR s'.heap s'.toks d1 L b2 c' (λb o U e=>hm.heap b o (λa3=>?_) (q b o U (kp b o e))) c0 hL b3;rcases Uj.mp a3 with e'|a3
   .exact U e'
   .have:=Uc e
    rw[UG.mp a3]at this;exact absurd this (Nat.not_lt.mpr b6)
  refine gD (U6 (Ih ⟨o,b7,Y.1⟩ ?_));refine abp (λ_=>?_) (λ_=>yr ⟨Wb aaU _,N _ a2 _ st (λb o _ e=>e) a9⟩);refine gD (W3 ?_);refine gD ?_;show wpAny _ _ (acv D (·.push .none) >>=λ_=>acv D (·.pop)) _ _ _;refine gD (Y5 a9 rfl ?_);have a0:=Xp (Wm (·.push VB)) a9 rfl;refine Y5 (hz:=by seq_fits) a0 rfl ?_;have b1:=Xp (Wm (·.pop)) a0 rfl;refine yr ⟨Wb aaU _,N _ _ _ ?_ (λb o U e=>?_) b1⟩
  .refine W.frame 0 _ _ st λb U o e=>?_
   have b4:b≠D:=λz=>b5 (z▸U);exact(Vv _ _ (U3 b4)).trans ((Vv _ _ (U3 b4)).trans e)
  .exact(Vv _ _ (U3 U)).trans ((Vv _ _ (U3 U)).trans e)
 have a5:∀(x:Obj),(s.heap.push x).objs.size=s.heap.objs.size+1:=λx=>Ve ..;refine gD (qL O Y hd hf hz (λJ=>?_) λU ps d hp=>?_)
 .cases U:w.params.followText "set-order" with
  |true=>
   refine after (d1:=s.drawn) (zy (it:=s.heap.objs.size) hh (Ud a8) Y hd hf U) ?_ (lZ _ _) ⟨Ue _ rfl,T8 _ O⟩ (T8 _ hD) (T8 _ O) (Uk _) λb o e=>T8 _ e;simp only[Uj,ZR,or_false,not_or];exact⟨Ud a4,a6⟩
  |false=>
   have b9:(!t.plain&&decide (es.size>1))=false:=J.resolve_left (by rw[U];simp);refine after (d1:=s.drawn) (yd (it:=s.heap.objs.size) hh (Ud a8) Y hd hf U b9 (by rw[Z.2];simp[Jb.ledW,U]) Z.1) ?_ (abL _) ⟨Ue _ rfl,T8 _ O⟩ (T8 _ hD) (T8 _ O) (Uk _) λb o e=>T8 _ e;simp only[Uj,ZR,or_false,not_or];exact⟨Ud a4,a6⟩
 .have e2:∀b o,s.heap.get? b=some o->((s.heap.push (eV ps)).push (lW (.ref s.heap.objs.size) 0 S es.size ep)).get? b=some o:=λb o e=>T8 _ (T8 _ e)
  refine after (xT (it:=(s.heap.push (eV ps)).objs.size) (p:=s.heap.objs.size) hh (by rw[a5];exact Ud (Vo a8)) (by rw[a5];exact Ud (VM _)) Y hd hf hp) ?_ (zX hp) ⟨Ue _ rfl,e2 _ _ O,T8 _ (Ue _ rfl)⟩ (e2 _ _ hD) (e2 _ _ O) (by rw[a5];exact YM _) e2;simp only[Uj,ZR,or_false,not_or,a5];exact⟨Ud (Vo a4),a6,Ud a4⟩
end
open PySem.W
theorem collect_set{Q:List Value->T7->Prop}(hh:A.handled=none)(O:s.heap.get? S=some o)(a1:o.ExactSet)(hd:o.data= .set es ep t)(hf:t.fits es.size=true)(hr:Jb.RisT t (Jb.ledW w))(hz:es.size<=Ui)
  (J:∀h' tk d' L V,(∀b o,s.heap.get? b=some o->h'.get? b=some o)->Vz L es.toList->ItemsOf (atL L) V es.size->Q V.toList {s with heap:=h',drawn:=d',toks:=tk}):wpAny (model prog w) A (collect (.ref S)) Q E s:=by
 unfold collect;refine gD (aak (Vp F.entry_proto_collect ?_));rw[Vi F.plain_proto_collect _];show wpAny _ A.in1 (abH [] >>=λl=>again (.builtin "list.__iadd__" ⟨[l,.ref S],[]⟩)) _ _ s;refine gD (Vf ?_);refine yr ⟨Wb acI _,Vp F.entry_list_iadd ?_⟩;rw[Vi acI _];show wpAny _ A.in1 (Yx (.ref s.heap.objs.size) (.ref S) (.ref s.heap.objs.size)) _ _ _;have U:(s.heap.push {cls:=.type "list",data:=.seq ([]:List Value).toArray}).get? s.heap.objs.size=some {cls:=.type "list",data:=.seq #[] 0}:=Ue _ rfl
 let Z (s':T7):Prop:=∃h' tk d' L V c,s'={s with heap:=h',drawn:=d',toks:=tk}/\(∀b o,s.heap.get? b=some o->h'.get? b=some o)/\h'.get? s.heap.objs.size=some {cls:=.type "list",dict:=none,data:=.seq V c,slots:=#[]}/\Vz L es.toList/\ItemsOf (atL L) V es.size
 have N:∀s',Z s'->wpAny (model prog w) A (match UL s.heap.objs.size with
   |UL a=>do
    match(←load a).data with
     |Data.seq xs _=>pure xs.toList
     |_=>aal "internal:collect"
   |_=>aal "internal:collect") Q E s':=by
  rintro s' ⟨h',tk,d',L,V,c,rfl,q,a0,hL,Y⟩;show wpAny _ A (load s.heap.objs.size >>=_) _ _ _;refine gD (Z5 a0 ?_);exact yr (J h' tk d' L V q hL Y)
 refine V9 (Ju (A:=A) (R:=λr s'=>r= .ok (.ret (.ref s.heap.objs.size))/\Z s')
  (s:={s with heap:=s.heap.push {cls:=.type "list",data:=.seq ([]:List Value).toArray}}) hh (T8 _ O) a1 hd hf hr hz (Xk (Uc O)) _ 0 U (λh' tk d' L V c q a0 hL Y=>⟨rfl,h',tk,d',L,V,c,rfl,λb o e=>q b o (Ud (Uc e)) (T8 _ e),a0,hL,Y⟩)) (λz s' h=>?_) (λe s' h=>?_)
 .cases z with
  |done f=>
   obtain⟨e,h⟩:=h;cases e;exact N _ h
  |again c'=>exact⟨h.1,WM h.2 λr a2 hr=>by obtain⟨rfl,h⟩:=hr;exact N _ h⟩
 .exact absurd h.1 (by simp)
end PySem
namespace Jb
open PySem PySem.Spec PyProof.Rows L2
def xO[DecidableEq α](ns:List α):List α:=ns.foldl (λV n=>if n∈V then V else V++[n]) []
def wj(ns:List Int):List Int:=(xO ns).mergeSort (λa b=>decide (a<=b))
section
variable{α:Type}[DecidableEq α]
theorem su:∀(ns V:List α),V.Nodup->(ns.foldl (λV n=>if n∈V then V else V++[n]) V).Nodup/\∀x,x∈ns.foldl (λV n=>if n∈V then V else V++[n]) V↔x∈V∨x∈ns
 |[],V,h=>⟨h,λx=>by simp⟩
 |n::r,V,h=>by
  rw[Wr];by_cases e:n∈V
  .rw[Uo e]
   obtain⟨h1,h2⟩:=su r V h;refine⟨h1,λx=>(h2 x).trans ⟨λz=>z.imp id (Ut _),λz=>z.elim .inl λz=>(Uj.mp z).elim (λz=>.inl (z▸e)) .inr⟩⟩
  .rw[Uq e]
   obtain⟨h1,h2⟩:=su r (V++[n]) (by rw[Ur];exact⟨h,by simp,λa Y b U z=>e (by rw[UG.mp U]at z;exact z▸Y)⟩);refine⟨h1,λx=>(h2 x).trans ?_⟩;simp only[T_,Uj,ZR,or_false,or_assoc]
theorem LQ(ns:List α):(xO ns).Nodup:=(su ns [] Va).1
theorem FT{ns:List α}{x:α}:x∈xO ns↔x∈ns:=by
 have:=(su ns [] Va).2 x;simpa[xO]using this
theorem yX(ns:List α):(xO ns).length<=ns.length:=by
 have:∀(ns V:List α),(ns.foldl (λV n=>if n∈V then V else V++[n]) V).length<=V.length+ns.length:=by
  intro ns
  induction ns with
  |nil=>intro V;simp
  |cons n r Z=>
   intro V;rw[Wr];refine V2 (Z _) ?_;split<;>simp<;>omega
 have:=this ns [];simpa[xO]using this
theorem sW{f:α->Key}(Z:∀a b,f a=f b->a=b)(ns:List α):jy (ns.map f)=(xO ns).map f:=by
 have:∀(ns V:List α),(ns.map f).foldl gV (V.map f)=(ns.foldl (λV n=>if n∈V then V else V++[n]) V).map f:=by
  intro ns
  induction ns with
  |nil=>intro V;rfl
  |cons n r q=>
   intro V;rw[Um,Wr,Wr,←q];congr 1;unfold gV;by_cases e:n∈V
   .rw[Uo e,Uo (lK.mpr (Uw.mpr ⟨n,e,rfl⟩))]
   .rw[Uq e,Uq (λz=>e (by obtain⟨m,h1,h2⟩:=Uw.mp (lK.mp z);cases Z _ _ h2;exact h1))]
    simp
 exact this ns []
end
theorem rB:∀{a b:List α},a.Nodup->(∀x∈a,x∈b)->b.length<=a.length->Vz a b
 |[],b,_,_,h=>by
  have e:b=[]:=Yk (Nat.le_zero.mp h);rw[e]
 |x::r,b,hn,hs,hl=>by
  obtain⟨h1,h2⟩:=Uu.mp hn;obtain⟨p,q,rfl⟩:=List.append_of_mem (hs x (by simp));have Z:Vz r (p++q):=rB h2 (λy O=>by
   have:=hs y (by simp[O]);simp only[T_,Uj]at this⊢;rcases this with z|z|z
   .exact .inl z
   .exact absurd (z▸O) h1
   .exact .inr z) (by simp at hl⊢;omega)
  exact(Z.cons x).trans List.perm_middle.symm
theorem m9:∀{a b:List Int},Vz a b->a.Pairwise (·<=·)->b.Pairwise (·<=·)->a=b
 |[],b,p,_,_=>by rw[p.nil_eq]
 |x::r,[],p,_,_=>absurd p.length_eq (by simp)
 |x::r,y::q,p,ha,hb=>by
  obtain⟨U,O⟩:=Zd.mp ha;obtain⟨F,V⟩:=Zd.mp hb;have e:x=y:=by
   rcases Uj.mp (p.mem_iff.mp (Vb ..))with z|z
   .exact z
   .rcases Uj.mp (p.mem_iff.mpr (Vb (a:=y)))with z2|z2
    .exact z2.symm
    .have:=F x z;have:=U y z2;omega
  subst e;rw[m9 (p.cons_inv) O V]
theorem qg(ns:List Int):Vz (wj ns) (xO ns):=List.mergeSort_perm _ _
theorem Ka(ns:List Int):(wj ns).Pairwise (·<=·):=by
 have:=List.pairwise_mergeSort (le:=λa b:Int=>decide (a<=b)) (λa b c h1 h2=>by simp at *;omega) (λa b=>by simp;omega) (xO ns);exact this.imp λh=>by simpa using h
open PySem PyProof.Rows
def vl(x:Keyed):Int:=numOf x.1
def keyOf:Value->Key
 |.int n _=>.inl n
 |.str x _=>.inr x
 |_=>.inl 0
theorem tU:∀{us:List Value},(∀u∈us,∃k,rC k u=true)->Vals ((us.map keyOf).map kV) us
 |[],_=>.nil
 |u::r,h=>by
  obtain⟨k,q⟩:=h u (by simp);refine .cons ?_ (tU λv U=>h v (by simp[U]));rcases cO q with⟨i,t,rfl,rfl⟩|⟨x,t,rfl,rfl⟩<;>exact⟨t,rfl⟩
theorem GX{k:Key}(h:rC k v=true):keyOf v=k:=by
 rcases cO h with⟨i,t,rfl,rfl⟩|⟨x,t,rfl,rfl⟩<;>rfl
theorem Ke(ks:List Key):(jy ks).Nodup:=by
 have:=sW (f:=id) (λ_ _ h=>h) ks;rw[YS,YS]at this;rw[this];exact LQ ks
theorem Bl(ks:List Key):(jy ks).length<=ks.length:=by
 have:=sW (f:=id) (λ_ _ h=>h) ks;rw[YS,YS]at this;rw[this];exact yX ks
def Gg(K:Ub)(R:List Key->Hp->VK->Prop)(t:TA):TE:=λσ H Q=>t σ H λvs H1=>∃a ks,vs=[.ref a]/\SqL K H1 a (Uz kV ks)/\WX ks<4000/\R ks H1 Q
variable{X:Cx}{H:Hp}
theorem Inv.drw{σ:L2.St}{s:T7}(I:Inv X pins σ H s):Inv X pins σ H {s with drawn:=d}:=⟨I.ok,I.os,I.bare,I.base,I.loc,I.cell,I.free,I.freeC,I.pin,I.hok,I.len⟩
variable{t:TA}
theorem zV{R:List Key->Hp->VK->Prop}(hR:∀{pins:List (Addr×Obj)}{σ:L2.St}{H:Hp}{s:T7}{ks zs:List Key}{its:List Value}{E:Value->T7->Prop}{Q:VK},R ks H Q->Inv X pins σ H s->Vz zs (jy ks)->zs.length<4000->Vals (zs.map kV) its->wpAny (model X.prog X.w) X.A.in1 (abH its >>=λl=>ab8 [l] (call (.builtin "list.sort") [l] []) >>=λ_=>ret l) (λa7 s'=>∃v,a7= .done (.ret v)/\EP X pins σ Q v s') E s)
  (z:Gl X "sorted") (hm:X.mg "sorted"=none) (b3:X.mg "set"=none) (Y:PA X [e] t) (a9:Gl X "set":=by rfl) (O:Ul [e] X.env=[(false,eval e X.env)]:=by rfl) (J:X.calm=true:=by rfl) :
  PE X (.Call (.Name "sorted" p1) [.Call (.Name "set" p2) [e] [] q2] [] q1) (Gg X.K R t):=by
 intro pins s σ H Q I h;refine Ws (lu I z hm boot_sorted ?_);refine Yh rfl (Z7 ?_);show wpAny _ _ (spliced ((false,eval (.Call (.Name "set" p2) [e] [] q2) X.env)::V3 q1 (Ul [] X.env))) _ _ s;refine aao ?_;refine Ws (lu I a9 b3 boot_set ?_);refine Wz (thn (Y q2 pins s σ H _ I h) λus s1 ⟨vs,H1,I1,r1,b8⟩=>?_) O rfl;obtain⟨a,ks,ev,hq,hz,q⟩:=b8;subst ev;obtain⟨u,rfl,ru⟩:=vals1 r1;cases ru;have hh:X.A.handled=none:=I1.ok.hd J;obtain⟨its,rv,pl,c3⟩:=I1.list hq;have a0:=rv.length;rw[Ux]at a0;refine Dd (its:=its) (ks:=ks) hh a0 (λj k v e1 e2=>?_) (by show its.length+1<4096;omega) pl.isList λs2 a8=>?_
 .obtain⟨w',h1,h2⟩:=rv.get (i:=j) (x:=kV k) (by rw[List.getElem?_map,e1];rfl)
  rw[e2]at h1;cases h1;exact h2
 refine Zq ?_;obtain⟨h',tk,rfl,hS,a6⟩:=a8;have I2:Inv X pins σ H1 {s1 with heap:=h',toks:=tk}:=I1.kept (t':=tk) a6;obtain⟨o,es,ep,tb,ho,b4,hd,b0,a4,U,hf,N,Z⟩:=hS;have c1:=Bl ks;have c0:4000<=Ui:=by decide
 refine Ei λE' Q' b1=>PySem.collect_set (A:=X.A.in1) hh ho b4 hd hf Z (by omega) λh2 a2 d2 L V kp hL Y=>?_;have I3:Inv X pins σ H1 {s1 with heap:=h2,drawn:=d2,toks:=a2}:=Inv.drw (d:=d2) (I2.kept (t':=a2) kp);have a1:V.toList.length=(jy ks).length:=by rw[VR,Y.1,N]
 have hv:Vals ((V.toList.map keyOf).map kV) V.toList:=tU λu hu=>by
  obtain⟨i,hi,rfl⟩:=YW hu;obtain⟨c,b2⟩:=Y.2 i _ (by rw[←Xq];exact Ug hi);obtain⟨⟨k,b7,_⟩,_⟩:=b0 _ (hL.mem_iff.mp (Vd b2));exact⟨k,b7⟩
 have a5:Vz (jy ks) (V.toList.map keyOf):=by
  refine rB (Ke ks) (λx F=>?_) (by rw[Ux,a1];exact Uk _);obtain⟨⟨c,v⟩,h1,h2⟩:=(a4 x).mp (lK.mpr F);obtain⟨i,hi,b5⟩:=YW (hL.mem_iff.mpr h1);have b9:i<V.toList.length:=by
   rw[a1,←N,←VR,←hL.length_eq];exact hi
  obtain⟨c2,a3⟩:=Y.2 i V.toList[i] (by rw[←Xq];exact Ug b9);rw[Ug hi,b5]at a3;have b6:v=V.toList[i]:=congrArg Prod.snd (Vw a3);exact Uw.mpr ⟨V.toList[i],WT _,by rw[←b6];exact GX h2⟩
 exact b1 _ _ (hR q I3 a5.symm (by rw[Ux,a1];omega) hv)
theorem perm_back{f:α->β}{g:β->α}(q:∀a,g (f a)=a){zs:List β}{l:List α}(h:Vz zs (l.map f)):zs=(zs.map g).map f/\Vz (zs.map g) l:=by
 refine⟨?_,?_⟩
 .rw[Vg]
  conv=>lhs;rw[←YS zs]
  refine Xf λz hz=>?_;obtain⟨a,_,rfl⟩:=Uw.mp (h.mem_iff.mp hz);simp[q]
 .have:=h.map g
  rw[Vg]at this;rwa[show g∘f=id from funext q,YS]at this
variable{G:Gc}
theorem qH{W:Wn}:∀ns:List Int,aF G H W (ns.map D.int) (ns.map V.int) []
 |[]=>.nil
 |x::r=>aF.cons (M:=[]) (M':=[]) cg (qH r)
end Jb
namespace PySem
open PyProof.Rows
def mx(m:Int)(l:List Int):Int:=l.foldl (λa b=>if b>a then b else a) m
theorem F.jb_args_maxd(a v:Value):argsOk "max" ⟨[a],[(Yn "default",v)]⟩:=by unfold argsOk;kernel_rfl
variable{I B:Addr}{R:Result->Shared->Prop}
theorem O6(hh:A.handled=none)(b2:l≠I)(a6:B≠I)(a9:l≠B)(U:zs.length=its.length)(hv:∀i,i<its.length->∃t,its[i]? =some (.int (zs.getD i 0) t)) :
  ∀(r k:Nat)(s:T7)(m:Int)(tm:Tok)(c:Nat),its.length-k=r->k<=its.length->s.heap.IsListIter I l k->s.heap.IsList l its.toArray->s.heap.get? B=some (abO "list" #[.int m tm,.int m tm] c)->
  (∀h' tk t',(∀b o,b≠I->b≠B->s.heap.get? b=some o->h'.get? b=some o)->R (.ok (.ret (.int (mx m (zs.drop k)) t'))) {s with heap:=h',toks:=tk})->
  Wf (model prog w) A (.builtin "max.loop" ⟨[.ref I,.none,.ref B],kw⟩) R s:=by
 have a2:(toString "max"++toString ".loop":String)="max.loop":=by decide
 have W:=ab0 (prog:=prog) (w:=w) (A:=A.in1) hh I l b2 its.toArray;have hsz:its.toArray.size=its.length:=List.size_toArray ..;intro r
 induction r with
 |zero=>
  intro k s m tm c Z q N Y hB hR;have e:k=its.length:=by omega
  refine Vp ZG ?_;rw[Vi Wi _];show wpAny _ A.in1 (Za (.ref B) >>=_) _ _ _;refine gD (Ys hB rfl ?_);show wpAny _ A.in1 (tryCatch (X3 (.ref I)) _ >>=_) _ _ _;refine gD (Yr (W.done _ _ _ ⟨by rw[hsz,←e];exact N,Y⟩ λh' a8 a1=>?_));have a3:=a1 B _ (by simpa using a6) hB;show wpAny _ A.in1 (acv B (λ_=>#[]) >>=_) _ _ _;refine gD ?_;refine Y5 a3 rfl (gD (abA (yr ?_)));have:=hR (h'.update B (Wm λ_=>(#[]:Array Value))) a8 tm (λb o n1 n2 e=>(Vv _ _ (U3 n2)).trans (a1 b o (by simpa using n1) e));rw[ZF (by omega)]at this;exact this
 |succ r ih=>
  intro k s m tm c Z q N Y hB hR;have J:k<its.length:=by omega
  obtain⟨O,b1⟩:=hv k J;have hz:zs.drop k=zs.getD k 0::zs.drop (k+1):=by
   rw[Wo (by omega)];simp[show k<zs.length by omega]
  refine Vp ZG ?_;rw[Vi Wi _];show wpAny _ A.in1 (Za (.ref B) >>=_) _ _ _;refine gD (Ys hB rfl ?_);show wpAny _ A.in1 (tryCatch (X3 (.ref I)) _ >>=_) _ _ _;refine gD (Yr (W.item k _ _ _ (by rw[hsz];exact J) ⟨N,Y⟩ λv h' a8 hP a0 a1=>?_));have a7:its[k]? =some v:=by simpa using hP
  rw[b1]at a7;cases a7;have a3:=a1 B _ (by simpa using a6) hB;generalize zs.getD k 0=z at *
  show wpAny _ A.in1 (pure (V8 z O) >>=_) _ _ _;refine gD (yr ?_);show wpAny _ A.in1 (tryCatch (Wu [.int z O,.int z O] (richCompare .Gt (.int z O) (.int m tm) >>=_)) _ >>=_) _ _ _;refine gD (Yr (U6 (gD (CmpOf.ints_gt (prog:=prog) (w:=w) (A:=A.in1) (P:=λi v=>∃t,v= .int ((λi:Nat=>if i=0 then z else m) i) t) (λi:Nat=>if i=0 then z else m) (λi v h=>h) 0 1 _ _ _ _ _ ⟨O,rfl⟩ ⟨tm,rfl⟩ ?_))));refine gD (U6 (XC ?_));refine gD (abA (yr ?_));simp only[Vj,show((1:Nat)=0)=False by simp,VN];by_cases a4:z>m
  .have s1:=YX h' B (Wm λ_=>#[V8 z O,.int z O])
   obtain⟨V,b0⟩:∃V,(h'.update B (Wm λ_=>#[V8 z O,.int z O])).get? B=some (abO "list" #[.int z O,.int z O] V):=⟨_,get?_update_seq a3 λ_=>#[V8 z O,.int z O]⟩;simp only[a4,decide_true,Vj];refine gD ?_;refine Y5 a3 rfl (gD (abA ?_));rw[a2];refine yr ⟨Wb Wi _,ih (k+1) _ z O V (by omega) J (a0.1.at λo e=>(s1.2 I a6.symm).trans e) (a0.2.at λo e=>(s1.2 l a9).trans e) b0 λh2 a5 t3 kp=>?_⟩;have:=hR h2 a5 t3 λb o n1 n2 e=>kp b o n1 n2 ((s1.2 b n2).trans (a1 b o (by simpa using n1) e));rw[hz,mx,Wr,Uo a4]at this;exact this
  .simp only[a4,decide_false,U0,VN]
   refine gD (abA ?_);rw[a2];refine yr ⟨Wb Wi _,ih (k+1) _ m tm c (by omega) J a0.1 a0.2 a3 λh2 a5 t3 kp=>?_⟩;have:=hR h2 a5 t3 λb o n1 n2 e=>kp b o n1 n2 (a1 b o (by simpa using n1) e);rw[hz,mx,Wr,Uq a4]at this;exact this
variable{s:T7}
theorem CQ(hh:A.handled=none)(a8:l≠I)(a4:B≠I)(a6:l≠B)(U:zs.length=its.length)(hv:∀i,i<its.length->∃t,its[i]? =some (.int (zs.getD i 0) t)){c:Nat}(N:s.heap.IsListIter I l 0)(Y:s.heap.IsList l its.toArray)(hB:s.heap.get? B=some (abO "list" #[] c))
  (b1:∀z r,zs=z::r->∀h' tk t',(∀b o,b≠I->b≠B->s.heap.get? b=some o->h'.get? b=some o)->R (.ok (.ret (.int (mx z r) t'))) {s with heap:=h',toks:=tk})
  (b0:zs=[]->∃x d,kw=[(x,d)]/\∀h' tk,(∀b o,b≠I->b≠B->s.heap.get? b=some o->h'.get? b=some o)->R (.ok (.ret d)) {s with heap:=h',toks:=tk}) :
  Wf (model prog w) A (.builtin "max.loop" ⟨[.ref I,.none,.ref B],kw⟩) R s:=by
 have a3:(toString "max"++toString ".loop":String)="max.loop":=by decide
 have W:=ab0 (prog:=prog) (w:=w) (A:=A.in1) hh I l a8 its.toArray;have hsz:its.toArray.size=its.length:=List.size_toArray ..;refine Vp ZG ?_;rw[Vi Wi _];show wpAny _ A.in1 (Za (.ref B) >>=_) _ _ _;refine gD (Ys hB rfl ?_);show wpAny _ A.in1 (tryCatch (X3 (.ref I)) _ >>=_) _ _ _;cases zs with
 |nil=>
  have e0:its.length=0:=by simpa using U.symm
  obtain⟨x,d,rfl,hR⟩:=b0 rfl;refine gD (Yr (W.done _ _ _ ⟨by rw[hsz,e0];exact N,Y⟩ λh' J a1=>?_));show wpAny _ A.in1 (rule _ >>=_) _ _ _;refine gD (W3 ?_);exact yr (hR h' J λb o q n2 e=>a1 b o (by simpa using q) e)
 |cons z r=>
  have a0:0<its.length:=by rw[←U];simp
  obtain⟨O,b3⟩:=hv 0 a0;refine gD (Yr (W.item 0 _ _ _ (by rw[hsz];exact a0) ⟨N,Y⟩ λv h' J hP a2 a1=>?_));have a5:its[0]? =some v:=by simpa using hP
  rw[b3]at a5;cases a5;have a7:=a1 B _ (by simpa using a4) hB;show wpAny _ A.in1 (pure (V8 z O) >>=_) _ _ _;refine gD (yr ?_);have Z:=YX h' B (Wm λ_=>#[V8 z O,.int z O]);obtain⟨V,b2⟩:∃V,(h'.update B (Wm λ_=>#[V8 z O,.int z O])).get? B=some (abO "list" #[.int z O,.int z O] V):=⟨_,get?_update_seq a7 λ_=>#[V8 z O,.int z O]⟩;show wpAny _ A.in1 (acv B (λ_=>#[.int z O,.int z O]) >>=_) _ _ _;refine gD ?_;refine Y5 a7 rfl ?_;rw[a3];refine yr ⟨Wb Wi _,O6 (zs:=z::r) hh a8 a4 a6 U hv _ 1 _ z O V rfl a0 (a2.1.at λo e=>(Z.2 I a4.symm).trans e) (a2.2.at λo e=>(Z.2 l a6).trans e) b2 λh2 a9 t3 kp=>?_⟩;exact b1 z r rfl h2 a9 t3 λb o q n2 e=>kp b o q n2 ((Z.2 b n2).trans (a1 b o (by simpa using q) e))
theorem call_maxl{dv:Option Value}(hh:A.handled=none)(a0:zs.length=its.length)(hv:∀i,i<its.length->∃t,its[i]? =some (.int (zs.getD i 0) t))(Y:s.heap.IsList l its.toArray)
  (h1:∀z r,zs=z::r->∀h' tk t',(∀b o,s.heap.get? b=some o->h'.get? b=some o)->Q (.int (mx z r) t') {s with heap:=h',toks:=tk})
  (N:zs=[]->∃d,dv=some d/\∀h' tk,(∀b o,s.heap.get? b=some o->h'.get? b=some o)->Q d {s with heap:=h',toks:=tk}) :
  wpAny (model prog w) A (call (.builtin "max") [.ref l] (dv.toList.map λd=>(Yn "default",d))) Q E s:=by
 have q:(toString "max"++toString ".loop":String)="max.loop":=by decide
 obtain⟨V,O,_⟩:=id Y;have Z:l<s.heap.objs.size:=Uc O;have J:(s.heap.push {cls:=.type "list_iterator",data:=.fields #[.ref l,.int 0 0]}).objs.size=s.heap.objs.size+1:=Ve ..;refine kmb_tree PySem.F.kind_max PySem.F.plain_max PySem.F.entry_max (by cases dv;exact F.args_max1 _;exact F.jb_args_maxd _ _) ?_;show wpAny _ A.in1 (aaw "max" ["key","default"] 0 ⟨[],dv.toList.map λd=>(Yn "default",d)⟩ >>=_) _ _ s;refine gD (XQ (show aaw "max" ["key","default"] 0 ⟨[],dv.toList.map λd=>(Yn "default",d)⟩=pure [none,dv]from by cases dv<;>rfl) ?_);refine gD (yr ?_);refine gD (Wx Y ?_);refine gD (wpAny_newList ?_ (XM _));rw[q];refine yr ⟨Wb Wi _,?_⟩;have keep:∀(h':Heap),(∀b o,b≠s.heap.objs.size->b≠(s.heap.push {cls:=.type "list_iterator",data:=.fields #[.ref l,.int 0 0]}).objs.size->((s.heap.push {cls:=.type "list_iterator",data:=.fields #[.ref l,.int 0 0]}).push (abO "list" #[] 0)).get? b=some o->h'.get? b=some o)->∀b o,s.heap.get? b=some o->h'.get? b=some o:=λh' k b o e=>by
  have U:=Uc e;exact k b o (Ud U) (by rw[J];exact Ud (Vo U)) (T8 _ (T8 _ e))
 refine CQ (zs:=zs) (its:=its) (B:=(s.heap.push {cls:=.type "list_iterator",data:=.fields #[.ref l,.int 0 0]}).objs.size) hh (Ud Z) (by rw[J];exact Xk (VM _)) (by rw[J];exact Ud (Vo Z)) a0 hv
  ⟨_,T8 _ (Ue _ rfl),rfl,rfl⟩ ((Y.push _).push _) (Ue _ rfl) (λz r e h' tk t' k=>h1 z r e h' tk t' (keep h' k)) λe=>?_
 obtain⟨d,rfl,h⟩:=N e;exact⟨_,d,rfl,λh' tk k=>h h' tk (keep h' k)⟩
end PySem
namespace Jb
open PySem PySem.Spec PyProof.Rows L2
variable{t:TA}
theorem KH{ns:List Int}(Z:Vals (ns.map V.int) its):∀i,i<its.length->∃t,its[i]? =some (.int (ns.getD i 0) t):=λi hi=>by
 have F:i<ns.length:=by have:=Z.length;simp at this;omega
 obtain⟨u,h1,t,h2⟩:=Z.get (i:=i) (x:=V.int ns[i]) (by simp[F]);exact⟨t,by rw[h1,h2];simp[F]⟩
def MJ(K:Ub):List V->Hp->VK->Prop:=λxs H Q=>∃a z r,xs=[.ref a]/\SqL K H a ((z::r).map V.int)/\Q (.int (PySem.mx z r)) H
variable{X:Cx}
theorem CP(J:X.calm=true):eU X (.builtin "max") (MJ X.K):=by
 intro pins s σ H xs us Q I r h;obtain⟨a,z,q,rfl,O,Y⟩:=h;obtain⟨u,rfl,F⟩:=vals1 r;cases F;obtain⟨its,Z,pl,hz⟩:=I.list O;have U:(z::q).length=its.length:=by have:=Z.length;simpa using this
 refine PySem.call_maxl (dv:=none) (zs:=z::q) (I.ok.hd J) U (KH Z) pl.isList (λV N e h' tk t' k=>?_) λe=>by cases e
 cases e;exact⟨.int (PySem.mx z q),H,I.kept k,⟨_,rfl⟩,Y⟩
def t7:List D->Option D
 |[.lst _ ds]=>(l_ ds).bind λns=>match ns with
  |z::r=>some (.int (PySem.mx z r))
  |[]=>none
 |ds=>F_ ds
variable{X:ι->Cx}{G:Gc}
theorem GJ(J:∀c,(X c).calm=true)(F:∀c,(X c).K=G.K:=by intro _;rfl):CaB X G (.builtin "max") t7:=by
 obtain⟨Y,c1,V⟩:=(Fi (X:=X) (G:=G) J).ex;refine⟨λxs H Q=>Y xs H Q∨MJ G.K xs H Q,λc=>eU.or (c1 c) (by rw[←F c];exact CP (J c)),λds d e xs H W L0 r nd N w Q q=>?_⟩;unfold t7 at e;split at e
 .rename_i m ds
  cases h1:l_ ds with
  |none=>simp[h1]at e
  |some ns=>
   cases ns with
   |nil=>simp[h1]at e
   |cons z t=>
    obtain rfl:D.int (PySem.mx z t)=d:=by simpa[h1]using e
    obtain⟨x,rfl,rx⟩:=r.inv1;rw[Rep]at rx;obtain⟨a,ys,M,rfl,Z,O⟩:=rx;have hd:=uf h1;subst hd;have U:=pQ (ns:=z::t) Z;subst U;exact .inr ⟨a,z,t,rfl,O.sq,q.scal λ_=>cg⟩
 .exact .inl (V _ d e xs H W L0 r nd N w Q q)
def mkS:Mk->Mk
 |.frz=>.scr
 |m=>m
mutual
noncomputable def toS:D->D
 |.tup ds=>.tup (GK ds)
 |.lst m ds=>.lst m (GK ds)
 |.dct m ks ds=>.dct (mkS m) ks (GK ds)
 |.ins m c fs ds=>.ins m c fs (GK ds)
 |d=>d
noncomputable def GK:List D->List D
 |[]=>[]
 |d::r=>toS d::GK r
end
def Eu(x:Str)(n:Nat):Str:=⟨(Vt n x.cps).foldl (·++·) #[]⟩
def Cp(x y:D):Option D:=match x,y with
 |.str x,.int n=>if 0<=n/\n<1000/\0<x.length/\x.length<1000 then some (.str (Eu x n.toNat))else none
 |x,y=>qM x y
variable{H:Hp}
def Sd:R2:=λx y H Q=>∃s n,x= .str s/\y= .int n/\(0<=n/\n<1000/\0<s.length/\s.length<1000)/\Q (.str (Eu s n.toNat)) H
theorem vX(a:Array α):∀(n:Nat)(b:Array α),((Vt n a).foldl (·++·) b).size=b.size+n*a.size
 |0,b=>by simp
 |n+1,b=>by
  rw[List.replicate_succ,Wr,vX a n,Array.size_append,Nat.add_mul];omega
theorem JD{X:Cx}:OpR X (V6 .Mult) Sd:=by
 intro pins s σ H x y v u Q I rx J ⟨O,n,ex,U,⟨N,h1,h2,F⟩,q⟩;subst ex U;obtain⟨t,rfl⟩:=rx;obtain⟨t',rfl⟩:=J;refine PySem.P.mul_str (by simp;omega) (λ_ _=>by
  intro z;have:(O.length:Int)*n<=2 ^ 63-1:=by
   have:(O.length:Int)*n<=1000*1000:=Int.mul_le_mul (by omega) (by omega) (by omega) (by omega);omega
  have:=(Int.le_ediv_iff_mul_le (a:=(O.length:Int)) (b:=2 ^ 63-1) (c:=n) (by omega)).mpr this;omega) (λ_ _=>?_) ?_
 .have V:O.length*n.toNat<=1000000:=by
   have:O.length*n.toNat<=1000*1000:=Nat.mul_le_mul (by omega) (by omega);omega
  have:¬O.length*n.toNat>Ui:=by
   have:1000000<Ui:=by decide
   omega
  exact U9 this
 .by_cases hn:n<1
  .have:n=0:=by omega
   subst this;rw[Uo (by decide)];exact⟨by decide,.str (Eu O 0),H,I.tok _,⟨_,rfl⟩,q⟩
  .rw[Uq hn]
   by_cases Z:(n==1||O.length==0)=true
   .rw[Uo Z]
    have:n=1:=by
     rw[Y0]at Z;rcases Z with z|z
     .simpa using z
     .have:O.length=0:=by simpa using z
      omega
    subst this;refine⟨.str O,H,I,⟨_,rfl⟩,?_⟩;have:Eu O 1=O:=by
     unfold Eu;simp
    rw[show(1:Int).toNat=1 from rfl,this]at q;exact q
   .rw[Uq Z]
    refine⟨?_,.str (Eu O n.toNat),H,I.tok _,⟨_,rfl⟩,q⟩;show((Vt n.toNat O.cps).foldl (·++·) #[]).size<=Ui;rw[vX];have V:n.toNat*O.cps.size<=1000*1000:=Nat.mul_le_mul (by omega) (XX F);have:1000*1000<=Ui:=by decide
    have N:(#[]:Array Nat).size=0:=rfl;simp;omega
theorem JS:OpB X G (V6 .Mult) Cp:=by
 obtain⟨r,h1,h2⟩:=(oN (X:=X) (G:=G)).ex;refine⟨_,λc=>OpR.or (h1 c) JD,λdx Y d e x y H W Z Ly rx J nd N w Q q=>?_⟩;unfold Cp at e;split at e
 .split at e
  .rename_i hc
   cases e;exact .inr ⟨_,_,(cV rx).1,(aX J).1,hc,q.scal λ_=>H_⟩
  .cases e
 .exact .inl (h2 dx Y d e x y H W Z Ly rx J nd N w Q q)
def dO(fs:List Str)(f:Str):Option Nat:=fs.findIdx? λx=>decide (x=f)
theorem lq(f:Str):∀kvs:List (Str×V),kvs.lookup f=(dO (kvs.map (·.1)) f).bind λj=>(kvs.map (·.2))[j]?
 |[]=>rfl
 |(k,v)::r=>by
  have Z:=lq f r;by_cases h:k=f
  .subst h
   simp[dO,WW]
  .have h':(f==k)=false:=WK.mpr (U3 h)
   simp only[Yg,h',dO,Um,WW,U9 h]at Z⊢;rw[Z];cases ab7 (λx=>decide (x=f)) (Uz (λx=>x.1) r)<;>simp
structure Kla(K:PySem.W.Frag)(mg:Str->Option Value)(c:Str)(fl:List Str):Prop where
 ex:∃C,mg c=some (.ref C)/\Cls K C/\∀f∈fl,jD K C f
variable{c f:Str}
theorem Kla.at{K:Ub}(k:Kla K mg c fl)(h:mg c=some (.ref C))(Z:fl.contains f=true):Cls K C/\jD K C f:=by
 obtain⟨O,h1,h2,F⟩:=k.ex;rw[h]at h1;cases h1;exact⟨h2,F f (by simpa using Z)⟩
def gB(c f:Str):D->Option D
 |.ins m Y fs ds=>if Y=c/\m≠.scr then(dO fs f).bind λj=>ds[j]? else none
 |_=>none
def oH(i:Nat)(pf:En->Option (List Nat))(c f:Str):En->Option (List Nat):=λρ=>(pf ρ).bind λp=>match ρ[i]? with
 |some (some d0)=>(e_ p d0).bind λd=>match d with
  |.ins .own c' fs ds=>if c'=c then(dO fs f).bind λj=>if j<ds.length then some (p++[j])else none else none
  |_=>none
 |_=>none
theorem Lq(k:Kla G.K G.mg c fl)(Y:fl.contains f=true):UnV G (λx H Q=>∃a C dx fs v,x= .ref a/\H a=some (.ins C dx fs)/\Cls G.K C/\jD G.K C f/\fs.lookup f=some v/\Q v H) (gB c f):=λdx d e x H W Lx r nd N w Q q=>by
 unfold gB at e;split at e
 .rename_i m c' fs ds
  split at e
  .rename_i hc
   obtain⟨rfl,V⟩:=hc;rw[Rep]at r;obtain⟨a,C,dx,kvs,M,rfl,hC,rfl,Z,O⟩:=r;cases U:dO (kvs.map (·.1)) f with
   |none=>simp[U]at e
   |some j=>
    have e':ds[j]? =some d:=by simpa[U]using e
    obtain⟨z,J,F,h4,h5⟩:=Z.get e';exact⟨a,C,dx,kvs,z,rfl,O.at V,(k.at hC Y).1,(k.at hC Y).2,by rw[lq,U];exact F,mX (Ly:=[]) h4 (h5.trans O.sub) (by simpa using nd) (by simpa using N) (by simpa using q)⟩
  .cases e
 .cases e
variable{fe:En->Option D}
theorem gw(k:Kla G.K G.mg c fl)(N:PV X G ob e fe)(Z:fl.contains f=true:=by rfl)(U:∀i,Xb e f (X i).env (eval e (X i).env)=eval e (X i).env:=by intro _;rfl)(F:∀i,(X i).K=G.K:=by intro _;rfl):PV X G ob (.Attribute e f pos) (e1 (gB c f) fe):=let⟨t,a1,a2⟩:=N.ex;⟨_,λi=>(by have:=Jk (pos:=pos) (a1 i) (U i);rw[F i]at this;exact this),Nh (Lq k Z) a2⟩
variable{to:TE}{pf:En->Option (List Nat)}
theorem KJ{i0:Nat}(k:Kla G.K G.mg c fl)(hf:fl.contains f=true)(O:RfP G ob to i0 pf):RfP G ob (Rx G.K to f) i0 (oH i0 pf c f):=λρ p e σ H S Fr s=>by
 unfold oH at e;cases h1:pf ρ with
 |none=>simp[h1]at e
 |some p0=>
  rw[h1]at e;simp only[Ua]at e;split at e
  .rename_i d0 h3
   cases V:e_ p0 d0 with
   |none=>simp[V]at e
   |some d=>
    rw[V]at e;simp only[Ua]at e;split at e
    .rename_i c' fs ds
     split at e
     .rename_i hc
      subst hc;cases U:dO fs f with
      |none=>simp[U]at e
      |some j=>
       by_cases h6:j<ds.length
       .obtain rfl:p0++[j]=p:=by simpa[U,h6]using e
        obtain⟨a2,d',g1,z,g3⟩:=O ρ p0 h1 σ H S Fr s;rw[h3]at g1;cases g1;rw[V]at z;cases z;have J:clean (.ins .own c' fs ds)=true:=qG (let⟨_,_,_,h⟩:=s.sl i0 d0 h3;h) V;have a0:ds[j]? =some ds[j]:=Ug h6;refine⟨d0,ds[j],h3,by rw[Ha p0 j d0 V];exact a0,λQ q=>g3 _ λv v0 H1 M Z N a1=>?_⟩;obtain⟨a,C,dx,kvs,x,M',rfl,hC,Y,rfl,F,fo⟩:=Foc.ins a1.r J a0;exact⟨a,C,dx,kvs,x,rfl,Y,(k.at hC hf).1,(k.at hC hf).2,by rw[lq,U];exact F,q x v0 H1 M' Z N (a1.trans fo V (by show ds[j]?≠none;rw[a0];simp))⟩
       .simp[U,h6]at e
     .cases e
    .cases e
  .cases e
variable{o:Expr}
theorem m_{q:Nat}(k:Kla G.K G.mg c fl)(O:PVP X G ob o q pf)(Z:fl.contains f=true:=by rfl)(U:∀i,Xb o f (X i).env (eval o (X i).env)=eval o (X i).env:=by intro _;rfl)(F:∀i,(X i).K=G.K:=by intro _;rfl):PVP X G ob (.Attribute o f pos) q (oH q pf c f):=let⟨t,a1,a2⟩:=O.ex;⟨_,λi=>(by have:=Jk (pos:=pos) (a1 i) (U i);rw[F i]at this;exact this),KJ k Z a2⟩
def rF(j:Option Nat)(l:List α)(y:α):List α:=match j with
 |some j=>l.set j y
 |none=>l++[y]
variable{W:Wn}{ds:List D}
theorem Lg{xs:List V}{M0 N:List Addr}{e:D}{x:V}{o:HO}{j:Option Nat}(Z:aF G H W ds xs M0)(F:Rep G H W e x N)(nd:(a::M0++N).Nodup)(k1:au ds=true)(k2:az ds=true)(c1:aD e=true)(c2:aC e=true)(hj:∀i,j=some i->i<ds.length) :
  ∃M',(a::M').Nodup/\(∀b∈a::M',b∈a::M0∨b∈N)/\(∀W',Evo H (upd H a o) W W'->aF G (upd H a o) W' (rF j ds e) (rF j xs x) M')/\au (rF j ds e)=true/\az (rF j ds e)=true:=by
 have a1:=Ur.mp nd;have hn:=Uu.mp a1.1;have a2:a∉N:=λz=>a1.2.2 a (by simp) a z rfl;have kp:∀{L:List Addr},a∉L->∀c∈L,∀u,H c=some u->upd H a o c=some u:=λh c J u O=>by rw[aK (show c≠a from λz=>h (z▸J))];exact O
 cases j with
 |none=>
  refine⟨M0++N,by simpa using nd,λb U=>by simpa[or_assoc]using U,λW' q=>?_,by simp[rF,bB,au,k1,c1],by simp[rF,bH,az,k2,c2]⟩;exact(Z.mono q (.inl k1) (.inl k2) (kp hn.1)).append (.one (F.mono q (.inl c1) (.inl c2) (kp a2)))
 |some j=>
  obtain⟨A,M1,B,a6,a4⟩:=Z.set (Ug (hj j rfl)) F;have a0:V5 (A++B) M0:=by rw[a6];exact(W_ A).append (Vx M1 B)
  have n3:=Ur.mp (a0.nodup hn.2);have a5:∀z∈N,z∉A++B:=λz h1 h2=>a1.2.2 z (Ut _ (a0.subset h2)) z h1 rfl;have a3:∀b∈A++(N++B),b∈M0∨b∈N:=λb U=>by
   simp only[T_]at U;rcases U with y|y|y
   .exact .inl (a0.subset (by simp[y]))
   .exact .inr y
   .exact .inl (a0.subset (by simp[y]))
  have Y:a∉A++(N++B):=λz=>(a3 a z).elim hn.1 a2;refine⟨A++(N++B),Uu.mpr ⟨Y,dZ n3.1 (dZ a1.2.1 n3.2.1 λz h1 h2=>a5 z h1 (by simp[h2])) λz h1 h2=>?_⟩,λb U=>(Uj.mp U).elim (λz=>.inl (by simp[z])) λz=>(a3 b z).imp (Ut _) id,λW' q=>a4.mono q (.inl (iu k1 c1)) (.inl (ik k2 c2)) (kp Y),iu k1 c1,ik k2 c2⟩;rcases T_.mp h2 with y|y
  .exact a5 z y (by simp[h1])
  .exact n3.2.2 z h1 z y rfl
theorem zg(f:Str)(v:V):∀kvs:List (Str×V),(jr f v kvs).map (·.1)=(match dO (kvs.map (·.1)) f with|some _=>kvs.map (·.1)|none=>kvs.map (·.1)++[f])/\(jr f v kvs).map (·.2)=rF (dO (kvs.map (·.1)) f) (kvs.map (·.2)) v
 |[]=>⟨rfl,rfl⟩
 |(k,y)::r=>by
  obtain⟨N,J⟩:=zg f v r;by_cases h:k=f
  .subst h
   simp[jr,dO,WW,rF]
  .simp only[dO,Um,WW,U9 h,jr,Uq h]at N J⊢
   rw[N,J];cases ab7 (λx=>decide (x=f)) (Uz (λx=>x.1) r)<;>simp[rF]
def vK(c f:Str):D->List D->Option (D×D)
 |.ins .own c' fs ds,[v]=>if c'=c/\fs.length<1000 then some (.ins .own c (match dO fs f with|some _=>fs|none=>fs++[f]) (rF (dO fs f) ds v),.non)else none
 |_,_=>none
def RB(K:Ub)(ta:TE)(f:Str):TG:=λy σ H Q=>ta σ H λx H2=>∃a C dx fs,x= .ref a/\H2 a=some (.ins C dx fs)/\Cls K C/\jD K C f/\fs.length<1000/\Q σ (upd H2 a (.ins C dx (jr f y fs)))
theorem Ks{fs:List Str}(h:dO fs f=some j):j<fs.length:=(Vl.mp h).1
theorem Jz(k:Kla G.K G.mg c fl)(hf:fl.contains f=true):MuV G (λo xs H Q=>∃y a C dx fs,xs=[y]/\o= .ref a/\H a=some (.ins C dx fs)/\Cls G.K C/\jD G.K C f/\fs.length<1000/\Q .non (upd H a (.ins C dx (jr f y fs)))) (vK c f):=λd es d' res h v xs H W M N r re nd hM J c1 V Q q=>by
 unfold vK at h;split at h
 .rename_i c' fs ds e
  split at h
  .rename_i hcl
   obtain⟨rfl,a0⟩:=hcl;cases h;rw[Rep]at r;obtain⟨a,C,dx,kvs,M0,rfl,hC,rfl,Z,Y,rfl⟩:=r;obtain⟨x,zs,N1,N2,rfl,rfl,F,hz⟩:=re.inv;obtain⟨rfl,rfl⟩:=hz.inv0;rw[UJ]at nd re;have O:au ds=true/\az ds=true:=by simp[clean,aD,aC]at J;exact J
   simp only[au,az,UT]at c1 V;obtain⟨M',n1,n2,n3,n4,n5⟩:=Lg (o:=.ins C dx (jr f x kvs)) (j:=dO (kvs.map (·.1)) f) Z F nd O.1 O.2 c1.1 V.1 λi hi=>by rw[Z.length];simpa using Ks hi
   obtain⟨p1,p2⟩:=zg f x kvs;refine⟨x,a,C,dx,kvs,rfl,rfl,Y,(k.at hC hf).1,(k.at hC hf).2,by simpa using a0,q .non _ (a::M') [] (λb u U n=>by rw[aK (show b≠a from λz=>n (by rw[z];simp))];exact U) (λW' ev=>⟨?_,lF⟩) (by simpa using n1) (λb U=>(n2 b (by simpa using U)).imp id λz=>.inl (by simpa using z)) ?_ rfl⟩
   .rw[Rep]
    exact⟨a,C,dx,_,M',rfl,hC,p1,by rw[p2];exact n3 W' ev,aZ,rfl⟩
   .simp[clean,aD,aC,n4,n5]
  .cases h
 .cases h
def jU(c f:Str)(i:Nat)(pf:En->Option (List Nat)):D->En->Option En:=λd ρ=>(pf ρ).bind λp=>(upS (vK c f) i p [d] ρ).map λq=>q.2
variable{P:Nat->Bool}
theorem JG(k:Kla G.K G.mg c fl)(hf:fl.contains f=true)(O:RfP G ob to i pf):RfG G ob P (RB G.K to f) (jU c f i pf):=λd ρ J e v σ H S M Fr s r nd hF Q q=>by
 unfold jU at e;cases h1:pf ρ with
 |none=>simp[h1]at e
 |some p=>
  cases F:upS (vK c f) i p [d] ρ with
  |none=>simp[h1,F]at e
  |some w=>
   obtain⟨res,ρ1⟩:=w;obtain rfl:ρ1=J:=by simpa[h1,F]using e
   obtain⟨d0,dd,d',g1,g2,c1,V,g3,rfl⟩:=tG F;obtain⟨a2,a3,k1,k2,k3⟩:=O ρ p h1 σ H S (plus M Fr) s;rw[g1]at k1;cases k1;rw[g2]at k2;cases k2;refine k3 _ λo v0 H1 M1 Z a0 a1=>?_;have Y:Sta G H1 ob ρ σ S (plus M Fr):=s.grow Z λa z=>.inl z;have N:=mj (Jz k hf) Y g1 a0 g2 a1 (.one (r.up (Up.same Z))) nd hF c1 V g3 (Q:=λ_ H'=>Q σ H') λx H' R S' q1 q2 q3 q4 q5 q6 q7 q8=>q σ H' S' (q1.lessF λa z=>.inr z) ⟨λb u U n m=>q8 b u (Z b u U) λz=>n ⟨i,z⟩,λj a z=>?_,.refl⟩
   .obtain⟨y,a,C,dx,fs,e1,k⟩:=N
    cases e1;exact⟨a,C,dx,fs,k⟩
   .by_cases hj:j=i
    .subst hj
     rcases q6 a z with y|y|y
     .exact .inl ⟨j,y⟩
     .exact .inr (.inl y)
     .exact .inr (.inr (Z.none' y))
    .rw[q5 j hj]at z;exact .inl ⟨j,z⟩
theorem jX{N:En->Option (D×En)}(k:Kla G.K G.mg c fl)(U:PVe X G ob value N)(q:PVP X G ob o i pf)(Z:fl.contains f=true:=by rfl)(O:∀i,Yd value (some (.Attribute o f pos')) pos.line (X i).env=pure false:=by intro _;rfl)(F:∀i,(X i).K=G.K:=by intro _;rfl):PVS X G ob P (.Assign [.Attribute o f pos'] value pos) (bW N (jU c f i pf)):=let⟨_,b1,b2⟩:=U.ex;let⟨_,a1,a2⟩:=q.ex;⟨_,λi=>(by have:=O_ (pos:=pos) (pos':=pos') (a1 i) (b1 i) (O i);rw[F i]at this;exact this),kZ b2 (JG k Z a2)⟩
def vN:D->List D->Option (D×D)
 |.dct .own ks ds,[k]=>(cZ k).bind λk=>(dR ks k).bind λj=>if j<ds.length then some (.dct .own (ks.eraseIdx j) (ds.eraseIdx j),.non)else none
 |_,_=>none
theorem vz:∀{kvs:List (Key×V)}{k:Key}{j:Nat},dR (kvs.map (·.1)) k=some j->(kvs.map (·.1)).Nodup->qb kvs k=kvs.eraseIdx j
 |[],k,j,h,_=>by simp[dR]at h
 |(k0,v)::r,k,j,h,n=>by
  rw[Um,Uu]at n;simp only[Um,dR,WW]at h;by_cases e:k0=k
  .subst e
   obtain rfl:0=j:=by simpa using h
   simp only[qb,Wt,ne_eq,not_true_eq_false,decide_false,U0,VN,List.eraseIdx_cons_zero];exact List.filter_eq_self.mpr λp q=>Yo λz=>n.1 (Uw.mpr ⟨p,q,z⟩)
  .rw[U9 e]at h
   simp only[U0,VN]at h;cases h1:(r.map (·.1)).findIdx? (λx=>decide (x=k))with
   |none=>rw[h1]at h;cases h
   |some i=>
    rw[h1]at h;obtain rfl:i+1=j:=by simpa using h
    have Z:=vz (kvs:=r) (k:=k) (j:=i) h1 n.2;simp only[qb,Wt,ne_eq,e,not_false_eq_true,decide_true,Vj,abe]at Z⊢;rw[Z]
theorem qN(f:α->β):∀(l:List α)(j:Nat),(l.eraseIdx j).map f=(l.map f).eraseIdx j
 |[],_=>rfl
 |_::_,0=>rfl
 |x::r,j+1=>by simp[qN f r j]
theorem K6:MuV G (λo xs H Q=>∃y a kvs k,xs=[y]/\o= .ref a/\H a=some (.dK kvs)/\y=kV k/\(jJ kvs k).isSome=true/\Q .non (upd H a (.dK (qb kvs k)))) vN:=λd es d' res h v xs H W M N r re nd hM J c1 V Q q=>by
 unfold vN at h;split at h
 .rename_i ks ds k0
  cases hk:cZ k0 with
  |none=>simp[hk]at h
  |some k=>
   cases hj:dR ks k with
   |none=>simp[hk,hj]at h
   |some j=>
    by_cases a0:j<ds.length
    .obtain⟨rfl,rfl⟩:D.dct .own (ks.eraseIdx j) (ds.eraseIdx j)=d'/\D.non=res:=by simpa[hk,hj,a0]using h
     rw[Rep]at r;obtain⟨a,kvs,M0,rfl,⟨rfl,a1⟩,Z,Y,rfl⟩:=r;obtain⟨x,rfl,F⟩:=re.inv1;have k1:au ds=true/\az ds=true:=by simp[clean,aD,aC]at J;exact J
     obtain⟨z,M1,L,hz,rz,rl,pm⟩:=Z.erase (Ug a0);have a2:=Ur.mp nd;have hn:=Uu.mp a2.1;have hv:=jE hj;have hL:∀b∈L,b∈M0:=λb U=>pm.mem_iff.mp (Uh _ U);have e1:au (ds.eraseIdx j)=true:=dm λd hd=>uB k1.1 d (mZ hd);have e2:az (ds.eraseIdx j)=true:=dh λd hd=>uy k1.2 d (mZ hd);refine⟨x,a,kvs,k,rfl,rfl,Y,iI F hk,by rw[hv,hz];rfl,?_⟩;rw[vz hj a1];refine q .non _ (a::L) [] (λb u U n=>by rw[aK (show b≠a from λz=>n (by rw[z];simp))];exact U) (λW' ev=>⟨?_,lF⟩) ?_ (λb U=>?_) (by simp[clean,aD,aC,e1,e2]) rfl
     .rw[Rep]
      refine⟨a,_,L,rfl,⟨qN _ _ _,?_⟩,?_,aZ,rfl⟩
      .exact(abJ _ j).nodup a1
      .rw[qN]
       exact rl.mono ev (.inl e1) (.inl e2) λc J u O=>by rw[aK (show c≠a from λz=>hn.1 (z▸hL c J))];exact O
     .rw[UJ]
      exact Uu.mpr ⟨λz=>hn.1 (hL a z),(Ur.mp (pm.nodup_iff.mpr hn.2)).1⟩
     .rw[UJ]at U
      exact .inl ((Uj.mp U).elim (λz=>by simp[z]) λz=>Ut _ (hL b z))
    .simp[hk,hj,a0]at h
 .cases h
def Fe(i:Nat)(pf:En->Option (List Nat))(fk:En->Option D):En->Option Fl:=λρ=>(pf ρ).bind λp=>(fk ρ).bind λk=>(upS vN i p [k] ρ).map λq=>.nx q.2
variable{fk:En->Option D}
theorem KC{ti:TE}(O:RfP G ob to i pf)(hi:RfE G ob ti fk):RfS G ob P (MT to ti) (Fe i pf fk):=λρ r e σ H S Fr s E q=>by
 unfold Fe at e;cases h1:pf ρ with
 |none=>simp[h1]at e
 |some p=>
  cases h2:fk ρ with
  |none=>simp[h1,h2]at e
  |some k=>
   cases F:upS vN i p [k] ρ with
   |none=>simp[h1,h2,F]at e
   |some w=>
    obtain⟨res,ρ1⟩:=w;obtain rfl:Fl.nx ρ1=r:=by simpa[h1,h2,F]using e
    obtain⟨d0,dd,d',g1,g2,c1,V,g3,rfl⟩:=tG F;obtain⟨a6,a7,k1,k2,k3⟩:=O ρ p h1 σ H S Fr s;rw[g1]at k1;cases k1;rw[g2]at k2;cases k2;refine k3 _ λo v0 H1 M1 Z a2 a3=>?_;have a0:Sta G H1 ob ρ σ S Fr:=s.grow Z λa z=>.inl z;refine hi ρ k h2 σ H1 _ a0.rel a0.wok _ λy H2 N s2 J fr nN=>?_;have a4:Sta G H2 ob ρ σ S (plus N Fr):=a0.grow s2 λa z=>z.elim (λz=>.inr ⟨fr a z,J.dom a z⟩) .inl;have up:Up H1 H2 (wn ob S Fr) (wn ob S (plus N Fr)):=Up.add s2 fr;have a1:=a3.mono (.inr up) up.evo λc _ u hu=>s2 c u hu;have hF:∀a∈N,¬Fr a:=λa Y z=>by
     obtain⟨o,O,_⟩:=a0.fdm a z;rw[fr a Y]at O;cases O
    obtain⟨y',a,kvs,k',e1,a5⟩:=mj K6 a4 g1 a2 g2 a1 (.one J) nN hF c1 V g3 (Q:=λ_ H'=>E.nx σ H') λx H' R S' q1 q2 q3 q4 q5 q6 q7 q8=>q σ H' S' (q1.lessF λa z=>.inr z) ⟨λb u U n m=>q8 b u ((Z.trans s2) b u U) λz=>n ⟨i,z⟩,λj a z=>by
     by_cases hj:j=i
     .subst hj
      rcases q6 a z with y|y|y
      .exact .inl ⟨j,y⟩
      .exact .inr (.inr (Z.none' (fr a y)))
      .exact .inr (.inr ((Z.trans s2).none' y))
     .rw[q5 j hj]at z;exact .inl ⟨j,z⟩,.refl⟩
    cases e1;exact⟨a,kvs,k',a5⟩
theorem KZ{k:Expr}(O:PVP X G ob o i pf)(q:PV X G ob k fk):PVS X G ob P (.Delete [.Subscript o k tpos] pos) (Fe i pf fk):=let⟨_,a1,a2⟩:=O.ex;let⟨_,b1,b2⟩:=q.ex;⟨_,λc=>J2 (a1 c) (b1 c),KC a2 b2⟩
def vy(g:Int->Int->Int):D->List D->Option (D×D)
 |.dct .own ks ds,[k,.int j]=>(gIx (.dct .own ks ds) k).bind λv=>match v with
  |.int i=>gW (.dct .own ks ds) [k,.int (g i j)]
  |_=>none
 |_,_=>none
def tR(g:Int->Int->Int)(i:Nat)(pf:En->Option (List Nat))(fk N:En->Option D):En->Option Fl:=λρ=>(pf ρ).bind λp=>(fk ρ).bind λk=>(N ρ).bind λv=>(upS (vy g) i p [k,v] ρ).map λq=>.nx q.2
variable{d:D}
theorem Ja{k v:D}{q:D×D}(h:vy g d [k,v]=some q):∃ks ds F m i j,d= .dct .own ks ds/\v= .int j/\cZ k=some F/\dR ks F=some m/\ds[m]? =some (.int i)/\gW d [k,.int (g i j)]=some q:=by
 unfold vy at h;split at h
 .rename_i ks ds k' j e
  cases e;simp only[gIx]at h;cases J:cZ k with
  |none=>simp[J]at h
  |some F=>
   cases V:dR ks F with
   |none=>simp[J,V]at h
   |some m=>
    simp only[J,V,Ua]at h;cases U:ds[m]? with
    |none=>simp[U]at h
    |some z=>
     rw[U]at h;simp only[Ua]at h;split at h
     .exact⟨ks,ds,F,m,_,j,rfl,rfl,J▸rfl,V,U,h⟩
     .cases h
 .cases h
variable{rd:V->V->Hp->VK->Prop}
theorem Hl{ti tv:TE}{fv:En->Option D}(b2:∀i j H Q,Q (.int (g i j)) H->rd (.int i) (.int j) H Q)(O:RfP G ob to i pf)(hi:RfE G ob ti fk)(hv:RfE G ob tv fv):RfS G ob P (M5 to ti tv rd) (tR g i pf fk fv):=λρ r e σ H S Fr s E q=>by
 unfold tR at e;cases h1:pf ρ with
 |none=>simp[h1]at e
 |some p=>
  cases h2:fk ρ with
  |none=>simp[h1,h2]at e
  |some k=>
   cases a2:fv ρ with
   |none=>simp[h1,h2,a2]at e
   |some v=>
    cases F:upS (vy g) i p [k,v] ρ with
    |none=>simp[h1,h2,a2,F]at e
    |some w=>
     obtain⟨res,ρ1⟩:=w;obtain rfl:Fl.nx ρ1=r:=by simpa[h1,h2,a2,F]using e
     obtain⟨d0,dd,d',g1,g2,c1,c2,g3,rfl⟩:=tG F;obtain⟨ks,ds,kk,m,a0,b0,rfl,rfl,hk,hm,b4,g4⟩:=Ja g3;obtain⟨b5,b6,k1,k2,k3⟩:=O ρ p h1 σ H S Fr s;rw[g1]at k1;cases k1;rw[g2]at k2;cases k2;refine k3 _ λo v0 H1 M1 s1 a8 b1=>?_;have a4:Sta G H1 ob ρ σ S Fr:=s.grow s1 λa z=>.inl z;refine hi ρ k h2 σ H1 _ a4.rel a4.wok _ λy H2 N s2 J fr nN=>?_;have hy:=iI J hk;have hN:N=[]:=by cases k<;>simp[cZ]at hk<;>rw[Rep]at J<;>exact J.2
     subst hN hy;have a5:Sta G H2 ob ρ σ S Fr:=a4.grow s2 λa z=>.inl z;have up:Up H1 H2 (wn ob S Fr) (wn ob S Fr):=Up.same s2;have a3:=b1.mono (.inr up) up.evo λc _ u hu=>s2 c u hu;have rr:=a3.r;rw[Rep]at rr;obtain⟨a,kvs,M0,rfl,⟨rfl,b7⟩,Z,Y,rfl⟩:=rr;obtain⟨z,Mz,z1,z2,_⟩:=Z.get b4;obtain⟨rfl,rfl⟩:=aX z2;refine⟨a,.int a0,rfl,by rw[←z1,←jE hm];exact lU.k Y,?_⟩;refine hv ρ _ a2 σ H2 _ a5.rel a5.wok _ λy2 H3 N s3 a9 fr nN=>?_;obtain⟨rfl,rfl⟩:=aX a9;refine b2 _ _ _ _ ?_;have b3:Sta G H3 ob ρ σ S (plus [] Fr):=a5.grow s3 λa z=>.inl (z.resolve_left (by simp));have a6:Up H2 H3 (wn ob S Fr) (wn ob S (plus [] Fr)):=Up.add s3 (by simp);have a7:=a3.mono (.inr a6) a6.evo λc _ u hu=>s3 c u hu;have rk:Rep G H3 (wn ob S (plus [] Fr)) k (kV kk) []:=by cases k<;>simp[cZ]at hk<;>subst hk<;>rw[Rep]<;>exact⟨rfl,rfl⟩
     have a1:=mj Aw b3 g1 a8 g2 a7 (.cons (M:=[]) (M':=[]) rk (.one cg)) Va (by simp) (by cases k<;>simp[cZ]at hk<;>rfl) (by cases k<;>simp[cZ]at hk<;>rfl) g4 (Q:=λ_ H'=>E.nx σ H') λx H' R S' q1 q2 q3 q4 q5 q6 q7 q8=>q σ H' S' (q1.lessF λa z=>.inr z) ⟨λb u U n m=>q8 b u (((s1.trans s2).trans s3) b u U) λz=>n ⟨i,z⟩,λj a z=>by
      by_cases hj:j=i
      .subst hj
       rcases q6 a z with y|y|y
       .exact .inl ⟨j,y⟩
       .cases y
       .exact .inr (.inr (((s1.trans s2).trans s3).none' y))
      .rw[q5 j hj]at z;exact .inl ⟨j,z⟩,.refl⟩
     obtain⟨i1,v1,e1,a1⟩:=a1;cases e1;rcases a1 with⟨pp,xs,_,_,e2,_,e3,_⟩|⟨pp,H',e2,g5,a1⟩
     .cases e2
      rw[s3 a _ Y]at e3;cases e3
     .cases e2
      exact⟨H',g5,a1⟩
variable{N:En->Option D}
theorem yt{op:aa0}{k:Expr}(F:∀c,JM (X c) op rd)(Z:∀i j H Q,Q (.int (g i j)) H->rd (.int i) (.int j) H Q)(hu:∀c,(X c).A.units+1<cLine)(O:PVP X G ob o i pf)(q:PV X G ob k fk)(U:PV X G ob value N)
 (Y:∀z J new,augStore k z J new=(do Wu [new,z,J] (abD z J new);release [new,z,J] [];pure .next):=by intros;rfl):PVS X G ob P (.AugAssign (.Subscript o k tpos) op value pos) (tR g i pf fk N):=let⟨_,a1,a2⟩:=O.ex;let⟨_,b1,b2⟩:=q.ex;let⟨_,v1,v2⟩:=U.ex;⟨_,λc=>K_ (hu c) (a1 c) (b1 c) (v1 c) (F c) Y,Hl Z a2 b2 v2⟩
theorem Pz:∀(i j:Int)(H:Hp)(Q:VK),Q (.int (i+j)) H->Q0 (.int i) (.int j) H Q:=λi j H Q q=>⟨i,j,rfl,rfl,q⟩
theorem Om:∀(i j:Int)(H:Hp)(Q:VK),Q (.int (i-j)) H->Q8 (.int i) (.int j) H Q:=λi j H Q q=>⟨i,j,rfl,rfl,q⟩
structure gO(P:Program)(w:World)(K:PySem.W.Frag)(mg:Str->Option Value)(base:Heap)(k:Nat)(c m:Str)(ps:List Str)(sp:Sp):Prop where
 ex:∃C f fd,mg c=some (.ref C)/\Cls K C/\Meth K C m f/\d8 P w K mg base CX0 k f fd ps sp/\Binds K fd ps []
def KY(mg:Str->Option Value)(c m:Str)(x:V)(H:Hp):Prop:=∃a C dx fs,x= .ref a/\mg c=some (.ref C)/\H a=some (.ins C dx fs)/\fs.lookup m=none
def Ph(mg:Str->Option Value)(c m:Str)(sp:Sp)(ta:TE)(t:TA):TE:=λσ H Q=>ta σ H λx H1=>KY mg c m x H1/\t σ H1 λvs H2=>sp (x::vs) H2 Q E0
variable{X:Cx}{k:Nat}{m:Str}{sp:Sp}{ta:TE}
theorem Bu{pl:Sem Bool}(M:gO X.prog X.w X.K X.mg X.base k c m ps sp)(Z:fV k X.A)(N:PE X o ta)(Y:PA X (e::es) t)
  (a0:Ul (e::es) X.env=(false,eval e X.env)::Ul es X.env:=by rfl) (J:(V3 pos (Ul es X.env)).any (·.1)=false:=by rfl)
  (ht:eval (.Call (.Attribute o m apos) (e::es) [] pos) X.env=(do
   let ov ←eval o X.env
   Zh apos.atName
   let(f,first) ←Wu [ov] (Y6 ov m pl)
   aba pos f first (V3 pos (Ul (e::es) X.env)) (Y9 pos (XN [] X.env))):=by rfl) :
  PE X (.Call (.Attribute o m apos) (e::es) [] pos) (Ph X.mg c m sp ta t):=by
 obtain⟨C,f,fd,hC,cl,V,F,U⟩:=M.ex;intro pins s σ H Q I h;refine abP (pl:=pl) (thn (N pins s σ H _ I h) λu s1 ⟨x,H1,I1,rx,⟨a,O,dx,fs,ex,eC,ea,l⟩,q⟩=>?_) ht;subst ex;rw[hC]at eC;cases eC;obtain rfl:u=UL a:=rx;refine tB I1 ea cl V l ?_;refine aap (first:=[.ref a]) (h₀:=X.base) I.ok.mod.kin V.kp (thn (Y pos pins s1 σ H1 _ I1 q) λus s2 ⟨vs,H2,z,r,q2⟩=>⟨z.kIn,?_⟩) a0 J;exact zJ (dvs:=[]) (us:=.ref a::us) (vs:=.ref a::vs) F Z U .nil Cj z (.cons rfl r) (by rw[UJ];exact q2)
theorem zm{pl:Sem Bool}(M:gO X.prog X.w X.K X.mg X.base k c m ps sp)(Z:fV k X.A)(N:PE X o ta)
  (Y:eval (.Call (.Attribute o m apos) [] [] pos) X.env=(do
   let ov ←eval o X.env
   Zh apos.atName
   let(f,first) ←Wu [ov] (Y6 ov m pl)
   aba pos f first (V3 pos (Ul [] X.env)) (Y9 pos (XN [] X.env))):=by rfl) :
  PE X (.Call (.Attribute o m apos) [] [] pos) (Ph X.mg c m sp ta QL):=by
 obtain⟨C,f,fd,hC,cl,V,F,U⟩:=M.ex;intro pins s σ H Q I h;refine abP (pl:=pl) (thn (N pins s σ H _ I h) λu s1 ⟨x,H1,z,rx,⟨a,O,dx,fs,ex,eC,J,l⟩,q⟩=>?_) Y;subst ex;rw[hC]at eC;cases eC;obtain rfl:u=UL a:=rx;refine tB z J cl V l ?_;exact PySem.W.callWith_K0 (first:=[.ref a]) z.kIn V.kp (zJ (dvs:=[]) (us:=[.ref a]) (vs:=[.ref a]) F Z U .nil Cj z (.cons rfl .nil) q)
def ud(c m:Str):D->Bool
 |.ins k Y fs _=>decide (Y=c/\k≠.scr/\dO fs m=none)
 |_=>false
theorem qw(h:ud c m d=true){x:V}(r:Rep G H W d x L):KY G.mg c m x H:=by
 cases d with
 |ins k Y fs ds=>
  simp only[ud,XF]at h;obtain⟨rfl,q,z⟩:=h;rw[Rep]at r;obtain⟨a,C,dx,kvs,M,rfl,F,rfl,Z,O⟩:=r;exact⟨a,C,dx,kvs,rfl,F,O.at q,by rw[lq,z];rfl⟩
 |_=>simp[ud]at h
def d7(c m:Str)(F:List D->Option D)(x:D)(ds:List D):Option D:=if ud c m x=true then cG F (x::ds)else none
def kW(c m:Str)(F:List D->Option (D×List D))(j:Nat)(f:En->Option (List D×En)):En->Option (D×En):=λρ=>match ρ[j]? with
 |some (some d)=>if ud c m d=true then eIo F [j] f ρ else none
 |_=>none
theorem yx{F:List D->Option D}:MtV G (λx xs H Q=>spP G F (x::xs) H Q E0) (d7 c m F):=λdx ds d e x xs H W Z J rx r nd N w Q q=>by
 unfold d7 at e;split at e
 .have:=yg (E:=E0) (dx::ds) d e (x::xs) H W (Z++J) (.cons rx r) nd N w Q q
  simpa only[UJ]using this
 .cases e
variable{f:En->Option (List D×En)}
theorem yK{F:List D->Option (D×List D)}(O:ob j=true)(V:pr 0=true)(h:xZ G ob t f):kh G ob (Ph G.mg c m (spI G oc pr F) (Ep j) t) (kW c m F j f):=λρ d J e σ H S Fr s Q q=>by
 unfold kW at e;split at e
 .rename_i d0 hj
  split at e
  .rename_i hi
   obtain⟨v,U,Y,_⟩:=s.sl j d0 hj;have z:RfM G ob (B_ (Ep j) t) [j] f:=λρ ds J e σ H S Fr s us Z Q q=>by
    cases us with
    |nil=>simp at Z
    |cons u us=>
     rw[Um,Um]at Z;injection Z with h1 h2;obtain rfl:us=[]:=by simpa using h2
     exact⟨u,h1,h ρ ds J e σ H S Fr s _ λvs H' M S' s' r n ef=>q vs H' M S' s' r n ef⟩
   obtain⟨u,Z,N⟩:=Fp (oc:=oc) (pr:=pr) (by simp) (by simpa using O) (by simpa using V) z (E:=E0) ρ d J e σ H S Fr s Q q;rw[U]at Z;cases Z;refine⟨v,U,qw hi Y,?_⟩;simpa using N
  .cases e
 .cases e
variable{X:ι->Cx}
theorem jc{F:List D->Option D}{f:En->Option (List D)}(M:∀i,gO (X i).prog (X i).w (X i).K (X i).mg (X i).base k c m ps (spP G F))(Z:∀i,fV k (X i).A)(O:PV X G ob o N)(Y:PVA X G ob (e::es) f)(z:∀i,(X i).mg=G.mg:=by intro _;rfl)
 (q:∀i,Ul (e::es) (X i).env=(false,eval e (X i).env)::Ul es (X i).env:=by intro _;rfl) (J:∀i,(V3 pos (Ul es (X i).env)).any (·.1)=false:=by intro _;rfl)
 (U:∀i,eval (.Call (.Attribute o m apos) (e::es) [] pos) (X i).env=(do
  let ov ←eval o (X i).env
  Zh apos.atName
  let(f,first) ←Wu [ov] (Y6 ov m (pl i))
  aba pos f first (V3 pos (Ul (e::es) (X i).env)) (Y9 pos (XN [] (X i).env))):=by intro _;rfl) :
 PV X G ob (.Call (.Attribute o m apos) (e::es) [] pos) (eMt (d7 c m F) N f):=let⟨_,a1,a2⟩:=O.ex;let⟨_,b1,b2⟩:=Y.ex;⟨_,λi=>(by rw[←z i];exact Bu (M i) (Z i) (a1 i) (b1 i) (q i) (J i) (U i)),Gb (ty:=KY G.mg c m) yx (λdx ds d e x H W V r=>qw (by unfold d7 at e;split at e;assumption;cases e) r) a2 b2⟩
theorem pO{F:List D->Option D}(M:∀i,gO (X i).prog (X i).w (X i).K (X i).mg (X i).base k c m ps (spP G F))(Z:∀i,fV k (X i).A)(O:PV X G ob o N)(z:∀i,(X i).mg=G.mg:=by intro _;rfl)
 (Y:∀i,eval (.Call (.Attribute o m apos) [] [] pos) (X i).env=(do
  let ov ←eval o (X i).env
  Zh apos.atName
  let(f,first) ←Wu [ov] (Y6 ov m (pl i))
  aba pos f first (V3 pos (Ul [] (X i).env)) (Y9 pos (XN [] (X i).env))):=by intro _;rfl) :
 PV X G ob (.Call (.Attribute o m apos) [] [] pos) (eMt (d7 c m F) N aN):=let⟨_,a1,a2⟩:=O.ex;⟨_,λi=>(by rw[←z i];exact zm (M i) (Z i) (a1 i) (Y i)),Gb (ty:=KY G.mg c m) yx (λdx ds d e x H W q r=>qw (by unfold d7 at e;split at e;assumption;cases e) r) a2 tE⟩
variable{xpos:Pos}
theorem jq(j:Nat){F:List D->Option (D×List D)}(M:∀i,gO (X i).prog (X i).w (X i).K (X i).mg (X i).base k c m ps (spI G oc pr F))(Z:∀i,fV k (X i).A)(Y:yV X G ob (e::es) f)(O:ob j=true:=by rfl)(V:pr 0=true:=by rfl)(q:∀i,(X i).N[j]? =some x:=by intro _;rfl)(U:∀i,Vis (X i).env.scope x:=by intro _;first|exact Xe rfl|exact Wg (Xe rfl)|exact Wg (Wg rfl))(hd:(x==("__debug__":Str))=false:=by decide)(a1:(x==("__classdict__":Str))=false:=by decide)(z:∀i,(X i).mg=G.mg:=by intro _;rfl)
 (a0:∀i,Ul (e::es) (X i).env=(false,eval e (X i).env)::Ul es (X i).env:=by intro _;rfl) (J:∀i,(V3 pos (Ul es (X i).env)).any (·.1)=false:=by intro _;rfl)
 (ht:∀i,eval (.Call (.Attribute (.Name x xpos) m apos) (e::es) [] pos) (X i).env=(do
  let ov ←eval (.Name x xpos) (X i).env
  Zh apos.atName
  let(f,first) ←Wu [ov] (Y6 ov m (pl i))
  aba pos f first (V3 pos (Ul (e::es) (X i).env)) (Y9 pos (XN [] (X i).env))):=by intro _;rfl) :
 PVe X G ob (.Call (.Attribute (.Name x xpos) m apos) (e::es) [] pos) (kW c m F j f):=let⟨_,b1,b2⟩:=Y.ex;⟨_,λi=>(by rw[←z i];exact Bu (M i) (Z i) (pv j (q i) (U i) hd a1) (b1 i) (a0 i) (J i) (ht i)),yK O V b2⟩
theorem Dc(j:Nat){F:List D->Option (D×List D)}(M:∀i,gO (X i).prog (X i).w (X i).K (X i).mg (X i).base k c m ps (spI G oc pr F))(Z:∀i,fV k (X i).A)(O:ob j=true:=by rfl)(V:pr 0=true:=by rfl)(q:∀i,(X i).N[j]? =some x:=by intro _;rfl)(U:∀i,Vis (X i).env.scope x:=by intro _;first|exact Xe rfl|exact Wg (Xe rfl)|exact Wg (Wg rfl))(hd:(x==("__debug__":Str))=false:=by decide)(J:(x==("__classdict__":Str))=false:=by decide)(z:∀i,(X i).mg=G.mg:=by intro _;rfl)
 (Y:∀i,eval (.Call (.Attribute (.Name x xpos) m apos) [] [] pos) (X i).env=(do
  let ov ←eval (.Name x xpos) (X i).env
  Zh apos.atName
  let(f,first) ←Wu [ov] (Y6 ov m (pl i))
  aba pos f first (V3 pos (Ul [] (X i).env)) (Y9 pos (XN [] (X i).env))):=by intro _;rfl) :
 PVe X G ob (.Call (.Attribute (.Name x xpos) m apos) [] [] pos) (kW c m F j (dI aN)):=⟨_,λi=>(by rw[←z i];exact zm (M i) (Z i) (pv j (q i) (U i) hd J) (Y i)),yK O V (wX tE)⟩
structure KMk(P:Program)(w:World)(K:PySem.W.Frag)(mg:Str->Option Value)(base:Heap)(k:Nat)(c:Str)(ps:List Str)(sp:Sp):Prop where
 ex:∃C f fd,mg c=some (.ref C)/\L2.Mk K C f/\d8 P w K mg base CX0 k f fd ps sp/\Binds K fd ps []
def vJ(c:Str)(F:List D->Option (D×List D))(ds:List D):Option D:=(F (.ins .own c [] []::fzL ds)).bind λq=>match q with
 |(.non,d::_)=>if bA d=true then some d else none
 |_=>none
theorem GC{F:List D->Option (D×List D)}(hC:G.mg c=some (.ref C))(hp:pr 0=true):CaV G (λvs H Q=>∀x dx,H x=none->H dx=none->dx≠x->spI G oc pr F (.ref x::(vs++[])) (upd (upd H dx (.own x)) x (.ins C dx [])) (λv H2=>v= .non/\Q (.ref x) H2) E0) (vJ c F):=λds d e xs H W L0 r nd N w Q q=>by
 intro x dx hx a1 Z;rw[UJ];unfold vJ at e;cases h1:F (.ins .own c [] []::fzL ds)with
 |none=>simp[h1]at e
 |some z=>
  rw[h1]at e;simp only[Ua]at e;split at e
  .rename_i d' rest
   split at e
   .rename_i hown
    cases e;have same:Same H (upd (upd H dx (.own x)) x (.ins C dx [])):=λb u U=>by rw[aK (aP U hx),aK (aP U a1)];exact U
    have r0:aF G H (W1 λ_=>False) (fzL ds) xs []:=r.fz ⟨λa f=>⟨id,id,id⟩,λa Y=>⟨id,id,id⟩⟩ (.inr λa=>⟨id,id,id⟩);have fr:∀{b u},H b=some u->(wn oc (fU (λ_=>[]) 0 [x]) λ_=>False).free b:=λ{b u} U=>by
     have no:∀i,b∉fU (λ_=>[]) 0 [x] i:=λi z=>by
      by_cases hi:i=0
      .subst hi
       rw[cu]at z;exact aP U hx (by simpa using z)
      .rw[bU hi]at z;cases z
     exact⟨id,λ⟨i,_,z⟩=>no i z,λ⟨i,_,z⟩=>no i z⟩
    have r1:aF G (upd (upd H dx (.own x)) x (.ins C dx [])) (wn oc (fU (λ_=>[]) 0 [x]) λ_=>False) (fzL ds) xs []:=r0.up ⟨same,λb u U _=>fr U,λb u U z=>z.elim⟩;refine⟨.ins .own c [] []::fzL ds,fU (λ_=>[]) 0 [x],λ_=>False,⟨by simp[r1.length],λi d0 hi=>?_,λi hi=>?_,λi=>?_,λi j a h1 h2=>?_,λi a h=>h.elim,λa h=>h.elim⟩,λi hi=>?_,.non,d::rest,h1,λv H' M S' s' r' J O hM m=>?_⟩
    .have hi:=jb hi
     cases i with
     |zero=>
      obtain rfl:D.ins .own c [] []=d0:=by simpa using hi
      refine⟨.ref x,rfl,?_,rfl⟩;rw[Rep];exact⟨x,C,dx,[],[],rfl,hC,rfl,.nil,aZ,by rw[cu]⟩
     |succ i=>
      have hi:(fzL ds)[i]? =some d0:=by simpa using hi
      obtain⟨y,M',g1,g2,g3⟩:=r1.get hi;obtain rfl:M'=[]:=by simpa using g3
      refine⟨y,by simpa using dY g1,by rw[bU (Nat.succ_ne_zero i)];exact g2,by simp[clean,gP (gh ds) hi,gU (fY ds) hi]⟩
    .cases i with
     |zero=>exact absurd rfl (hi (.ins .own c [] []))
     |succ i=>rw[bU (Nat.succ_ne_zero i)]
    .by_cases hi:i=0
     .subst hi;rw[cu];simp
     .rw[bU hi];exact Va
    .have h0:∀{i},a∈fU (λ_=>[]) 0 [x] i->i=0:=λ{i} z=>by
      by_cases hi:i=0
      .exact hi
      .rw[bU hi]at z;cases z
     rw[h0 h1,h0 h2]
    .by_cases h0:i=0
     .subst h0;rw[hp]at hi;cases hi
     .rw[bU h0]
    .have hv:v= .non:=by rw[Rep]at r';exact r'.1
     refine⟨hv,?_⟩;obtain⟨u,g1,g2,g3⟩:=s'.sl 0 d rfl;obtain rfl:V.ref x=u:=by simpa using g1
     have a0:∀{b},inS (fU (λ_=>[]) 0 [x]) b->b=x:=λ{b}⟨i,z⟩=>by
      by_cases hi:i=0
      .subst hi;rw[cu]at z;simpa using z
      .rw[bU hi]at z;cases z
     refine q (.ref x) H' (S' 0) (λb u U=>m.kp b u (same b u U) (λz=>aP U hx (a0 z)) (by simp)) (g2.own hown) (λa Y=>?_) (s'.nd 0);rcases m.gr 0 a Y with z|z|z
     .exact .inr (by rw[a0 z];exact hx)
     .cases z
     .exact .inr (same.none' z)
   .cases e
  .cases e
def Its(x:Str):It:=⟨λi _=>i<x.cps.size,λi H y H'=>H'=H/\∃c,x.cps[i]? =some c/\y= .str ⟨#[c]⟩,λi _=>i=x.cps.size⟩
theorem Je{P:U_}{K:Ub}{t:Tok}(N:["enumerate","zip","dict_itemiterator","dict_reverseitemiterator","odict_iterator","itertools.zip_longest","itertools.pairwise"].contains T=false)
  (W:∀A:Vu,A.handled=none->Walks P w A it [it] [it] x.cps.size (SignAt x) (λi h=>h.IsStrIter it T x t i)) (W':∀A i s Q E,s.heap.IsStrIter it T x t i->Q (.ref it) s->wpAny (model P w) A (Zx (.ref it)) Q E s):Turn P w K tg (Its x) [it] it (λi h=>h.IsStrIter it T x t i)where
 mem:=by simp
 obj:=λi h st b U=>by
  have e:b=it:=by simpa using U
  subst e;obtain⟨o,e,c,d⟩:=st;exact⟨o,e,λv z=>by rw[d]at z;cases z⟩
 keep:=λi h h' st k=>let⟨o,ho,r⟩:=st;⟨o,k it (by simp) o ho,r⟩
 item:=by
  intro X hP V hK J i pins s σ H E I Z st hg;subst hP V hK;obtain⟨f0,f1,q,Y,f4,f5⟩:=Z it (by simp);refine(W X.A (I.ok.hd J)).item i s _ E hg st λu h' tk O a0 kp=>?_;obtain⟨c,tu,a1,rfl⟩:=O;have F:Inv X pins σ H {s with heap:=h',toks:=tk}:=I.turned (λb o U e=>kp b o (by simpa using U) e) f0 f1 Y f4 f5;obtain⟨o,e,c1,d⟩:=id a0;exact⟨_,rfl,Cu (s:={s with heap:=h',toks:=tk}) e c1 d N ⟨.str ⟨#[c]⟩,H,F,⟨tu,rfl⟩,⟨rfl,c,a1,rfl⟩,a0,λb U=>(Z b U).1⟩⟩
 done:=by
  intro X hP V hK J i pins s σ H E I Z st hg;subst hP V hK;obtain⟨f0,f1,q,Y,f4,f5⟩:=Z it (by simp);subst hg;exact(W X.A (I.ok.hd J)).done s _ E st λh' tk kp=>⟨rfl,I.turned (λb o U e=>kp b o (by simpa using U) e) f0 f1 Y f4 f5⟩
 self:=λA i s Q E st h=>W' A i s Q E st h
def Rh(te:TE):TI:=λσ H R=>te σ H λx H1=>∃y,x= .str y/\R (Its y) H1
variable{X:Cx}{te:TE}
theorem Qj(O:PE X e te):PI X tg e (Rh te):=by
 intro pins s σ H R I h;refine thn (O pins s σ H _ I h) λv Z ⟨x,H1,F,J,y,ex,q⟩=>?_;subst ex;obtain⟨t,rfl⟩:=(show ∃t,v=Yv y t from J);have z:∀(T:String)(o:Obj),["enumerate","zip","dict_itemiterator","dict_reverseitemiterator","odict_iterator","itertools.zip_longest","itertools.pairwise"].contains T=false->(∀A:Vu,A.handled=none->Walks X.prog X.w A Z.heap.objs.size [Z.heap.objs.size] [Z.heap.objs.size] y.cps.size (SignAt y) (λi h=>h.IsStrIter Z.heap.objs.size T y t i))->
   (∀A i s Q E,s.heap.IsStrIter Z.heap.objs.size T y t i->Q (.ref Z.heap.objs.size) s->wpAny (model X.prog X.w) A (Zx (.ref Z.heap.objs.size)) Q E s)->(Z.heap.push o).IsStrIter Z.heap.objs.size T y t 0->PIE X pins σ tg R (.ref Z.heap.objs.size) {Z with heap:=Z.heap.push o}:=λT o N W W' st=>by
  refine⟨Z.heap.objs.size,[Z.heap.objs.size],_,_,H1,rfl,F.kept (t':=Z.toks) λb o e=>T8 _ e,Je N W W',st,λb U=>?_,q⟩;have e:b=Z.heap.objs.size:=by simpa using U
  subst e;exact F.fpOk (Uk _) (F.hok.fresh (Uk _))
 cases Y:y.cps.all (· <128)
 .exact wpAny_pyIter_wide Y (z _ _ (by decide) (λA' V=>Walks.strWide V _ y t) (λA i s Q E st h=>wpAny_pyIter_striter_wide st h) ⟨_,Ue _ rfl,rfl,rfl⟩)
 .exact wpAny_pyIter_ascii Y (z _ _ (by decide) (λA' V=>Walks.strAscii V _ y t) (λA i s Q E st h=>wpAny_pyIter_striter_ascii st h) ⟨_,Ue _ rfl,rfl,rfl⟩)
structure Glb(mg:Str->Option Value)(x:Str)(v:V):Prop where
 ex:∃u,mg x=some u/\RelV v u
def Cq(fe:En->Option D):En->Option (Bool×List D):=λρ=>match fe ρ with
 |some (.str y)=>some (true,y.cps.toList.map λc=>.str ⟨#[c]⟩)
 |_=>none
variable{X:ι->Cx}
theorem HQ{i:Int}(g:Glb G.mg x (.int i))(z:∀c,Gl (X c) x:=by intro _;rfl)(V:∀c,(X c).mg=G.mg:=by intro _;rfl)(hd:(x==("__debug__":Str))=false:=by decide):PV X G ob (.Name x pos) (eC (.int i)):=let⟨u,h1,h2⟩:=g.ex;⟨_,λc=>Bm (z c) (by rw[V c];exact h1) h2 hd,zz λ_ _=>by simp[Rep]⟩
theorem Gk(g:Glb G.mg x (.str y))(z:∀c,Gl (X c) x:=by intro _;rfl)(V:∀c,(X c).mg=G.mg:=by intro _;rfl)(hd:(x==("__debug__":Str))=false:=by decide):PV X G ob (.Name x pos) (eC (.str y)):=let⟨u,h1,h2⟩:=g.ex;⟨_,λc=>Bm (z c) (by rw[V c];exact h1) h2 hd,zz λ_ _=>by simp[Rep]⟩
theorem Ld(h:RfE G ob te fe):RfI G ob (Rh te) (Cq fe):=λρ b items e σ H W V w R q=>by
 unfold Cq at e;split at e
 .rename_i y h1
  cases e;refine h ρ _ h1 σ H W V w _ λv H' L s r F nd=>?_;obtain⟨rfl,rfl⟩:=cV r;refine⟨y,rfl,q (Its y) H' s ⟨λi d e H2 N _=>?_,λi d e H2 N _ x z O=>?_,λH2 N _=>?_⟩⟩
  .have:=(List.getElem?_eq_some_iff.mp e).1
   show i<y.cps.size;simpa using this
  .obtain⟨rfl,c,hc,rfl⟩:=O
   have:d= .str ⟨#[c]⟩:=by
    have J:y.cps.toList[i]? =some c:=by rw[Xq];exact hc
    rw[List.getElem?_map,J]at e;exact(Vw e).symm
   subst this;exact⟨Same.refl _,wH⟩
  .show(y.cps.toList.map _).length=_
   simp
 .cases e
theorem Mi(N:PV X G ob e fe):PVI X G ob tg e (Cq fe):=let⟨_,a1,a2⟩:=N.ex;⟨_,λc=>Qj (a1 c),Ld a2⟩
def MK(i j k:Nat)(ta:TA):TS:=λD σ H=>ta σ H λvs H1=>∃v w z,vs=[v,w,z]/\D.nx (((σ.set i (some v)).set j (some w)).set k (some z)) H1
variable{X:Cx}{ta:TA}
theorem Kf{z:Str}{a b c:Expr}{pz pt:Pos}{kt k2 pt2}(J:X.calm=true)(hN:X.N.Nodup)(hi:X.N[i]? =some x)(U:X.N[j]? =some y)(hk:X.N[k]? =some z)(a0:i≠j/\i≠k/\j≠k)
  (F:X.env.scope.names.lookup x=some .local) (hy:X.env.scope.names.lookup y=some .local) (hz:X.env.scope.names.lookup z=some .local) (Y:PA X [a,b,c] ta)
  (V:Yc [.Tuple [.Name x px,.Name y py,.Name z pz] kt pt] (.Tuple [a,b,c] k2 pt2) X.env=pure (some [x,y,z]))
  (O:Xx [.Tuple [.Name x px,.Name y py,.Name z pz] kt pt] (.Tuple [a,b,c] k2 pt2) pos.line X.env=pure false:=by rfl) :
  PS X (.Assign [.Tuple [.Name x px,.Name y py,.Name z pz] kt pt] (.Tuple [a,b,c] k2 pt2) pos) (MK i j k ta):=by
 intro pins s σ H D I h;rw[abi];refine gD (Xw ?_);rw[O];refine gD (yr ?_);rw[Uq (by decide)];refine gD (Tuple_ (thn (Y _ pins s σ H _ I h) λus Z ⟨vs,H1,I1,r1,q1⟩=>?_));obtain⟨v,w,o,e1,q1⟩:=q1;subst e1;obtain⟨u1,u2,u3,rfl,rv,a1,ro⟩:∃u1 u2 u3,us=[u1,u2,u3]/\RelV v u1/\RelV w u2/\RelV o u3:=by
  cases r1 with
  |cons p q=>
   cases q with
   |cons p' q'=>
    cases q' with
    |cons p2 q2=>cases q2;exact⟨_,_,_,rfl,p,p',p2⟩
 refine Vf ?_ (by show 3<=Ui;decide);have I2:Inv X pins σ H1 {Z with heap:=Z.heap.push {cls:=.type "tuple",data:=.seq [u1,u2,u3].toArray}}:=I1.kept (t':=Z.toks) λb o e=>T8 _ e;rw[V];refine gD (yr ?_);show wpAny (model X.prog X.w) X.A (do rule "assign.swapped-stores";let items ←acK (.ref Z.heap.objs.size) 3 none;YH [λv=>Yy X.env z v,λv=>Yy X.env y v,λv=>Yy X.env x v] items.reverse;pure ach) _ _ _;refine gD (W3 (gD (unpackItems_tuple (items:=#[u1,u2,u3]) (I.ok.hd J) (IsTup.new Z.heap _) λh' a2=>?_)));have I3:=I2.kept (h':=h') (t':=Z.toks) λb o e=>a2 b o (Ud (Uc e)) e;show wpAny _ _ (YH [λv=>Yy X.env z v,λv=>Yy X.env y v,λv=>Yy X.env x v] [u3,u2,u1] >>=λ_=>pure ach) _ _ _;refine gD (Xj (Zi (iR I3 hN hk (.inl hz) ro (λs2 I4=>?_) (.inr hz))));refine Xj (Zi (iR I4 hN U (.inl hy) a1 (λs3 I5=>?_) (.inr hy)));refine Xj (Zi (iR I5 hN hi (.inl F) rv (λs4 I6=>aaH (yr ?_)) (.inr F)));rw[aaA _ _ (U3 a0.1),aaA _ _ (U3 a0.2.1),aaA _ _ (U3 a0.2.2)]at I6;exact⟨_,H1,I6,q1⟩
theorem Ga(hi:P i=false)(hj:P j=false)(hk:P k=false)(h:xZ G ob ta f):RfS G ob P (MK i j k ta) (dN f (aO (tgN i) (aO (tgN j) (aO (tgN k) bM)))):=λρ r e σ H S Fr s E q=>by
 unfold dN at e;cases h1:f ρ with
 |none=>simp[h1]at e
 |some p=>
  obtain⟨ds,ρ1⟩:=p;by_cases J:au ds/\az ds
  .cases h2:(aO (tgN i) (aO (tgN j) (aO (tgN k) bM))) ds ρ1 with
   |none=>simp[h1,h2,J]at e
   |some ρ2=>
    have:Fl.nx ρ2=r:=by simpa[h1,h2,J]using e
    subst this;refine h ρ ds ρ1 h1 σ H S Fr s _ λvs H1 M S1 Z r1 nd V=>?_;have hF:∀a∈M,¬Fr a:=λa Y z=>by
     rcases V.fm a Y with q|q
     .exact s.notO z q
     .obtain⟨o,O,_⟩:=s.fdm a z
      rw[q]at O;cases O
    have N:=ji (h_ (G:=G) (ob:=ob) hi) (ji (h_ hj) (ji (h_ hk) t8)) ds ρ1 ρ2 J.1 J.2 h2 vs σ H1 S1 M Fr Z r1 nd hF (λF H'=>E.nx F H') λF H' S' s' m=>q F H' S' s' ⟨λb u U n1 n2=>?_,λi a z=>?_,m.pr⟩
    .obtain⟨v,rr,e1,v2,r2,e2,v3,r3,e4,e3,k⟩:=N
     subst e3;exact⟨v,v2,v3,by rw[e1,e2,e4],k⟩
    .have hno:¬inO ob S b:=λ⟨i,_,z⟩=>n1 ⟨i,z⟩
     refine m.kp b u (V.kp b u U hno) (λ⟨i,z⟩=>?_) λz=>(V.fm b z).elim hno λz=>by rw[U]at z;cases z
     cases O:ob i with
     |false=>rw[V.sn i O]at z;exact n1 ⟨i,z⟩
     |true=>exact(V.gr i b O z).elim hno λz=>by rw[U]at z;cases z
    .rcases m.gr i a z with⟨j,z⟩|z|z
     .cases O:ob j with
      |false=>rw[V.sn j O]at z;exact .inl ⟨j,z⟩
      |true=>exact(V.gr j a O z).imp (λ⟨k,_,z⟩=>⟨k,z⟩) .inr
     .exact(V.fm a z).imp (λ⟨k,_,z⟩=>⟨k,z⟩) .inr
     .exact(V.back z).imp (λ⟨k,_,z⟩=>⟨k,z⟩) .inr
  .simp[h1,J]at e
variable{X:ι->Cx}
theorem Jj(i j k:Nat){z:Str}{a b c:Expr}{Z pt:Pos}{kt k2 pt2}{f:En->Option (List D)}(J:∀c,(X c).calm=true)(hN:∀c,(X c).N.Nodup)(Y:PVA X G ob [a,b,c] f)(hP:P i=false/\P j=false/\P k=false:=by exact⟨rfl,rfl,rfl⟩)(hi:∀c,(X c).N[i]? =some x:=by intro _;rfl)(U:∀c,(X c).N[j]? =some y:=by intro _;rfl)(q:∀c,(X c).N[k]? =some z:=by intro _;rfl)(a0:i≠j/\i≠k/\j≠k:=by decide)(F:∀c,(X c).env.scope.names.lookup x=some .local:=by intro _;rfl)(hy:∀c,(X c).env.scope.names.lookup y=some .local:=by intro _;rfl)(hz:∀c,(X c).env.scope.names.lookup z=some .local:=by intro _;rfl)
 (V:∀i,Yc [.Tuple [.Name x px,.Name y py,.Name z Z] kt pt] (.Tuple [a,b,c] k2 pt2) (X i).env=pure (some [x,y,z]):=by intro _;rfl) (O:∀i,Xx [.Tuple [.Name x px,.Name y py,.Name z Z] kt pt] (.Tuple [a,b,c] k2 pt2) pos.line (X i).env=pure false:=by intro _;rfl) :
 PVS X G ob P (.Assign [.Tuple [.Name x px,.Name y py,.Name z Z] kt pt] (.Tuple [a,b,c] k2 pt2) pos) (dN (dI f) (aO (tgN i) (aO (tgN j) (aO (tgN k) bM)))):=let⟨t,a1,a2⟩:=Y.ex;⟨_,λc=>Kf (J c) (hN c) (hi c) (U c) (q c) a0 (F c) (hy c) (hz c) (a1 c) (V c) (O c),Ga hP.1 hP.2.1 hP.2.2 (wX a2)⟩
variable{p:Pos}
theorem HS{F:List D->Option (D×List D)}(M:∀i,KMk (X i).prog (X i).w (X i).K (X i).mg (X i).base k c ps (spI G oc pr F))(i0:ι)(Z:∀i,fV (k+1) (X i).A)(Y:yV X G ob (e::es) f)(V:pr 0=true:=by rfl)(q:∀i,(X i).mg=G.mg:=by intro _;rfl)(z:∀i,Gl (X i) c:=by intro _;rfl)(a4:(c==("__debug__":Str))=false:=by decide)(N:∀i,Ul (e::es) (X i).env=(false,eval e (X i).env)::Ul es (X i).env:=by intro _;rfl)(J:∀i,(V3 pos (Ul es (X i).env)).any (·.1)=false:=by intro _;rfl) :
  PVe X G ob (.Call (.Name c p) (e::es) [] pos) (jt (vJ c F) f):=by
 obtain⟨t,a1,O⟩:=Y.ex;obtain⟨C,_,_,hC,_⟩:=(M i0).ex;rw[q i0]at hC;refine⟨_,λi=>?_,Al (GC (oc:=oc) hC V) O⟩;obtain⟨C',f',fd,a3,mk,F',U⟩:=(M i).ex;have a0:=a3;rw[q i,hC]at a0;cases a0;exact Lj mk F' (Z i) (z i) a3 U .nil Cj (a1 i) a4 (N i) (J i)
theorem vU{t:Addr}(Z:t≠it):∀(n i:Nat)(s:T7)(Q:List Value->T7->Prop),s.heap.IsListIter it t i->s.heap.IsList t items->i+n<=items.size->
  (∀h',h'.IsListIter it t (i+n)->WL it s.heap h'->Q ((items.toList.drop i).take n) {s with heap:=h'})->wpAny (model prog w) A (draw (.ref it) n) Q E s
 |0,i,s,Q,hit,_,_,hQ=>by
  show wpAny _ _ (pure []) Q E s;exact yr (by simpa using hQ s.heap hit (Heap.SameBut.refl ..))
 |n+1,i,s,Q,hit,ht,hle,hQ=>by
  have J:i<items.size:=by omega
  show wpAny _ _ (X3 (.ref it) >>=_) Q E s;refine gD (Xh hit ht (x:=items[i]) (by simp[J]) λh1 q V=>?_);refine gD (U6 (vU Z n (i+1) _ _ q (ht.extBut V.extBut Z) (by omega) λh2 z F=>yr ?_));have hd:items.toList.drop i=items[i]::items.toList.drop (i+1):=by simp[Wo,J]
  have:=hQ h2 (by rw[show i+(n+1)=i+1+n by omega];exact z) (V.trans F);rw[hd,acd]at this;exact this
variable{s:T7}
theorem pF{x1}{t:Addr}{Q:Unit->T7->Prop}(z:A.handled=none)(Y:s.heap.IsList t items)
  (N:(Vm elts env).length=items.size) (a0:(Vm elts env).findIdx? (·.1)=none)
  (h:∀h',Heap.ExtBut s.heap.objs.size s.heap h'->wpAny (model prog w) A (YH ((Vm elts env).map (·.2)) items.toList) Q E {s with heap:=h'}) :
  wpAny (model prog w) A (YG (.Tuple elts x1 pos) env (.ref t)) Q E s:=by
 have J:t≠s.heap.objs.size:=by obtain⟨o,O,_⟩:=Y;exact Ud (Uc O)
 rw[assign_Tuple];refine gD (Xw ?_);unfold unpack;rw[N,a0];refine gD (U6 ?_);unfold acK;refine gD ?_;unfold notIterableAtAll;refine gD (wpAny_specialOf Y.typeIs slot_list_iter.lookup ?_);refine yr ?_;simp only[U0,VN];refine gD (U6 (Wx Y ?_));refine gD (U6 (vU J items.size 0 _ _ ⟨_,Ue _ rfl,rfl,rfl⟩ (Y.push _) (by omega) λh1 q V=>?_));have F:List.take items.size (List.drop 0 items.toList)=items.toList:=by
  rw[Yt];exact Xi (by simp)
 rw[F];rw[Uq (by simp)];have a1:h1.IsList t items:=(Y.push _).extBut V.extBut J;refine gD (U6 (Xo z q a1 (by simp) λh2 Z=>?_));simp only[Option.isSome_none,U0,VN];exact yr (h h2 λb o U e=>Z b o U (V.extBut b o U (T8 _ e)))
def Rq(K:Ub)(n:Nat)(t:TGs):TG:=λv σ H Q=>∃a xs,v= .ref a/\SqL K H a xs/\xs.length=n/\t xs σ H Q
variable{t:TGs}
theorem QS{X:Cx}(J:X.calm=true)(h:PGs X es t)
  (N:(Vm es X.env).length=n:=by rfl) (q:(Vm es X.env).findIdx? (·.1)=none:=by rfl):PG X (.Tuple es k pos) (Rq X.K n t):=by
 intro pins s σ H v u Q I r V;obtain⟨a,xs,e1,O,Y,V⟩:=V;subst e1;cases r;obtain⟨its,Z,z,hz⟩:=I.list O;refine pF (I.ok.hd J) z.isList (by simp[N,←Y,Z.length]) q λh' F=>?_;have U:Inv X pins σ H {s with heap:=h'}:=I.kept (t':=s.toks) λb o e=>F b o (Ud (Uc e)) e;exact h pins _ σ H xs _ Q U (by simpa using Z) V
def tgL(n:Nat)(g:List D->En->Option En):D->En->Option En:=λd ρ=>match d with
 |.lst .own ds=>if ds.length=n/\az ds=true/\au ds=true then g ds ρ else none
 |_=>none
variable{g:List D->En->Option En}
theorem La(h:DQ G ob P t g):RfG G ob P (Rq G.K n t) (tgL n g):=λd ρ J e v σ H S M Fr s r nd Y Q q=>by
 unfold tgL at e;split at e
 .rename_i ds
  split at e
  .rename_i hl
   rw[Rep]at r;obtain⟨a,xs,M',rfl,Z,O⟩:=r;have N:=O.sq;obtain⟨O,rfl⟩:=O;have e1:plus (a::M') Fr=plus M' (plus [a] Fr):=by
    funext b;simp only[plus,Uj,List.mem_nil_iff,or_false,or_assoc,eq_iff_iff];exact⟨λz=>z.elim (λz=>.inr (.inl z)) (λz=>z.elim .inl λz=>.inr (.inr z)),λz=>z.elim (λz=>.inr (.inl z)) (λz=>z.elim .inl λz=>.inr (.inr z))⟩
   rw[e1]at s Z;obtain⟨V,n2⟩:=Uu.mp nd;refine⟨a,xs,rfl,N,by rw[←Z.length];exact hl.1,h ds ρ J hl.2.2 hl.2.1 e xs σ H S M' (plus [a] Fr) s Z n2 (λb U z=>?_) Q λF H' S' s' m=>q F H' S' (s'.lessF λb z=>.inr z) ⟨λb u U h1 h2=>m.kp b u U h1 λz=>h2 (.tail _ z),λi b z=>(m.gr i b z).imp id λz=>z.imp (.tail _) id,m.pr⟩⟩;rcases z with z|z
   .exact V (by rw[←UG.mp z];exact U)
   .exact Y b (.tail _ U) z
  .cases e
 .cases e
theorem Le(J:∀c,(X c).calm=true)(h:Fb X G ob P es g)(N:∀c,(Vm es (X c).env).length=n:=by intro _;rfl)(q:∀c,(Vm es (X c).env).findIdx? (·.1)=none:=by intro _;rfl)(F:∀c,(X c).K=G.K:=by intro _;rfl):PVG X G ob P (.Tuple es k pos) (tgL n g):=let⟨t,a1,a2⟩:=h.ex;⟨_,λc=>(by rw[←F c];exact QS (J c) (a1 c) (N c) (q c)),La a2⟩
def sV:List D->Option D
 |[.lst _ [.int a,.int b]]=>some (.lst .own (if a<=b then[.int a,.int b]else[.int b,.int a]))
 |_=>none
theorem DX(F:∀c,(X c).K=G.K:=by intro _;rfl):CaB X G (.builtin "sorted") sV:=by
 refine⟨Cy G.K,λc=>by rw[←F c];exact yf,λds d e xs H W J r nd N w Q q=>?_⟩;unfold sV at e;split at e
 .rename_i m a b
  cases e;obtain⟨x,rfl,rx⟩:=r.inv1;rw[Rep]at rx;obtain⟨c,ys,M,rfl,Z,O⟩:=rx;have U:=pQ (ns:=[a,b]) Z;subst U;refine⟨c,[a,b],rfl,O.sq,by simp,λms V z l hl=>?_⟩;have e1:ms=if a<=b then[a,b]else[b,a]:=by
   split
   .rename_i h;exact m9 V z (by simp[h])
   .rename_i h;exact m9 (V.trans (.swap _ _ _)) z (by simp;omega)
  have e2:(if a<=b then[D.int a,D.int b]else[D.int b,D.int a])=ms.map D.int:=by rw[e1];split<;>rfl
  rw[e2]at q;exact tK (qH _) (λa Y=>by cases Y) Va N hl q
 .cases e
def S5(ks:List Key)(H:Hp)(Q:VK):Prop:=∃ns:List Int,ks=ns.map XR/\ns.length<64/\∀l,H l=none->Q (.ref l) (upd H l (.lst ((wj ns).map V.int)))
variable{E:Value->T7->Prop}{Q:VK}{σ:L2.St}
theorem zH{X:Cx}(I:Inv X pins σ H s)(Z:Vals (zs.map V.int) its)(Y:zs.length<64)
  (q:∀ys:List Int,Vz ys zs->ys.Pairwise (·<=·)->∀l,H l=none->Q (.ref l) (upd H l (.lst (ys.map V.int)))) :
  wpAny (model X.prog X.w) X.A.in1 (abH its >>=λl=>ab8 [l] (call (.builtin "list.sort") [l] []) >>=λ_=>ret l) (λz s'=>∃v,z= .done (.ret v)/\EP X pins σ Q v s') E s:=by
 have a1:64<=Ui:=by decide
 have U:=Z.length;rw[Ux]at U;refine gD (wpAny_newList ?_);have O:(s.heap.push (abO "list" its.toArray 0)).get? s.heap.objs.size=some (abO "list" its.toArray 0):=Ue _ rfl;refine gD (U6 (YC slot_list_sort ⟨_,O,rfl⟩ entry_list_sort (list_sort_tree O (intsAre_of Z) (by omega) λout F io N pw=>⟨_,rfl,?_⟩) (args_list_sort _)));obtain⟨c,ec⟩:=sortedHeap_at (out:=out) O;have a0:F.length=zs.length:=N.length_eq;refine yr ⟨_,rfl,?_⟩;refine⟨.ref s.heap.objs.size,upd H s.heap.objs.size (.lst (F.map V.int)),I.laid (t':=s.toks) (λb o e=>?_) (Uk _) ⟨by rw[Ux];omega,out.toList,c,jk io,by rw[ec]⟩,rfl,q F N pw _ (I.hok.fresh (Uk _))⟩;have J:b<s.heap.objs.size:=Uc e;show(sortedHeap _ _ _ _).get? b=_;rw[sortedHeap_old (Ud J) (by rw[size_push'];exact Vo J),Heap.get?_push_ne _ _ _ (Ud J)];exact e
variable{ks:List Key}
theorem Qp{X:Cx}{zs:List Key}(h:S5 ks H Q)(I:Inv X pins σ H s)(V:Vz zs (jy ks))(Y:zs.length<4000)(U:Vals (zs.map kV) its):wpAny (model X.prog X.w) X.A.in1 (abH its >>=λl=>ab8 [l] (call (.builtin "list.sort") [l] []) >>=λ_=>ret l) (λz s'=>∃v,z= .done (.ret v)/\EP X pins σ Q v s') E s:=by
 obtain⟨ns,rfl,Z,q⟩:=h;have J:zs.length<=(ns.map (XR:Int->Key)).length:=by rw[V.length_eq];exact Bl _
 rw[sW λa b h=>ac_ h]at V;obtain⟨e1,N⟩:=perm_back (g:=λk:Key=>(Sum.elim id (λ_=>(0:Int)) k:Int)) (λa=>rfl) V;rw[Ux]at J;rw[e1]at U;refine zH I (zs:=zs.map λk:Key=>(Sum.elim id (λ_=>(0:Int)) k:Int)) (by rw[Vg]at U;exact U) (by rw[Ux];omega) λys F O l Y=>?_;rw[m9 (F.trans (N.trans (qg ns).symm)) O (Ka ns)];exact q l Y
def jj:List D->Option D
 |[.lst _ ds]=>(l_ ds).bind λns=>if ns.length<64 then some (.lst .own ((wj ns).map D.int))else none
 |_=>none
theorem xr:CaV G (λvs H Q=>∃a ks,vs=[.ref a]/\SqL G.K H a (Uz kV ks)/\WX ks<4000/\S5 ks H Q) jj:=λds d e xs H W J r nd N w Q q=>by
 unfold jj at e;split at e
 .rename_i m ds
  obtain⟨x,rfl,rx⟩:=r.inv1;rw[Rep]at rx;obtain⟨a,ys,M,rfl,Z,O⟩:=rx;cases h1:l_ ds with
  |none=>rw[h1]at e;cases e
  |some ns=>
   rw[h1,Ua]at e;split at e
   .rename_i h6
    cases e;have hd:=uf h1;subst hd;have U:=pQ Z;subst U;exact⟨a,ns.map XR,rfl,by rw[Vg];exact O.sq,by rw[Ux];omega,ns,rfl,h6,λl z=>tK (qH _) (λa Y=>by cases Y) Va N z q⟩
   .cases e
 .cases e
variable{f:En->Option (List D)}
theorem yU(z:∀c,Gl (X c) "sorted")(V:∀c,(X c).mg "sorted"=none)(N:∀c,(X c).mg "set"=none)(Y:PVA X G ob [e] f)(q:∀c,Gl (X c) "set":=by intro _;rfl)(O:∀c,Ul [e] (X c).env=[(false,eval e (X c).env)]:=by intro _;rfl)(J:∀c,(X c).calm=true:=by intro _;rfl)(F:∀c,(X c).K=G.K:=by intro _;rfl) :
 PV X G ob (.Call (.Name "sorted" p1) [.Call (.Name "set" p2) [e] [] q2] [] q1) (eAp jj f):=let⟨t,a1,a2⟩:=Y.ex;⟨_,λc=>(by rw[←F c];exact zV Qp (z c) (V c) (N c) (a1 c) (q c) (O c) (J c)),rm xr a2⟩
def cU:List D->Option D:=fnP 2 4 ((bj (cA (eC (.int 0)) (tgN 2))
 (bj (sIf (eB (e2 gLt (ak false 1) (eAp gG (ao (ak false 0) aN)))) (cA (e2 gIx (ak false 0) (ak false 1)) (tgN 2)) eE)
 (bj (cA (e2 qM (eAp Aq (ao (ak false 2) aN)) (eAp yo (ao (e2 gGe (eAp Aq (ao (ak false 2) aN)) (e2 Ek (eC (.int 10)) (eC (.int 18)))) aN))) (tgN 3))
 (eQ (eAp gF (ao (ak false 3) (ao (e2 j5 (e2 qM (e2 j5 (e2 gQ (e2 gQ (ak false 2) (e2 qM (eC (.int 7919)) (ak false 1))) (eC (.int 1))) (eC (.int 2147483647))) (eC (.int 48271))) (eC (.int 2147483647))) aN))))))))
def aW:List D->Option (D×List D):=fnI (λi=>i==0) 2 4 ((bj (sIf (eB (e2 gGt (e2 gIx (ak true 0) (eC (.int 0))) (eC (.int 0)))) (bj (cA (e2 j5 (e2 gIx (ak true 0) (eC (.int 0))) (ak false 1)) (tgN 2))
 (bj (cA (e2 km (e2 gIx (ak true 0) (eC (.int 0))) (ak false 1)) (fQ gW 0 (dM 0) (eC (.int 0))))
 (eO 2))) eE)
 (bj (cA (e2 j5 (e2 gQ (e2 qM (e2 gIx (ak true 0) (eC (.int 1))) (eC (.int 48271))) (eC (.int 39373))) (eC (.int 2147483647))) (fQ gW 0 (dM 0) (eC (.int 1))))
 (bj (cA (e2 km (e2 gIx (ak true 0) (eC (.int 1))) (eC (.int 64))) (tgN 3))
 (eQ (e2 j5 (e2 km (e2 j5 (e2 qM (ak false 3) (e2 gQ (e2 j5 (ak false 3) (eC (.int 1009))) (eC (.int 3)))) (eC (.int 998244353))) (eC (.int 64))) (ak false 1)))))))
def cC:List D->Option (D×List D):=fnI (λi=>i==0) 1 2 ((bj (bW (ee2 gIx (jt gF (cI (eUp (eC (.int 16))) (cI (eUp (eC (.int 32))) (cI (eUp (eC (.int 40))) (cI (ee2 gQ (eUp (eC (.int 17))) (eIo aW [0] (dI (ao (eC (.int 20)) aN)))) (dI aN)))))) (eIo aW [0] (dI (ao (eC (.int 4)) aN)))) (tgN 1))
 (eQ (cY [none] (je (ao (ak false 1) aN)) (tpN 0) eTT (e2 gQ (e2 Cp (e2 gIx (eC (.str "abcdefgh")) (e2 j5 (ak false 0) (eC (.int 8)))) (e2 gQ (eC (.int 1)) (e2 j5 (ak false 0) (eC (.int 3))))) (e2 gIx (eC (.str "klmno")) (e2 km (ak false 0) (eC (.int 8)))))))))
def fX:List D->Option D:=fnP 1 1 ((bj (sIf (kj (kJ (eAp o6 (ao (ak false 0) (ao (eC (.ty "str")) aN))))) (eQ (eC (.bl false))) eE)
 (bj (sIf (eOr (eB (e2 gLt (eAp gG (ao (ak false 0) aN)) (eC (.int 1)))) (eB (e2 gGt (eAp gG (ao (ak false 0) aN)) (eC (.int 8))))) (eQ (eC (.bl false))) eE)
 (eQ (eAp N5 (ao (cY [none] (Cq (ak false 0)) (tpN 0) eTT (e2 gIn (ak false 0) (eC (.str "abcdefghijklmnopqrstuvwxyz")))) aN))))))
def d9:List D->Option D:=fnP 3 3 ((sIf (eOr (kj (kJ (eAp (cG fX) (ao (ak false 1) aN)))) (eB (e2 gIn (ak false 1) (ak false 0)))) wO eE))
def dB:List D->Option D:=fnP 1 3 ((iT (itE (ao (ak false 0) aN)) (tgT 2 (aO (tgN 1) (aO (tgN 2) bM))) (sEx (eUp (eAp (cG d9) (ao (eSl (ak false 0) gA (gq (ak false 1))) (ao (ak false 2) (ao (ak false 1) aN))))))))
def bG:List D->Option (D×List D):=fnI (λi=>i==0) 3 3 ((bj (sEx (eUp (eAp (cG dB) (ao (ak false 1) aN))))
 (bj (bW (eUp (ak false 2)) (jU "Stack" "turn" 0 (dM 0)))
 (bj (bW (eUp (qt [none] (itS (ak false 1)) (tpN 0) eTT (ak false 0) (eC (.int 0)))) (jU "Stack" "weights" 0 (dM 0)))
 (bj (bW (eUp (eAp zO aN)) (jU "Stack" "behind" 0 (dM 0)))
 (bj (bW (eUp (qt [none] (itS (ak false 1)) (tpN 0) eTT (ak false 0) (eC (.int 1)))) (jU "Stack" "sizes" 0 (dM 0)))
 (bj (bW (eUp (eAp gF aN)) (jU "Stack" "done" 0 (dM 0)))
 (bW (eUp (eC (.int 0))) (jU "Stack" "looked" 0 (dM 0))))))))))
def dw:List D->Option D:=fnP 1 2 ((bj (cA (eC (.int 0)) (tgN 1))
 (bj (jx (jA (eB (e2 gGt (ak false 0) (eC (.int 0))))) (bj (cA (e2 km (ak false 0) (eC (.int 2))) (tgN 0))
 (cA (e2 gQ (ak false 1) (eC (.int 1))) (tgN 1))) 1000000)
 (eO 1))))
def bF:List D->Option D:=fnP 2 8 ((bj (cA (eAp tD (ao (cY [none,none] (itE (ao (ak false 0) aN)) (tpT 2 (aO (tpN 0) (aO (tpN 1) bM))) eTT (eAp fO (ao (ak false 1) (ao (ak false 0) aN)))) aN)) (tgN 2))
 (bj (iT (itS (ak false 1)) (tgT 2 (aO (tgN 3) (aO (tgN 4) bM))) (bj (cA (eAp sV (ao (eAp gF (ao (e2 gIx (ak false 2) (ak false 3)) (ao (e2 gIx (ak false 2) (ak false 4)) aN))) aN)) (tgL 2 (aO (tgN 5) (aO (tgN 6) bM))))
 (iT (itS (ak false 0)) (tgN 7) (sIf (eB (e2 gEq (e2 gIx (ak false 2) (ak false 7)) (ak false 6))) (cA (ak false 5) (fQ gW 2 (dM 2) (ak false 7))) eE))))
 (eO 2))))
def dW:List D->Option (D×List D):=fnI (λi=>i==0) 3 11 ((bj (cA (eAp jj (ao (cY [none,some 2] (itS (ak false 1)) (tpN 0) eTT (e2 gIx (ak false 1) (ak false 0))) aN)) (tgN 3))
 (bj (cA (eAp zO aN) (tgN 4))
 (bj (iT (itS (ak false 1)) (tgN 5) (cA (e2 gQ (eMt Ao (ak false 4) (ao (e2 gIx (ak false 2) (ak false 5)) (ao (eC (.int 0)) aN))) (eC (.int 1))) (fQ gW 4 (dM 4) (e2 gIx (ak false 2) (ak false 5)))))
 (bj (jw (eeB (ee2 gEq (eIo aW [0] (dI (ao (eC (.int 2)) aN))) (eUp (eC (.int 0))))) (sFz 3 (iT (itS (ak false 3)) (tgN 6) (sFz 3 (iT (itS (ak false 3)) (tgN 7) (sIf (jG (eB (e2 gLt (ak false 6) (ak false 7))) (eB (e2 gEq (e2 gIx (ak false 4) (ak false 6)) (e2 gIx (ak false 4) (ak false 7))))) (bj (cA (cY [none,some 6,some 2] (itS (ak false 1)) (tpN 0) (eB (e2 gEq (e2 gIx (ak false 2) (ak false 0)) (ak false 1))) (ak false 0)) (tgN 8))
 (bj (cA (cY [none,some 7,some 2] (itS (ak false 1)) (tpN 0) (eB (e2 gEq (e2 gIx (ak false 2) (ak false 0)) (ak false 1))) (ak false 0)) (tgN 9))
 (bj (bW (ee2 gIx (eUp (ak false 8)) (eIo aW [0] (dI (ao (eAp gG (ao (ak false 8) aN)) aN)))) (tgN 10))
 (gn (jt fO (cI (eUp (ak false 10)) (cI (ee2 gIx (eUp (ak false 9)) (eIo aW [0] (dI (ao (eAp gG (ao (ak false 9) aN)) aN)))) (dI aN)))))))) eE))))) eE)
 (gn (jt fO (cI (ee2 gIx (eUp (ak false 1)) (eIo aW [0] (dI (ao (eAp gG (ao (ak false 1) aN)) aN)))) (cI (ee2 gIx (eUp (ak false 1)) (eIo aW [0] (dI (ao (eAp gG (ao (ak false 1) aN)) aN)))) (dI aN))))))))))
def bR:List D->Option D:=fnP 2 2 ((sIf (eB (e2 uE (ak false 1) (ak false 0))) wO eE))
def dD:List D->Option D:=fnP 2 2 ((bj (sIf (eB (e2 gEq (ak false 0) (eC (.int 0)))) (eO 1) eE)
 (eQ (e2 j5 (ak false 1) (ak false 0)))))
def aQ:List D->Option D:=fnP 2 3 ((bj (sEx (eUp (eAp (cG bR) (ao (e1 (gB "Stack" "weights") (ak false 0)) (ao (ak false 1) aN)))))
 (bj (cA (eAp gF (ao (ak false 1) aN)) (tgN 2))
 (bj (jx (jA (eB (e2 gIn (e2 gIx (ak false 2) (e1 j6 (eC (.int 1)))) (e1 (gB "Stack" "behind") (ak false 0))))) (kE eF 2 (dM 2) (ao (e2 gIx (e2 gIx (e1 (gB "Stack" "behind") (ak false 0)) (e2 gIx (ak false 2) (e1 j6 (eC (.int 1))))) (eC (.int 0))) aN)) 1000000)
 (eO 2)))))
def aY:List D->Option D:=fnP 2 2 ((eQ (eAp Hz (ao (cY [none,some 0] (itS (eSl (ak false 1) gA (gq (e1 j6 (eC (.int 1)))))) (tpN 0) eTT (e2 gIx (e2 gIx (e1 (gB "Stack" "behind") (ak false 1)) (ak false 0)) (eC (.int 1)))) aN))))
def bc:List D->Option (D×List D):=fnI (λi=>i==0) 3 5 ((bj (sEx (eUp (eAp (cG bR) (ao (e1 (gB "Stack" "weights") (ak true 0)) (ao (ak false 1) aN)))))
 (bj (sEx (eUp (eAp (cG bR) (ao (e1 (gB "Stack" "weights") (ak true 0)) (ao (ak false 2) aN)))))
 (bj (sIf (eB (e2 gEq (ak false 1) (ak false 2))) (bj (bW (eUp (eC (.int 1))) (jU "Stack" "looked" 0 (dM 0)))
 (eQ (eC (.int 0)))) eE)
 (bj (aG (ao (eMt (d7 "Stack" "chain" aQ) (ak true 0) (ao (ak false 1) aN)) (ao (eMt (d7 "Stack" "chain" aQ) (ak true 0) (ao (ak false 2) aN)) aN)) (aO (tgN 3) (aO (tgN 4) bM)))
 (bj (bW (eUp (eAp m5 (ao (e2 gQ (ak false 3) (ak false 4)) aN))) (jU "Stack" "looked" 0 (dM 0)))
 (bj (sIf (eB (e2 gNe (e2 gIx (ak false 3) (e1 j6 (eC (.int 1)))) (e2 gIx (ak false 4) (e1 j6 (eC (.int 1)))))) (eQ (eC .non)) eE)
 (eQ (eAp (cG dD) (ao (e1 (gB "Stack" "turn") (ak true 0)) (ao (e2 sO (eMt (d7 "Stack" "offset" aY) (ak true 0) (ao (ak false 4) aN)) (eMt (d7 "Stack" "offset" aY) (ak true 0) (ao (ak false 3) aN))) aN)))))))))))
def cz:List D->Option (D×List D):=fnI (λi=>i==0) 2 4 ((bj (cA (e2 gIx (e1 (gB "Stack" "behind") (ak true 0)) (ak false 1)) (tgT 2 (aO (tgN 2) (aO (tgN 3) bM))))
 (bj (tR (λi j=>i-j) 0 (oH 0 (dM 0) "Stack" "sizes") (ak false 2) (e2 gIx (e1 (gB "Stack" "sizes") (ak true 0)) (ak false 1)))
 (Fe 0 (oH 0 (dM 0) "Stack" "behind") (ak false 1)))))
def b8:List D->Option (D×List D):=fnI (λi=>i==0) 1 3 ((bj (sIf (eB (e2 gEq (eAp gG (ao (e1 (gB "Stack" "done") (ak true 0)) aN)) (eC (.int 0)))) (eQ (eC .non)) eE)
 (bj (bW (jK uz 0 (oH 0 (dM 0) "Stack" "done") aN) (tgT 2 (aO (tgN 1) (aO (tgN 2) bM))))
 (bj (sIf (eB (e2 gEq (e2 gIx (ak false 1) (eC (.int 0))) (eC (.str "weigh")))) wO (sIf (eB (e2 g8 (ak false 2) (eC .non))) (sEx (kW "Stack" "unhang" cz 0 (dI (ao (ak false 2) aN)))) eE))
 (eO 1)))))
def bK:List D->Option (D×List D):=fnI (λi=>i==0) 3 3 ((gn (ee2 g8 (kW "Stack" "steps" bc 0 (dI (ao (ak false 1) (ao (ak false 2) aN)))) (eUp (eC .non)))))
def bx:List D->Option D:=fnP 1 1 ((eQ (e1 (gB "Stack" "looked") (ak false 0))))
def bC:List D->Option D:=fnP 1 1 ((eQ (cY [none,none] (itS (e1 (gB "Stack" "done") (ak false 0))) (tpT 2 (aO (tpN 0) (aO (tpN 1) bM))) (eB (e2 gEq (e2 gIx (ak false 0) (eC (.int 0))) (eC (.str "join")))) (eSl (ak false 0) (gq (eC (.int 1))) gA))))
def cP:List D->Option (D×List D):=fnI (λi=>i==0) 4 9 ((bj (aG (ao (eMt (d7 "Stack" "chain" aQ) (ak true 0) (ao (ak false 1) aN)) (ao (eMt (d7 "Stack" "chain" aQ) (ak true 0) (ao (ak false 2) aN)) aN)) (aO (tgN 4) (aO (tgN 5) bM)))
 (bj (cA (e2 sO (e2 gQ (eMt (d7 "Stack" "offset" aY) (ak true 0) (ao (ak false 4) aN)) (ak false 3)) (eMt (d7 "Stack" "offset" aY) (ak true 0) (ao (ak false 5) aN))) (tgN 6))
 (bj (aG (ao (e2 gIx (ak false 4) (e1 j6 (eC (.int 1)))) (ao (e2 gIx (ak false 5) (e1 j6 (eC (.int 1)))) aN)) (aO (tgN 7) (aO (tgN 8) bM)))
 (bj (sIf (eB (e2 gLt (e2 gIx (e1 (gB "Stack" "sizes") (ak true 0)) (ak false 7)) (e2 gIx (e1 (gB "Stack" "sizes") (ak true 0)) (ak false 8)))) (dN (dI (ao (ak false 8) (ao (ak false 7) (ao (e1 j6 (ak false 6)) aN)))) (aO (tgN 7) (aO (tgN 8) (aO (tgN 6) bM)))) eE)
 (bj (cA (eAp fO (ao (ak false 7) (ao (ak false 6) aN))) (fQ gW 0 (oH 0 (dM 0) "Stack" "behind") (ak false 8)))
 (bj (tR (λi j=>i+j) 0 (oH 0 (dM 0) "Stack" "sizes") (ak false 7) (e2 gIx (e1 (gB "Stack" "sizes") (ak true 0)) (ak false 8)))
 (eO 8))))))))
def cR:List D->Option (D×List D):=fnI (λi=>i==0) 4 7 ((bj (bW (kW "Stack" "steps" bc 0 (dI (ao (ak false 1) (ao (ak false 2) aN)))) (tgN 4))
 (bj (sIf (jG (eB (e2 g8 (ak false 4) (eC .non))) (eB (e2 gNe (ak false 4) (eAp (cG dD) (ao (e1 (gB "Stack" "turn") (ak true 0)) (ao (ak false 3) aN)))))) (eQ (eAp fO (ao (eC (.str "clash")) (ao (ak false 4) aN)))) eE)
 (bj (cA (eAp gG (ao (eMt (d7 "Stack" "standing" bC) (ak true 0) aN) aN)) (tgN 5))
 (bj (bW (aH (jA (eB (e2 gIs (ak false 4) (eC .non)))) (kW "Stack" "hang" cP 0 (dI (ao (ak false 1) (ao (ak false 2) (ao (ak false 3) aN))))) (eUp (eC .non))) (tgN 6))
 (bj (kE eF 0 (oH 0 (dM 0) "Stack" "done") (ao (eAp fO (ao (eAp fO (ao (eC (.str "join")) (ao (ak false 1) (ao (ak false 2) (ao (ak false 3) aN))))) (ao (ak false 6) aN))) aN))
 (eQ (eAp fO (ao (aV (eB (e2 gIs (ak false 4) (eC .non))) (eC (.str "joined")) (eC (.str "known"))) (ao (ak false 5) aN))))))))))
def lJ:List D->Option D:=fnP 1 12 ((bj (cA (eAp (cG cU) (ao (ak false 0) (ao (eC (.int 0)) aN))) (tgN 1))
 (bj (bW (eIo cC [1] (dI aN)) (tgN 2))
 (bj (bW (jt (vJ "Stack" bG) (cI (eUp (eAp Cr (ao (ak false 2) aN))) (cI (ee2 gIx (eUp (eAp gF (ao (eC (.int 0)) (ao (eC (.int 1)) (ao (eC (.int 2)) (ao (eC (.int 7)) aN)))))) (eIo aW [1] (dI (ao (eC (.int 4)) aN)))) (dI aN)))) (tgN 3))
 (bj (cA (eAp gF aN) (tgN 4))
 (bj (cA (e2 qM (eC (.int 2)) (eAp (cG dw) (ao (eAp gG (ao (ak false 2) aN)) aN))) (tgN 5))
 (bj (iT (je (ao (e2 gQ (eC (.int 20)) (eAp uT (ao (eC (.int 60)) (ao (eAp gG (ao (ak false 0) aN)) aN)))) aN)) (tgN 6) (bj (cA (eAp (cG cU) (ao (ak false 0) (ao (e2 gQ (ak false 6) (eC (.int 1))) aN))) (tgN 1))
 (bj (jw (eeB (ee2 gEq (eIo aW [1] (dI (ao (eC (.int 6)) aN))) (eUp (eC (.int 0))))) (bj (sEx (kW "Stack" "back" b8 3 (dI aN)))
 (cA (eSl (ak false 4) gA (gq (e1 j6 (eC (.int 1))))) (tgN 4))) eE)
 (bj (cA (eAp (cG bF) (ao (ak false 2) (ao (ak false 4) aN))) (tgN 7))
 (bj (bW (eIo dW [1] (dI (ao (ak false 2) (ao (ak false 7) aN)))) (tgT 2 (aO (tgN 8) (aO (tgN 9) bM))))
 (bj (jw (IV (eeB (ee2 gEq (ee2 gIx (kW "Stack" "join" cR 3 (dI (ao (ak false 8) (ao (ak false 9) (ao (eC (.int 0)) aN))))) (eUp (eC (.int 0)))) (eUp (eC (.str "clash"))))) (jA (kj (eB (oR gLe gLe (e2 gQ (eC (.int 1)) (eAp yo (ao (e2 gNe (ak false 8) (ak false 9)) aN))) (eMt (d7 "Stack" "looks" bx) (ak true 3) aN) (ak false 5)))))) (eQ (eC (.bl false))) eE)
 (bj (kE eF 4 (dM 4) (ao (eAp fO (ao (ak false 8) (ao (ak false 9) aN))) aN))
 (bj (cA (eAp (cG bF) (ao (ak false 2) (ao (ak false 4) aN))) (tgN 7))
 (bj (bW (eIo dW [1] (dI (ao (ak false 2) (ao (ak false 7) aN)))) (tgT 2 (aO (tgN 8) (aO (tgN 9) bM))))
 (bj (jw (eeB (ee2 gNe (kW "Stack" "together" bK 3 (dI (ao (ak false 8) (ao (ak false 9) aN)))) (eUp (e2 gEq (e2 gIx (ak false 7) (ak false 8)) (e2 gIx (ak false 7) (ak false 9)))))) (eQ (eC (.bl false))) eE)
 (bj (sIf (kj (eB (oR gLe gLe (eC (.int 0)) (eMt (d7 "Stack" "looks" bx) (ak true 3) aN) (ak false 5)))) (eQ (eC (.bl false))) eE)
 (bj (bW (kW "Stack" "steps" bc 3 (dI (ao (ak false 8) (ao (ak false 9) aN)))) (tgN 10))
 (bj (sIf (eOr (jG (eB (e2 g8 (ak false 10) (eC .non))) (eOr (kJ (eAp o6 (ao (ak false 10) (ao (eC (.ty "bool")) aN)))) (eB (e2 gNe (ak false 10) (eC (.int 0)))))) (eB (e2 gGt (eMt (d7 "Stack" "looks" bx) (ak true 3) aN) (ak false 5)))) (eQ (eC (.bl false))) eE)
 (sIf (eB (e2 gEq (e2 j5 (ak false 6) (eC (.int 10))) (eC (.int 9)))) (bj (cA (cY [none,some 3] (itS (ak false 2)) (tpN 0) eTT (eAp gG (ao (eMt (d7 "Stack" "chain" aQ) (ak true 1) (ao (ak false 0) aN)) aN))) (tgN 11))
 (sIf (eB (e2 gGt (eAp t7 (ao (ak false 11) aN)) (e2 km (ak false 5) (eC (.int 2))))) (eQ (eC (.bl false))) eE)) eE))))))))))))))
 (eQ (eC (.bl true))))))))))
abbrev tp(a b:Int):D:=.lst .own [.int a,.int b]
def Dr(m:Int)(q:D×List D):Prop:=∃r z Z:Int,q=(.int r,[tp z Z,.int m])/\0<=r/\r<m/\0<=z
local macro_rules
 |`(tactic|simp_arith[$xs,*])=>`(tactic|simp[aU,fW,bf,eZ,w_ite,iY,cA,bW,dN,sIf,jw,eQ,gn,eO,eE,iT,jV,sFz,iV,kE,jK,upS,tgN,tgT,aO,bM,fQ,tpN,tpT,dM,o5,ak,eC,aN,ao,eAp,eUp,jA,dI,ee2,cI,jt,e2,e1,eB,eeB,kJ,jG,eOr,kj,jY,pW,eTT,isB,je,itS,itE,jT,cX,cY,g_,eSl,o8,lR,jC,gA,gq,eMt,oZ,eIo,objs,fP,cG,e_,eV,clean,aD,aC,au,az,bB,bH,view,cW,mkV,mkF,fz,fzL,fzo,gf,mkO,fnP,fnI,en0,outs,fK,iG,obC,truth,$xs,*])
theorem Qa{a b m:Int}(Y:0<=a)(V:0<m)(J:m<2 ^ 60):∃r z Z,aW [tp a b,.int m]=some (.int r,[tp z Z,.int m])/\0<=r/\r<m/\0<=z:=by
 have h2:m<18446744073709551616:=by omega
 have F:∀x:Int,-18446744073709551616<x % 1009+3/\x % 1009+3<18446744073709551616:=λx=>by omega
 have N:Wp (aW [tp a b,.int m]) (Dr m):=by
  by_cases h:0<a
  .simp_arith[aW,sEx,aG,aV,aH,gQ,sO,qM,km,j5,Ek,j6,gLt,gGt,gGe,gIx,gF,fO,gG,Aq,yo,uT,gIs,iD,atI,ixN,eF,gW,gSl,MN,I_,h,V,h2,F]
   exact⟨_,_,_,rfl,acX _ (by omega),acw _ V,Int.ediv_nonneg Y (by omega)⟩
  .simp_arith[aW,sEx,aG,aV,aH,gQ,sO,qM,km,j5,Ek,j6,gLt,gGt,gGe,gIx,gF,fO,gG,Aq,yo,uT,gIs,iD,atI,ixN,eF,gW,gSl,MN,I_,h,V,h2,F]
   exact⟨_,_,_,rfl,acX _ (by omega),acw _ V,Y⟩
 obtain⟨q,e,r,z,Z,rfl,h⟩:=N;exact⟨r,z,Z,e,h⟩
theorem lG{a b m:Int}{Q:D×List D->Prop}(Y:0<=a)(V:0<m)(J:m<2 ^ 60)(h:∀r z Z,0<=r->r<m->0<=z->Q (.int r,[tp z Z,.int m])):Wp (aW [tp a b,.int m]) Q:=
 let⟨r,z,Z,e,h1,h2,h3⟩:=Qa Y V J;Np e (h r z Z h1 h2 h3)
theorem iB(b:Bool)(l:List Int):cW b (l.map D.int)=l.map D.int:=by rw[ir,Vg];rfl
theorem nq(l:List Int):fzL (l.map D.int)=l.map D.int:=by rw[nF,Vg];rfl
theorem jR(l:List Int):au (l.map D.int)=true:=dm λd hd=>by obtain⟨x,_,rfl⟩:=Uw.mp hd;rfl
theorem jg(l:List Int):az (l.map D.int)=true:=dh λd hd=>by obtain⟨x,_,rfl⟩:=Uw.mp hd;rfl
def Tw(d:D):Prop:=∃a b:Int,d=tp a b/\0<=a
theorem QH{ns:List Int}{k:Int}(q:0<=k)(F:k<=100):Wp (cU [.lst .scr (ns.map D.int),.int k]) Tw:=by
 have U:gG [.lst .scr (ns.map D.int)]=some (.int ns.length):=by simp[gG]
 simp only[cU,fnP,en0,Uy,Vn,Um,Vy,Vt,Vj,bf,Nat.reduceAdd,Nat.reduceSub,U8,Vq];refine a_ (λρ=>ρ=[some (.lst .scr (ns.map D.int)),some (.int k),some (.int 0),none]) (λQ J=>by simp_arith[sEx,aG,aV,aH];exact J _ rfl) ?_;rintro _ rfl;refine a_ (λρ=>∃c:Int,ρ=[some (.lst .scr (ns.map D.int)),some (.int k),some (.int c),none]) (λQ J=>?_) ?_
 .by_cases h:k<(ns.length:Int)
  .obtain⟨c,_,_,hc⟩:=pL (f:=D.int) (l:=ns) (i:=k) q h
   simp_arith[sEx,aG,aV,aH,iB,U,gLt,h,Tg,hc];exact J _ ⟨_,rfl⟩
  .simp_arith[sEx,aG,aV,aH,iB,U,gLt,h]
   exact J _ ⟨_,rfl⟩
 rintro _ ⟨c,rfl⟩;simp_arith[sEx,aG,aV,aH,Aq,Ek,gGe,yo,qM,j5,gQ,gF];have O:(0:Int)<=if c<0 then -c else c:=by split<;>omega
 generalize (if c<0 then -c else c)=u at O⊢;refine⟨.inr ?_,_,_,rfl,?_⟩
 .split<;>omega
 .split<;>omega
theorem NZ:cutD ds none (some (k:Int))=ds.take k:=by
 unfold cutD;rw[HT.sIx_none,HT.sIx_nat,Yt,Nat.sub_zero];rcases Nat.le_total k ds.length with h|h
 .rw[Nat.min_eq_left h]
 .rw[Nat.min_eq_right h,YD,Xi h]
variable{ρ:En}
theorem T4{j:Int}(h:f ρ=some [.int j])(h1: -(2 ^ 62)<=j)(h2:j<2 ^ 62):je f ρ=some (true,jf 0 j.toNat):=by
 unfold je;rw[h];simp only[Ua];rw[Uo ⟨h1,h2⟩]
theorem Ip(h:f ρ=some [.int n])(N:n<=100):je f ρ=some (true,jf 0 n):=by
 have h1:(n:Int)<=100:=by omega
 have:=T4 h (Int.le_trans (by decide) (Int.natCast_nonneg n)) (Int.lt_of_le_of_lt h1 (by decide));rw[V_]at this;exact this
def jH:List Str:=(["ak","bbk","ccck","dk","eek","fffk","gk","hhk","aaal","bl","ccl","dddl","el","ffl","gggl","hl","aam","bbbm","cm","ddm"]:List Str)++(["eeem","fm","ggm","hhhm","an","bbn","cccn","dn","een","fffn","gn","hhn","aaao","bo","cco","dddo","eo","ffo","gggo","ho"]:List Str)
theorem Tr:jH.Nodup:=by decide +kernel
def EL:En->Option D:=e2 gQ (e2 Cp (e2 gIx (eC (.str "abcdefgh")) (e2 j5 (ak false 0) (eC (.int 8)))) (e2 gQ (eC (.int 1)) (e2 j5 (ak false 0) (eC (.int 3))))) (e2 gIx (eC (.str "klmno")) (e2 km (ak false 0) (eC (.int 8))))
theorem Ti:(V1 40).map (λk:Nat=>EL [some (.int k)])=jH.map λx=>some (.str x):=by with_unfolding_all rfl
def elF:D->D
 |.int i=>.str (jH.getD i.toNat "")
 |_=>.non
theorem RJ(q:k<40):EL [some (.int k)]=some (elF (.int k)):=by
 have h:=congrArg (λl=>l[k]?) Ti;have z:k<jH.length:=q;simp only[List.getElem?_map,aad q,W7,Ug z]at h;simp only[Vw h,elF,V_,List.getD_eq_getElem?_getD,Ug z,ZQ]
theorem PN(N:n<=40):(jf 0 n).map elF=(jH.take n).map D.str:=by
 have z:jH.length=40:=rfl;apply Zu;intro k;by_cases q:k<n
 .simp[jf,q,elF,List.getElem?_take,show k<jH.length by omega]
 .have h1:(jf 0 n).length<=k:=by simp[jf];omega
  rw[List.getElem?_map,Xv h1,List.getElem?_map,Xv (by rw[WR];omega)];rfl
def Nm(q:D×List D):Prop:=∃(n:Nat)(z Z:Int),q=(.lst .own ((jH.take n).map D.str),[tp z Z])/\16<=n/\n<=40/\0<=z
theorem KQ{a b:Int}(Y:0<=a):Wp (cC [tp a b]) Nm:=by
 simp only[cC,fnI,en0,Uy,Vn,Um,Vy,Vt,Vj,bf,Nat.reduceAdd,Nat.reduceSub,U8,Vq];refine a_ (λρ=>∃(n:Nat)(z b':Int),16<=n/\n<=40/\0<=z/\ρ=[some (tp z b'),some (.int n)]) (λQ J=>?_) ?_
 .simp_arith[sEx,aG,aV,aH]
  refine lG Y (by omega) (by omega) λr U F p1 q1 s1=>?_;simp_arith[sEx,aG,aV,aH,gQ,gF];refine lG s1 (by omega) (by omega) λr2 O V p2 q2 N=>?_;have Z:((17+r).toNat:Int)=17+r:=by omega
  have:r2=0∨r2=1∨r2=2∨r2=3:=by omega
  rcases this with rfl|rfl|rfl|rfl<;>simp_arith[sEx,aG,aV,aH,gIx,atI,ixN]
  .exact J _ ⟨16,O,V,by omega,by omega,N,rfl⟩
  .exact J _ ⟨32,O,V,by omega,by omega,N,rfl⟩
  .exact J _ ⟨40,O,V,by omega,by omega,N,rfl⟩
  .exact J _ ⟨(17+r).toNat,O,V,by omega,by omega,N,by rw[Z]⟩
 rintro _ ⟨n,U,F,n1,n2,s1,rfl⟩;have Z:je (ao (ak false 1) aN) [some (tp U F),some (.int n)]=some (true,jf 0 n):=Ip (by simp[ao,aN,ak,view]) (by omega);have a0:fL (tpN 0) eTT EL [none] (jf 0 n)=some ((jH.take n).map D.str):=by
  rw[ph (p:=λ_=>true) (f:=elF),filter_tt,PN n2];intro d hd;obtain⟨k,q⟩:=VD.mp hd;obtain⟨h1,rfl⟩:=Bq q;exact⟨[some (.int k)],by simp[tpN],rfl,λ_=>RJ (by omega)⟩
 unfold EL at a0;have a3:(jf 0 n).length<=1000000:=by simp[jf];omega
 simp[eQ,cY,Z,a3,fK,a0,bf,eZ,aU,dX,cM,clean,aD,aC,outs,-List.map_take];exact⟨n,U,F,rfl,n1,n2,s1⟩
variable{Q:Fl->Prop}
theorem rY{c:En->Option (Bool×En)}{Y:En->Option Fl}(I:Nat->En->Prop)(z:Nat)(O:∀p ρ,I p ρ->Wp (c ρ) λb=>if b.1=true then(p<z/\Wp (Y b.2) λr=>match r with
   |.nx ρ2=>I (p+1) ρ2
   |.cnt ρ2=>I (p+1) ρ2
   |.brk ρ2=>Q (.nx ρ2)
   |.ret d ρ2=>Q (.ret d ρ2))else Q (.nx b.2)):∀(q p:Nat)(ρ:En),I p ρ->z-p<q->Wp (jx c Y q ρ) Q
 |0,p,ρ,_,h=>by omega
 |q+1,p,ρ,hI,h=>by
  obtain⟨⟨b,ρ1⟩,e1,w⟩:=O p ρ hI;rw[jx,e1,Ua];cases b with
  |false=>
   simp only[U0,VN]at w⊢;exact aU.mpr w
  |true=>
   simp only[Vj]at w⊢;obtain⟨V,r,e2,w⟩:=w;rw[e2];cases r with
   |nx ρ2=>exact rY I z O q (p+1) ρ2 w (by omega)
   |cnt ρ2=>exact rY I z O q (p+1) ρ2 w (by omega)
   |brk ρ2=>exact aU.mpr w
   |ret d ρ2=>exact aU.mpr w
def FgI(n:Nat)(p:Nat)(ρ:En):Prop:=p<=41/\ρ=[some (.int (n / 2 ^ p:Nat)),some (.int p)]
def Fg(n:Nat)(d:D):Prop:=∃m:Nat,d= .int m/\n<2 ^ m/\m<=100
theorem QC(N:n<=40):Wp (dw [.int n]) (Fg n):=by
 simp only[dw,fnP,en0,Uy,Vn,Um,Vy,Vt,Vj,bf,Nat.reduceAdd,Nat.reduceSub,U8,Vq];refine a_ (FgI n 0) (λQ J=>?_) ?_
 .simp_arith[sEx,aG,aV,aH]
  exact J _ (by simp[FgI])
 rintro _ Z;refine a_ (λρ=>∃m:Nat,ρ=[some (.int 0),some (.int m)]/\n<2 ^ m/\m<=100) (λQ J=>?_) ?_
 .refine rY (FgI n) 41 ?_ 1000000 0 _ Z (by omega)
  rintro p ρ ⟨U,rfl⟩;have V:∀q:Nat,q<2 ^ q:=λq=>Nat.lt_two_pow_self;have Y:n / 2 ^ p≠0->p<41:=λh=>by
   have h1:2 ^ p<=n:=by
    rcases acx n (2 ^ p)with z|z
    .exact absurd (Nat.div_eq_of_lt z) h
    .exact z
   have:=V p;omega
  have F:n / 2 ^ p / 2=n / 2 ^ (p+1):=by rw[Nat.div_div_eq_div_mul,Nat.pow_succ]
  have hz:n / 2 ^ p=0->n<2 ^ p:=λh=>by
   rcases Nat.div_eq_zero_iff.mp h with z|z
   .have:=Nat.two_pow_pos p;omega
   .exact z
  generalize O:n / 2 ^ p=q at Y F hz;by_cases h:q=0
  .subst h
   simp_arith[sEx,aG,aV,aH,gGt];exact J _ ⟨p,rfl,hz rfl,by omega⟩
  .simp_arith[sEx,aG,aV,aH,gGt,km,gQ]
   rw[Uo (by omega)];have:=Y h;exact⟨this,by omega,by rw[←F];rfl⟩
 rintro _ ⟨m,rfl,h⟩;simp[eO,aU];exact⟨m,rfl,h⟩
theorem v7:∀ns:List Str,u0 (ns.map D.str)=some (ns.map V.str)
 |[]=>rfl
 |x::r=>by simp[u0,scV,v7 r]
theorem G8:inV (.str x) (ns.map V.str)=decide (x∈ns):=by
 unfold inV;rw[List.any_map,Y4,ZP,decide_eq_true_iff];simp only[ac4,eqV,YB];exact⟨λ⟨y,h1,h2⟩=>h2▸h1,λh=>⟨x,h,rfl⟩⟩
theorem Fx[DecidableEq α]:∀{ks ns:List α},ks.Nodup->(∀k∈ks,k∈ns)->ks.length<=ns.length
 |[],_,_,_=>XM _
 |k::r,ns,h,hs=>by
  have N:=hs k (.head _);have h1:=Fx (ks:=r) (ns:=ns.erase k) (Uu.mp h).2 λx F=>(List.mem_erase_of_ne (show x≠k from λe=>(Uu.mp h).1 (by rw[←e];exact F))).mpr (hs x (.tail _ F));rw[List.length_erase_of_mem N]at h1;have:=abB N;simp only[Uy];omega
theorem kI:(dR (ys.map U5) (U5 x)).isSome=decide (x∈ys):=by
 cases e:dR (ys.map U5) (U5 x)with
 |none=>
  unfold dR at e;rw[Wq]at e;refine(U9 λh=>?_).symm;have:=e (U5 x) (Uw.mpr ⟨x,h,rfl⟩);simp at this
 |some j=>
  obtain⟨Y,q,_⟩:=Vl.mp e;have h2:(ys.map (U5:Str->Key))[j]=U5 x:=by simpa using q
  have F:U5 x∈ys.map (U5:Str->Key):=h2▸WT Y;obtain⟨y,O,V⟩:=Uw.mp F;cases V;exact(Yo O).symm
theorem xG(F:x∈ns):∃i,dR (ns.map U5) (U5 x)=some i/\ns[i]? =some x/\i<ns.length:=by
 have h:=kI (ys:=ns) (x:=x);rw[Yo F]at h;obtain⟨i,hi⟩:=aa1.mp h;obtain⟨Y,q,_⟩:=Vl.mp hi;have J:i<ns.length:=by simpa using Y
 refine⟨i,hi,?_,J⟩;rw[Ug J];simpa using q
theorem RX:jH.map (λx=>fX [.str x])=jH.map λ_=>some (.bl true):=by with_unfolding_all rfl
theorem Rv:∀x∈jH,fX [.str x]=some (.bl true):=λx F=>by
 obtain⟨i,hi⟩:=VD.mp F;have:=congrArg (λl=>l[i]?) RX;simpa[hi]using this
theorem Rn{l:List Str}{k:Int}(F:x∈jH)(Y:x∉l):d9 [.lst .frz (l.map D.str),.str x,.int k]=some .non:=by
 apply Wp.eq;simp_arith[d9,sEx,aG,aV,aH,Rv x F,bA,bO,gIn,wG,scV,v7,G8,Y]
def CkI(N:D)(k:Nat)(ρ:En):Prop:=∃x1 q:Option D,ρ=[some N,x1,q]
theorem Rr(N:∀x∈ns,x∈jH)(nd:ns.Nodup)(Y:ns.length<=40):dB [.lst .frz (ns.map D.str)]=some .non:=by
 apply Wp.eq;simp_arith[dB,sEx,aG,aV,aH,bO,dX,cM,lr];refine oM (CkI (.lst .frz (ns.map D.str))) ⟨_,_,rfl⟩ ?_ ?_
 .rintro k d ρ hk ⟨x1,x2,rfl⟩
  rw[jl,List.getElem?_map]at hk;cases F:ns[k]? with
  |none=>simp[F]at hk
  |some x=>
   obtain rfl:D.tup [.int (k:Int),.str x]=d:=by simpa[F]using hk
   have q:=(List.getElem?_eq_some_iff.mp F).1;have J:x∉ns.take k:=λz=>by
    obtain⟨i,hi,e⟩:=aaV.mp z;have:=(Wy (by omega:i<ns.length) nd).mp (show ns[i]? =ns[k]? by rw[F,Ug (by omega),e]);omega
   have h1:=Rn (k:=(k:Int)) (N x (Vd F)) J;rw[ab9]at h1;simp_arith[sEx,aG,aV,aH,bO,gSl,NZ,dX,cM,←ab9,lC];rw[ab9,h1];simp[aU,bA];exact⟨_,_,rfl⟩
 .rintro ρ ⟨x1,x2,rfl⟩
  simp[aU]
abbrev Bh:=Str×Str
abbrev Dj:=Str×Str×Option Str
structure Sk where
 t:Int
 bs:List Bh
 zs:Str->Int
 dn:List Dj
 lk:Int
def dcD(d:Dj):D:=.tup [.str "join",.str d.1,.str d.2.1,.int 0]
def ktD(d:Dj):D:=match d.2.2 with
 |none=>.non
 |some h=>.str h
def dnD(d:Dj):D:=.tup [dcD d,ktD d]
def bvD(b:Bh):D:=.tup [.str b.2,.int 0]
def jh:List Str:=["turn","weights","behind","sizes","done","looked"]
def vsL(ns:List Str)(f:Str->Int):List Int:=ns.map f
def wD(m:Mk)(ns:List Str)(vs:Str->Int):D:=.dct m (ns.map U5) ((vsL ns vs).map D.int)
def bD(m:Mk)(bs:List Bh):D:=.dct m ((bs.map (·.1)).map U5) (bs.map bvD)
def nD(m:Mk)(dn:List Dj):D:=.lst m (dn.map dnD)
def skD(m:Mk)(ns:List Str)(s:Sk):D:=.ins m "Stack" jh [.int s.t,wD m ns λ_=>0,bD m s.bs,wD m ns s.zs,nD m s.dn,.int s.lk]
theorem zq(d:Dj):aD (ktD d)=true/\aC (ktD d)=true/\(∀b,view b (ktD d)=ktD d)/\fz (ktD d)=ktD d/\fzo (ktD d)=ktD d/\bA (ktD d)=true:=by
 obtain⟨a,b,h⟩:=d;cases h<;>exact⟨rfl,rfl,λ_=>rfl,rfl,rfl,rfl⟩
theorem mJ(d:Dj):aD (dnD d)=true/\aC (dnD d)=true/\(∀b,view b (dnD d)=dnD d)/\fz (dnD d)=dnD d/\fzo (dnD d)=dnD d/\bA (dnD d)=true:=by
 obtain⟨a,b,h⟩:=d;cases h<;>exact⟨rfl,rfl,λ_=>rfl,rfl,rfl,rfl⟩
theorem Nk(l:List Dj):au (l.map dnD)=true:=dm λd hd=>by obtain⟨x,_,rfl⟩:=Uw.mp hd;exact(mJ x).1
theorem Mw(l:List Dj):az (l.map dnD)=true:=dh λd hd=>by obtain⟨x,_,rfl⟩:=Uw.mp hd;exact(mJ x).2.1
theorem M4(b:Bool)(l:List Dj):cW b (l.map dnD)=l.map dnD:=by rw[ir,Vg];exact Xf λd _=>(mJ d).2.2.1 b
theorem RM(l:List Dj):fzL (l.map dnD)=l.map dnD:=by rw[nF,Vg];exact Xf λd _=>(mJ d).2.2.2.1
theorem Sh(l:List Dj):gf (l.map dnD)=l.map dnD:=by rw[mG,Vg];exact Xf λd _=>(mJ d).2.2.2.2.1
theorem Rz(l:List Bh):au (l.map bvD)=true:=dm λd hd=>by obtain⟨x,_,rfl⟩:=Uw.mp hd;rfl
theorem Q9(l:List Bh):az (l.map bvD)=true:=dh λd hd=>by obtain⟨x,_,rfl⟩:=Uw.mp hd;rfl
theorem MP(b:Bool)(l:List Bh):cW b (l.map bvD)=l.map bvD:=by rw[ir,Vg];rfl
theorem S6(l:List Bh):fzL (l.map bvD)=l.map bvD:=by rw[nF,Vg];rfl
theorem lD(ns:List Str)(s:Sk):view true (skD .own ns s)=skD .bro ns s:=by simp[skD,wD,bD,nD,view,cW,iB,MP,M4,mkV]
theorem uR(b:Bool)(ns:List Str)(s:Sk):view b (skD .frz ns s)=skD .frz ns s:=by cases b<;>simp[skD,wD,bD,nD,view,cW,iB,MP,M4,mkV]
theorem Li(ns:List Str)(s:Sk):fz (skD .bro ns s)=skD .frz ns s:=by simp[skD,wD,bD,nD,fz,fzL,nq,S6,RM,mkF]
theorem Tv(ns:List Str)(s:Sk):aD (skD .own ns s)=true/\aC (skD .own ns s)=true:=by simp[skD,wD,bD,nD,aD,aC,au,az,jR,jg,Rz,Q9,Nk,Mw]
theorem Tz(ns:List Str)(s:Sk):bA (skD .own ns s)=true:=by
 have h1:∀l:List Int,bN (l.map D.int)=true:=λl=>by induction l<;>simp_all [bN,bA]
 have h2:∀l:List Bh,bN (l.map bvD)=true:=λl=>by induction l<;>simp_all [bN,bA,bvD]
 have F:∀l:List Dj,bN (l.map dnD)=true:=λl=>by
  induction l with
  |nil=>rfl
  |cons d r Z=>rw[Um,bN,Z,(mJ d).2.2.2.2.2];rfl
 simp[skD,wD,bD,nD,bA,bN,h1,h2,F]
variable{m:Mk}{s:Sk}
theorem gf0(h:m≠.scr):gB "Stack" "turn" (skD m ns s)=some (.int s.t):=by simp[gB,skD,h,show dO jh "turn"=some 0 by decide]
theorem gf1(h:m≠.scr):gB "Stack" "weights" (skD m ns s)=some (wD m ns λ_=>0):=by simp[gB,skD,h,show dO jh "weights"=some 1 by decide]
theorem gf2(h:m≠.scr):gB "Stack" "behind" (skD m ns s)=some (bD m s.bs):=by simp[gB,skD,h,show dO jh "behind"=some 2 by decide]
theorem gf3(h:m≠.scr):gB "Stack" "sizes" (skD m ns s)=some (wD m ns s.zs):=by simp[gB,skD,h,show dO jh "sizes"=some 3 by decide]
theorem gf4(h:m≠.scr):gB "Stack" "done" (skD m ns s)=some (nD m s.dn):=by simp[gB,skD,h,show dO jh "done"=some 4 by decide]
theorem rK(h:m≠.scr){f:Str}(Z:dO jh f=none):ud "Stack" f (skD m ns s)=true:=by simp[ud,skD,h,Z]
variable{r:En}
theorem pf2:oH 0 (dM 0) "Stack" "behind" (some (skD .own ns s)::r)=some [2]:=by simp[oH,dM,e_,skD,show dO jh "behind"=some 2 by decide]
theorem pf3:oH 0 (dM 0) "Stack" "sizes" (some (skD .own ns s)::r)=some [3]:=by simp[oH,dM,e_,skD,show dO jh "sizes"=some 3 by decide]
theorem pf4:oH 0 (dM 0) "Stack" "done" (some (skD .own ns s)::r)=some [4]:=by simp[oH,dM,e_,skD,show dO jh "done"=some 4 by decide]
theorem tf5{k:Int}:jU "Stack" "looked" 0 (dM 0) (.int k) (some (skD .own ns s)::r)=some (some (skD .own ns {s with lk:=k})::r):=by
 simp[jU,dM,upS,e_,vK,skD,jh,au,aD,az,aC,show dO ["turn","weights","behind","sizes","done","looked"] "looked"=some 5 by decide,rF,eV]
variable{op:D->List D->Option (D×D)}{es:List D}{bs:List Bh}
theorem us2(h:au es=true/\az es=true){x:D}(e:op (bD .own s.bs) es=some (bD .own bs,x)):upS op 0 [2] es (some (skD .own ns s)::r)=some (x,some (skD .own ns {s with bs:=bs})::r):=by simp[upS,e_,skD,kids,h,e,eV,Ea]
theorem us3(h:au es=true/\az es=true){x:D}(e:op (wD .own ns s.zs) es=some (wD .own ns vs,x)):upS op 0 [3] es (some (skD .own ns s)::r)=some (x,some (skD .own ns {s with zs:=vs})::r):=by simp[upS,e_,skD,kids,h,e,eV,Ea]
variable{dn:List Dj}
theorem us4(h:au es=true/\az es=true){x:D}(e:op (nD .own s.dn) es=some (nD .own dn,x)):upS op 0 [4] es (some (skD .own ns s)::r)=some (x,some (skD .own ns {s with dn:=dn})::r):=by simp[upS,e_,skD,kids,h,e,eV,Ea]
theorem gf5(h:m≠.scr):gB "Stack" "looked" (skD m ns s)=some (.int s.lk):=by simp[gB,skD,h,show dO jh "looked"=some 5 by decide]
variable{v:Int}
theorem Ru:∀ns:List Str,jo (tpN 0) eTT (ak false 0) (eC (.int v)) [none] (ns.map D.str)=some (ns.map λy=>((U5 y:Key),D.int v))
 |[]=>rfl
 |x::r=>by
  rw[Um,jo,Ru r];simp[tpN,eTT,ak,view,cZ,eC]
def sk0(t:Int)(ns:List Str):Sk:=⟨t,[],λ_=>1,[],0⟩
theorem RK(nd:ns.Nodup):BL (ns.map λy=>((U5 y:Key),D.int v))=some (wD .own ns λ_=>v):=by
 have z:(ns.map λy=>(U5 y:Key)).Nodup:=List.pairwise_map.mpr (nd.imp λh e=>h (by cases e;rfl));rw[BL,Vg,Vg,show((λx:Key×D=>x.1)∘λy=>((U5 y:Key),D.int v))=U5 from rfl,Uo z];simp[wD,vsL,Vg]
variable{t:Int}
theorem Qn(N:∀x∈ns,x∈jH)(nd:ns.Nodup)(Y:ns.length<=40):bG [.ins .own "Stack" [] [],.lst .frz (ns.map D.str),.int t]=some (.non,[skD .own ns (sk0 t ns),.lst .frz (ns.map D.str),.int t]):=by
 apply Wp.eq;have h1:=Rr N nd Y;have F:dO [] "turn"=none:=by decide
 have O:dO ["turn"] "weights"=none:=by decide
 have q:dO ["turn","weights"] "behind"=none:=by decide
 have U:dO ["turn","weights","behind"] "sizes"=none:=by decide
 have J:dO ["turn","weights","behind","sizes"] "done"=none:=by decide
 have z:dO ["turn","weights","behind","sizes","done"] "looked"=none:=by decide
 have V:∀v:Int,aD (wD .own ns λ_=>v)=true/\aC (wD .own ns λ_=>v)=true:=λv=>⟨by simp only[wD,aD,jR];rfl,by simp only[wD,aC,jg];rfl⟩;simp_arith[bG,sEx,aG,aV,aH,bO,lC,dX,cM,lr,h1,bA,qt,Ru,RK nd,jU,dM,e_,vK,F,O,q,U,J,z,V,zO,gF,rF];exact⟨by omega,rfl⟩
theorem QT(N:∀x∈ns,x∈jH)(nd:ns.Nodup)(Y:ns.length<=40):vJ "Stack" bG [.lst .own (ns.map D.str),.int t]=some (skD .own ns (sk0 t ns)):=by
 have:=Qn (t:=t) N nd Y;simp[vJ,fzL,fz,mkF,lC,this,Tz]
theorem Tq:uE (.str x) (wD m ns vs)=some (.bl (!decide (x∈ns))):=by simp only[uE,wD,wG,cZ,W7,kI]
def kyB(bs:List Bh)(x:Str):Bool:=decide (x∈bs.map (·.1))
theorem Tc:gIn (.str x) (bD m bs)=some (.bl (kyB bs x)):=by simp only[kyB,gIn,bD,wG,cZ,W7,kI]
theorem rM(F:x∈ns):gIx (wD m ns vs) (.str x)=some (.int (vs x)):=by
 obtain⟨i,h1,h2,_⟩:=xG F;simp[gIx,wD,cZ,h1,vsL,h2]
theorem Gr(nd:ys.Nodup)(h:ys[i]? =some x):dR (ys.map U5) (U5 x)=some i:=by
 obtain⟨j,h1,h2,F⟩:=xG (Vd h);rw[h1,(Wy F nd).mp (h2.trans h.symm)]
variable{b:Bh}
theorem Ob(nd:(bs.map (·.1)).Nodup)(h:bs[i]? =some b):gIx (bD m bs) (.str b.1)=some (bvD b):=by
 have:=Gr nd (i:=i) (x:=b.1) (by rw[List.getElem?_map,h];rfl);simp only[bD,gIx,cZ,Ua,this,List.getElem?_map,h,W7]
theorem QD(F:x∈ns):bR [wD .frz ns vs,.str x]=some .non:=by
 have U:view false (wD .frz ns vs)=wD .frz ns vs:=by simp[wD,view,iB,mkV]
 apply Wp.eq;simp_arith[bR,sEx,aG,aV,aH,U,Tq,F]
theorem Px(h:m= .bro∨m= .frz):fz (wD m ns vs)=wD .frz ns vs:=by
 rcases h with rfl|rfl<;>simp[wD,fz,nq,mkF]
structure Bk(ns:List Str)(bs:List Bh):Prop where
 nd:(bs.map (·.1)).Nodup
 ok:∀(i:Nat)(b:Bh),bs[i]? =some b->b.1∈ns/\b.2∈ns/\∀(j:Nat)(c:Bh),bs[j]? =some c->c.1=b.2->i<j
def chn(bs:List Bh):Nat->Str->List Str
 |0,x=>[x]
 |k+1,x=>match bs.find? λb=>decide (b.1=x)with
  |some b=>x::chn bs k b.2
  |none=>[x]
theorem PK(nd:(bs.map (·.1)).Nodup)(h:bs[i]? =some b):bs.find? (λc=>decide (c.1=b.1))=some b:=by
 cases Z:bs.find? (λc=>decide (c.1=b.1))with
 |none=>have:=acy.mp Z b (Vd h);simp at this
 |some c=>
  have h1:=List.find?_some Z;obtain⟨j,U⟩:=VD.mp (aaW Z);have e:c.1=b.1:=by simpa using h1
  have:=(Wy (i:=j) (j:=i) (l:=bs.map (·.1)) (by simpa using(List.getElem?_eq_some_iff.mp U).1) nd).mp (by rw[List.getElem?_map,List.getElem?_map,U,h];simp[e]);subst this;rw[U]at h;exact h
theorem PQ(h:x∉bs.map (·.1)):bs.find? (λc=>decide (c.1=x))=none:=acy.mpr λc J=>by
 simp only[XF];exact λz=>h (Uw.mpr ⟨c,J,z⟩)
def Ch(ns:List Str)(bs:List Bh)(x:Str)(pre:List Str)(l:Str):Prop:=chn bs bs.length x=pre++[l]/\l∈ns/\l∉bs.map (·.1)/\(∀y∈pre,y∈bs.map (·.1))/\pre.length<=bs.length
def ChI(S:D)(ns:List Str)(bs:List Bh)(x:Str)(p:Nat)(ρ:En):Prop:=∃(pre:List Str)(l:Str),ρ=[some S,some (.str x),some (.lst .own ((pre++[l]).map D.str))]/\pre.length=p/\pre++chn bs (bs.length-p) l=chn bs bs.length x/\l∈ns/\(∀y∈pre,y∈bs.map (·.1))/\p<=bs.length/\∀(i:Nat)(b:Bh),bs[i]? =some b->b.1=l->p<=i
variable{l:Str}
theorem qe:gIx (.lst m ((pre++[l]).map D.str)) (.int (-1))=some (.str l):=by
 simp[gIx,atI,ixN];rw[Uo (by omega),Ua,show(-1+((pre.length:Int)+1)).toNat=(pre.map D.str).length by rw[Ux];omega];simp
def ChR(ns:List Str)(bs:List Bh)(x:Str)(d:D):Prop:=d= .lst .own ((chn bs bs.length x).map D.str)/\∃pre l,Ch ns bs x pre l
theorem Ln(U:Bk ns s.bs)(F:x∈ns)(Y:s.bs.length<=1000):Wp (aQ [skD .frz ns s,.str x]) (ChR ns s.bs x):=by
 simp only[aQ,fnP,en0,Uy,Vn,Um,Vy,Vt,Vj,bf,Nat.reduceAdd,Nat.reduceSub,U8,Vq];refine a_ (λρ=>ρ=[some (skD .frz ns s),some (.str x),none]) (λQ hQ=>?_) ?_
 .simp_arith[sEx,aG,aV,aH,uR,gf1,Px,QD F,bA]
  exact hQ _ rfl
 rintro _ rfl;refine a_ (λρ=>ρ=[some (skD .frz ns s),some (.str x),some (.lst .own [.str x])]) (λQ hQ=>?_) ?_
 .simp_arith[sEx,aG,aV,aH,gF]
  exact hQ _ rfl
 rintro _ rfl;refine a_ (λρ=>∃(pre:List Str)(l:Str),ρ=[some (skD .frz ns s),some (.str x),some (.lst .own ((pre++[l]).map D.str))]/\Ch ns s.bs x pre l) (λQ hQ=>?_) ?_
 .refine rY (ChI (skD .frz ns s) ns s.bs x) s.bs.length ?_ 1000000 0 _ ⟨[],x,rfl,rfl,by simp,F,by simp,by omega,λi b _ _=>by omega⟩ (by omega)
  rintro p ρ ⟨pre,l,rfl,V,J,a3,a1,a7,a4⟩;have a0:=qe (pre:=pre) (l:=l) (m:=.brw);simp_arith[sEx,aG,aV,aH,bO,j6,a0,uR,gf2,Tc,-List.map_append];cases q:kyB s.bs l with
  |false=>
   simp only[U0,VN];have N:l∉s.bs.map (·.1):=by simpa[kyB]using q
   refine hQ _ ⟨pre,l,rfl,?_,a3,N,a1,by omega⟩;rw[←J];cases s.bs.length-p with
   |zero=>rfl
   |succ k=>rw[chn,PQ N]
  |true=>
   simp only[Vj];obtain⟨b,Z,a2⟩:=Uw.mp (show l∈s.bs.map (·.1)by simpa[kyB]using q);obtain⟨i,hi⟩:=VD.mp Z;have a8:=(List.getElem?_eq_some_iff.mp hi).1;have a9:=a4 i b hi a2;subst a2;have a6:=Ob (m:=.frz) U.nd hi;obtain⟨o1,o2,o3⟩:=U.ok i b hi;simp_arith[sEx,aG,aV,aH,bO,j6,a0,uR,gf2,a6,-List.map_append,show gIx (bvD b) (.int 0)=some (.str b.2)from rfl,eF];refine⟨by omega,by omega,pre++[b.1],b.2,by simp,by simp[V],?_,o2,λy O=>(T_.mp O).elim (a1 y) λz=>by rw[UG.mp z];exact Uw.mpr ⟨b,Z,rfl⟩,by omega,λj c hj a5=>?_⟩
   .rw[←J,show s.bs.length-p=(s.bs.length-(p+1))+1 by omega,chn,PK U.nd hi]
    simp
   .have:=o3 j c hj a5;omega
 rintro _ ⟨pre,l,rfl,h⟩;simp[eO,aU];exact⟨by rw[h.1];simp,pre,l,h⟩
theorem Ey:cutD (ds++[d]) none (some (-1))=ds:=by
 unfold cutD;rw[HT.sIx_none];simp[HT.sIx];rw[show(-1+((ds.length:Int)+1)).toNat=ds.length by omega];simp
theorem TV:∀l:List Str,Hz [.lst .own (l.map λ_=>D.int 0)]=some (.int 0):=λl=>by
 have:∀l:List Str,t_ (l.map λ_=>D.int 0)=some (l.map λ_=>0):=λl=>by
  induction l with
  |nil=>rfl
  |cons x r Z=>simp[t_,Z]
 have N:(l.map λ_=>(0:Int)).sum=0:=by induction l<;>simp_all
 simp only[Hz,this];simp;exact N
theorem QV(U:Bk ns s.bs)(V:∀y∈pre,y∈s.bs.map (·.1))(Y:pre.length<=1000):aY [skD .frz ns s,.lst .frz ((pre++[l]).map D.str)]=some (.int 0):=by
 have N:fL (tpN 0) eTT (e2 gIx (e2 gIx (e1 (gB "Stack" "behind") (ak false 1)) (ak false 0)) (eC (.int 1))) [none,some (skD .frz ns s)] (pre.map D.str)=some (pre.map λ_=>D.int 0):=by
  rw[ph (p:=λ_=>true) (f:=λd=>.int 0),filter_tt,Vg]
  .rfl
  .intro d hd
   obtain⟨y,hy,rfl⟩:=Uw.mp hd;obtain⟨b,Z,F⟩:=Uw.mp (V y hy);obtain⟨i,hi⟩:=VD.mp Z;have q:=Ob (m:=.frz) U.nd hi;subst F;simp[tpN,aU,eTT,e2,e1,ak,view,eC,uR,gf2,q];rfl
 apply Wp.eq;have J:cutD ((pre++[l]).map D.str) none (some (-1))=pre.map D.str:=by rw[Vr];exact Ey
 have O:=TV pre;have z:au (pre.map λ_=>D.int 0)=true/\az (pre.map λ_=>D.int 0)=true:=⟨dm λd hd=>by obtain⟨x,_,rfl⟩:=Uw.mp hd;rfl,dh λd hd=>by obtain⟨x,_,rfl⟩:=Uw.mp hd;rfl⟩;simp only[aY,fnP,en0,Uy,Vn,Um,Vy,Vt,Vj,bf,Nat.reduceAdd,Nat.reduceSub,U8,Vq];simp_arith[sEx,aG,aV,aH,bO,j6,gSl,J,uR,dX,cM,lr,-List.map_append,N,-List.map_map,O,z];omega
structure Pot(bs:List Bh)(R:Str->Str)(P:Str->Nat):Prop where
 e:∀b∈bs,R b.1=R b.2/\P b.1=P b.2+1
 r:∀l,l∉bs.map (·.1)->R l=l/\P l=0
theorem Hk(bs:List Bh)(n:Nat)(x:Str):x∈chn bs n x:=by
 cases n with
 |zero=>simp[chn]
 |succ n=>rw[chn];split<;>simp
variable{P:Str->Nat}
theorem tY(V:Pot bs R P)(Y:l∉bs.map (·.1)):∀(n:Nat)(x:Str)(pre:List Str),chn bs n x=pre++[l]->R x=l/\pre.length=P x
 |0,x,pre,h=>by
  have h:[x]=pre++[l]:=h;cases pre with
  |nil=>
   obtain rfl:x=l:=by simpa using h
   obtain⟨a,b⟩:=V.r x Y;exact⟨a,by rw[b];rfl⟩
  |cons p q=>simp at h
 |n+1,x,pre,h=>by
  rw[chn]at h;cases Z:bs.find? λb=>decide (b.1=x)with
  |none=>
   rw[Z]at h;have h:[x]=pre++[l]:=h;cases pre with
   |nil=>
    obtain rfl:x=l:=by simpa using h
    obtain⟨a,b⟩:=V.r x Y;exact⟨a,by rw[b];rfl⟩
   |cons p q=>simp at h
  |some b=>
   rw[Z]at h;have h:x::chn bs n b.2=pre++[l]:=h;have U:b∈bs:=aaW Z;have F:b.1=x:=by simpa using List.find?_some Z
   cases pre with
   |nil=>
    obtain rfl:x=l:=by simpa using(List.cons.inj h).1
    exact absurd (Uw.mpr ⟨b,U,F⟩) Y
   |cons p q=>
    rw[U8]at h;obtain⟨rfl,h2⟩:=List.cons.inj h;obtain⟨N,J⟩:=tY V Y n b.2 q h2;obtain⟨z,O⟩:=V.e b U;rw[F]at z O;refine⟨z.trans N,?_⟩;rw[Uy,J,O]
structure Ok(ns:List Str)(s:Sk):Prop where
 b:Bk ns s.bs
 t:0<=s.t/\s.t<=1000
 l:ns.length<=40
 m:s.dn.length<=1000
theorem Ok.bl(h:Ok ns s):s.bs.length<=1000:=by
 have:=Fx h.b.nd (λx F=>by
  obtain⟨b,U,rfl⟩:=Uw.mp F;obtain⟨i,hi⟩:=VD.mp U;exact(h.b.ok i b hi).1:∀x∈s.bs.map (·.1),x∈ns)
 have h2:=h.l;simp at this;omega
theorem Cg:∀l:List Str,iJ (l.map D.str)=some (l.map U5)
 |[]=>rfl
 |x::r=>by simp[iJ,cZ,Cg r]
def rO:Option Int->D
 |none=>.non
 |some v=>.int v
theorem Bd{k:Key}:∀(ks V:List Key),k∈V∨k∈ks->k∈ks.foldl gV V
 |[],V,h=>h.resolve_right (by simp)
 |a::r,V,h=>by
  rw[Wr];refine Bd r _ ?_;have q:∀z,z∈V∨z=a->z∈gV V a:=λz hz=>by
   unfold gV;split
   .rename_i e;exact hz.elim id λZ=>Z▸lK.mp e
   .exact hz.elim (Uh _) λZ=>by simp[Z]
  rcases h with h|h
  .exact .inl (q k (.inl h))
  .rcases Uj.mp h with h|h
   .exact .inl (q k (.inr h))
   .exact .inr h
theorem Nv{l:List α}{x y:α}(F:x∈l)(O:y∈l)(h:x≠y):2<=l.length:=by
 match l,F,O with
 |[a],F,O=>exact absurd ((UG.mp F).trans (UG.mp O).symm) h
 |a::b::r,_,_=>simp
def LkB(P:Str->Nat)(x y:Str)(lk:Int):Prop:=(1+if x=y then(0:Int)else 1)<=lk/\lk<=P x+1+(P y+1)
def stp(R:Str->Str)(x y:Str):Option Int:=if R x=R y then some 0 else none
def SpS(ns:List Str)(s:Sk)(R:Str->Str)(P:Str->Nat)(x y:Str)(q:D×List D):Prop:=∃lk:Int,q=(rO (stp R x y),[skD .own ns {s with lk:=lk},.str x,.str y])/\LkB P x y lk
theorem HF(Y:0<=t/\t<=1000):dD [.int t,.int 0]=some (.int 0):=by
 by_cases h:t=0
 .apply Wp.eq;simp_arith[dD,sEx,aG,aV,aH,eq_int,h]
 .apply Wp.eq;simp_arith[dD,sEx,aG,aV,aH,eq_int,h,j5];omega
theorem ne_str{a b:Str}:gNe (.str a) (.str b)=some (.bl (!decide (a=b))):=by
 unfold gNe;rw[Uo ⟨rfl,rfl,.sc (.str a b)⟩];simp only[dt,eqD,XD,D.bl.injEq];rw[Y4];simp
theorem eq_str{a b:Str}:gEq (.str a) (.str b)=some (.bl (decide (a=b))):=by
 unfold gEq;rw[Uo ⟨rfl,rfl,.sc (.str a b)⟩];simp only[dt,eqD,XD,D.bl.injEq];rw[Y4];simp
theorem pU(h:Ok ns s)(V:Pot s.bs R P)(F:x∈ns):∃pre,Ch ns s.bs x pre (R x)/\d7 "Stack" "chain" aQ (skD .bro ns s) [.str x]=some (.lst .own ((pre++[R x]).map D.str)):=by
 obtain⟨_,e,rfl,pre,l,J⟩:=Ln h.b F h.bl;obtain⟨rfl,_⟩:=tY V J.2.2.1 _ _ _ J.1;refine⟨pre,J,?_⟩;rw[J.1]at e;have O:∀l:List Str,bN (l.map D.str)=true:=λl=>by induction l<;>simp_all [bN,bA]
 simp only[d7,rK (m:=.bro) (by decide) (show dO jh "chain"=none by decide),Vj,cG,fzL,Li,fz,e,Ua,bA,O];simp
theorem Bx(h:Ok ns s)(V:Pot s.bs R P)(J:Ch ns s.bs x pre (R x)):d7 "Stack" "offset" aY (skD .bro ns s) [.lst .brw ((pre++[R x]).map D.str)]=some (.int 0):=by
 have:=h.bl;have e:=QV (l:=R x) h.b J.2.2.2.1 (by have:=J.2.2.2.2;omega);simp only[d7,rK (m:=.bro) (by decide) (show dO jh "offset"=none by decide),Vj,cG,fzL,Li,fz,lC,mkF,e,Ua,bA];simp
theorem wz(h:Ok ns s)(V:Pot s.bs R P)(F:x∈ns)(O:y∈ns):Wp (bc [skD .own ns s,.str x,.str y]) (SpS ns s R P x y):=by
 simp only[bc,fnI,en0,Uy,Vn,Um,Vy,Vt,Vj,bf,Nat.reduceAdd,Nat.reduceSub,U8,Vq];refine a_ (λρ=>ρ=[some (skD .own ns s),some (.str x),some (.str y),none,none]) (λQ J=>?_) ?_
 .simp_arith[sEx,aG,aV,aH,lD,gf1,Px,QD F,bA]
  exact J _ rfl
 rintro _ rfl;refine a_ (λρ=>ρ=[some (skD .own ns s),some (.str x),some (.str y),none,none]) (λQ J=>?_) ?_
 .simp_arith[sEx,aG,aV,aH,lD,gf1,Px,QD O,bA]
  exact J _ rfl
 rintro _ rfl;obtain⟨p1,Z,U⟩:=pU h V F;obtain⟨p2,c2,g2⟩:=pU h V O;by_cases a0:x=y
 .subst a0
  simp_arith[sEx,aG,aV,aH,eq_str,tf5];refine⟨1,?_,by simp[LkB];omega⟩;have:stp R x x=some 0:=by simp[stp]
  rw[this];rfl
 refine a_ (λρ=>ρ=[some (skD .own ns s),some (.str x),some (.str y),none,none]) (λQ J=>?_) ?_
 .simp_arith[sEx,aG,aV,aH,eq_str,a0]
  exact J _ rfl
 rintro _ rfl;refine a_ (λρ=>ρ=[some (skD .own ns s),some (.str x),some (.str y),some (.lst .own ((p1++[R x]).map D.str)),some (.lst .own ((p2++[R y]).map D.str))]) (λQ J=>?_) ?_
 .simp_arith[sEx,aG,aV,aH,lD,U,g2,dX,cM,-List.map_append]
  exact J _ rfl
 rintro _ rfl;have a1:=h.bl;have n1:=Z.2.2.2.2;have n2:=c2.2.2.2.2;refine a_ (λρ=>∃lk:Int,LkB P x y lk/\ρ=[some (skD .own ns {s with lk:=lk}),some (.str x),some (.str y),some (.lst .own ((p1++[R x]).map D.str)),some (.lst .own ((p2++[R y]).map D.str))]) (λQ J=>?_) ?_
 .have hk:m5 [.lst .own ((p1++[R x]).map D.str++(p2++[R y]).map D.str)]=some (.int (jy (((p1++[R x])++(p2++[R y])).map U5)).length):=by
   rw[←Vr,m5,Uo (by simp;omega),Cg];rfl
  have mm:∀z,z∈(p1++[R x])++(p2++[R y])->(U5 z:Key)∈jy (((p1++[R x])++(p2++[R y])).map U5):=λz hz=>Bd _ [] (.inr (Uw.mpr ⟨z,hz,rfl⟩));have ml:=tL (((p1++[R x])++(p2++[R y])).map (U5:Str->Key));generalize jy (((p1++[R x])++(p2++[R y])).map (U5:Str->Key))=K at hk mm ml;simp_arith[sEx,aG,aV,aH,bO,gQ,tf5,-List.map_append,dX,cM];refine⟨by omega,?_⟩;rw[hk,aU];simp[aD,aC,tf5,aU,-List.map_append];refine J _ ⟨_,⟨?_,?_⟩,rfl⟩
  .have m1:x∈p1++[R x]:=by rw[←Z.1];exact Hk _ _ _
   have m2:y∈p2++[R y]:=by rw[←c2.1];exact Hk _ _ _
   have:=Nv (mm x (Uh _ m1)) (mm y (T9 _ m2)) (λe=>a0 (ada e));rw[Uq a0];omega
  .have e1:=(tY V Z.2.2.1 _ _ _ Z.1).2
   have e2:=(tY V c2.2.2.1 _ _ _ c2.1).2;simp only[Ux,We,Uy,Vn,e1,e2]at ml;omega
 rintro _ ⟨lk,N,rfl⟩;have h1:=qe (pre:=p1) (l:=R x) (m:=.brw);have h2:=qe (pre:=p2) (l:=R y) (m:=.brw);by_cases Y:R x=R y
 .refine a_ (λρ=>ρ=[some (skD .own ns {s with lk:=lk}),some (.str x),some (.str y),some (.lst .own ((p1++[R x]).map D.str)),some (.lst .own ((p2++[R y]).map D.str))]) (λQ J=>?_) ?_
  .have hn:gNe (.str (R x)) (.str (R y))=some (.bl false):=by rw[ne_str,Yo Y];rfl
   simp_arith[sEx,aG,aV,aH,bO,j6,h1,h2,hn,-List.map_append];exact J _ rfl
  rintro _ rfl;have h':Ok ns {s with lk:=lk}:=⟨h.b,h.t,h.l,h.m⟩;have f1:=Bx (s:={s with lk:=lk}) h' V Z;have q:=Bx (s:={s with lk:=lk}) h' V c2;have f3:=HF h.t;simp_arith[sEx,aG,aV,aH,bO,lD,gf0,f1,q,sO,f3,bA,-List.map_append];exact⟨lk,by simp only[stp,Y,Vj];rfl,N⟩
 .simp_arith[sEx,aG,aV,aH,bO,j6,h1,h2,ne_str,Y,-List.map_append]
  exact⟨lk,by simp only[stp,Y,VN];rfl,N⟩
def jnD(d:Dj):D:=.tup [.str d.1,.str d.2.1,.int 0]
theorem FN(d:Dj):aD (dcD d)=true/\aC (dcD d)=true/\(∀b,view b (dcD d)=dcD d)/\fz (dcD d)=dcD d/\fzo (dcD d)=dcD d/\bA (dcD d)=true:=⟨rfl,rfl,λ_=>rfl,rfl,rfl,rfl⟩
theorem Mq:∀l:List Dj,bN (l.map jnD)=true
 |[]=>rfl
 |d::r=>by rw[Um,bN,Mq r];rfl
theorem zE(Y:s.dn.length<=1000):bC [skD .frz ns s]=some (.lst .own (s.dn.map jnD)):=by
 have N:∀l:List Dj,fL (tpT 2 (aO (tpN 0) (aO (tpN 1) bM))) (eB (e2 gEq (e2 gIx (ak false 0) (eC (.int 0))) (eC (.str "join")))) (eSl (ak false 0) (gq (eC (.int 1))) gA) [none,none] (l.map dnD)=some (l.map jnD):=by
  intro l
  induction l with
  |nil=>rfl
  |cons d r Z=>
   obtain⟨O,F,q,_⟩:=zq d;have z:gSl (dcD d) (some 1) none=some (jnD d):=rfl;have J:gIx (dcD d) (.int 0)=some (.str "join"):=rfl;rw[Um,fL,Z];simp[dnD,tpT,aO,bM,tpN,eB,isB,e2,eC,ak,eSl,gA,gq,lR,(FN d).2.2.1,J,eq_str,z]
 have U:au (s.dn.map jnD)=true/\az (s.dn.map jnD)=true:=⟨dm λd hd=>by obtain⟨x,_,rfl⟩:=Uw.mp hd;rfl,dh λd hd=>by obtain⟨x,_,rfl⟩:=Uw.mp hd;rfl⟩;apply Wp.eq;simp_arith[bC,sEx,aG,aV,aH,uR,gf4,nD,Nk,Mw,Sh];exact⟨by omega,Np (N s.dn) ⟨U,rfl⟩⟩
theorem An(Y:s.dn.length<=1000):d7 "Stack" "standing" bC (skD .bro ns s) []=some (.lst .own (s.dn.map jnD)):=by
 simp only[d7,rK (m:=.bro) (by decide) (show dO jh "standing"=none by decide),Vj,cG,fzL,Li,zE Y,Ua,bA,Mq];simp
def upv(f:Str->Int)(x:Str)(v:Int):Str->Int:=λy=>if y=x then v else f y
variable{f:Str->Int}
theorem SQ(nd:ns.Nodup)(hi:ns[i]? =some x):(vsL ns f).set i v=vsL ns (upv f x v):=by
 apply Zu;intro k;simp only[vsL,aaL,Ux,List.getElem?_map];have O:=(List.getElem?_eq_some_iff.mp hi).1;by_cases h:i=k
 .subst h
  rw[Uo rfl,Uo O,hi];simp[upv]
 .rw[Uq h]
  cases q:ns[k]? with
  |none=>rfl
  |some y=>
   have:y≠x:=λe=>h ((Wy O nd).mp (by rw[hi,q,e]));simp[upv,this]
theorem QW(nd:ns.Nodup)(F:x∈ns)(Y:ns.length<=40):gW (wD .own ns vs) [.str x,.int v]=some (wD .own ns (upv vs x v),.non):=by
 obtain⟨i,h1,q,h2⟩:=xG F;simp only[wD,gW,cZ,Ua,iH,h1];rw[Uo (by simp[vsL];omega),←SQ nd q,List.map_set]
theorem Sq{g:Int->Int->Int}(nd:ns.Nodup)(F:x∈ns)(Y:ns.length<=40):vy g (wD .own ns vs) [.str x,.int v]=some (wD .own ns (upv vs x (g (vs x) v)),.non):=by
 have hi:=rM (m:=.own) (vs:=vs) F;have h2:=QW (v:=g (vs x) v) (vs:=vs) nd F Y;unfold vy;simp only[wD]at hi h2⊢;simp only[hi,Ua,h2]
theorem Tj(F:b.1∉bs.map (·.1))(Y:bs.length<=1000):gW (bD .own bs) [.str b.1,bvD b]=some (bD .own (bs++[b]),.non):=by
 have q:dR ((bs.map (·.1)).map U5) (U5 b.1)=none:=by
  have:=kI (ys:=bs.map (·.1)) (x:=b.1);rw[U9 F]at this;cases h:dR ((bs.map (·.1)).map U5) (U5 b.1)with
  |none=>rfl
  |some j=>rw[h]at this;cases this
 simp only[bD,gW,cZ,Ua,iH,q];rw[Uo (by simp;omega)];simp
theorem Bk.add(h:Bk ns bs)(h1:b.1∈ns)(h2:b.2∈ns)(F:b.1∉bs.map (·.1))(V:b.2∉bs.map (·.1))(Z:b.1≠b.2):Bk ns (bs++[b])where
 nd:=by
  rw[Vr];exact Ur.mpr ⟨h.nd,by simp,λy O z hz=>by
   obtain rfl:z=b.1:=by simpa using hz
   exact λe=>F (e▸O)⟩
 ok:=λi c hi=>by
  rcases acx i bs.length with Y|Y
  .rw[Vc Y]at hi
   obtain⟨o1,o2,o3⟩:=h.ok i c hi;refine⟨o1,o2,λj e U N=>?_⟩;rcases acx j bs.length with J|J
   .rw[Vc J]at U
    exact o3 j e U N
   .omega
  .rw[VF Y]at hi
   obtain⟨a1,a0⟩:i=bs.length/\b=c:=by
    cases q:i-bs.length with
    |zero=>rw[q]at hi;exact⟨by omega,by simpa using hi⟩
    |succ n=>rw[q]at hi;simp at hi
   subst a0;refine⟨h1,h2,λj e U N=>?_⟩;exfalso;rcases T_.mp (Vd U)with z|z
   .exact V (N▸Uw.mpr ⟨e,z,rfl⟩)
   .rw[UG.mp z]at N;exact Z N
def hgR(R:Str->Str)(b:Bh):Str->Str:=λy=>if R y=b.1 then b.2 else R y
def hgP(R:Str->Str)(P:Str->Nat)(b:Bh):Str->Nat:=λy=>if R y=b.1 then P y+1 else P y
theorem Pot.add(h:Pot bs R P)(F:b.1∉bs.map (·.1))(V:b.2∉bs.map (·.1))(Z:b.1≠b.2):Pot (bs++[b]) (hgR R b) (hgP R P b)where
 e:=λc J=>by
  rcases T_.mp J with z|z
  .obtain⟨U,O⟩:=h.e c z
   unfold hgR hgP;rw[U,O];split<;>exact⟨rfl,by omega⟩
  .rw[UG.mp z]
   obtain⟨U,O⟩:=h.r _ F;obtain⟨N,q⟩:=h.r _ V;unfold hgR hgP;rw[U,O,N,q,Uo rfl,Uo rfl,Uq (U3 Z),Uq (U3 Z)];exact⟨rfl,by omega⟩
 r:=λl Y=>by
  rw[Vr,T_]at Y;obtain⟨U,O⟩:=h.r l λz=>Y (.inl z);have:l≠b.1:=λz=>Y (.inr (by simp[z]));unfold hgR hgP;rw[U,Uq this,Uq this];exact⟨rfl,O⟩
def Hb(R:Str->Str)(x y:Str)(b:Bh):Prop:=b=(R x,R y)∨b=(R y,R x)
def Hg(ns:List Str)(s:Sk)(R:Str->Str)(P:Str->Nat)(x y:Str)(q:D×List D):Prop:=∃b:Bh,q=(.str b.1,[skD .own ns {s with bs:=s.bs++[b],zs:=upv s.zs b.2 (s.zs b.2+s.zs b.1)},.str x,.str y,.int 0])/\(b.1∈ns/\b.2∈ns/\b.1∉s.bs.map (·.1)/\b.2∉s.bs.map (·.1)/\b.1≠b.2)/\Hb R x y b/\s.zs b.1<=s.zs b.2
theorem Ny(nd:ns.Nodup)(h:Ok ns s)(V:Pot s.bs R P)(F:x∈ns)(O:y∈ns)(a0:R x≠R y):Wp (cP [skD .own ns s,.str x,.str y,.int 0]) (Hg ns s R P x y):=by
 obtain⟨p1,Z,U⟩:=pU h V F;obtain⟨p2,c2,z⟩:=pU h V O;have f1:=Bx h V Z;have q:=Bx h V c2;have h1:=qe (pre:=p1) (l:=R x) (m:=.brw);have h2:=qe (pre:=p2) (l:=R y) (m:=.brw);have a1:=h.bl;simp only[cP,fnI,en0,Uy,Vn,Um,Vy,Vt,Vj,bf,Nat.reduceAdd,Nat.reduceSub,U8,Vq];refine a_ (λρ=>ρ=[some (skD .own ns s),some (.str x),some (.str y),some (.int 0),some (.lst .own ((p1++[R x]).map D.str)),some (.lst .own ((p2++[R y]).map D.str)),none,none,none]) (λQ J=>?_) ?_
 .simp_arith[sEx,aG,aV,aH,lD,U,z,dX,cM,-List.map_append]
  exact J _ rfl
 rintro _ rfl;refine a_ (λρ=>ρ=[some (skD .own ns s),some (.str x),some (.str y),some (.int 0),some (.lst .own ((p1++[R x]).map D.str)),some (.lst .own ((p2++[R y]).map D.str)),some (.int 0),none,none]) (λQ J=>?_) ?_
 .simp_arith[sEx,aG,aV,aH,lD,bO,f1,q,gQ,sO,-List.map_append]
  exact J _ rfl
 rintro _ rfl;refine a_ (λρ=>ρ=[some (skD .own ns s),some (.str x),some (.str y),some (.int 0),some (.lst .own ((p1++[R x]).map D.str)),some (.lst .own ((p2++[R y]).map D.str)),some (.int 0),some (.str (R x)),some (.str (R y))]) (λQ J=>?_) ?_
 .simp_arith[sEx,aG,aV,aH,bO,j6,h1,h2,-List.map_append]
  exact J _ rfl
 rintro _ rfl;have N:=rM (m:=.bro) (vs:=s.zs) Z.2.1;have i2:=rM (m:=.bro) (vs:=s.zs) c2.2.1;refine a_ (λρ=>∃b:Bh,ρ=[some (skD .own ns s),some (.str x),some (.str y),some (.int 0),some (.lst .own ((p1++[R x]).map D.str)),some (.lst .own ((p2++[R y]).map D.str)),some (.int 0),some (.str b.2),some (.str b.1)]/\b.1∈ns/\b.2∈ns/\b.1∉s.bs.map (·.1)/\b.2∉s.bs.map (·.1)/\b.1≠b.2/\Hb R x y b/\s.zs b.1<=s.zs b.2) (λQ J=>?_) ?_
 .simp_arith[sEx,aG,aV,aH,lD,gf3,N,i2,gLt,j6,-List.map_append]
  split
  .exact J _ ⟨(R x,R y),rfl,Z.2.1,c2.2.1,Z.2.2.1,c2.2.2.1,a0,.inl rfl,by show s.zs (R x)<=s.zs (R y);omega⟩
  .exact J _ ⟨(R y,R x),rfl,c2.2.1,Z.2.1,c2.2.2.1,Z.2.2.1,a0.symm,.inr rfl,by show s.zs (R y)<=s.zs (R x);omega⟩
 rintro _ ⟨b,rfl,b1,b2,b3,b4,Y,b6,b7⟩;refine a_ (λρ=>ρ=[some (skD .own ns {s with bs:=s.bs++[b]}),some (.str x),some (.str y),some (.int 0),some (.lst .own ((p1++[R x]).map D.str)),some (.lst .own ((p2++[R y]).map D.str)),some (.int 0),some (.str b.2),some (.str b.1)]) (λQ J=>?_) ?_
 .have V:=Tj b3 a1
  simp[aU,fW,bf,eZ,w_ite,iY,cA,bW,dN,sIf,jw,eQ,gn,eO,eE,iT,jV,sFz,iV,kE,jK,tgN,tgT,aO,bM,fQ,tpN,tpT,dM,o5,ak,eC,aN,ao,eAp,eUp,jA,dI,ee2,cI,jt,e2,e1,eB,eeB,kJ,jG,eOr,kj,jY,pW,eTT,isB,je,itS,itE,jT,cX,cY,g_,eSl,o8,lR,jC,gA,gq,eMt,oZ,eIo,objs,fP,cG,clean,aD,aC,au,az,bB,bH,view,cW,mkV,mkF,fz,fzL,fzo,gf,mkO,fnP,fnI,en0,outs,fK,iG,obC,truth,sEx,aG,aV,aH,fO,pf2,-List.map_append];rw[show D.tup [.str b.2,.int 0]=bvD b from rfl,us2 ⟨rfl,rfl⟩ V,aU];exact J _ rfl
 rintro _ rfl;have i3:=rM (m:=.bro) (vs:=s.zs) b1;have q2:=Sq (g:=λi j=>i+j) (vs:=s.zs) (v:=s.zs b.1) nd b2 h.l;refine a_ (λρ=>ρ=[some (skD .own ns {s with bs:=s.bs++[b],zs:=upv s.zs b.2 (s.zs b.2+s.zs b.1)}),some (.str x),some (.str y),some (.int 0),some (.lst .own ((p1++[R x]).map D.str)),some (.lst .own ((p2++[R y]).map D.str)),some (.int 0),some (.str b.2),some (.str b.1)]) (λQ J=>?_) ?_
 .simp[aU,fW,bf,eZ,w_ite,iY,cA,bW,dN,sIf,jw,eQ,gn,eO,eE,iT,jV,sFz,iV,kE,jK,tgN,tgT,aO,bM,fQ,tpN,tpT,dM,o5,ak,eC,aN,ao,eAp,eUp,jA,dI,ee2,cI,jt,e2,e1,eB,eeB,kJ,jG,eOr,kj,jY,pW,eTT,isB,je,itS,itE,jT,cX,cY,g_,eSl,o8,lR,jC,gA,gq,eMt,oZ,eIo,objs,fP,cG,clean,aD,aC,au,az,bB,bH,view,cW,mkV,mkF,fz,fzL,fzo,gf,mkO,fnP,fnI,en0,outs,fK,iG,obC,truth,sEx,aG,aV,aH,tR,pf3,lD,gf3,i3,-List.map_append]
  rw[us3 (s:={s with bs:=s.bs++[b]}) ⟨rfl,rfl⟩ q2,aU];exact J _ rfl
 rintro _ rfl;simp_arith[sEx,aG,aV,aH];exact⟨b,rfl,⟨b1,b2,b3,b4,Y⟩,b6,b7⟩
theorem SM(h:R x≠R y)(U:Hb R x y b):hgR R b x=hgR R b y:=by
 rcases U with rfl|rfl
 .simp only[hgR,Vj,Uq (U3 h)]
 .simp only[hgR,Vj,Uq h]
theorem S7(U:Hb R x y b){a:Str}(e:hgR R b a=hgR R b c):R a=R c∨(R a=R x/\R c=R y)∨(R a=R y/\R c=R x):=by
 rcases U with rfl|rfl
 .simp only[hgR]at e
  split at e<;>split at e
  .rename_i e1' e2';exact .inl (e1'.trans e2'.symm)
  .rename_i e1' e2';exact .inr (.inl ⟨e1',e.symm⟩)
  .rename_i e1' e2';exact .inr (.inr ⟨e,e2'⟩)
  .exact .inl e
 .simp only[hgR]at e
  split at e<;>split at e
  .rename_i e1' e2';exact .inl (e1'.trans e2'.symm)
  .rename_i e1' e2';exact .inr (.inr ⟨e1',e.symm⟩)
  .rename_i e1' e2';exact .inr (.inl ⟨e,e2'⟩)
  .exact .inl e
inductive Gd(ns:List Str)(t:Int):Sk->(Str->Str)->(Str->Nat)->Prop where
 |nil (lk:Int):Gd ns t ⟨t,[],λ_=>1,[],lk⟩ id (λ_=>0)
 |known {s:Sk} {R:Str->Str} {P:Str->Nat} (x y:Str) (lk:Int):Gd ns t s R P->x∈ns->y∈ns->R x=R y->Gd ns t ⟨s.t,s.bs,s.zs,s.dn++[(x,y,none)],lk⟩ R P
 |hang {s:Sk} {R:Str->Str} {P:Str->Nat} (x y:Str) (b:Bh) (lk:Int):Gd ns t s R P->x∈ns->y∈ns->R x≠R y->Hb R x y b->s.zs b.1<=s.zs b.2->(b.1∈ns/\b.2∈ns/\b.1∉s.bs.map (·.1)/\b.2∉s.bs.map (·.1)/\b.1≠b.2)->Gd ns t ⟨s.t,s.bs++[b],upv s.zs b.2 (s.zs b.2+s.zs b.1),s.dn++[(x,y,some b.1)],lk⟩ (hgR R b) (hgP R P b)
theorem Gd.lk(h:Gd ns t s R P)(lk:Int):Gd ns t {s with lk:=lk} R P:=by
 cases h with
 |nil l=>exact .nil lk
 |known x y l h h1 h2 F=>exact .known x y lk h h1 h2 F
 |hang x y b l h h1 h2 F V Z q=>exact .hang x y b lk h h1 h2 F V Z q
def szR(ns:List Str)(R:Str->Str)(l:Str):Int:=((ns.filter λy=>decide (R y=l)).length:Nat)
theorem pB{R:Str->Str}(U:b.1≠b.2):∀ns:List Str,szR ns (hgR R b) b.2=szR ns R b.2+szR ns R b.1
 |[]=>by simp[szR]
 |y::r=>by
  have Z:=pB (R:=R) U r;unfold szR at Z⊢;simp only[Wt,hgR]at Z⊢;by_cases h1:R y=b.1
  .simp only[h1,Vj,decide_true,U,decide_false,U0,VN,Uy]at Z⊢
   omega
  .by_cases h2:R y=b.2
   .simp only[h2,U3 U,VN,decide_true,Vj,decide_false,U0,Uy]at Z⊢
    omega
   .simp only[h1,h2,VN,decide_false,U0]at Z⊢
    exact Z
theorem yO(h1:l≠b.1)(h2:l≠b.2)(ns:List Str):szR ns (hgR R b) l=szR ns R l:=by
 unfold szR;congr 2;apply List.filter_congr;intro y _;unfold hgR;split
 .rename_i e;rw[e,U9 (U3 h2),U9 (U3 h1)]
 .rfl
theorem xF{l:Str}:∀{ns:List Str},ns.Nodup->l∈ns->szR ns id l=1
 |[],_,h=>by cases h
 |y::r,nd,h=>by
  unfold szR;rw[Uu]at nd;by_cases e:y=l
  .subst e
   have:r.filter (λz=>decide (z=y))=[]:=List.filter_eq_nil_iff.mpr λz hz=>by
    simp only[XF];exact λe=>nd.1 (e▸hz)
   simp[Wt,this]
  .have:=xF nd.2 ((Uj.mp h).resolve_left (U3 e))
   unfold szR at this;simp[Wt,e]at this⊢;exact this
structure Gi(ns:List Str)(t:Int)(s:Sk)(R:Str->Str)(P:Str->Nat):Prop where
 q:s.t=t
 b:Bk ns s.bs
 p:Pot s.bs R P
 j:∀d∈s.dn,d.1∈ns/\d.2.1∈ns/\R d.1=R d.2.1
 c:∀S:Str->Int,(∀d∈s.dn,S d.1=S d.2.1)->∀a∈ns,∀b∈ns,R a=R b->S a=S b
 z:∀l∈ns,l∉s.bs.map (·.1)->s.zs l=szR ns R l
 d:∀x∈ns,((2 ^ P x:Nat):Int)<=szR ns R (R x)
theorem Gd.gi(nd:ns.Nodup)(h:Gd ns t s R P):Gi ns t s R P:=by
 induction h with
 |nil lk=>exact⟨rfl,⟨by simp,by simp⟩,⟨by simp,λ_ _=>⟨rfl,rfl⟩⟩,by simp,λS _ a _ b _ e=>congrArg S e,λl hl _=>(xF nd hl).symm,λx F=>by rw[show szR ns id (id x)=1 from xF nd F];simp⟩
 |known x y lk h h1 h2 h3 Z=>
  refine⟨Z.q,Z.b,Z.p,λd hd=>?_,λS hS=>Z.c S λd hd=>hS d (Uh _ hd),Z.z,Z.d⟩;rcases T_.mp hd with z|z
  .exact Z.j d z
  .rw[UG.mp z];exact⟨h1,h2,h3⟩
 |@hang s R P x y b lk h h1 h2 h3 V h5 h6 Z=>
  obtain⟨b1,b2,U,b4,b5⟩:=h6;have z1:=Z.z _ b1 U;have z2:=Z.z _ b2 b4;refine⟨Z.q,Z.b.add b1 b2 U b4 b5,Z.p.add U b4 b5,λd hd=>?_,λS hS a Y c J e=>?_,λl hl N=>?_,λu O=>?_⟩
  .rcases T_.mp hd with z|z
   .obtain⟨a,c,g⟩:=Z.j d z
    exact⟨a,c,by unfold hgR;rw[g]⟩
   .rw[UG.mp z];exact⟨h1,h2,SM h3 V⟩
  .have old:=Z.c S λd hd=>hS d (Uh _ hd)
   have new:S x=S y:=hS (x,y,some b.1) (by simp);rcases S7 V e with h|⟨h,g⟩|⟨h,g⟩
   .exact old a Y c J h
   .rw[old a Y _ h1 h,old c J _ h2 g,new]
   .rw[old a Y _ h2 h,old c J _ h1 g,new]
  .simp only[Vr,T_,not_or]at N
   have a0:l≠b.1:=λe=>N.2 (by simp[e]);by_cases e:l=b.2
   .subst e
    simp only[upv,Vj];rw[pB b5,z2,z1]
   .simp only[upv,Uq e]
    rw[yO a0 e,Z.z l hl N.1]
  .have hd:=Z.d u O
   have p0:∀l,0<=szR ns R l:=λl=>by unfold szR;omega
   unfold hgP;by_cases e:R u=b.1
   .rw[Uo e,show hgR R b u=b.2 by unfold hgR;rw[Uo e],pB b5,Nat.pow_succ]
    rw[e]at hd;rw[z1,z2]at h5;have:((2 ^ P u*2:Nat):Int)=((2 ^ P u:Nat):Int)*2:=by simp
    omega
   .rw[Uq e,show hgR R b u=R u by unfold hgR;rw[Uq e]]
    by_cases e2:R u=b.2
    .rw[e2,pB b5]
     rw[e2]at hd;have:=p0 b.1;omega
    .rw[yO e e2]
     exact hd
theorem Gi.ok(h:Gi ns t s R P)(z:0<=t/\t<=1000)(Y:ns.length<=40)(V:s.dn.length<=1000):Ok ns s:=⟨h.b,by rw[h.q];exact z,Y,V⟩
def Jn(ns:List Str)(t:Int)(s:Sk)(P:Str->Nat)(x y:Str)(q:D×List D):Prop:=∃(w:Str)(k:Int)(h:Option Str)(s':Sk)(F:Str->Str)(z:Str->Nat),q=(.tup [.str w,.int k],[skD .own ns s',.str x,.str y,.int 0])/\w≠"clash"/\s'.dn=s.dn++[(x,y,h)]/\Gd ns t s' F z/\LkB P x y s'.lk
theorem Ov(nd:ns.Nodup)(hG:Gd ns t s R P)(ht:0<=t/\t<=1000)(Y:ns.length<=40)(F:x∈ns)(O:y∈ns)(hm:s.dn.length<1000):Wp (cR [skD .own ns s,.str x,.str y,.int 0]) (Jn ns t s P x y):=by
 have hi:=hG.gi nd;have V:=hi.p;have h:=hi.ok ht Y (by omega);simp only[cR,fnI,en0,Uy,Vn,Um,Vy,Vt,Vj,bf,Nat.reduceAdd,Nat.reduceSub,U8,Vq];refine a_ (λρ=>∃lk:Int,LkB P x y lk/\ρ=[some (skD .own ns {s with lk:=lk}),some (.str x),some (.str y),some (.int 0),some (rO (stp R x y)),none,none]) (λQ hQ=>?_) ?_
 .simp_arith[sEx,aG,aV,aH,kW,rK (m:=.own) (by decide) (show dO jh "steps"=none by decide),fzL,fz]
  refine Wp.mono (wz h V F O) ?_;rintro _ ⟨lk,rfl,N⟩;have:aD (rO (stp R x y))=true/\aC (rO (stp R x y))=true:=by cases stp R x y<;>exact⟨rfl,rfl⟩
  simp_arith[sEx,aG,aV,aH,this];exact hQ _ ⟨lk,N,rfl⟩
 rintro _ ⟨lk,N,rfl⟩;have h':Ok ns {s with lk:=lk}:=⟨h.b,h.t,h.l,h.m⟩;have a5:=HF h.t;have a7:∃r:Option Int,r=stp R x y/\(r=none/\R x≠R y∨r=some 0/\R x=R y):=⟨_,rfl,by
  unfold stp;split
  .rename_i e;exact .inr ⟨rfl,e⟩
  .rename_i e;exact .inl ⟨rfl,e⟩⟩
 obtain⟨r,Z,a0⟩:=a7;rw[←Z];have a1:∀(w:Str)(k:Int)(h:Option Str)(s':Sk)(q:Str->Str)(P':Str->Nat),w≠"clash"->s'.dn=s.dn++[(x,y,h)]->Gd ns t s' q P'->LkB P x y s'.lk->Jn ns t s P x y (.tup [.str w,.int k],[skD .own ns s',.str x,.str y,.int 0]):=λw k h s' q P' a b c d=>⟨w,k,h,s',q,P',rfl,a,b,c,d⟩;generalize Jn ns t s P x y=J at *
 refine a_ (λρ=>ρ=[some (skD .own ns {s with lk:=lk}),some (.str x),some (.str y),some (.int 0),some (rO r),none,none]) (λQ hQ=>?_) ?_
 .rcases a0 with⟨rfl,_⟩|⟨rfl,_⟩
  .simp_arith[sEx,aG,aV,aH,rO,g8,iD]
   exact hQ _ rfl
  .have ni:gNe (.int 0) (.int 0)=some (.bl false):=by
    unfold gNe;rw[Uo ⟨rfl,rfl,.sc (.int 0 0)⟩];simp[dt,eqD]
   simp_arith[sEx,aG,aV,aH,rO,g8,iD,lD,gf0,a5,bA,ni];exact hQ _ rfl
 rintro _ rfl;refine a_ (λρ=>∃k:Int,ρ=[some (skD .own ns {s with lk:=lk}),some (.str x),some (.str y),some (.int 0),some (rO r),some (.int k),none]) (λQ hQ=>?_) ?_
 .simp_arith[sEx,aG,aV,aH,lD,An h'.m,gG]
  exact hQ _ ⟨_,rfl⟩
 rintro _ ⟨k,rfl⟩;refine a_ (λρ=>∃(z:Option Str)(s':Sk),ρ=[some (skD .own ns s'),some (.str x),some (.str y),some (.int 0),some (rO r),some (.int k),some (ktD (x,y,z))]/\s'.dn=s.dn/\s'.lk=lk/\∃q P',Gd ns t {s' with dn:=s'.dn++[(x,y,z)]} q P') (λQ hQ=>?_) ?_
 .rcases a0 with⟨rfl,hR⟩|⟨rfl,hR⟩
  .simp_arith[sEx,aG,aV,aH,rO,gIs,iD,kW,rK (m:=.own) (by decide) (show dO jh "hang"=none by decide)]
   refine Wp.mono (Ny (s:={s with lk:=lk}) nd h' V F O hR) ?_;rintro _ ⟨b,rfl,U,a6,hz⟩;simp_arith[sEx,aG,aV,aH];exact hQ _ ⟨some b.1,_,rfl,rfl,rfl,_,_,.hang x y b lk hG F O hR a6 hz U⟩
  .simp_arith[sEx,aG,aV,aH,rO,gIs,iD]
   exact hQ _ ⟨none,{s with lk:=lk},rfl,rfl,rfl,R,P,.known x y lk (hG.lk lk) F O hR⟩
 rintro _ ⟨z,s',rfl,a2,a4,q,P',a8⟩;refine a_ (λρ=>ρ=[some (skD .own ns {s' with dn:=s'.dn++[(x,y,z)]}),some (.str x),some (.str y),some (.int 0),some (rO r),some (.int k),some (ktD (x,y,z))]) (λQ hQ=>?_) ?_
 .have hkt:=zq (x,y,z)
  have a3:eF (nD .own s'.dn) [dnD (x,y,z)]=some (nD .own (s'.dn++[(x,y,z)]),.non):=by
   simp only[nD,eF,Ux];rw[Uo (by rw[a2];omega),Vr];rfl
  simp[aU,fW,bf,eZ,w_ite,iY,cA,bW,dN,sIf,jw,eQ,gn,eO,eE,iT,jV,sFz,iV,kE,jK,tgN,tgT,aO,bM,fQ,tpN,tpT,dM,o5,ak,eC,aN,ao,eAp,eUp,jA,dI,ee2,cI,jt,e2,e1,eB,eeB,kJ,jG,eOr,kj,jY,pW,eTT,isB,je,itS,itE,jT,cX,cY,g_,eSl,o8,lR,jC,gA,gq,eMt,oZ,eIo,objs,fP,cG,clean,aD,aC,au,az,bB,bH,view,cW,mkV,mkF,fz,fzL,fzo,gf,mkO,fnP,fnI,en0,outs,fK,iG,obC,truth,sEx,aG,aV,aH,fO,pf4,hkt];rw[show D.tup [.tup [.str "join",.str x,.str y,.int 0],ktD (x,y,z)]=dnD (x,y,z)from rfl,us4 ⟨by simp[au,(mJ _).1],by simp[az,(mJ _).2.1]⟩ a3,aU];exact hQ _ rfl
 rintro _ rfl;have hf:∀w:Str,w≠"clash"->J (.tup [.str w,.int k],[skD .own ns {s' with dn:=s'.dn++[(x,y,z)]},.str x,.str y,.int 0]):=λw hw=>a1 w k z _ q P' hw (by rw[←a2]) a8 (by show LkB P x y s'.lk;rw[a4];exact N);rcases a0 with⟨rfl,_⟩|⟨rfl,_⟩
 .simp_arith[sEx,aG,aV,aH,rO,gIs,iD,fO];exact hf _ (by decide)
 .simp_arith[sEx,aG,aV,aH,rO,gIs,iD,fO];exact hf _ (by decide)
def PvD(ns:List Str)(s J:Sk)(d:Dj):Prop:=match d.2.2 with
 |none=>s.bs=J.bs/\s.zs=J.zs
 |some h=>∃b:Bh,b.1=h/\b.1≠b.2/\b.1∈ns/\b.2∈ns/\s.bs=J.bs++[b]/\s.zs=upv J.zs b.2 (J.zs b.2+J.zs b.1)
theorem Gd.prev{d:Dj}(h:Gd ns t s R P)(hd:s.dn=dn++[d]):∃J N z,Gd ns t J N z/\J.dn=dn/\J.t=s.t/\PvD ns s J d:=by
 cases h with
 |nil l=>simp at hd
 |@known J _ _ x y l h h1 h2 F=>
  obtain⟨e,f⟩:=acT hd rfl;obtain rfl:(x,y,none)=d:=by simpa using f
  exact⟨J,_,_,h,e,rfl,rfl,rfl⟩
 |@hang J _ _ x y b l h h1 h2 F V Z q=>
  obtain⟨e,f⟩:=acT hd rfl;obtain rfl:(x,y,some b.1)=d:=by simpa using f
  exact⟨J,_,_,h,e,rfl,b,rfl,q.2.2.2.2,q.1,q.2.1,rfl,rfl⟩
theorem TX(nd:((bs++[b]).map (·.1)).Nodup):vN (bD .own (bs++[b])) [.str b.1]=some (bD .own bs,.non):=by
 have hi:(bs++[b])[bs.length]? =some b:=by simp
 have q:=Gr nd (i:=bs.length) (x:=b.1) (by rw[List.getElem?_map,hi];rfl);simp only[bD,vN,cZ,Ua,q];rw[Uo (by simp)];have e1:(((bs++[b]).map (·.1)).map (U5:Str->Key)).eraseIdx bs.length=(bs.map (·.1)).map U5:=by
  rw[Vr,Vr,WN (by simp)];simp
 have e2:((bs++[b]).map bvD).eraseIdx bs.length=bs.map bvD:=by
  rw[Vr,WN (by simp)];simp
 rw[e1,e2]
theorem Hw(nd:ns.Nodup)(U:Bk ns (bs++[b]))(O:s.bs=bs++[b])(Y:ns.length<=40):cz [skD .own ns s,.str b.1]=some (.non,[skD .own ns {s with bs:=bs,zs:=upv s.zs b.2 (s.zs b.2-s.zs b.1)},.str b.1]):=by
 have hi:(bs++[b])[bs.length]? =some b:=by simp
 obtain⟨F,z,_⟩:=U.ok _ _ hi;have q:=Ob (m:=.bro) U.nd hi;have N:=rM (m:=.bro) (vs:=s.zs) F;have q2:=Sq (g:=λi j=>i-j) (vs:=s.zs) (v:=s.zs b.1) nd z Y;apply Wp.eq;simp only[cz,fnI,en0,Uy,Vn,Um,Vy,Vt,Vj,bf,Nat.reduceAdd,Nat.reduceSub,U8,Vq];refine a_ (λρ=>ρ=[some (skD .own ns s),some (.str b.1),some (.str b.2),some (.int 0)]) (λQ J=>?_) ?_
 .simp_arith[sEx,aG,aV,aH,lD,gf2,O,q,bvD]
  exact J _ rfl
 rintro _ rfl;refine a_ (λρ=>ρ=[some (skD .own ns {s with zs:=upv s.zs b.2 (s.zs b.2-s.zs b.1)}),some (.str b.1),some (.str b.2),some (.int 0)]) (λQ J=>?_) ?_
 .simp[aU,fW,bf,eZ,w_ite,iY,cA,bW,dN,sIf,jw,eQ,gn,eO,eE,iT,jV,sFz,iV,kE,jK,tgN,tgT,aO,bM,fQ,tpN,tpT,dM,o5,ak,eC,aN,ao,eAp,eUp,jA,dI,ee2,cI,jt,e2,e1,eB,eeB,kJ,jG,eOr,kj,jY,pW,eTT,isB,je,itS,itE,jT,cX,cY,g_,eSl,o8,lR,jC,gA,gq,eMt,oZ,eIo,objs,fP,cG,clean,aD,aC,au,az,bB,bH,view,cW,mkV,mkF,fz,fzL,fzo,gf,mkO,fnP,fnI,en0,outs,fK,iG,obC,truth,sEx,aG,aV,aH,tR,pf3,lD,gf3,N]
  rw[us3 ⟨rfl,rfl⟩ q2,aU];exact J _ rfl
 rintro _ rfl;have hd:=TX U.nd;rw[←O]at hd;simp[aU,fW,bf,eZ,w_ite,iY,cA,bW,dN,sIf,jw,eQ,gn,eO,eE,iT,jV,sFz,iV,kE,jK,tgN,tgT,aO,bM,fQ,tpN,tpT,dM,o5,ak,eC,aN,ao,eAp,eUp,jA,dI,ee2,cI,jt,e2,e1,eB,eeB,kJ,jG,eOr,kj,jY,pW,eTT,isB,je,itS,itE,jT,cX,cY,g_,eSl,o8,lR,jC,gA,gq,eMt,oZ,eIo,objs,fP,cG,clean,aD,aC,au,az,bB,bH,view,cW,mkV,mkF,fz,fzL,fzo,gf,mkO,fnP,fnI,en0,outs,fK,iG,obC,truth,sEx,aG,aV,aH,Fe,pf2];rw[us2 (s:={s with zs:=upv s.zs b.2 (s.zs b.2-s.zs b.1)}) ⟨rfl,rfl⟩ hd,aU];simp_arith[sEx,aG,aV,aH]
def Bc(ns:List Str)(t:Int)(s:Sk)(q:D×List D):Prop:=∃(v:D)(s':Sk)(F:Str->Str)(z:Str->Nat),q=(v,[skD .own ns s'])/\s'.dn=s.dn.dropLast/\Gd ns t s' F z
theorem Qe(nd:ns.Nodup)(hG:Gd ns t s R P)(Y:ns.length<=40):Wp (b8 [skD .own ns s]) (Bc ns t s):=by
 have hi:=hG.gi nd;rcases abQ s.dn with N|⟨dn,d,hd⟩
 .have a0:Bc ns t s (.non,[skD .own ns s]):=⟨.non,s,R,P,rfl,by simp[N],hG⟩
  simp_arith[b8,sEx,aG,aV,aH,lD,gf4,nD,N,gG,eq_int];exact a0
 .rw[abR]at hd
  simp only[b8,fnI,en0,Uy,Vn,Um,Vy,Vt,Vj,bf,Nat.reduceAdd,Nat.reduceSub,U8,Vq];refine a_ (λρ=>ρ=[some (skD .own ns s),none,none]) (λQ J=>?_) ?_
  .simp_arith[sEx,aG,aV,aH,lD,gf4,nD,hd,gG,eq_int]
   split
   .omega
   .exact J _ rfl
  rintro _ rfl;obtain⟨Z,V,c3,_⟩:=FN d;obtain⟨k1,F,k3,_⟩:=zq d;refine a_ (λρ=>ρ=[some (skD .own ns {s with dn:=dn}),some (dcD d),some (ktD d)]) (λQ J=>?_) ?_
  .have hop:uz (nD .own s.dn) []=some (nD .own dn,dnD d):=by
    simp[nD,uz,hd]
   simp[aU,fW,bf,eZ,w_ite,iY,cA,bW,dN,sIf,jw,eQ,gn,eO,eE,iT,jV,sFz,iV,kE,jK,tgN,tgT,aO,bM,fQ,tpN,tpT,dM,o5,ak,eC,aN,ao,eAp,eUp,jA,dI,ee2,cI,jt,e2,e1,eB,eeB,kJ,jG,eOr,kj,jY,pW,eTT,isB,je,itS,itE,jT,cX,cY,g_,eSl,o8,lR,jC,gA,gq,eMt,oZ,eIo,objs,fP,cG,clean,aD,aC,au,az,bB,bH,view,cW,mkV,mkF,fz,fzL,fzo,gf,mkO,fnP,fnI,en0,outs,fK,iG,obC,truth,sEx,aG,aV,aH,jK,pf4];rw[us4 ⟨rfl,rfl⟩ hop,aU];simp_arith[sEx,aG,aV,aH,dnD,Z,V,k1,F];exact J _ rfl
  rintro _ rfl;obtain⟨s0,R0,P0,a1,U,g2,q⟩:=hG.prev hd;have a0:Bc ns t s (dcD d,[skD .own ns {s0 with lk:=s.lk}]):=⟨_,_,R0,P0,rfl,by rw[hd];simpa using U,a1.lk s.lk⟩;obtain⟨a,b,z⟩:=d;cases z with
  |none=>
   obtain⟨p2,p3⟩:=q;have es:{s with dn:=dn}={s0 with lk:=s.lk}:=by rw[p2,p3,←U,←g2]
   refine a_ (λρ=>ρ=[some (skD .own ns {s with dn:=dn}),some (dcD (a,b,none)),some (ktD (a,b,none))]) (λQ J=>?_) ?_
   .simp[aU,fW,bf,eZ,w_ite,iY,cA,bW,dN,sIf,jw,eQ,gn,eO,eE,iT,jV,sFz,iV,kE,jK,tgN,tgT,aO,bM,fQ,tpN,tpT,dM,o5,ak,eC,aN,ao,eAp,eUp,jA,dI,ee2,cI,jt,e2,e1,eB,eeB,kJ,jG,eOr,kj,jY,pW,eTT,isB,je,itS,itE,jT,cX,cY,g_,eSl,o8,lR,jC,gA,gq,eMt,oZ,eIo,objs,fP,cG,clean,aD,aC,au,az,bB,bH,view,cW,mkV,mkF,fz,fzL,fzo,gf,mkO,fnP,fnI,en0,outs,fK,iG,obC,truth,sEx,aG,aV,aH,dcD,ktD,gIx,atI,ixN,eq_str,g8,iD]
    rw[Uq (by decide)];exact J _ rfl
   rintro _ rfl;rw[es];simp_arith[sEx,aG,aV,aH,dcD];exact a0
  |some x=>
   obtain⟨bh,rfl,p0,p1,p2,p4,p5⟩:=q;have O:=Hw (s:={s with dn:=dn}) nd (p4▸hi.b) p4 Y;have es:{s with dn:=dn,bs:=s0.bs,zs:=upv s.zs bh.2 (s.zs bh.2-s.zs bh.1)}={s0 with lk:=s.lk}:=by
    have:upv s.zs bh.2 (s.zs bh.2-s.zs bh.1)=s0.zs:=by
     rw[p5];funext y;simp only[upv,Vj,Uq p0];split
     .rename_i e;rw[e];omega
     .rfl
    rw[this,←U,←g2]
   refine a_ (λρ=>ρ=[some (skD .own ns {s with dn:=dn,bs:=s0.bs,zs:=upv s.zs bh.2 (s.zs bh.2-s.zs bh.1)}),some (dcD (a,b,some bh.1)),some (ktD (a,b,some bh.1))]) (λQ J=>?_) ?_
   .simp[aU,fW,bf,eZ,w_ite,iY,cA,bW,dN,sIf,jw,eQ,gn,eO,eE,iT,jV,sFz,iV,kE,jK,tgN,tgT,aO,bM,fQ,tpN,tpT,dM,o5,ak,eC,aN,ao,eAp,eUp,jA,dI,ee2,cI,jt,e2,e1,eB,eeB,kJ,jG,eOr,kj,jY,pW,eTT,isB,je,itS,itE,jT,cX,cY,g_,eSl,o8,lR,jC,gA,gq,eMt,oZ,eIo,objs,fP,cG,clean,aD,aC,au,az,bB,bH,view,cW,mkV,mkF,fz,fzL,fzo,gf,mkO,fnP,fnI,en0,outs,fK,iG,obC,truth,sEx,aG,aV,aH,dcD,ktD,gIx,atI,ixN,eq_str,g8,iD,kW,rK (m:=.own) (by decide) (show dO jh "unhang"=none by decide)]
    rw[Uq (by decide),O];simp_arith[sEx,aG,aV,aH];exact J _ rfl
   rintro _ rfl;rw[es];simp_arith[sEx,aG,aV,aH,dcD];exact a0
theorem NT{ks:List Str}(h:x∉ks):dR (ks.map U5) (U5 x)=none:=by
 have:=kI (ys:=ks) (x:=x);rw[U9 h]at this;cases e:dR (ks.map U5) (U5 x)with
 |none=>rfl
 |some j=>rw[e]at this;cases this
theorem Ib:∀(l:List (Str×Int))(ks:List Str)(ds:List D),(ks++l.map (·.1)).Nodup->iC (ks.map U5) ds (l.map λp=>((U5 p.1:Key),D.int p.2))=((ks++l.map (·.1)).map U5,ds++l.map λp=>D.int p.2)
 |[],ks,ds,_=>by simp[iC]
 |p::r,ks,ds,h=>by
  have h1:p.1∉ks:=λz=>(Ur.mp h).2.2 _ z _ (by simp) rfl;rw[Um,iC,iH,NT h1];have:=Ib r (ks++[p.1]) (ds++[.int p.2]) (by simpa using h);rw[Vr]at this;simpa using this
def ix0(ns:List Str)(x:Str):Int:=(ns.idxOf x:Nat)
def swD:D->D
 |.tup [a,b]=>.tup [b,a]
 |d=>d
theorem Q6(nd:ns.Nodup):(k_ 0 (ns.map D.str)).map swD=(ns.map λx=>(x,ix0 ns x)).map pD:=by
 apply Zu;intro i;rw[List.getElem?_map,jl,List.getElem?_map,List.getElem?_map,List.getElem?_map];cases h:ns[i]? with
 |none=>rfl
 |some x=>
  obtain⟨hi,e⟩:=List.getElem?_eq_some_iff.mp h;have:ns.idxOf x=i:=by rw[←e];exact nd.idxOf_getElem i hi
  simp[swD,pD,ix0,this]
theorem Qz(nd:ns.Nodup)(Y:ns.length<=40):tD [.lst .own ((ns.map λx=>(x,ix0 ns x)).map pD)]=some (wD .own ns (ix0 ns)):=by
 simp only[tD];rw[Uo ⟨rfl,by simp;omega⟩,Az];have:=Ib (ns.map λx=>(x,ix0 ns x)) [] [] (by simpa[acJ]using nd);simp only[Vy,Vq]at this;rw[W7,this];simp[wD,vsL,acJ]
abbrev Pr:=Str×Str
def qrD(p:Pr):D:=.tup [.str p.1,.str p.2]
theorem Nb(l:List Pr):au (l.map qrD)=true:=dm λd hd=>by obtain⟨x,_,rfl⟩:=Uw.mp hd;rfl
theorem M7(l:List Pr):az (l.map qrD)=true:=dh λd hd=>by obtain⟨x,_,rfl⟩:=Uw.mp hd;rfl
theorem Cm(b:Bool)(l:List Pr):cW b (l.map qrD)=l.map qrD:=by rw[ir,Vg];rfl
theorem Q5(l:List Pr):fzL (l.map qrD)=l.map qrD:=by rw[nF,Vg];rfl
theorem Rk(l:List Pr):gf (l.map qrD)=l.map qrD:=by rw[mG,Vg];rfl
theorem zW:view false (wD .own ns f)=wD .brw ns f:=by simp[wD,view,iB,mkV]
theorem HB:view false (wD .frz ns f)=wD .frz ns f:=by simp[wD,view,iB,mkV]
theorem NK(h:m= .own∨m= .frz):aD (wD m ns f)=true/\aC (wD m ns f)=true:=by rcases h with rfl|rfl<;>simp[wD,aD,aC,jR,jg]
structure MkP(ns:List Str)(st:List Pr)(f:Str->Int):Prop where
 j:∀p∈st,f p.1=f p.2
 c:∀S:Str->Str,(∀p∈st,S p.1=S p.2)->∀a∈ns,∀b∈ns,f a=f b->S a=S b
def ClI(N J:D)(ns:List Str)(st:List Pr)(k:Nat)(ρ:En):Prop:=∃(f:Str->Int)(q O z V F:Option D),ρ=[some N,some J,some (wD .own ns f),q,O,z,V,F]/\MkP ns (st.take k) f
def CmI(N J:D)(ns:List Str)(f:Str->Int)(p:Pr)(lo hi:Int)(k:Nat)(ρ:En):Prop:=∃(g:Str->Int)(F:Option D),ρ=[some N,some J,some (wD .own ns g),some (.str p.1),some (.str p.2),some (.int lo),some (.int hi),F]/\∀y,g y=if y∈ns.take k/\f y=hi then lo else f y
theorem MkP.step{st:List Pr}{g:Str->Int}{p:Pr}{lo hi:Int}(h:MkP ns st f)(O:∀q∈st,q.1∈ns/\q.2∈ns)(p1:p.1∈ns)(p2:p.2∈ns)(N:(lo=f p.1/\hi=f p.2)∨(lo=f p.2/\hi=f p.1))(hg:∀y∈ns,g y=if f y=hi then lo else f y):MkP ns (st++[p]) g where
 j:=λq hq=>by
  rcases T_.mp hq with z|z
  .obtain⟨a,b⟩:=O q z
   rw[hg _ a,hg _ b,h.j q z]
  .rw[UG.mp z,hg _ p1,hg _ p2]
   rcases N with⟨e,Z⟩|⟨e,Z⟩
   .rw[Uo Z.symm];split
    .rfl
    .exact e.symm
   .rw[Uo (c:=f p.1=hi) Z.symm];split
    .rfl
    .exact e
 c:=λS J a Y b U e=>by
  have V:=h.c S λq hq=>J q (Uh _ hq);have new:S p.1=S p.2:=J p (by simp);rw[hg a Y,hg b U]at e;split at e<;>split at e
  .rename_i u v;exact V a Y b U (u.trans v.symm)
  .rename_i u v
   rcases N with⟨k,F⟩|⟨k,F⟩
   .rw[V a Y _ p2 (u.trans F),V b U _ p1 (e.symm.trans k),new]
   .rw[V a Y _ p1 (u.trans F),V b U _ p2 (e.symm.trans k),new]
  .rename_i u v
   rcases N with⟨k,F⟩|⟨k,F⟩
   .rw[V a Y _ p1 (e.trans k),V b U _ p2 (v.trans F),new]
   .rw[V a Y _ p2 (e.trans k),V b U _ p1 (v.trans F),new]
  .exact V a Y b U e
theorem Th{g:Str->Int}{N J:D}(nd:ns.Nodup)(F:x∈ns)(Y:ns.length<=40):upS gW 2 [] [.str x,.int v] (some N::some J::some (wD .own ns g)::r)=some (.non,some N::some J::some (wD .own ns (upv g x v))::r):=by
 have:=QW (vs:=g) (v:=v) nd F Y;simp[upS,e_,this,eV,au,az,aD,aC]
theorem Kr{a b:Str}(Y:a∈ns)(U:b∈ns)(e:ix0 ns a=ix0 ns b):a=b:=by
 have e:ns.idxOf a=ns.idxOf b:=by unfold ix0 at e;omega
 have h1:=acz (aax Y);have h2:=acz (aax U);rw[←h1,←h2];simp only[e]
def ClD(ns:List Str)(st:List Pr)(d:D):Prop:=∃f,d=wD .own ns f/\MkP ns st f
theorem CT{st:List Pr}(nd:ns.Nodup)(hl:ns.length<=40)(O:∀q∈st,q.1∈ns/\q.2∈ns):Wp (bF [.lst .frz (ns.map D.str),.lst .frz (st.map qrD)]) (ClD ns st):=by
 have N0:view false (D.lst .frz (ns.map D.str))= .lst .frz (ns.map D.str):=by simp[view,bO,mkV]
 have J0:view false (D.lst .frz (st.map qrD))= .lst .frz (st.map qrD):=by simp[view,Cm,mkV]
 have N1:cX (.lst .frz (ns.map D.str))=some (true,ns.map D.str):=by simp[cX,clean,aD,aC,dX,cM,lr]
 have J1:cX (.lst .frz (st.map qrD))=some (true,st.map qrD):=by simp[cX,clean,aD,aC,Nb,M7,Rk]
 have a1:fL (tpT 2 (aO (tpN 0) (aO (tpN 1) bM))) eTT (eAp fO (ao (ak false 1) (ao (ak false 0) aN))) [none,none] (k_ 0 (ns.map D.str))=some ((ns.map λx=>(x,ix0 ns x)).map pD):=by
  rw[ph (p:=λ_=>true) (f:=swD),filter_tt,Q6 nd];intro d hd;obtain⟨i,hi⟩:=VD.mp hd;rw[jl,List.getElem?_map]at hi;cases F:ns[i]? with
  |none=>simp[F]at hi
  |some x=>
   obtain rfl:D.tup [.int (i:Int),.str x]=d:=by simpa[F]using hi
   simp[tpT,aO,bM,tpN,aU,eTT,eAp,ao,aN,ak,view,fO,swD]
 have a0:au ((ns.map λx=>(x,ix0 ns x)).map pD)=true/\az ((ns.map λx=>(x,ix0 ns x)).map pD)=true:=⟨dm λd hd=>by obtain⟨x,_,rfl⟩:=Uw.mp hd;rfl,dh λd hd=>by obtain⟨x,_,rfl⟩:=Uw.mp hd;rfl⟩;generalize hN:D.lst .frz (ns.map D.str)=N at N0 N1;generalize hJ:D.lst .frz (st.map qrD)=J at J0 J1;simp only[bF,fnP,en0,Uy,Vn,Um,Vy,Vt,Vj,bf,Nat.reduceAdd,Nat.reduceSub,U8,Vq];refine a_ (ClI N J ns st 0) (λQ hQ=>?_) ?_
 .have hm:=Qz nd hl
  generalize (ns.map λx=>(x,ix0 ns x)).map pD=ps at a1 hm a0;simp[cA,eAp,ao,aN,cY,itE,ak,N0,N1,fK,a1,a0,hm,clean,NK,m7,show ns.length<=1000000 by omega,bf,eZ,aU,tgN];exact hQ _ ⟨ix0 ns,none,none,none,none,none,rfl,by simp,λS _ a Y b U e=>congrArg S (Kr Y U e)⟩
 rintro _ ⟨f0,y3,y4,y5,y6,y7,rfl,h0⟩;refine a_ (ClI N J ns st st.length) (λQ hQ=>?_) ?_
 .simp[iT,itS,ak,J0,J1,bf,aU]
  refine oM (ClI N J ns st) ⟨f0,y3,y4,y5,y6,y7,rfl,h0⟩ ?_ (λρ h=>hQ _ (by simpa using h));rintro k d ρ hk ⟨f,x3,x4,x5,x6,x7,rfl,Z⟩;rw[List.getElem?_map]at hk;cases V:st[k]? with
  |none=>simp[V]at hk
  |some p=>
   obtain rfl:qrD p=d:=by simpa[V]using hk
   obtain⟨p1,p2⟩:=O p (Vd V);have i1:=rM (m:=.brw) (vs:=f) p1;have i2:=rM (m:=.brw) (vs:=f) p2;simp[qrD,tgT,aO,bM,tgN,au,az,clean,aD,aC,aU];refine a_ (λρ=>∃lo hi:Int,((lo=f p.1/\hi=f p.2)∨(lo=f p.2/\hi=f p.1))/\ρ=[some N,some J,some (wD .own ns f),some (.str p.1),some (.str p.2),some (.int lo),some (.int hi),x7]) (λQ hQ=>?_) ?_
   .by_cases hle:f p.1<=f p.2
    .simp_arith[sEx,aG,aV,aH,zW,i1,i2,gF,sV,tgL,hle]
     exact hQ _ ⟨_,_,.inl ⟨rfl,rfl⟩,rfl⟩
    .simp_arith[sEx,aG,aV,aH,zW,i1,i2,gF,sV,tgL,hle]
     exact hQ _ ⟨_,_,.inr ⟨rfl,rfl⟩,rfl⟩
   rintro _ ⟨lo,hi,a5,rfl⟩;simp[iT,itS,ak,N0,N1,bf,aU];refine oM (CmI N J ns f p lo hi) ⟨f,x7,rfl,λy=>by simp⟩ ?_ ?_
   .rintro i d ρ hi' ⟨g,z7,rfl,hg⟩
    rw[List.getElem?_map]at hi';cases F:ns[i]? with
    |none=>simp[F]at hi'
    |some x=>
     obtain rfl:D.str x=d:=by simpa[F]using hi'
     have a2:=Vd F;have a7:=(List.getElem?_eq_some_iff.mp F).1;have a6:x∉ns.take i:=λz=>by
      obtain⟨j,hj,e⟩:=aaV.mp z;have:=(Wy (by omega:j<ns.length) nd).mp (show ns[j]? =ns[i]? by rw[F,Ug (by omega),e]);omega
     have a4:g x=f x:=by rw[hg x,Uq λz=>a6 z.1]
     have i3:=rM (m:=.brw) (vs:=g) a2;rw[a4]at i3;have a3:∀y,y∈ns.take (i+1)↔y∈ns.take i∨y=x:=λy=>by rw[aaP,F];simp
     by_cases e:f x=hi
     .have hu:=Th (g:=g) (v:=lo) (N:=N) (J:=J) (r:=[some (.str p.1),some (.str p.2),some (.int lo),some (.int hi),some (.str x)]) nd a2 hl
      simp[aU,fW,bf,eZ,w_ite,iY,cA,bW,dN,sIf,jw,eQ,gn,eO,eE,iT,jV,sFz,iV,kE,jK,tgN,tgT,aO,bM,fQ,tpN,tpT,dM,o5,ak,eC,aN,ao,eAp,eUp,jA,dI,ee2,cI,jt,e2,e1,eB,eeB,kJ,jG,eOr,kj,jY,pW,eTT,isB,je,itS,itE,jT,cX,cY,g_,eSl,o8,lR,jC,gA,gq,eMt,oZ,eIo,objs,fP,cG,clean,aD,aC,au,az,bB,bH,view,cW,mkV,mkF,fz,fzL,fzo,gf,mkO,fnP,fnI,en0,outs,fK,iG,obC,truth,sEx,aG,aV,aH,zW,i3,eq_int,e,hu];refine⟨_,_,rfl,λy=>?_⟩;simp only[upv,a3];by_cases hy:y=x
      .subst hy;rw[Uo rfl,Uo ⟨.inr rfl,e⟩]
      .rw[Uq hy,hg y];simp[hy]
     .simp_arith[sEx,aG,aV,aH,zW,i3,eq_int,e]
      refine⟨_,_,rfl,λy=>?_⟩;rw[hg y];simp only[a3];by_cases hy:y=x
      .subst hy;rw[Uq λz=>e z.2,Uq λz=>e z.2]
      .simp[hy]
   .rintro ρ ⟨g,z7,rfl,hg⟩
    refine⟨g,_,_,_,_,_,rfl,?_⟩;rw[aaP,V];refine Z.step (λq hq=>O q (ab2 hq)) p1 p2 a5 λy hy=>?_;rw[hg y,Ux,YD];simp[hy]
 rintro _ ⟨f,x3,x4,x5,x6,x7,rfl,Z⟩;rw[YD]at Z;simp[eO,aU];exact⟨f,rfl,Z⟩
theorem vQ{st:List Pr}(nd:ns.Nodup)(Y:ns.length<=40)(O:∀q∈st,q.1∈ns/\q.2∈ns)(N:D)(F:fz N= .lst .frz (ns.map D.str))(V:m≠.scr):∃f,cG bF [N,.lst m (st.map qrD)]=some (wD .own ns f)/\MkP ns st f:=by
 obtain⟨_,e,f,rfl,h⟩:=CT nd Y O;have h1:∀l:List Int,bN (l.map D.int)=true:=λl=>by induction l<;>simp_all [bN,bA]
 have z:fz (D.lst m (st.map qrD))= .lst .frz (st.map qrD):=by simp only[fz,Q5];cases m<;>first|rfl|exact absurd rfl V
 refine⟨f,?_,h⟩;simp only[cG,fzL,F,z,e,Ua];simp[wD,bA,h1]
theorem Ox{f g:En->Option Fl}(P:En->Prop)(R:D->En->Prop)(h1:∀N:Fl->Prop,(∀J,P J->N (.nx J))->(∀d J,R d J->N (.ret d J))->Wp (f ρ) N)(h2:∀J,P J->Wp (g J) Q)(F:∀d J,R d J->Q (.ret d J)):Wp (bj f g ρ) Q:=by
 rw[iY];exact h1 _ (λJ h=>h2 J h) λd J h=>F d J h
theorem Ot{l:List Int}{x:Int}:x∈wj l↔x∈l:=(qg l).mem_iff.trans FT
structure Zs(ns:List Str)(f:Str->Int)(k:Nat)(ks:List Key)(ds:List D):Prop where
 l:ks.length=ds.length
 n:ks.length<=k
 i:∀d∈ds,∃i:Int,d= .int i
 m:∀x∈ns.take k,XR (f x)∈ks
theorem Zs.at(h:Zs ns f k ks ds)(q:XR v∈ks):∃(j:Nat)(i:Int),dR ks (.inl v)=some j/\ds[j]? =some (.int i):=by
 obtain⟨j,h1,h2⟩:=Ko q;have U:j<ds.length:=by rw[←h.l];exact h2
 obtain⟨i,hi⟩:=h.i _ (WT U);exact⟨j,i,h1,by rw[Ug U,hi]⟩
theorem Zs.cl(h:Zs ns f k ks ds):au ds=true/\az ds=true/\(∀b,cW b ds=ds):=⟨dm λd hd=>by obtain⟨i,rfl⟩:=h.i d hd;rfl,dh λd hd=>by obtain⟨i,rfl⟩:=h.i d hd;rfl,λb=>by
 rw[ir]
 conv=>rhs;rw[←YS ds]
 exact Xf λd hd=>by obtain⟨i,rfl⟩:=h.i d hd;rfl⟩
theorem Zs.add(h:Zs ns f k ks ds)(F:ns[k]? =some x)(q:k<=100):∃c:Int,Ao (.dct .brw ks ds) [.int (f x),.int 0]=some (.int c)/\∃U J,gW (.dct .own ks ds) [.int (f x),.int (c+1)]=some (.dct .own U J,.non)/\Zs ns f (k+1) U J:=by
 have Z:∀y,y∈ns.take (k+1)↔y∈ns.take k∨y=x:=λy=>by rw[aaP,F];simp
 cases e:dR ks (.inl (f x))with
 |some j=>
  have N:XR (f x)∈ks:=by
   obtain⟨Y,q,_⟩:=Vl.mp e;have:ks[j]=XR (f x):=by simpa using q
   rw[←this];exact WT Y
  obtain⟨V,i,h1,h2⟩:=h.at N;rw[e]at h1;cases h1;refine⟨i,by simp[Ao,cZ,e,h2],ks,ds.set j (.int (i+1)),by simp only[gW,cZ,Ua,iH,e];rw[Uo (by have:=h.n;omega)],⟨by simp[h.l],by have:=h.n;omega,λd hd=>(List.mem_or_eq_of_mem_set hd).elim (h.i d) λz=>⟨_,z⟩,λy O=>?_⟩⟩;rcases(Z y).mp O with z|z
  .exact h.m y z
  .rw[z];exact N
 |none=>
  refine⟨0,by simp[Ao,cZ,e],ks++[.inl (f x)],ds++[.int (0+1)],by simp only[gW,cZ,Ua,iH,e];rw[Uo (by have:=h.n;omega)],⟨by simp[h.l],by have:=h.n;simp;omega,λd hd=>?_,λy O=>?_⟩⟩
  .rcases T_.mp hd with z|z
   .exact h.i d z
   .exact⟨_,UG.mp z⟩
  .rcases(Z y).mp O with z|z
   .exact Uh _ (h.m y z)
   .rw[z];simp
def PaI(M N W O:D)(ns:List Str)(f:Str->Int)(k:Nat)(ρ:En):Prop:=∃(ks:List Key)(ds:List D)(z:Option D),ρ=[some M,some N,some W,some O,some (.dct .own ks ds),z,none,none,none,none,none]/\Zs ns f k ks ds
def PbI(N W O Z:D)(z:Option D)(k:Nat)(ρ:En):Prop:=∃(a b:Int)(V F J U q:Option D),0<=a/\ρ=[some (tp a b),some N,some W,some O,some Z,z,V,F,J,U,q]
def PcI(N W O Z:D)(z:Option D)(m:Int)(k:Nat)(ρ:En):Prop:=∃(a b:Int)(F J U q:Option D),0<=a/\ρ=[some (tp a b),some N,some W,some O,some Z,z,some (.int m),F,J,U,q]
def PdR(ns:List Str)(d:D)(ρ:En):Prop:=∃(x y:Str)(a b:Int)(r:En),d= .tup [.str x,.str y]/\x∈ns/\y∈ns/\0<=a/\ρ=some (tp a b)::r
def Pq(ns:List Str)(N W:D)(q:D×List D):Prop:=∃(x y:Str)(a b:Int),q=(.tup [.str x,.str y],[tp a b,N,W])/\x∈ns/\y∈ns/\0<=a
theorem O7{m:Int}:fL (tpN 0) (eB (e2 gEq (e2 gIx (ak false 2) (ak false 0)) (ak false 1))) (ak false 0) [none,some (.int m),some (wD .frz ns f)] (ns.map D.str)=some ((ns.filter λy=>decide (f y=m)).map D.str):=by
 have go:∀l:List Str,(∀y∈l,y∈ns)->fL (tpN 0) (eB (e2 gEq (e2 gIx (ak false 2) (ak false 0)) (ak false 1))) (ak false 0) [none,some (.int m),some (wD .frz ns f)] (l.map D.str)=some ((l.filter λy=>decide (f y=m)).map D.str):=λl=>by
  induction l with
  |nil=>intro _;rfl
  |cons y r Z=>
   intro h;have N:=rM (m:=.frz) (vs:=f) (h y (by simp));rw[Um,fL,Z λz hz=>h z (by simp[hz])];by_cases e:f y=m
   .simp[tpN,eB,isB,e2,ak,HB,view,N,eq_int,e,Wt]
   .simp[tpN,eB,isB,e2,ak,HB,view,N,eq_int,e,Wt]
 exact go ns λ_ h=>h
theorem G_{a b:Int}(Y:0<=a)(hl:ns.length<=40)(hn:0<ns.length):Wp (dW [tp a b,.lst .frz (ns.map D.str),wD .frz ns f]) (Pq ns (.lst .frz (ns.map D.str)) (wD .frz ns f)):=by
 have N0:view false (D.lst .frz (ns.map D.str))= .lst .frz (ns.map D.str):=by simp[view,bO,mkV]
 have N1:cX (.lst .frz (ns.map D.str))=some (true,ns.map D.str):=by simp[cX,clean,aD,aC,dX,cM,lr]
 have N2:gG [.lst .frz (ns.map D.str)]=some (.int ns.length):=by simp[gG]
 have N3:∀i,gIx (.lst .frz (ns.map D.str)) (.int i)=atI (ns.map D.str) i:=λ_=>rfl;have W0:=HB (ns:=ns) (f:=f);have W1:∀x∈ns,gIx (wD .frz ns f) (.str x)=some (.int (f x)):=λx F=>rM F;have b7:fL (tpN 0) eTT (e2 gIx (ak false 1) (ak false 0)) [none,some (wD .frz ns f)] (ns.map D.str)=some ((ns.map f).map D.int):=by
  have go:∀l:List Str,(∀y∈l,y∈ns)->fL (tpN 0) eTT (e2 gIx (ak false 1) (ak false 0)) [none,some (wD .frz ns f)] (l.map D.str)=some ((l.map f).map D.int):=λl=>by
   induction l with
   |nil=>intro _;rfl
   |cons y r ih=>
    intro h;rw[Um,fL,ih λz hz=>h z (by simp[hz])];simp[tpN,eTT,e2,ak,W0,view,W1 y (h y (by simp))]
  exact go ns λ_ h=>h
 have a0:=λm=>O7 (ns:=ns) (f:=f) (m:=m);have q:jj [.lst .own ((ns.map f).map D.int)]=some (.lst .own ((wj (ns.map f)).map D.int)):=by
  have:l_ ((ns.map f).map D.int)=some (ns.map f):=by
   generalize ns.map f=l
   induction l with
   |nil=>rfl
   |cons x r ih=>simp[l_,ih]
  simp only[jj,this,Ua];rw[Uo (by simp;omega)]
 have b0:∀m,m∈wj (ns.map f)->∃x∈ns,f x=m:=λm V=>by simpa using Ot.mp V
 have d1:(wj (ns.map f)).length<=40:=by
  rw[(qg _).length_eq];have:=yX (ns.map f);rw[Ux]at this;omega
 have a9:(aD (D.lst .frz (ns.map D.str))=true/\aC (D.lst .frz (ns.map D.str))=true):=by simp[aD,aC,dX,cM]
 generalize wj (ns.map f)=zs at q b0 d1;generalize D.lst .frz (ns.map D.str)=N at N0 N1 N2 N3 a9;generalize wD .frz ns f=W at W0 W1 b7 a0;simp only[dW,fnI,en0,Uy,Vn,Um,Vy,Vt,Vj,bf,Nat.reduceAdd,Nat.reduceSub,U8,Vq];refine a_ (λρ=>ρ=[some (tp a b),some N,some W,some (.lst .own (zs.map D.int)),none,none,none,none,none,none,none]) (λQ hQ=>?_) ?_
 .have hfs:au ((ns.map f).map D.int)=true/\az ((ns.map f).map D.int)=true:=⟨jR _,jg _⟩
  generalize (ns.map f).map D.int=fs at b7 q hfs;simp[cA,eAp,ao,aN,cY,itS,ak,N0,N1,fK,b7,hfs,q,jR,jg,clean,aD,aC,show ns.length<=1000000 by omega,bf,eZ,aU,tgN];exact hQ _ rfl
 rintro _ rfl;refine a_ (λρ=>ρ=[some (tp a b),some N,some W,some (.lst .own (zs.map D.int)),some (.dct .own [] []),none,none,none,none,none,none]) (λQ hQ=>?_) ?_
 .simp_arith[sEx,aG,aV,aH,zO]
  exact hQ _ rfl
 rintro _ rfl;refine a_ (PaI (tp a b) N W (.lst .own (zs.map D.int)) ns f ns.length) (λQ hQ=>?_) ?_
 .simp[iT,itS,ak,N0,N1,bf,aU]
  refine oM (PaI (tp a b) N W (.lst .own (zs.map D.int)) ns f) ⟨[],[],none,rfl,rfl,by simp,by simp,by simp⟩ ?_ (λρ h=>hQ _ (by simpa using h));rintro k d ρ c4 ⟨ks,ds,x5,rfl,hz⟩;rw[List.getElem?_map]at c4;cases F:ns[k]? with
  |none=>simp[F]at c4
  |some x=>
   obtain rfl:D.str x=d:=by simpa[F]using c4
   have d8:=(List.getElem?_eq_some_iff.mp F).1;have w1:=W1 x (Vd F);obtain⟨c,g1,d3,d7,g2,d4⟩:=hz.add F (by omega);obtain⟨c1,c2,c3⟩:=hz.cl;simp[cA,e2,eMt,ak,ao,aN,eC,view,c3,W0,w1,mkV,g1,gQ,bf,eZ,aU,tgN,fQ,dM,upS,e_,eV,g2,au,az,aD,aC,clean];exact⟨d3,d7,_,rfl,d4⟩
 rintro _ ⟨ks,ds,x5,rfl,hz⟩;have d5:∀m∈zs,∃(j:Nat)(i:Int),dR ks (.inl m)=some j/\ds[j]? =some (.int i):=λm V=>by
  obtain⟨x,F,rfl⟩:=b0 m V;exact hz.at (hz.m x (by rw[YD];exact F))
 obtain⟨c1,c2,c3⟩:=hz.cl;have Z0:view false (D.dct .own ks ds)= .dct .brw ks ds:=by simp[view,c3,mkV]
 have Z1:∀m∈zs,∃i:Int,gIx (.dct .brw ks ds) (.int m)=some (.int i):=λm V=>by
  obtain⟨j,i,h1,h2⟩:=d5 m V;exact⟨i,by simp[gIx,cZ,h1,h2]⟩
 generalize hZ:D.dct .own ks ds=Z at Z0;generalize d9:D.dct .brw ks ds=Zb at Z0 Z1;have d2:∀(x y:Str)(a b:Int)(r:En),x∈ns->y∈ns->0<=a->PdR ns (.tup [.str x,.str y]) (some (tp a b)::r):=λx y a b r h1 h2 h3=>⟨x,y,a,b,r,rfl,h1,h2,h3,rfl⟩;refine Ox (λρ=>∃(a b:Int)(O:D)(r:En),0<=a/\ρ=some (tp a b)::some N::r) (PdR ns) (λQ hQ hR=>?_) ?_ ?_
 .simp[aU,fW,bf,eZ,w_ite,iY,cA,bW,dN,sIf,jw,eQ,gn,eO,eE,jV,kE,jK,upS,tgN,tgT,aO,bM,fQ,tpN,tpT,dM,o5,ak,eC,aN,ao,eAp,eUp,jA,dI,ee2,cI,jt,e2,e1,eB,eeB,kJ,jG,eOr,kj,jY,pW,eTT,isB,je,itS,itE,jT,cX,cY,g_,eSl,o8,lR,jC,gA,gq,eMt,oZ,eIo,objs,fP,cG,e_,eV,clean,aD,aC,au,az,bB,bH,view,cW,mkV,mkF,fz,fzL,fzo,gf,mkO,fnP,fnI,en0,outs,fK,iG,obC,truth,sEx,aG,aV,aH]
  refine lG Y (by omega) (by omega) λr a1 b1 p1 q1 s1=>?_;simp[aU,fW,bf,eZ,w_ite,iY,cA,bW,dN,sIf,jw,eQ,gn,eO,eE,jV,kE,jK,upS,tgN,tgT,aO,bM,fQ,tpN,tpT,dM,o5,ak,eC,aN,ao,eAp,eUp,jA,dI,ee2,cI,jt,e2,e1,eB,eeB,kJ,jG,eOr,kj,jY,pW,eTT,isB,je,itS,itE,jT,cX,cY,g_,eSl,o8,lR,jC,gA,gq,eMt,oZ,eIo,objs,fP,cG,e_,eV,clean,aD,aC,au,az,bB,bH,view,cW,mkV,mkF,fz,fzL,fzo,gf,mkO,fnP,fnI,en0,outs,fK,iG,obC,truth,sEx,aG,aV,aH,eq_int];split
  .have O1:cX (.lst .frz (zs.map D.int))=some (true,zs.map D.int):=by
    have:gf (zs.map D.int)=zs.map D.int:=by rw[mG,Vg];rfl
    simp[cX,clean,aD,aC,jR,jg,this]
   have O0:view false (D.lst .frz (zs.map D.int))= .lst .frz (zs.map D.int):=by simp[view,iB,mkV]
   have O2:fz (D.lst .own (zs.map D.int))= .lst .frz (zs.map D.int):=by simp[fz,nq,mkF]
   have O3:fz (D.lst .frz (zs.map D.int))= .lst .frz (zs.map D.int):=by simp[fz,nq,mkF]
   generalize D.lst .frz (zs.map D.int)=O at O0 O1 O2 O3;simp[sFz,iV,O2,iT,itS,ak,O0,O1,bf,aU];refine oM (PbI N W O Z x5) ⟨a1,b1,none,none,none,none,none,s1,rfl⟩ ?_ (λρ ⟨a,b,y6,y7,y8,y9,d6,h,e⟩=>hQ _ ⟨a,b,O,_,h,e⟩);rintro i d ρ hi ⟨a2,b2,x6,x7,x8,x9,d0,s2,rfl⟩;rw[List.getElem?_map]at hi;cases V:zs[i]? with
   |none=>simp[V]at hi
   |some m=>
    obtain rfl:D.int m=d:=by simpa[V]using hi
    have c7:=Vd V;simp[sFz,iV,O3,iT,itS,ak,O0,O1,bf,aU,tgN,clean,aD,aC];refine oM (PcI N W O Z x5 m) ⟨a2,b2,x7,x8,x9,d0,s2,rfl⟩ ?_ (λρ ⟨a,b,y7,y8,y9,d6,h,e⟩=>⟨a,b,_,_,_,_,_,h,e⟩);rintro j d ρ U ⟨a3,b3,z7,z8,z9,b6,s3,rfl⟩;rw[List.getElem?_map]at U;cases c0:zs[j]? with
    |none=>simp[c0]at U
    |some m'=>
     obtain rfl:D.int m'=d:=by simpa[c0]using U
     have a8:=Vd c0;obtain⟨v1,c6⟩:=Z1 m c7;obtain⟨v2,c5⟩:=Z1 m' a8;have skip:PcI N W O Z x5 m (j+1) [some (tp a3 b3),some N,some W,some O,some Z,x5,some (.int m),some (.int m'),z8,z9,b6]:=⟨a3,b3,_,_,_,_,s3,rfl⟩;have a7:∀m∈zs,0<(ns.filter λy=>decide (f y=m)).length:=λm V=>by
      obtain⟨x,F,e⟩:=b0 m V;exact abB (Z3.mpr ⟨F,by simpa using e⟩)
     have c9:∀m,(ns.filter λy=>decide (f y=m)).length<=40:=λm=>V2 (ZW _ _) hl;have c8:∀{m x},x∈(ns.filter λy=>decide (f y=m))->x∈ns:=λh=>(Z3.mp h).1;have k1:=a0 m;have k2:=a0 m';have l1:=a7 m c7;have l2:=a7 m' a8;have l3:=c9 m;have l4:=c9 m';have f1:=λx=>c8 (m:=m) (x:=x);have f2:=λx=>c8 (m:=m') (x:=x);generalize (ns.filter λy=>decide (f y=m))=g1 at k1 l1 l3 f1;generalize (ns.filter λy=>decide (f y=m'))=g2 at k2 l2 l4 f2;have S1:∀g:List Str,gG [.lst .brw (g.map D.str)]=some (.int g.length):=λg=>by simp[gG]
     by_cases J:m<m'/\v1=v2
     case neg=>
      by_cases a6:m<m'
      .have hc2:v1≠v2:=λe=>J ⟨a6,e⟩
       simp[sIf,jG,eB,e2,ak,view,isB,gLt,a6,Z0,c6,c5,eq_int,hc2,eE,bf,eZ,aU,w_ite,tgN,clean,aD,aC];exact skip
      .simp[sIf,jG,eB,e2,ak,view,isB,gLt,a6,eE,bf,eZ,aU,w_ite,tgN,clean,aD,aC]
       exact skip
     obtain⟨a6,rfl⟩:=J;simp[sIf,jG,eB,e2,ak,view,isB,gLt,a6,Z0,c6,c5,eq_int,bf,eZ,aU,w_ite,tgN,clean,aD,aC];refine a_ (λρ=>ρ=[some (tp a3 b3),some N,some W,some O,some Z,x5,some (.int m),some (.int m'),some (.lst .own (g1.map D.str)),z9,b6]) (λQ hQ=>?_) ?_
     .simp[cA,cY,itS,ak,N0,N1,fK,k1,show ns.length<=1000000 by omega,bf,eZ,aU,tgN,clean,aD,aC,dX,cM]
      exact hQ _ rfl
     rintro _ rfl;refine a_ (λρ=>ρ=[some (tp a3 b3),some N,some W,some O,some Z,x5,some (.int m),some (.int m'),some (.lst .own (g1.map D.str)),some (.lst .own (g2.map D.str)),b6]) (λQ hQ=>?_) ?_
     .simp[cA,cY,itS,ak,N0,N1,fK,k2,show ns.length<=1000000 by omega,bf,eZ,aU,tgN,clean,aD,aC,dX,cM]
      exact hQ _ rfl
     rintro _ rfl;refine a_ (λρ=>∃(x:Str)(a b:Int),x∈ns/\0<=a/\ρ=[some (tp a b),some N,some W,some O,some Z,x5,some (.int m),some (.int m'),some (.lst .own (g1.map D.str)),some (.lst .own (g2.map D.str)),some (.str x)]) (λQ hQ=>?_) ?_
     .simp_arith[sEx,aG,aV,aH,bO,S1]
      refine lG s3 (by omega) (by omega) λr a4 b4 p4 q4 s4=>?_;obtain⟨x,F,_,b9⟩:=pL (f:=D.str) (l:=g1) p4 q4;simp_arith[sEx,aG,aV,aH,gIx,b9,cM];exact hQ _ ⟨x,a4,b4,f1 x F,s4,rfl⟩
     rintro _ ⟨x,a4,b4,F,s4,rfl⟩;simp_arith[sEx,aG,aV,aH,bO,S1];refine lG s4 (by omega) (by omega) λr a5 b5 p5 q5 s5=>?_;obtain⟨y,hy,_,b8⟩:=pL (f:=D.str) (l:=g2) p5 q5;simp_arith[sEx,aG,aV,aH,gIx,b8,fO,cM];exact hR _ _ (d2 x y a5 b5 _ F (f2 y hy) s5)
  .exact hQ _ ⟨a1,b1,N,_,s1,rfl⟩
 .rintro _ ⟨a1,b1,O,r,s1,rfl⟩
  simp_arith[sEx,aG,aV,aH,N0,N2];refine lG s1 (by omega) (by omega) λr1 a2 b2 p2 q2 s2=>?_;obtain⟨x,F,_,b9⟩:=pL (f:=D.str) (l:=ns) p2 q2;simp_arith[sEx,aG,aV,aH,N0,N2,N3,b9,a9];refine lG s2 (by omega) (by omega) λr2 a3 b3 p3 q3 s3=>?_;obtain⟨y,hy,_,b8⟩:=pL (f:=D.str) (l:=ns) p3 q3;simp_arith[sEx,aG,aV,aH,N3,b8,fO,a9];exact⟨x,y,a3,b3,rfl,F,hy,s3⟩
 .rintro d _ ⟨x,y,a1,b1,r,rfl,F,hy,s1,rfl⟩
  simp_arith[sEx,aG,aV,aH];exact⟨x,y,a1,b1,rfl,F,hy,s1⟩
theorem sr:d7 "Stack" "looks" bx (skD .bro ns s) []=some (.int s.lk):=by
 have e:bx [skD .frz ns s]=some (.int s.lk):=by
  apply Wp.eq;simp_arith[bx,sEx,aG,aV,aH,uR,gf5]
 simp only[d7,rK (m:=.bro) (by decide) (show dO jh "looks"=none by decide),Vj,cG,fzL,Li,e,Ua,bA];simp
def TgW(ns:List Str)(s:Sk)(R:Str->Str)(P:Str->Nat)(x y:Str)(q:D×List D):Prop:=∃lk:Int,q=(.bl (decide (R x=R y)),[skD .own ns {s with lk:=lk},.str x,.str y])/\LkB P x y lk
theorem zY(h:Ok ns s)(V:Pot s.bs R P)(F:x∈ns)(O:y∈ns):Wp (bK [skD .own ns s,.str x,.str y]) (TgW ns s R P x y):=by
 simp_arith[bK,sEx,aG,aV,aH,kW,rK (m:=.own) (by decide) (show dO jh "steps"=none by decide),fzL,fz];refine Wp.mono (wz h V F O) ?_;rintro _ ⟨lk,rfl,N⟩;by_cases e:R x=R y
 .simp_arith[sEx,aG,aV,aH,stp,e,rO,g8,iD]
  exact⟨lk,by simp[e],N⟩
 .simp_arith[sEx,aG,aV,aH,stp,e,rO,g8,iD]
  exact⟨lk,by simp[e],N⟩
theorem Sg{a b:Bool}(h:a=b):gNe (.bl a) (.bl b)=some (.bl false):=by
 subst h;unfold gNe;rw[Uo ⟨rfl,rfl,.sc (.bl a a)⟩];simp[dt,eqD]
theorem Nf{n:Int}:∀(l:List Int)(m:Int),m<=n->(∀x∈l,x<=n)->PySem.mx m l<=n
 |[],m,h,_=>h
 |x::r,m,h,hr=>by
  rw[PySem.mx,Wr];refine Nf r _ ?_ λy O=>hr y (by simp[O]);split
  .exact hr x (by simp)
  .exact h
variable{m:Nat}
theorem Ab(h:Gi ns t s R P)(V:ns.length<2 ^ m)(F:x∈ns):P x+1<=m:=by
 have h1:=h.d x F;have h2:szR ns R (R x)<=ns.length:=by
  unfold szR;have:=ZW (λy=>decide (R y=R x)) ns;omega
 have q:2 ^ P x<2 ^ m:=by omega
 exact(Nat.pow_lt_pow_iff_right (by omega)).mp q
theorem Ge(O:Ok ns s)(h:Gi ns t s R P)(V:ns.length<2 ^ m):∀l:List Str,(∀y∈l,y∈ns)->∃q:List Int,fL (tpN 0) eTT (eAp gG (ao (eMt (d7 "Stack" "chain" aQ) (ak true 1) (ao (ak false 0) aN)) aN)) [none,some (skD .own ns s)] (l.map D.str)=some (q.map D.int)/\q.length=l.length/\∀v∈q,v<=m
 |[],_=>⟨[],rfl,rfl,by simp⟩
 |y::r,hy=>by
  obtain⟨q,e,h1,h2⟩:=Ge O h V r λz hz=>hy z (by simp[hz]);have F:=hy y (by simp);obtain⟨pre,c,g⟩:=pU O h.p F;have hd:=Ab h V F;have J:=(tY h.p c.2.2.1 _ _ _ c.1).2;have N:gG [.lst .own ((pre++[R y]).map D.str)]=some (.int ((pre.length+1:Nat):Int)):=by simp[gG]
  refine⟨((pre.length+1:Nat):Int)::q,?_,by simp[h1],λv U=>?_⟩
  .rw[Um,fL,e]
   simp only[tpN,eTT,eAp,ao,aN,eMt,ak,clean,aD,aC,acA,List.getElem?_cons_zero,Zk,Ua,W7,lD,view,g,N,Vj,Bool.and_self];rfl
  .rcases Uj.mp U with z|z
   .rw[z];omega
   .exact h2 v z
def stO(dn:List Dj):List Pr:=dn.map λd=>(d.1,d.2.1)
def LwP(S:D)(ns:List Str)(m:Nat)(a b:Int)(s:Sk)(dn:List Dj)(V F J U q z:Option D):En:=[some S,some (tp a b),some (.lst .own (ns.map D.str)),some (skD .own ns s),some (.lst .own ((stO dn).map qrD)),some (.int (2*(m:Int))),V,F,J,U,q,z]
def LwI(S:D)(ns:List Str)(m:Nat)(t:Int)(k:Nat)(ρ:En):Prop:=∃(a b:Int)(s:Sk)(R:Str->Str)(P:Str->Nat)(V F J U q z:Option D),ρ=LwP S ns m a b s s.dn V F J U q z/\0<=a/\Gd ns t s R P/\s.dn.length<=k
theorem M6(h:Gi ns t s R P):∀q∈stO s.dn,q.1∈ns/\q.2∈ns:=λq O=>by
 obtain⟨d,hd,rfl⟩:=Uw.mp O;exact⟨(h.j d hd).1,(h.j d hd).2.1⟩
theorem JT(h:Gi ns t s R P)(Z:MkP ns (stO s.dn) f)(F:x∈ns)(O:y∈ns):decide (R x=R y)=decide (f x=f y):=by
 rw[decide_eq_decide];refine⟨λe=>h.c f (λd hd=>Z.j (d.1,d.2.1) (Uw.mpr ⟨d,hd,rfl⟩)) x F y O e,λe=>Z.c R (λp V=>?_) x F y O e⟩;obtain⟨d,hd,rfl⟩:=Uw.mp V;exact(h.j d hd).2.2
theorem Ri(dn:List Dj):cutD ((stO dn).map qrD) none (some (-1))=(stO dn.dropLast).map qrD:=by
 rcases abQ dn with rfl|⟨l,d,rfl⟩
 .rfl
 .rw[abR]
  simp only[stO,Vr,Um,Vy,List.dropLast_concat];exact Ey
theorem Jo(zs:List Int)(hz:zs.length<=63):lJ [.lst .scr (zs.map D.int)]=some (.bl true):=by
 apply Wp.eq;have S0:∀b,view b (D.lst .scr (zs.map D.int))= .lst .scr (zs.map D.int):=λb=>by cases b<;>simp[view,iB,mkV]
 have S1:fz (D.lst .scr (zs.map D.int))= .lst .scr (zs.map D.int):=by simp[fz,nq,mkF]
 have S2:aD (D.lst .scr (zs.map D.int))=true/\aC (D.lst .scr (zs.map D.int))=true:=by simp[aD,aC,jR,jg]
 have S3:gG [.lst .scr (zs.map D.int)]=some (.int zs.length):=by simp[gG]
 have a5:∀(k:Int)(Q:D->Prop),0<=k->k<=100->(∀a b,0<=a->Q (tp a b))->Wp (cU [.lst .scr (zs.map D.int),.int k]) Q:=λk Q h1 h2 J=>Wp.mono (QH h1 h2) λd ⟨a,b,e,h⟩=>e▸J a b h;generalize hS:D.lst .scr (zs.map D.int)=S at S0 S1 S2 S3 a5;simp only[lJ,fnP,en0,Uy,Vn,Um,Vy,Vt,Vj,bf,Nat.reduceAdd,Nat.reduceSub,U8,Vq];refine a_ (λρ=>∃a b:Int,0<=a/\ρ=[some S,some (tp a b),none,none,none,none,none,none,none,none,none,none]) (λQ J=>?_) ?_
 .simp_arith[sEx,aG,aV,aH,S0,S1,S2]
  refine a5 0 _ (by omega) (by omega) λa b Y=>?_;simp[aD,aC,au,az,aU];exact J _ ⟨a,b,Y,rfl⟩
 rintro _ ⟨a,b,Y,rfl⟩;refine a_ (λρ=>∃(ns:List Str)(a b:Int),(∀x∈ns,x∈jH)/\ns.Nodup/\ns.length<=40/\0<ns.length/\0<=a/\ρ=[some S,some (tp a b),some (.lst .own (ns.map D.str)),none,none,none,none,none,none,none,none,none]) (λQ J=>?_) ?_
 .simp_arith[sEx,aG,aV,aH]
  refine Wp.mono (KQ Y) ?_;rintro _ ⟨n,a',b',rfl,h1,h2,h3⟩;have c1:(jH.take n).length=n:=by rw[WR,show jH.length=40 from rfl];omega
  have a8:∀x∈jH.take n,x∈jH:=λx F=>ab2 F;have b5:=(acE n jH).nodup Tr;generalize jH.take n=ns at c1 a8 b5;simp_arith[sEx,aG,aV,aH,dX,cM];exact J _ ⟨ns,a',b',a8,b5,by omega,by omega,h3,rfl⟩
 clear Y a b;rintro _ ⟨ns,a,b,N,nd,hl,b2,Y,rfl⟩;have N0:view false (D.lst .own (ns.map D.str))= .lst .brw (ns.map D.str):=by simp[view,bO,mkV]
 have N1:fz (D.lst .brw (ns.map D.str))= .lst .frz (ns.map D.str):=by simp[fz,lC,mkF]
 have N2:cX (.lst .brw (ns.map D.str))=some (false,ns.map D.str):=by simp[cX,clean,aD,aC,dX,cM,lr]
 refine a_ (λρ=>∃(t a b:Int),(0<=t/\t<=1000)/\0<=a/\ρ=[some S,some (tp a b),some (.lst .own (ns.map D.str)),some (skD .own ns (sk0 t ns)),none,none,none,none,none,none,none,none]) (λQ J=>?_) ?_
 .have hmk:=λt=>QT (t:=t) N nd hl
  simp_arith[sEx,aG,aV,aH,bO,Cr,gF,dX,cM];refine lG Y (by omega) (by omega) λr a1 b1 p1 q1 s1=>?_;have Z:r=0∨r=1∨r=2∨r=3:=by omega
  rcases Z with rfl|rfl|rfl|rfl<;>simp_arith[sEx,aG,aV,aH,gIx,atI,ixN,hmk,Tv,dX,cM]
  .exact J _ ⟨0,a1,b1,by omega,s1,rfl⟩
  .exact J _ ⟨1,a1,b1,by omega,s1,rfl⟩
  .exact J _ ⟨2,a1,b1,by omega,s1,rfl⟩
  .exact J _ ⟨7,a1,b1,by omega,s1,rfl⟩
 clear Y a b;rintro _ ⟨t,a,b,ht,Y,rfl⟩;refine a_ (λρ=>ρ=[some S,some (tp a b),some (.lst .own (ns.map D.str)),some (skD .own ns (sk0 t ns)),some (.lst .own []),none,none,none,none,none,none,none]) (λQ J=>?_) ?_
 .simp_arith[sEx,aG,aV,aH,gF]
  exact J _ rfl
 rintro _ rfl;refine a_ (λρ=>∃m:Nat,ns.length<2 ^ m/\m<=100/\ρ=LwP S ns m a b (sk0 t ns) (sk0 t ns).dn none none none none none none) (λQ J=>?_) ?_
 .obtain⟨_,ef,m,rfl,h1,h2⟩:=QC hl
  simp_arith[sEx,aG,aV,aH,bO,gG,ef,qM,bA];exact J _ ⟨m,h1,h2,rfl⟩
 rintro _ ⟨m,V,c8,rfl⟩;refine a_ (λ_=>True) (λQ J=>?_) ?_
 .obtain⟨K,hN,hN2⟩:∃K:Nat,20+(if(zs.length:Int)<60 then(zs.length:Int)else 60)=(K:Int)/\K<=80:=⟨(20+(if(zs.length:Int)<60 then(zs.length:Int)else 60)).toNat,by split<;>omega,by split<;>omega⟩
  have Z:je (ao (e2 gQ (eC (.int 20)) (eAp uT (ao (eC (.int 60)) (ao (eAp gG (ao (ak false 0) aN)) aN)))) aN) (LwP S ns m a b (sk0 t ns) (sk0 t ns).dn none none none none none none)=some (true,jf 0 K):=Ip (by
   rw[←hN];simp[LwP,ao,aN,eAp,e2,eC,ak,S0,S3,uT,gQ]) (by omega)
  simp only[iT,Z,Ua];refine oM (LwI S ns m t) ⟨a,b,sk0 t ns,id,λ_=>0,_,_,_,_,_,_,rfl,Y,.nil 0,by simp[sk0]⟩ ?_ (λρ _=>J ρ trivial);clear Z Y a b J;rintro k d ρ q ⟨a,b,s,R,P,x6,x7,x8,x9,a2,a0,rfl,Y,hG,a6⟩;obtain⟨c7,rfl⟩:=Bq q;simp only[LwP,tgN,clean,aD,aC,Bool.and_self,Vj,aU,Zc,acA];refine a_ (λρ=>∃a b:Int,0<=a/\ρ=LwP S ns m a b s s.dn (some (.int k)) x7 x8 x9 a2 a0) (λQ J=>?_) ?_
  .simp_arith[sEx,aG,aV,aH,S0,S1,S2,gQ]
   refine a5 _ _ (by omega) (by omega) λa b Y=>?_;simp[aD,aC,au,az,aU];exact J _ ⟨a,b,Y,rfl⟩
  clear Y a b;rintro _ ⟨a,b,Y,rfl⟩;refine a_ (λρ=>∃(a b:Int)(s:Sk)(R:Str->Str)(P:Str->Nat),ρ=LwP S ns m a b s s.dn (some (.int k)) x7 x8 x9 a2 a0/\0<=a/\Gd ns t s R P/\s.dn.length<=k) (λQ J=>?_) ?_
  .simp_arith[sEx,aG,aV,aH,LwP]
   refine lG Y (by omega) (by omega) λr a1 b1 p1 q1 s1=>?_;simp_arith[sEx,aG,aV,aH,eq_int];split
   .simp_arith[sEx,aG,aV,aH,kW,rK (m:=.own) (by decide) (show dO jh "back"=none by decide)]
    refine Wp.mono (Qe nd hG hl) ?_;rintro _ ⟨v,s',R',P',rfl,e,o⟩;simp_arith[sEx,aG,aV,aH,Cm,j6,gSl,Ri,Nb,M7];rw[←e];exact J _ ⟨a1,b1,s',R',P',rfl,s1,o,by rw[e,abU];omega⟩
   .exact J _ ⟨a1,b1,s,R,P,rfl,s1,hG,a6⟩
  clear hG a6 Y a b R P s;rintro _ ⟨a,b,s,R,P,rfl,Y,hG,a6⟩;have hi:=hG.gi nd;obtain⟨f,ef,hf⟩:=vQ (m:=.brw) nd hl (M6 hi) _ N1 (by decide);refine a_ (λρ=>ρ=LwP S ns m a b s s.dn (some (.int k)) (some (wD .own ns f)) x8 x9 a2 a0) (λQ J=>?_) ?_
  .simp[LwP,cA,eAp,ao,aN,ak,view,bO,Cm,mkV,ef,NK,clean,bf,eZ,aU,tgN]
   exact J _ rfl
  rintro _ rfl;have W0:∀f,fz (wD .brw ns f)=wD .frz ns f:=λf=>by simp[wD,fz,nq,mkF]
  have W1:∀f,aC (wD .brw ns f)=true:=λf=>by simp[wD,aC,jg]
  refine a_ (λρ=>∃(x y:Str)(a b:Int),x∈ns/\y∈ns/\0<=a/\ρ=LwP S ns m a b s s.dn (some (.int k)) (some (wD .own ns f)) (some (.str x)) (some (.str y)) a2 a0) (λQ J=>?_) ?_
  .simp_arith[sEx,aG,aV,aH,LwP,bO,zW,W0,W1,lC,cM]
   refine Wp.mono (G_ Y hl b2) ?_;rintro _ ⟨x,y,a1,b1,rfl,F,O,s1⟩;simp_arith[sEx,aG,aV,aH,bA,bN];exact J _ ⟨x,y,a1,b1,F,O,s1,rfl⟩
  clear Y a b hf ef;rintro _ ⟨x,y,a,b,F,O,Y,rfl⟩;have U:∀{s:Sk}{R:Str->Str}{P:Str->Nat}{x y:Str}{lk:Int},Gi ns t s R P->x∈ns->y∈ns->LkB P x y lk->(1+if x=y then(0:Int)else 1)<=lk/\lk<=2*(m:Int)/\0<=lk:=λ{s R P x y lk} h F O a3=>by
   have h1:=Ab h V F;have h2:=Ab h V O;obtain⟨h3,h4⟩:=a3;refine⟨h3,by omega,?_⟩;split at h3<;>omega
  refine a_ (λρ=>∃(h:Option Str)(s':Sk)(R':Str->Str)(P':Str->Nat),s'.dn=s.dn++[(x,y,h)]/\Gd ns t s' R' P'/\ρ=LwP S ns m a b s' s.dn (some (.int k)) (some (wD .own ns f)) (some (.str x)) (some (.str y)) a2 a0) (λQ J=>?_) ?_
  .simp_arith[sEx,aG,aV,aH,LwP,IV,kW,rK (m:=.own) (by decide) (show dO jh "join"=none by decide)]
   refine Wp.mono (Ov nd hG ht hl F O (by omega)) ?_;rintro _ ⟨w,n,h,s',R',P',rfl,hw,e,a7,a3⟩;obtain⟨l1,l2,_⟩:=U hi F O a3;have c3:∃i:Int,(if(!decide (x=y))=true then(1:Int)else 0)=i/\1+i<=s'.lk:=⟨_,rfl,by
    by_cases e:x=y
    .simp[e]at l1⊢;exact l1
    .simp[e]at l1⊢;exact l1⟩
   obtain⟨i,c2,b0⟩:=c3;have z:yo [.bl (!decide (x=y))]=some (.int i):=by rw[←c2];rfl
   simp_arith[sEx,aG,aV,aH,gIx,atI,ixN,eq_str,hw,oR,ne_str,z,gQ,gLe,lD,sr,Hf,b0,l2];exact J _ ⟨h,s',R',P',e,a7,rfl⟩
  rintro _ ⟨h,s',R',P',e,a7,rfl⟩;refine a_ (λρ=>ρ=LwP S ns m a b s' s'.dn (some (.int k)) (some (wD .own ns f)) (some (.str x)) (some (.str y)) a2 a0) (λQ J=>?_) ?_
  .have hsl:(stO s.dn).length<=1000:=by simp[stO];omega
   have b8:(stO s.dn).map qrD++[D.tup [.str x,.str y]]=(stO s'.dn).map qrD:=by rw[e];simp[stO,qrD]
   simp_arith[sEx,aG,aV,aH,LwP,fO,eF];refine⟨by omega,?_⟩;rw[b8];exact J _ rfl
  rintro _ rfl;have b6:s'.dn.length<=k+1:=by rw[e];simp;omega
  clear hG a6 hi e R P s;have hi:=a7.gi nd;obtain⟨f2,ef,hf⟩:=vQ (m:=.brw) nd hl (M6 hi) _ N1 (by decide);refine a_ (λρ=>ρ=LwP S ns m a b s' s'.dn (some (.int k)) (some (wD .own ns f2)) (some (.str x)) (some (.str y)) a2 a0) (λQ J=>?_) ?_
  .simp[LwP,cA,eAp,ao,aN,ak,view,bO,Cm,mkV,ef,NK,clean,bf,eZ,aU,tgN]
   exact J _ rfl
  rintro _ rfl;refine a_ (λρ=>∃(x y:Str)(a b:Int),x∈ns/\y∈ns/\0<=a/\ρ=LwP S ns m a b s' s'.dn (some (.int k)) (some (wD .own ns f2)) (some (.str x)) (some (.str y)) a2 a0) (λQ J=>?_) ?_
  .simp_arith[sEx,aG,aV,aH,LwP,bO,zW,W0,W1,lC,cM]
   refine Wp.mono (G_ Y hl b2) ?_;rintro _ ⟨x,y,a1,b1,rfl,F,O,s1⟩;simp_arith[sEx,aG,aV,aH,bA,bN];exact J _ ⟨x,y,a1,b1,F,O,s1,rfl⟩
  clear Y a b F O x y;rintro _ ⟨x,y,a,b,F,O,Y,rfl⟩;have hok:=hi.ok ht hl (by omega);refine a_ (λρ=>∃lk:Int,lk<=2*(m:Int)/\0<=lk/\ρ=LwP S ns m a b {s' with lk:=lk} s'.dn (some (.int k)) (some (wD .own ns f2)) (some (.str x)) (some (.str y)) a2 a0) (λQ J=>?_) ?_
  .simp_arith[sEx,aG,aV,aH,LwP,kW,rK (m:=.own) (by decide) (show dO jh "together"=none by decide)]
   refine Wp.mono (zY hok hi.p F O) ?_;rintro _ ⟨lk,rfl,a3⟩;obtain⟨_,l2,l3⟩:=U hi F O a3;have i1:=rM (m:=.brw) (vs:=f2) F;have i2:=rM (m:=.brw) (vs:=f2) O;have c6:=Sg (JT hi hf F O);simp_arith[sEx,aG,aV,aH,zW,i1,i2,eq_int,c6];exact J _ ⟨lk,l2,l3,rfl⟩
  rintro _ ⟨lk,l2,l3,rfl⟩;refine a_ (λρ=>ρ=LwP S ns m a b {s' with lk:=lk} s'.dn (some (.int k)) (some (wD .own ns f2)) (some (.str x)) (some (.str y)) a2 a0) (λQ J=>?_) ?_
  .simp_arith[sEx,aG,aV,aH,LwP,oR,gLe,lD,sr,Hf,l2,l3]
   exact J _ rfl
  rintro _ rfl;clear l2 l3;have a4:Ok ns {s' with lk:=lk}:=⟨hok.b,hok.t,hok.l,hok.m⟩;refine a_ (λρ=>∃lk:Int,lk<=2*(m:Int)/\ρ=LwP S ns m a b {s' with lk:=lk} s'.dn (some (.int k)) (some (wD .own ns f2)) (some (.str x)) (some (.str y)) (some (rO (stp R' x y))) a0) (λQ J=>?_) ?_
  .simp_arith[sEx,aG,aV,aH,LwP,kW,rK (m:=.own) (by decide) (show dO jh "steps"=none by decide)]
   refine Wp.mono (wz a4 hi.p F O) ?_;rintro _ ⟨lk,rfl,a3⟩;obtain⟨_,l2,l3⟩:=U hi F O a3;have:aD (rO (stp R' x y))=true/\aC (rO (stp R' x y))=true:=by cases stp R' x y<;>exact⟨rfl,rfl⟩
   simp_arith[sEx,aG,aV,aH,this];exact J _ ⟨lk,l2,rfl⟩
  clear a4 lk;rintro _ ⟨lk,l2,rfl⟩;have b4:=a7.lk lk;have b0:=b4.gi nd;have a4:Ok ns {s' with lk:=lk}:=⟨hok.b,hok.t,hok.l,hok.m⟩;refine a_ (λρ=>ρ=LwP S ns m a b {s' with lk:=lk} s'.dn (some (.int k)) (some (wD .own ns f2)) (some (.str x)) (some (.str y)) (some (rO (stp R' x y))) a0) (λQ J=>?_) ?_
  .have l4:¬2*(m:Int)<lk:=by omega
   by_cases hR:R' x=R' y
   .have ni:gNe (.int 0) (.int 0)=some (.bl false):=by
     unfold gNe;rw[Uo ⟨rfl,rfl,.sc (.int 0 0)⟩];simp[dt,eqD]
    have c5:o6 [.int 0,.ty "bool"]=some (.bl false):=rfl;simp_arith[sEx,aG,aV,aH,LwP,stp,hR,rO,g8,iD,c5,ni,gGt,lD,sr,l4];exact J _ (by simp[LwP,stp,hR,rO])
   .simp_arith[sEx,aG,aV,aH,LwP,stp,hR,rO,g8,iD,gGt,lD,sr,l4]
    exact J _ (by simp[LwP,stp,hR,rO])
  rintro _ rfl;have a9:∀a0,LwI S ns m t (k+1) (LwP S ns m a b {s' with lk:=lk} s'.dn (some (.int k)) (some (wD .own ns f2)) (some (.str x)) (some (.str y)) (some (rO (stp R' x y))) a0):=λa0=>⟨a,b,{s' with lk:=lk},R',P',_,_,_,_,_,_,rfl,Y,b4,b6⟩;obtain⟨ls,el,b9,b3⟩:=Ge a4 b0 V ns λ_ h=>h;generalize d1:some (rO (stp R' x y))=x10' at a9;by_cases h9:(k:Int) % 10=9
  .have hmx:∃v,t7 [.lst .own (ls.map D.int)]=some (.int v)/\v<=m/\t7 [.lst .brw (ls.map D.int)]=some (.int v):=by
    have:∀l:List Int,l_ (l.map D.int)=some l:=λl=>by
     induction l with
     |nil=>rfl
     |cons x r ih=>simp[l_,ih]
    cases ls with
    |nil=>simp at b9;omega
    |cons v r=>exact⟨PySem.mx v r,by simp only[t7,this,Ua],Nf r v (b3 v (by simp)) λx F=>b3 x (by simp[F]),by simp only[t7,this,Ua]⟩
   obtain⟨v,d0,c9,b7⟩:=hmx;have c0:¬(m:Int)<v:=by omega
   have c4:2*(m:Int) / 2=m:=by omega
   simp[aU,fW,bf,eZ,w_ite,iY,cA,bW,dN,sIf,jw,eQ,gn,eO,eE,jV,kE,jK,upS,tgN,tgT,aO,bM,fQ,tpN,tpT,dM,o5,ak,eC,aN,ao,eAp,eUp,jA,dI,ee2,cI,jt,e2,e1,eB,eeB,kJ,jG,eOr,kj,jY,pW,eTT,isB,je,itS,itE,jT,cX,cY,g_,eSl,o8,lR,jC,gA,gq,eMt,oZ,eIo,objs,fP,cG,e_,eV,clean,aD,aC,au,az,bB,bH,view,cW,mkV,mkF,fz,fzL,fzo,gf,mkO,fnP,fnI,en0,outs,fK,iG,obC,truth,sEx,aG,aV,aH,LwP,j5,eq_int,h9];rw[bO,lr,el];simp[aU,jR,jg,iB,b7,km,c4,gGt,c0];exact⟨by omega,a9 _⟩
  .simp[aU,fW,bf,eZ,w_ite,iY,cA,bW,dN,sIf,jw,eQ,gn,eO,eE,jV,kE,jK,upS,tgN,tgT,aO,bM,fQ,tpN,tpT,dM,o5,ak,eC,aN,ao,eAp,eUp,jA,dI,ee2,cI,jt,e2,e1,eB,eeB,kJ,jG,eOr,kj,jY,pW,eTT,isB,je,itS,itE,jT,cX,cY,g_,eSl,o8,lR,jC,gA,gq,eMt,oZ,eIo,objs,fP,cG,e_,eV,clean,aD,aC,au,az,bB,bH,view,cW,mkV,mkF,fz,fzL,fzo,gf,mkO,fnP,fnI,en0,outs,fK,iG,obC,truth,sEx,aG,aV,aH,LwP,j5,eq_int,h9]
   exact a9 _
 rintro ρ _;simp_arith[sEx,aG,aV,aH]
def top(i:Nat):Stmt:=aaF.main.body.getD i (.Pass ⟨0,0,0,0⟩)
local macro_rules
 |`(tactic|trivial)=>`(tactic|exact⟨rfl,by decide +kernel,by decide +kernel,by decide +kernel,rfl,by decide +kernel⟩)
open PySem.W (Frag nsIn fnOf keepIn codeIn mg_of mg_none_of)
abbrev nl0:List Str:=["self"]
abbrev nl1:List Str:=["self","one","other"]
abbrev nl2:List Str:=["turn","weights","behind","sizes","done","looked"]
abbrev nl3:List Str:=["self","one","other","step"]
abbrev nl4:List Str:=["self","names","turn"]
abbrev nl5:List Str:=["self","chain"]
abbrev nl6:List Str:=["self","name"]
abbrev nl7:List Str:=["_law_tape_here","_law_many"]
abbrev nl8:List Str:=["thing"]
abbrev nl9:List Str:=["there","thing","place"]
abbrev G3:List Str:=["there","name"]
abbrev G7:List Str:=["turn","n"]
abbrev Hv:List Str:=["self","hung"]
abbrev J4:List Str:=["_law_script","_law_k"]
abbrev Lf:List Str:=["_law_tape_here"]
abbrev J6:List Str:=["_law_names","_law_stand"]
abbrev Jt:List Str:=["_law_tape_here","_law_names","_law_marks","_law_order","_law_sizes","_law_name","_law_mark","_law_other","_law_some","_law_more","_law_first"]
abbrev Kh:List Str:=["_law_tape_here","_law_names","_law_marks"]
abbrev Km:List Str:=["_law_script"]
abbrev Sw:List Str:=["_law_names","_law_stand","_law_marks","_law_one","_law_other","_law_low","_law_high","_law_name"]
abbrev R8:List Str:=["_law_name","_law_mark","_law_marks"]
abbrev R6:List Str:=["_law_name","_law_other","_law_marks"]
abbrev Rg:List Str:=["_law_script","_law_tape_here","_law_names","_law_held","_law_stand","_law_most","_law_k","_law_marks","_law_one","_law_other","_law_told","_law_longs"]
abbrev ob0:Nat->Bool:=λi=>i==0
abbrev jL(P:U_)(w:World)(K:Frag)(mg:Str->Option Value)(base:Heap):Prop:=Cal P w K mg base 1 "_law_draw" nl7 (spI ⟨K,mg⟩ ob0 ob0 aW)
abbrev vI(P:U_)(w:World)(K:Frag)(mg:Str->Option Value)(base:Heap):Prop:=Cal P w K mg base 1 "is_name" nl8 (spP ⟨K,mg⟩ fX)
abbrev qQ(P:U_)(w:World)(K:Frag)(mg:Str->Option Value)(base:Heap):Prop:=Cal P w K mg base 2 "check_new" nl9 (spP ⟨K,mg⟩ d9)
abbrev nY(P:U_)(w:World)(K:Frag)(mg:Str->Option Value)(base:Heap):Prop:=Cal P w K mg base 3 "check_names" ["things"] (spP ⟨K,mg⟩ dB)
abbrev j_(P:U_)(w:World)(K:Frag)(mg:Str->Option Value)(base:Heap):Prop:=Cal P w K mg base 1 "check_there" G3 (spP ⟨K,mg⟩ bR)
abbrev qI(P:U_)(w:World)(K:Frag)(mg:Str->Option Value)(base:Heap):Prop:=Cal P w K mg base 1 "counted" G7 (spP ⟨K,mg⟩ dD)
abbrev qZ(P:U_)(w:World)(K:Frag)(mg:Str->Option Value)(base:Heap):Prop:=Cal P w K mg base 1 "_law_tape" J4 (spP ⟨K,mg⟩ cU)
abbrev jZ(P:U_)(w:World)(K:Frag)(mg:Str->Option Value)(base:Heap):Prop:=Cal P w K mg base 2 "_law_many_names" Lf (spI ⟨K,mg⟩ ob0 ob0 cC)
abbrev mO(P:U_)(w:World)(K:Frag)(mg:Str->Option Value)(base:Heap):Prop:=Cal P w K mg base 1 "_law_figures" ["_law_n"] (spP ⟨K,mg⟩ dw)
abbrev j4(P:U_)(w:World)(K:Frag)(mg:Str->Option Value)(base:Heap):Prop:=Cal P w K mg base 1 "_law_classes_of" J6 (spP ⟨K,mg⟩ bF)
abbrev q9(P:U_)(w:World)(K:Frag)(mg:Str->Option Value)(base:Heap):Prop:=Cal P w K mg base 2 "_law_pair" Kh (spI ⟨K,mg⟩ ob0 ob0 dW)
noncomputable abbrev iz:Stmt:=top 17
noncomputable abbrev iw:Stmt:=top 18
noncomputable abbrev cL:Stmt:=top 19
noncomputable abbrev il:Stmt:=top 8
noncomputable abbrev gY:Stmt:=top 9
noncomputable abbrev fB:Stmt:=top 10
noncomputable abbrev bT:Stmt:=inClass (top 15) 0
noncomputable abbrev fu:Stmt:=top 20
noncomputable abbrev cH:Stmt:=top 22
noncomputable abbrev eX:Stmt:=top 21
noncomputable abbrev fj:Stmt:=top 11
noncomputable abbrev jm:Stmt:=top 13
noncomputable abbrev fD:Stmt:=inClass (top 15) 8
noncomputable abbrev dG:Stmt:=inClass (top 15) 9
noncomputable abbrev fG:Stmt:=inClass (top 15) 10
noncomputable abbrev d_:Stmt:=inClass (top 15) 3
noncomputable abbrev gk:Stmt:=inClass (top 15) 5
noncomputable abbrev di:Stmt:=inClass (top 15) 11
noncomputable abbrev fH:Stmt:=inClass (top 15) 12
noncomputable abbrev cJ:Stmt:=inClass (top 15) 7
noncomputable abbrev gm:Stmt:=inClass (top 15) 2
noncomputable abbrev fZ:Stmt:=inClass (top 15) 1
noncomputable abbrev nW:Stmt:=top 23
structure Blt(mg:Str->Option Value):Prop where
 abs:mg "abs"=none
 all:mg "all"=none
 bool_:mg "bool"=none
 dict:mg "dict"=none
 enumerate:mg "enumerate"=none
 int_:mg "int"=none
 isinstance:mg "isinstance"=none
 len:mg "len"=none
 list_:mg "list"=none
 max:mg "max"=none
 min:mg "min"=none
 range:mg "range"=none
 set_:mg "set"=none
 sorted:mg "sorted"=none
 str_:mg "str"=none
 sum:mg "sum"=none
theorem aM{A:Vu}(r:fV k A):A.units+1<cLine:=by have:=r.units;omega
section
variable{P:Program}{w:World}{K:Frag}{mg:Str->Option Value}{base:Heap}
theorem qT:bJ ["_law_script","_law_k","_law_cell","_law_digits"] J4 (aB iz):=⟨rfl,rfl,rfl,by decide +kernel,rfl,by decide +kernel,by decide +kernel⟩
theorem yS{f:Addr}{fd:Vk}(F:Fun K "_law_tape" "_law_tape" iz f fd)(B:Blt mg):d8 P w K mg base CX0 1 f fd J4 (spP ⟨K,mg⟩ cU):=by
 have nd:∀_:Unit,_:=λ_=>qT.nd;refine okP (k:=0) (ob:=(λi=>false)) (Pr:=λ_=>false) F qT λO A outer s H E Z=>?_;exact(aA (cN 2 nd aJ)
  (aA (eG (bz Bt (aa false 1) (bL gJ (λ_=>rfl) (λ_=>B.len) Xz (aj (aa false 0) aq))) (aL (cN 2 nd (cD (ixb (λ_=>aM Z)) (aa false 0) (aa false 1)))) bZ)
  (aA (cN 3 nd (bV oN (bL BK (λ_=>rfl) (λ_=>B.abs) boot_abs (aj (aa false 2) aq)) (nG Bg (λ_=>rfl) (λ_=>B.int_) boot_int (aj (wQ QZ (bL BK (λ_=>rfl) (λ_=>B.abs) boot_abs (aj (aa false 2) aq)) (bV Qw aJ aJ)) aq))))
  (aL (cB (qF (aj (aa false 3) (aj (bV ju (bV oN (bV ju (bV gZ (bV gZ (aa false 2) (bV oN aJ (aa false 1))) aJ) aJ) aJ) aJ) aq))))))))
theorem rn:bJ ["_law_tape_here","_law_many","_law_found","_law_once"] nl7 (aB iw):=⟨rfl,rfl,rfl,by decide +kernel,rfl,by decide +kernel,by decide +kernel⟩
theorem zf{f:Addr}{fd:Vk}(F:Fun K "_law_draw" "_law_draw" iw f fd)(B:Blt mg):d8 P w K mg base CX0 1 f fd nl7 (spI ⟨K,mg⟩ ob0 ob0 aW):=by
 have nd:∀_:Unit,_:=λ_=>rn.nd;refine okI (k:=0) (ob:=ob0) (pr:=ob0) F rn λO A outer s H E Z=>?_;exact(aA (eG (bz xQ (cD (ixb (λ_=>aM Z)) (aa true 0) aJ) aJ) (aA (cN 2 nd (bV ju (cD (ixb (λ_=>aM Z)) (aa true 0) aJ) (aa false 1)))
  (aA (lL (bV mW (cD (ixb (λ_=>aM Z)) (aa true 0) aJ) (aa false 1)) (pJ (pY (λ_=>aM Z)) (cT 0) aJ))
  (aL (jn 2)))) bZ)
  (aA (lL (bV ju (bV gZ (bV oN (cD (ixb (λ_=>aM Z)) (aa true 0) aJ) aJ) aJ) aJ) (pJ (pY (λ_=>aM Z)) (cT 0) aJ))
  (aA (cN 3 nd (bV mW (cD (ixb (λ_=>aM Z)) (aa true 0) aJ) aJ))
  (aL (cB (bV ju (bV mW (bV ju (bV oN (aa false 3) (bV gZ (bV ju (aa false 3) aJ) aJ)) aJ) aJ) (aa false 1)))))))
theorem jN:bJ nl7 Lf (aB cL):=⟨rfl,rfl,rfl,by decide +kernel,rfl,by decide +kernel,by decide +kernel⟩
def my:Scope:={kind:=.function,names:=[(".0",.local),("_law_k",.local)],isGenerator:=false,isCoroutine:=false}
theorem nO:(["_law_k"]:List Str).Nodup:=by decide +kernel
theorem nT:dU (aB cL) nl7 ["_law_k"] my [none]:=by trivial
theorem pK{f:Addr}{fd:Vk}(F:Fun K "_law_many_names" "_law_many_names" cL f fd)(B:Blt mg)(N:jL P w K mg base):d8 P w K mg base CX0 2 f fd Lf (spI ⟨K,mg⟩ ob0 ob0 cC):=by
 have nd:∀_:Unit,_:=λ_=>jN.nd;refine okI (k:=1) (ob:=ob0) (pr:=ob0) F jN λO A outer s H E Z=>?_;exact(aA (jz 1 nd (oA (ixb (λ_=>aM Z)) (K9 (fJ (bQ aJ) (fJ (bQ aJ) (fJ (bQ aJ) (fJ (Nu gZ (bQ aJ) (iU [0] (λ_=>N) (λ_=>Z.mono (by decide)) (gH 0 (gK (bY (aj aJ aq)))))) (bY aq)))))) (iU [0] (λ_=>N) (λ_=>Z.mono (by decide)) (gH 0 (gK (bY (aj aJ aq)))))))
  (aL (cB (mY [none] ob0 (λ_=>rfl) (λ_=>rfl) (λ_=>nT) (ie rfl) (Ho (λ_=>rfl) (λ_=>B.range) (aj (aa false 1) aq)) (dg 0 (λ_=>nO)) iK (bV gZ (bV JS (cD (ixb (λ_=>aM Z)) lw (bV ju (aa false 0) aJ)) (bV gZ aJ (bV ju (aa false 0) aJ))) (cD (ixb (λ_=>aM Z)) lw (bV mW (aa false 0) aJ)))))))
theorem uq:bJ nl8 nl8 (aB il):=⟨rfl,rfl,rfl,by decide +kernel,rfl,by decide +kernel,by decide +kernel⟩
def vq:Scope:={kind:=.function,names:=[(".0",.local),("sign",.local),("LETTERS",.globalImplicit)],isGenerator:=false,isCoroutine:=false}
theorem w6:(["sign"]:List Str).Nodup:=by decide +kernel
theorem v_:dU (aB il) nl8 ["sign"] vq [none]:=by trivial
theorem Ae{f:Addr}{fd:Vk}(F:Fun K "is_name" "is_name" il f fd)(B:Blt mg)(q:Glb mg "LETTERS" (.str "abcdefghijklmnopqrstuvwxyz"))(z:Glb mg "LONGEST" (.int 8)):d8 P w K mg base CX0 1 f fd nl8 (spP ⟨K,mg⟩ fX):=by
 have nd:∀_:Unit,_:=λ_=>uq.nd;refine okP (k:=0) (ob:=(λi=>false)) (Pr:=λ_=>false) F uq λO A outer s H E Z=>?_;exact(aA (eG (sG (xu (bL uK (λ_=>rfl) (λ_=>B.isinstance) boot_isinstance (aj (aa false 0) (aj (Ml (λ_=>rfl) (λ_=>B.str_) boot_str) aq))))) (aL (cB rA)) bZ)
  (aA (eG (tM (w5 (bz Bt (bL gJ (λ_=>rfl) (λ_=>B.len) Xz (aj (aa false 0) aq)) aJ) (rZ (bz xQ (bL gJ (λ_=>rfl) (λ_=>B.len) Xz (aj (aa false 0) aq)) (HQ z))))) (aL (cB rA)) bZ)
  (aL (cB (bL (Jx (λ_=>rfl)) (λ_=>rfl) (λ_=>B.all) boot_all (aj (mY [none] ob0 (λ_=>rfl) (λ_=>rfl) (λ_=>v_) (ie rfl) (Mi (aa false 0)) (dg 0 (λ_=>w6)) iK (wQ (Gw (λ_=>aM Z)) (aa false 0) (Gk q))) aq))))))
theorem pN:bJ nl9 nl9 (aB gY):=⟨rfl,rfl,rfl,by decide +kernel,rfl,by decide +kernel,by decide +kernel⟩
theorem xg{f:Addr}{fd:Vk}(F:Fun K "check_new" "check_new" gY f fd)(B:Blt mg)(q:vI P w K mg base):d8 P w K mg base CX0 2 f fd nl9 (spP ⟨K,mg⟩ d9):=by
 have nd:∀_:Unit,_:=λ_=>pN.nd;refine okP (k:=1) (ob:=(λi=>false)) (Pr:=λ_=>false) F pN λO A outer s H E Z=>?_;exact(aL (eG (tM (w5 (sG (xu (iy (λ_=>q) (λ_=>Z.mono (by decide)) (aj (aa false 1) aq)))) (rZ (bz (Gw (λ_=>aM Z)) (aa false 1) (aa false 0))))) (aL qp) bZ))
theorem mD:bJ ["things","place","thing"] ["things"] (aB fB):=⟨rfl,rfl,rfl,by decide +kernel,rfl,by decide +kernel,by decide +kernel⟩
theorem uG{f:Addr}{fd:Vk}(F:Fun K "check_names" "check_names" fB f fd)(B:Blt mg)(q:qQ P w K mg base):d8 P w K mg base CX0 3 f fd ["things"] (spP ⟨K,mg⟩ dB):=by
 have nd:∀_:Unit,_:=λ_=>mD.nd;refine okP (k:=2) (ob:=(λi=>false)) (Pr:=λ_=>false) F mD λO A outer s H E Z=>?_;exact(aL (lH (λ_=>WD) (λ_=>rfl) (xX (λ_=>rfl) (λ_=>B.enumerate) (aj (aa false 0) aq)) (m8 (λ_=>rfl) (cQ (b_ 1 nd) (cQ (b_ 2 nd) jB))) (aL (oG (bQ (iy (λ_=>q) (λ_=>Z.mono (by decide)) (aj (pG slb (aa false 0) p_ (p6 (aa false 1))) (aj (aa false 2) (aj (aa false 1) aq)))))))))
theorem j0:bJ nl4 nl4 (aB bT):=⟨rfl,rfl,rfl,by decide +kernel,rfl,by decide +kernel,by decide +kernel⟩
def mV:Scope:={kind:=.function,names:=[(".0",.local),("name",.local)],isGenerator:=false,isCoroutine:=false}
theorem nM:(["name"]:List Str).Nodup:=by decide +kernel
theorem nP:dU (aB bT) nl4 ["name"] mV [none]:=by trivial
def mU:Scope:={kind:=.function,names:=[(".0",.local),("name",.local)],isGenerator:=false,isCoroutine:=false}
theorem nH:(["name"]:List Str).Nodup:=by decide +kernel
theorem nJ:dU (aB bT) nl4 ["name"] mU [none]:=by trivial
theorem o4{f:Addr}{fd:Vk}(F:Fun K "__init__" "Stack.__init__" bT f fd)(B:Blt mg)(q:nY P w K mg base)(z:Kla K mg "Stack" nl2):d8 P w K mg base CX0 4 f fd nl4 (spI ⟨K,mg⟩ ob0 ob0 bG):=by
 have nd:∀_:Unit,_:=λ_=>j0.nd;refine okI (k:=3) (ob:=ob0) (pr:=ob0) F j0 λO A outer s H E Z=>?_;exact(aA (oG (bQ (iy (λ_=>q) (λ_=>Z.mono (by decide)) (aj (aa false 1) aq))))
  (aA (jX z (bQ (aa false 2)) (cT 0))
  (aA (jX z (bQ (zb [none] ob0 (λ_=>rfl) (λ_=>rfl) (λ_=>nP) (ie rfl) (gj (aa false 1)) (dg 0 (λ_=>nM)) iK (aa false 0) aJ)) (cT 0))
  (aA (jX z (bQ Bj) (cT 0))
  (aA (jX z (bQ (zb [none] ob0 (λ_=>rfl) (λ_=>rfl) (λ_=>nJ) (ie rfl) (gj (aa false 1)) (dg 0 (λ_=>nH)) iK (aa false 0) aJ)) (cT 0))
  (aA (jX z (bQ (qF aq)) (cT 0))
  (aL (jX z (bQ aJ) (cT 0)))))))))
theorem mH:bJ ["_law_n","_law_many"] ["_law_n"] (aB fu):=⟨rfl,rfl,rfl,by decide +kernel,rfl,by decide +kernel,by decide +kernel⟩
theorem uQ{f:Addr}{fd:Vk}(F:Fun K "_law_figures" "_law_figures" fu f fd)(B:Blt mg):d8 P w K mg base CX0 1 f fd ["_law_n"] (spP ⟨K,mg⟩ dw):=by
 have nd:∀_:Unit,_:=λ_=>mH.nd;refine okP (k:=0) (ob:=(λi=>false)) (Pr:=λ_=>false) F mH λO A outer s H E Z=>?_;exact(aA (cN 1 nd aJ)
  (aA (vV 1000000 (λ_=>WD) (sH (bz xQ (aa false 0) aJ)) (aA (cN 0 nd (bV mW (aa false 0) aJ))
  (aL (cN 1 nd (bV gZ (aa false 1) aJ)))))
  (aL (jn 1))))
theorem jP:bJ Sw J6 (aB cH):=⟨rfl,rfl,rfl,by decide +kernel,rfl,by decide +kernel,by decide +kernel⟩
def mq:Scope:={kind:=.function,names:=[(".0",.local),("_law_k",.local),("_law_name",.local)],isGenerator:=false,isCoroutine:=false}
theorem i_:(["_law_k","_law_name"]:List Str).Nodup:=by decide +kernel
theorem nQ:dU (aB cH) Sw ["_law_k","_law_name"] mq [none,none]:=by trivial
theorem pR{f:Addr}{fd:Vk}(F:Fun K "_law_classes_of" "_law_classes_of" cH f fd)(B:Blt mg):d8 P w K mg base CX0 1 f fd J6 (spP ⟨K,mg⟩ bF):=by
 have nd:∀_:Unit,_:=λ_=>jP.nd;refine okP (k:=0) (ob:=(λi=>false)) (Pr:=λ_=>false) F jP λO A outer s H E Z=>?_;exact(aA (cN 2 nd (nG (Im (λ_=>rfl)) (λ_=>rfl) (λ_=>B.dict) boot_dict (aj (mY [none,none] (λi=>i==0||i==1) (λ_=>rfl) (λ_=>rfl) (λ_=>nQ) (ie rfl) (xX (λ_=>rfl) (λ_=>B.enumerate) (aj (aa false 0) aq)) (yz (λ_=>rfl) (lg (dg 0 (λ_=>i_)) (lg (dg 1 (λ_=>i_)) vO))) iK (oF (aj (aa false 1) (aj (aa false 0) aq)))) aq)))
  (aA (lH (λ_=>WD) (λ_=>rfl) (gj (aa false 1)) (m8 (λ_=>rfl) (cQ (b_ 3 nd) (cQ (b_ 4 nd) jB))) (aA (lL (bL DX (λ_=>rfl) (λ_=>B.sorted) boot_sorted (aj (qF (aj (cD (ixb (λ_=>aM Z)) (aa false 2) (aa false 3)) (aj (cD (ixb (λ_=>aM Z)) (aa false 2) (aa false 4)) aq))) aq)) (Le (λ_=>rfl) (cQ (b_ 5 nd) (cQ (b_ 6 nd) jB))))
  (aL (lH (λ_=>WD) (λ_=>rfl) (gj (aa false 0)) (b_ 7 nd) (aL (eG (bz (cb_eq _ (λ_=>rfl) Z.units) (cD (ixb (λ_=>aM Z)) (aa false 2) (aa false 7)) (aa false 6)) (aL (lL (aa false 5) (pJ (pY (λ_=>aM Z)) (cT 2) (aa false 7)))) bZ))))))
  (aL (jn 2))))
theorem q_:bJ Jt Kh (aB eX):=⟨rfl,rfl,rfl,by decide +kernel,rfl,by decide +kernel,by decide +kernel⟩
def um:Scope:={kind:=.function,names:=[(".0",.local),("_law_name",.local),("_law_marks",.free)],isGenerator:=false,isCoroutine:=false}
theorem vg:(["_law_name","_law_marks"]:List Str).Nodup:=by decide +kernel
theorem vh:dU (aB eX) Jt ["_law_name","_law_marks"] um [none,some 2]:=by trivial
def sU:Scope:={kind:=.function,names:=[(".0",.local),("_law_name",.local),("_law_mark",.free),("_law_marks",.free)],isGenerator:=false,isCoroutine:=false}
theorem uW:(R8:List Str).Nodup:=by decide +kernel
theorem vd:dU (aB eX) Jt R8 sU [none,some 6,some 2]:=by trivial
def ul:Scope:={kind:=.function,names:=[(".0",.local),("_law_name",.local),("_law_marks",.free),("_law_other",.free)],isGenerator:=false,isCoroutine:=false}
theorem vf:(R6:List Str).Nodup:=by decide +kernel
theorem vo:dU (aB eX) Jt R6 ul [none,some 7,some 2]:=by trivial
theorem yE{f:Addr}{fd:Vk}(F:Fun K "_law_pair" "_law_pair" eX f fd)(B:Blt mg)(N:jL P w K mg base):d8 P w K mg base CX0 2 f fd Kh (spI ⟨K,mg⟩ ob0 ob0 dW):=by
 have nd:∀_:Unit,_:=λ_=>q_.nd;refine okI (k:=1) (ob:=ob0) (pr:=ob0) F q_ λO A outer s H E Z=>?_;exact(aA (cN 3 nd (yU (λ_=>rfl) (λ_=>B.sorted) (λ_=>B.set_) (aj (mY [none,some 2] ob0 (λ_=>rfl) (λ_=>rfl) (λ_=>vh) (ie rfl) (gj (aa false 1)) (dg 0 (λ_=>vg)) iK (cD (ixb (λ_=>aM Z)) (aa false 1) (aa false 0))) aq)))
  (aA (cN 4 nd Bj)
  (aA (lH (λ_=>WD) (λ_=>rfl) (gj (aa false 1)) (b_ 5 nd) (aL (lL (bV gZ (RV (Ma (λ_=>aM Z)) PySem.F.plainAttrs_dict Xr PySem.F.type_dict_get (aa false 4) (aj (cD (ixb (λ_=>aM Z)) (aa false 2) (aa false 5)) (aj aJ aq))) aJ) (pJ (pY (λ_=>aM Z)) (cT 4) (cD (ixb (λ_=>aM Z)) (aa false 2) (aa false 5))))))
  (aA (sE (pX (cb_eq _ (λ_=>rfl) Z.units) (iU [0] (λ_=>N) (λ_=>Z.mono (by decide)) (gH 0 (gK (bY (aj aJ aq))))) (bQ aJ)) (aL (Ik 3 (lH (λ_=>WD) (λ_=>rfl) (gj (aa false 3)) (b_ 6 nd) (aL (Ik 3 (lH (λ_=>WD) (λ_=>rfl) (gj (aa false 3)) (b_ 7 nd) (aL (eG (tM (xq (bz Bt (aa false 6) (aa false 7)) (uc (bz (cb_eq _ (λ_=>rfl) Z.units) (cD (ixb (λ_=>aM Z)) (aa false 4) (aa false 6)) (cD (ixb (λ_=>aM Z)) (aa false 4) (aa false 7)))))) (aA (uw 8 [none,some 6,some 2] ob0 nd (λ_=>rfl) (λ_=>rfl) (λ_=>vd) (ie rfl) (gj (aa false 1)) (dg 0 (λ_=>uW)) (ux (bz (cb_eq _ (λ_=>rfl) Z.units) (cD (ixb (λ_=>aM Z)) (aa false 2) (aa false 0)) (aa false 1))) (aa false 0))
  (aA (uw 9 [none,some 7,some 2] ob0 nd (λ_=>rfl) (λ_=>rfl) (λ_=>vo) (ie rfl) (gj (aa false 1)) (dg 0 (λ_=>vf)) (ux (bz (cb_eq _ (λ_=>rfl) Z.units) (cD (ixb (λ_=>aM Z)) (aa false 2) (aa false 0)) (aa false 1))) (aa false 0))
  (aA (jz 10 nd (oA (ixb (λ_=>aM Z)) (bQ (aa false 8)) (iU [0] (λ_=>N) (λ_=>Z.mono (by decide)) (gH 0 (gK (bY (aj (bL gJ (λ_=>rfl) (λ_=>B.len) Xz (aj (aa false 8) aq)) aq)))))))
  (aL (uo (Ca (fJ (bQ (aa false 10)) (fJ (oA (ixb (λ_=>aM Z)) (bQ (aa false 9)) (iU [0] (λ_=>N) (λ_=>Z.mono (by decide)) (gH 0 (gK (bY (aj (bL gJ (λ_=>rfl) (λ_=>B.len) Xz (aj (aa false 9) aq)) aq)))))) (bY aq))))))))) bZ)))))))) bZ)
  (aL (uo (Ca (fJ (oA (ixb (λ_=>aM Z)) (bQ (aa false 1)) (iU [0] (λ_=>N) (λ_=>Z.mono (by decide)) (gH 0 (gK (bY (aj (bL gJ (λ_=>rfl) (λ_=>B.len) Xz (aj (aa false 1) aq)) aq)))))) (fJ (oA (ixb (λ_=>aM Z)) (bQ (aa false 1)) (iU [0] (λ_=>N) (λ_=>Z.mono (by decide)) (gH 0 (gK (bY (aj (bL gJ (λ_=>rfl) (λ_=>B.len) Xz (aj (aa false 1) aq)) aq)))))) (bY aq))))))))))
theorem mF:bJ G3 G3 (aB fj):=⟨rfl,rfl,rfl,by decide +kernel,rfl,by decide +kernel,by decide +kernel⟩
theorem ur{f:Addr}{fd:Vk}(F:Fun K "check_there" "check_there" fj f fd)(B:Blt mg):d8 P w K mg base CX0 1 f fd G3 (spP ⟨K,mg⟩ bR):=by
 have nd:∀_:Unit,_:=λ_=>mF.nd;refine okP (k:=0) (ob:=(λi=>false)) (Pr:=λ_=>false) F mF λO A outer s H E Z=>?_;exact(aL (eG (bz (Ie (λ_=>aM Z)) (aa false 1) (aa false 0)) (aL qp) bZ))
theorem ue:bJ G7 G7 (aB jm):=⟨rfl,rfl,rfl,by decide +kernel,rfl,by decide +kernel,by decide +kernel⟩
theorem zM{f:Addr}{fd:Vk}(F:Fun K "counted" "counted" jm f fd)(B:Blt mg):d8 P w K mg base CX0 1 f fd G7 (spP ⟨K,mg⟩ dD):=by
 have nd:∀_:Unit,_:=λ_=>ue.nd;refine okP (k:=0) (ob:=(λi=>false)) (Pr:=λ_=>false) F ue λO A outer s H E Z=>?_;exact(aA (eG (bz (cb_eq _ (λ_=>rfl) Z.units) (aa false 0) aJ) (aL (jn 1)) bZ)
  (aL (cB (bV ju (aa false 1) (aa false 0)))))
theorem mQ:bJ ["self","name","chain"] nl6 (aB fD):=⟨rfl,rfl,rfl,by decide +kernel,rfl,by decide +kernel,by decide +kernel⟩
theorem tV{f:Addr}{fd:Vk}(F:Fun K "chain" "Stack.chain" fD f fd)(B:Blt mg)(V:j_ P w K mg base)(z:Kla K mg "Stack" nl2):d8 P w K mg base CX0 2 f fd nl6 (spP ⟨K,mg⟩ aQ):=by
 have nd:∀_:Unit,_:=λ_=>mQ.nd;refine okP (k:=1) (ob:=(λi=>false)) (Pr:=λ_=>false) F mQ λO A outer s H E Z=>?_;exact(aA (oG (bQ (iy (λ_=>V) (λ_=>Z.mono (by decide)) (aj (gw z (aa false 0)) (aj (aa false 1) aq)))))
  (aA (cN 2 nd (qF (aj (aa false 1) aq)))
  (aA (vV 1000000 (λ_=>WD) (sH (bz (Gw (λ_=>aM Z)) (cD (ixb (λ_=>aM Z)) (aa false 2) (pH lE aJ)) (gw z (aa false 0)))) (aL (wI ou Yb Ze Zf (cT 2) (aj (cD (ixb (λ_=>aM Z)) (cD (ixb (λ_=>aM Z)) (gw z (aa false 0)) (cD (ixb (λ_=>aM Z)) (aa false 2) (pH lE aJ))) aJ) aq))))
  (aL (jn 2)))))
theorem lM:bJ nl5 nl5 (aB dG):=⟨rfl,rfl,rfl,by decide +kernel,rfl,by decide +kernel,by decide +kernel⟩
def oE:Scope:={kind:=.function,names:=[(".0",.local),("name",.local),("self",.free)],isGenerator:=false,isCoroutine:=false}
theorem pC:(["name","self"]:List Str).Nodup:=by decide +kernel
theorem o_:dU (aB dG) nl5 ["name","self"] oE [none,some 0]:=by trivial
theorem rN{f:Addr}{fd:Vk}(F:Fun K "offset" "Stack.offset" dG f fd)(B:Blt mg)(z:Kla K mg "Stack" nl2):d8 P w K mg base CX0 1 f fd nl5 (spP ⟨K,mg⟩ aY):=by
 have nd:∀_:Unit,_:=λ_=>lM.nd;refine okP (k:=0) (ob:=(λi=>false)) (Pr:=λ_=>false) F lM λO A outer s H E Z=>?_;exact(aL (cB (bL (KR (λ_=>rfl)) (λ_=>rfl) (λ_=>B.sum) boot_sum (aj (mY [none,some 0] ob0 (λ_=>rfl) (λ_=>rfl) (λ_=>o_) (ie rfl) (gj (pG slb (aa false 1) p_ (p6 (pH lE aJ)))) (dg 0 (λ_=>pC)) iK (cD (ixb (λ_=>aM Z)) (cD (ixb (λ_=>aM Z)) (gw z (aa false 1)) (aa false 0)) aJ)) aq))))
theorem mK:bJ ["self","one","other","here","there"] nl1 (aB fG):=⟨rfl,rfl,rfl,by decide +kernel,rfl,by decide +kernel,by decide +kernel⟩
theorem sS{f:Addr}{fd:Vk}(F:Fun K "steps" "Stack.steps" fG f fd)(B:Blt mg)(V:j_ P w K mg base)(N:qI P w K mg base)(J:gO P w K mg base 2 "Stack" "chain" nl6 (spP ⟨K,mg⟩ aQ))(U:gO P w K mg base 1 "Stack" "offset" nl5 (spP ⟨K,mg⟩ aY))(z:Kla K mg "Stack" nl2):d8 P w K mg base CX0 3 f fd nl1 (spI ⟨K,mg⟩ ob0 ob0 bc):=by
 have nd:∀_:Unit,_:=λ_=>mK.nd;refine okI (k:=2) (ob:=ob0) (pr:=ob0) F mK λO A outer s H E Z=>?_;exact(aA (oG (bQ (iy (λ_=>V) (λ_=>Z.mono (by decide)) (aj (gw z (aa true 0)) (aj (aa false 1) aq)))))
  (aA (oG (bQ (iy (λ_=>V) (λ_=>Z.mono (by decide)) (aj (gw z (aa true 0)) (aj (aa false 2) aq)))))
  (aA (eG (bz (cb_eq _ (λ_=>rfl) Z.units) (aa false 1) (aa false 2)) (aA (jX z (bQ aJ) (cT 0))
  (aL (cB aJ))) bZ)
  (aA (wy 3 4 (λ_=>rfl) nd (aj (jc (λ_=>J) (λ_=>Z.mono (by decide)) (aa true 0) (aj (aa false 1) aq)) (aj (jc (λ_=>J) (λ_=>Z.mono (by decide)) (aa true 0) (aj (aa false 2) aq)) aq)))
  (aA (jX z (bQ (CN (λ_=>rfl) (λ_=>B.len) (λ_=>B.set_) (aj (bV gZ (aa false 3) (aa false 4)) aq))) (cT 0))
  (aA (eG (bz (yL _ (λ_=>rfl) Z.units) (cD (ixb (λ_=>aM Z)) (aa false 3) (pH lE aJ)) (cD (ixb (λ_=>aM Z)) (aa false 4) (pH lE aJ))) (aL (cB lB)) bZ)
  (aL (cB (iy (λ_=>N) (λ_=>Z.mono (by decide)) (aj (gw z (aa true 0)) (aj (bV Ii (jc (λ_=>U) (λ_=>Z.mono (by decide)) (aa true 0) (aj (aa false 4) aq)) (jc (λ_=>U) (λ_=>Z.mono (by decide)) (aa true 0) (aj (aa false 3) aq))) aq)))))))))))
theorem lQ:bJ ["self","hung","head","gap"] Hv (aB d_):=⟨rfl,rfl,rfl,by decide +kernel,rfl,by decide +kernel,by decide +kernel⟩
theorem rT{f:Addr}{fd:Vk}(F:Fun K "unhang" "Stack.unhang" d_ f fd)(B:Blt mg)(z:Kla K mg "Stack" nl2):d8 P w K mg base CX0 1 f fd Hv (spI ⟨K,mg⟩ ob0 ob0 cz):=by
 have nd:∀_:Unit,_:=λ_=>lQ.nd;refine okI (k:=0) (ob:=ob0) (pr:=ob0) F lQ λO A outer s H E Z=>?_;exact(aA (lL (cD (ixb (λ_=>aM Z)) (gw z (aa true 0)) (aa false 1)) (m8 (λ_=>rfl) (cQ (b_ 2 nd) (cQ (b_ 3 nd) jB))))
  (aA (yt (λ_=>Nt) Om (λ_=>aM Z) (m_ z (cT 0)) (aa false 2) (cD (ixb (λ_=>aM Z)) (gw z (aa true 0)) (aa false 1)))
  (aL (KZ (m_ z (cT 0)) (aa false 1)))))
theorem nU:bJ ["self","deed","kept"] nl0 (aB gk):=⟨rfl,rfl,rfl,by decide +kernel,rfl,by decide +kernel,by decide +kernel⟩
theorem uY{f:Addr}{fd:Vk}(F:Fun K "back" "Stack.back" gk f fd)(B:Blt mg)(q:gO P w K mg base 1 "Stack" "unhang" Hv (spI ⟨K,mg⟩ ob0 ob0 cz))(z:Kla K mg "Stack" nl2):d8 P w K mg base CX0 2 f fd nl0 (spI ⟨K,mg⟩ ob0 ob0 b8):=by
 have nd:∀_:Unit,_:=λ_=>nU.nd;refine okI (k:=1) (ob:=ob0) (pr:=ob0) F nU λO A outer s H E Z=>?_;exact(aA (eG (bz (cb_eq _ (λ_=>rfl) Z.units) (bL gJ (λ_=>rfl) (λ_=>B.len) Xz (aj (gw z (aa true 0)) aq)) aJ) (aL (cB lB)) bZ)
  (aA (uJ (FQ JZ Yb PySem.F.slot_list_pop PySem.F.type_list_pop (m_ z (cT 0))) (m8 (λ_=>rfl) (cQ (b_ 1 nd) (cQ (b_ 2 nd) jB))))
  (aA (eG (bz (cb_eq _ (λ_=>rfl) Z.units) (cD (ixb (λ_=>aM Z)) (aa false 1) aJ) lw) (aL qp) (aL (eG (bz qd (aa false 2) lB) (aL (oG (jq 0 (λ_=>q) (λ_=>Z.mono (by decide)) (bY (aj (aa false 2) aq))))) bZ)))
  (aL (jn 1)))))
theorem jM:bJ nl1 nl1 (aB di):=⟨rfl,rfl,rfl,by decide +kernel,rfl,by decide +kernel,by decide +kernel⟩
theorem pZ{f:Addr}{fd:Vk}(F:Fun K "together" "Stack.together" di f fd)(B:Blt mg)(O:gO P w K mg base 3 "Stack" "steps" nl1 (spI ⟨K,mg⟩ ob0 ob0 bc)):d8 P w K mg base CX0 4 f fd nl1 (spI ⟨K,mg⟩ ob0 ob0 bK):=by
 have nd:∀_:Unit,_:=λ_=>jM.nd;refine okI (k:=3) (ob:=ob0) (pr:=ob0) F jM λq A outer s H E Z=>?_;exact(aL (uo (KD qd (jq 0 (λ_=>O) (λ_=>Z.mono (by decide)) (bY (aj (aa false 1) (aj (aa false 2) aq)))) (bQ lB))))
theorem mC:bJ nl0 nl0 (aB fH):=⟨rfl,rfl,rfl,by decide +kernel,rfl,by decide +kernel,by decide +kernel⟩
theorem uO{f:Addr}{fd:Vk}(F:Fun K "looks" "Stack.looks" fH f fd)(B:Blt mg)(z:Kla K mg "Stack" nl2):d8 P w K mg base CX0 1 f fd nl0 (spP ⟨K,mg⟩ bx):=by
 have nd:∀_:Unit,_:=λ_=>mC.nd;refine okP (k:=0) (ob:=(λi=>false)) (Pr:=λ_=>false) F mC λO A outer s H E Z=>?_;exact(aL (cB (gw z (aa false 0))))
theorem jQ:bJ nl0 nl0 (aB cJ):=⟨rfl,rfl,rfl,by decide +kernel,rfl,by decide +kernel,by decide +kernel⟩
def mL:Scope:={kind:=.function,names:=[(".0",.local),("deed",.local),("kept",.local)],isGenerator:=false,isCoroutine:=false}
theorem iZ:(["deed","kept"]:List Str).Nodup:=by decide +kernel
theorem nR:dU (aB cJ) nl0 ["deed","kept"] mL [none,none]:=by trivial
theorem oX{f:Addr}{fd:Vk}(F:Fun K "standing" "Stack.standing" cJ f fd)(B:Blt mg)(z:Kla K mg "Stack" nl2):d8 P w K mg base CX0 1 f fd nl0 (spP ⟨K,mg⟩ bC):=by
 have nd:∀_:Unit,_:=λ_=>jQ.nd;refine okP (k:=0) (ob:=(λi=>false)) (Pr:=λ_=>false) F jQ λO A outer s H E Z=>?_;exact(aL (cB (mY [none,none] (λi=>i==0||i==1) (λ_=>rfl) (λ_=>rfl) (λ_=>nR) (ie rfl) (gj (gw z (aa false 0))) (yz (λ_=>rfl) (lg (dg 0 (λ_=>iZ)) (lg (dg 1 (λ_=>iZ)) vO))) (ux (bz (cb_eq _ (λ_=>rfl) Z.units) (cD (ixb (λ_=>aM Z)) (aa false 0) aJ) lw)) (pG slb (aa false 0) (p6 aJ) p_))))
theorem n6:bJ ["self","one","other","step","here","there","gap","head","hung"] nl3 (aB gm):=⟨rfl,rfl,rfl,by decide +kernel,rfl,by decide +kernel,by decide +kernel⟩
theorem uX{f:Addr}{fd:Vk}(F:Fun K "hang" "Stack.hang" gm f fd)(B:Blt mg)(J:gO P w K mg base 2 "Stack" "chain" nl6 (spP ⟨K,mg⟩ aQ))(U:gO P w K mg base 1 "Stack" "offset" nl5 (spP ⟨K,mg⟩ aY))(z:Kla K mg "Stack" nl2):d8 P w K mg base CX0 3 f fd nl3 (spI ⟨K,mg⟩ ob0 ob0 cP):=by
 have nd:∀_:Unit,_:=λ_=>n6.nd;refine okI (k:=2) (ob:=ob0) (pr:=ob0) F n6 λO A outer s H E Z=>?_;exact(aA (wy 4 5 (λ_=>rfl) nd (aj (jc (λ_=>J) (λ_=>Z.mono (by decide)) (aa true 0) (aj (aa false 1) aq)) (aj (jc (λ_=>J) (λ_=>Z.mono (by decide)) (aa true 0) (aj (aa false 2) aq)) aq)))
  (aA (cN 6 nd (bV Ii (bV gZ (jc (λ_=>U) (λ_=>Z.mono (by decide)) (aa true 0) (aj (aa false 4) aq)) (aa false 3)) (jc (λ_=>U) (λ_=>Z.mono (by decide)) (aa true 0) (aj (aa false 5) aq))))
  (aA (wy 7 8 (λ_=>rfl) nd (aj (cD (ixb (λ_=>aM Z)) (aa false 4) (pH lE aJ)) (aj (cD (ixb (λ_=>aM Z)) (aa false 5) (pH lE aJ)) aq)))
  (aA (eG (bz Bt (cD (ixb (λ_=>aM Z)) (gw z (aa true 0)) (aa false 7)) (cD (ixb (λ_=>aM Z)) (gw z (aa true 0)) (aa false 8))) (aL (Jj 7 8 6 (λ_=>rfl) nd (aj (aa false 8) (aj (aa false 7) (aj (pH lE (aa false 6)) aq))))) bZ)
  (aA (lL (oF (aj (aa false 7) (aj (aa false 6) aq))) (pJ (pY (λ_=>aM Z)) (m_ z (cT 0)) (aa false 8)))
  (aA (yt (λ_=>QG) Pz (λ_=>aM Z) (m_ z (cT 0)) (aa false 7) (cD (ixb (λ_=>aM Z)) (gw z (aa true 0)) (aa false 8)))
  (aL (jn 8))))))))
theorem nZ:bJ ["self","one","other","step","known","n","hung"] nl3 (aB fZ):=⟨rfl,rfl,rfl,by decide +kernel,rfl,by decide +kernel,by decide +kernel⟩
theorem vp{f:Addr}{fd:Vk}(F:Fun K "join" "Stack.join" fZ f fd)(B:Blt mg)(O:gO P w K mg base 3 "Stack" "steps" nl1 (spI ⟨K,mg⟩ ob0 ob0 bc))(q:gO P w K mg base 1 "Stack" "standing" nl0 (spP ⟨K,mg⟩ bC))(J:gO P w K mg base 3 "Stack" "hang" nl3 (spI ⟨K,mg⟩ ob0 ob0 cP))(N:qI P w K mg base)(z:Kla K mg "Stack" nl2):d8 P w K mg base CX0 4 f fd nl3 (spI ⟨K,mg⟩ ob0 ob0 cR):=by
 have nd:∀_:Unit,_:=λ_=>nZ.nd;refine okI (k:=3) (ob:=ob0) (pr:=ob0) F nZ λU A outer s H E Z=>?_;exact(aA (jz 4 nd (jq 0 (λ_=>O) (λ_=>Z.mono (by decide)) (bY (aj (aa false 1) (aj (aa false 2) aq)))))
  (aA (eG (tM (xq (bz qd (aa false 4) lB) (uc (bz (yL _ (λ_=>rfl) Z.units) (aa false 4) (iy (λ_=>N) (λ_=>Z.mono (by decide)) (aj (gw z (aa true 0)) (aj (aa false 3) aq))))))) (aL (cB (oF (aj lw (aj (aa false 4) aq))))) bZ)
  (aA (cN 5 nd (bL gJ (λ_=>rfl) (λ_=>B.len) Xz (aj (pO (λ_=>q) (λ_=>Z.mono (by decide)) (aa true 0)) aq)))
  (aA (jz 6 nd (Jp (sH (bz Nr (aa false 4) lB)) (jq 0 (λ_=>J) (λ_=>Z.mono (by decide)) (bY (aj (aa false 1) (aj (aa false 2) (aj (aa false 3) aq))))) (bQ lB)))
  (aA (wI ou Yb Ze Zf (m_ z (cT 0)) (aj (oF (aj (oF (aj lw (aj (aa false 1) (aj (aa false 2) (aj (aa false 3) aq))))) (aj (aa false 6) aq))) aq))
  (aL (cB (oF (aj (Nz (bz Nr (aa false 4) lB) lw lw) (aj (aa false 5) aq))))))))))
theorem HR:bJ Rg Km (aB nW):=⟨rfl,rfl,rfl,by decide +kernel,rfl,by decide +kernel,by decide +kernel⟩
def Em:Scope:={kind:=.function,names:=[(".0",.local),("_law_name",.local),("len",.globalImplicit),("_law_held",.free)],isGenerator:=false,isCoroutine:=false}
theorem Iv:(["_law_name","_law_held"]:List Str).Nodup:=by decide +kernel
theorem HJ:dU (aB nW) Rg ["_law_name","_law_held"] Em [none,some 3]:=by trivial
theorem Qt{f:Addr}{fd:Vk}(F:Fun K "law" "law" nW f fd)(B:Blt mg)(a0:qZ P w K mg base)(Y:jZ P w K mg base)(U:KMk P w K mg base 4 "Stack" nl4 (spI ⟨K,mg⟩ ob0 ob0 bG))(a2:mO P w K mg base)(q:j4 P w K mg base)(a1:q9 P w K mg base)(O:gO P w K mg base 3 "Stack" "steps" nl1 (spI ⟨K,mg⟩ ob0 ob0 bc))(N:jL P w K mg base)(a4:gO P w K mg base 2 "Stack" "back" nl0 (spI ⟨K,mg⟩ ob0 ob0 b8))(V:gO P w K mg base 4 "Stack" "together" nl1 (spI ⟨K,mg⟩ ob0 ob0 bK))(z:gO P w K mg base 1 "Stack" "looks" nl0 (spP ⟨K,mg⟩ bx))(a3:gO P w K mg base 4 "Stack" "join" nl3 (spI ⟨K,mg⟩ ob0 ob0 cR))(J:gO P w K mg base 2 "Stack" "chain" nl6 (spP ⟨K,mg⟩ aQ)):d8 P w K mg base CX0 6 f fd Km (spP ⟨K,mg⟩ lJ):=by
 have nd:∀_:Unit,_:=λ_=>HR.nd;refine okP (k:=5) (ob:=(λi=>i==1||i==3)) (Pr:=λ_=>false) F HR λa5 A outer s H E Z=>?_;exact(aA (cN 1 nd (iy (λ_=>a0) (λ_=>Z.mono (by decide)) (aj (aa false 0) (aj aJ aq))))
  (aA (jz 2 nd (iU [1] (λ_=>Y) (λ_=>Z.mono (by decide)) (gH 1 (gK (bY aq)))))
  (aA (jz 3 nd (HS (λ_=>U) () (λ_=>Z.mono (by decide)) (fJ (bQ (nG EY (λ_=>rfl) (λ_=>B.list_) boot_list (aj (aa false 2) aq))) (fJ (oA (ixb (λ_=>aM Z)) (bQ (qF (aj aJ (aj aJ (aj aJ (aj aJ aq)))))) (iU [1] (λ_=>N) (λ_=>Z.mono (by decide)) (gH 1 (gK (bY (aj aJ aq)))))) (bY aq)))))
  (aA (cN 4 nd (qF aq))
  (aA (cN 5 nd (bV oN aJ (iy (λ_=>a2) (λ_=>Z.mono (by decide)) (aj (bL gJ (λ_=>rfl) (λ_=>B.len) Xz (aj (aa false 2) aq)) aq))))
  (aA (lH (λ_=>WD) (λ_=>rfl) (Ho (λ_=>rfl) (λ_=>B.range) (aj (bV gZ aJ (bL (Fw (λ_=>rfl)) (λ_=>rfl) (λ_=>B.min) boot_min (aj aJ (aj (bL gJ (λ_=>rfl) (λ_=>B.len) Xz (aj (aa false 0) aq)) aq)))) aq)) (b_ 6 nd) (aA (cN 1 nd (iy (λ_=>a0) (λ_=>Z.mono (by decide)) (aj (aa false 0) (aj (bV gZ (aa false 6) aJ) aq))))
  (aA (sE (pX (cb_eq _ (λ_=>rfl) Z.units) (iU [1] (λ_=>N) (λ_=>Z.mono (by decide)) (gH 1 (gK (bY (aj aJ aq))))) (bQ aJ)) (aA (oG (Dc 3 (λ_=>a4) (λ_=>Z.mono (by decide))))
  (aL (cN 4 nd (pG slb (aa false 4) p_ (p6 (pH lE aJ)))))) bZ)
  (aA (cN 7 nd (iy (λ_=>q) (λ_=>Z.mono (by decide)) (aj (aa false 2) (aj (aa false 4) aq))))
  (aA (uJ (iU [1] (λ_=>a1) (λ_=>Z.mono (by decide)) (gH 1 (gK (bY (aj (aa false 2) (aj (aa false 7) aq)))))) (m8 (λ_=>rfl) (cQ (b_ 8 nd) (cQ (b_ 9 nd) jB))))
  (aA (sE (Qh (Mg (pX (cb_eq _ (λ_=>rfl) Z.units) (oA (ixb (λ_=>aM Z)) (jq 3 (λ_=>a3) (λ_=>Z.mono (by decide)) (bY (aj (aa false 8) (aj (aa false 9) (aj aJ aq))))) (bQ aJ)) (bQ lw)) (Hn (sH (sG (v8 Cv Cv (bV gZ aJ (nG Bg (λ_=>rfl) (λ_=>B.int_) boot_int (aj (wQ (yL _ (λ_=>rfl) Z.units) (aa false 8) (aa false 9)) aq))) (pO (λ_=>z) (λ_=>Z.mono (by decide)) (aa true 3)) (aa false 5))))))) (aL (cB rA)) bZ)
  (aA (wI ou Yb Ze Zf (cT 4) (aj (oF (aj (aa false 8) (aj (aa false 9) aq))) aq))
  (aA (cN 7 nd (iy (λ_=>q) (λ_=>Z.mono (by decide)) (aj (aa false 2) (aj (aa false 4) aq))))
  (aA (uJ (iU [1] (λ_=>a1) (λ_=>Z.mono (by decide)) (gH 1 (gK (bY (aj (aa false 2) (aj (aa false 7) aq)))))) (m8 (λ_=>rfl) (cQ (b_ 8 nd) (cQ (b_ 9 nd) jB))))
  (aA (sE (pX (yL _ (λ_=>rfl) Z.units) (jq 3 (λ_=>V) (λ_=>Z.mono (by decide)) (bY (aj (aa false 8) (aj (aa false 9) aq)))) (bQ (wQ (cb_eq _ (λ_=>rfl) Z.units) (cD (ixb (λ_=>aM Z)) (aa false 7) (aa false 8)) (cD (ixb (λ_=>aM Z)) (aa false 7) (aa false 9))))) (aL (cB rA)) bZ)
  (aA (eG (sG (v8 Cv Cv aJ (pO (λ_=>z) (λ_=>Z.mono (by decide)) (aa true 3)) (aa false 5))) (aL (cB rA)) bZ)
  (aA (jz 10 nd (jq 3 (λ_=>O) (λ_=>Z.mono (by decide)) (bY (aj (aa false 8) (aj (aa false 9) aq)))))
  (aA (eG (tM (w5 (tM (xq (bz qd (aa false 10) lB) (uc (tM (w5 (xu (bL uK (λ_=>rfl) (λ_=>B.isinstance) boot_isinstance (aj (aa false 10) (aj (Ml (λ_=>rfl) (λ_=>B.bool_) boot_bool) aq)))) (rZ (bz (yL _ (λ_=>rfl) Z.units) (aa false 10) aJ))))))) (rZ (bz xQ (pO (λ_=>z) (λ_=>Z.mono (by decide)) (aa true 3)) (aa false 5))))) (aL (cB rA)) bZ)
  (aL (eG (bz (cb_eq _ (λ_=>rfl) Z.units) (bV ju (aa false 6) aJ) aJ) (aA (uw 11 [none,some 3] ob0 nd (λ_=>rfl) (λ_=>rfl) (λ_=>HJ) (ie rfl) (gj (aa false 2)) (dg 0 (λ_=>Iv)) iK (bL gJ (λ_=>rfl) (λ_=>B.len) Xz (aj (jc (λ_=>J) (λ_=>Z.mono (by decide)) (aa true 1) (aj (aa false 0) aq)) aq)))
  (aL (eG (bz xQ (bL (GJ (λ_=>rfl)) (λ_=>rfl) (λ_=>B.max) boot_max (aj (aa false 11) aq)) (bV mW (aa false 5) aJ)) (aL (cB rA)) bZ))) bZ)))))))))))))))
  (aL (cB rA))))))))
end
theorem xU:∀ns:List Int,aF G H W (ns.map D.int) (ns.map V.int) []
 |[]=>.nil
 |x::r=>aF.cons (M:=[]) (M':=[]) cg (xU r)
theorem Py{K:Frag}{ns:List Int}{Q:VK}{E:XK}(Y:ns.length<=63)(J:SqL K H a (ns.map V.int))(q:∀H',Q (.bl true) H'):spP ⟨K,mg⟩ lJ [.ref a] H Q E:=by
 refine⟨[.lst .scr (ns.map D.int)],λ_=>False,?_,?_,?_,λ_ z=>z.elim,.bl true,Jo ns Y,λv H' L s r F nd c=>?_⟩
 .refine aF.one (M:=[]) ?_
  rw[Rep];refine⟨a,_,[],rfl,xU ns,?_,rfl,rfl⟩;rcases J with z|z
  .exact .inl ⟨z,⟨λz=>z,λz=>z,λz=>z⟩⟩
  .exact .inr ⟨_,rfl,z⟩
 .simp[au,aD,dm (ds:=ns.map D.int) (by simp[aD])]
 .simp[az,aC,dh (ds:=ns.map D.int) (by simp[aC])]
 .rw[(lz r).1];exact q H'
variable{P:List Value->Prop}
theorem un1(h:∀q,P [q]):∀us:List Value,us.length=1->P us
 |[q],_=>h q
theorem un2(h:∀q U,P [q,U]):∀us:List Value,us.length=2->P us
 |[q,U],_=>h q U
theorem un3(h:∀q U O,P [q,U,O]):∀us:List Value,us.length=3->P us
 |[q,U,O],_=>h q U O
theorem un4(h:∀q U O N,P [q,U,O,N]):∀us:List Value,us.length=4->P us
 |[q,U,O,N],_=>h q U O N
def FP(K:Frag):Sp:=λvs H Q _=>∃(a:Addr)(ns:List Int),vs=[.ref a]/\SqL K H a (ns.map V.int)/\ns.length<=63/\∀H',Q (.bl true) H'
variable{l:abn}
theorem all_mk{K:Frag}{fa f1 f2 f3 f4 f5 f6 f7 f8 f9 i5 i6 i4 g0 e9 f0 e2 e3 e7 e6 e8 e4 e5 i3 C1:Addr}(X:K.In h)(G:h.Ns Uv mg)(I3:mg "law"=some (.ref fa))
  {I2 N0 Q5 E8 L9 O0 C7 N8 O3 K4 N7 H0 O1 D8 M7 K2 L4 M5 n4 B1 p9 r8 A3 q4 t5 n7 o9 i9 t3 m6 s3 y8 q8 v5 o7 s2 r4 v7 n5 w3 p7 k0 n8 m7 n2 i1:Option Addr} {I0 L0 M2 D6 Q8 G4 K5 H3 D9 m0 n1 s1 s9 y9 A2 v0 r7 v6 w2 A8 m8 n9 j3:Array (Option Value)} {I7 J1 J5 H7 s6 K8 H6 Q7 I5 P6 m3 K3 J2 K1 P5 B7 p5 O5 I8 E2 M8 E3 A4 B6 G2 M3 L1 I4 w4 J3 N1 C9 H8 Q0 w9 H5 C2 L6 O2 P2 x9 Q6 O4 P1 B8 I1 u1 M1 G1 P4 D4 L8 r6 Q3 u9 q0 q7 m5 h8 m9 r5 v8 A9 o2 h9 u0 j7 j0 r9 z0 g7 s8 y7 A1 w1 j8 g3 u4 B0 y3 A5 r3 i2 s5 y6 y1 x3 u8 h7 m1 u5 w7 u6 t9 h4 o6 A6 t0 x7 x4 h5 j6 t6 o1 j1 r2 h0 v1 p0 w6 t8 j2 g9 B2 v4 n3 j5 x6 g6 m4 x0 q3 s7 A7 h3 r0 x8 x5 v9 v2 i0 t1 i8 g4 g5 g8 e1 h6:Value} {B3 P0:Tok}
  (a1:nsIn K Uv "_law_tape"=some (some (.ref f1)))
  (l1:K.lookup f1=some ⟨I7,I2,.func (fnOf "_law_tape" "_law_tape" (bI iz) (bu iz) (aB iz) .none J1 J5 H7 N0 s6 K8),I0⟩) (Z:codeIn K s6 "_law_tape"=true) (k1:keepIn K (.ref f1)=true)
  (a2:nsIn K Uv "_law_draw"=some (some (.ref f2)))
  (l2:K.lookup f2=some ⟨H6,Q5,.func (fnOf "_law_draw" "_law_draw" (bI iw) (bu iw) (aB iw) .none Q7 I5 P6 E8 m3 K3),L0⟩) (c2:codeIn K m3 "_law_draw"=true) (k2:keepIn K (.ref f2)=true)
  (a3:nsIn K Uv "_law_many_names"=some (some (.ref f3)))
  (l3:K.lookup f3=some ⟨J2,L9,.func (fnOf "_law_many_names" "_law_many_names" (bI cL) (bu cL) (aB cL) .none K1 P5 B7 O0 p5 O5),M2⟩) (c3:codeIn K p5 "_law_many_names"=true) (k3:keepIn K (.ref f3)=true)
  (a4:nsIn K Uv "is_name"=some (some (.ref f4)))
  (l4:K.lookup f4=some ⟨I8,C7,.func (fnOf "is_name" "is_name" (bI il) (bu il) (aB il) .none E2 M8 E3 N8 A4 B6),D6⟩) (c4:codeIn K A4 "is_name"=true) (k4:keepIn K (.ref f4)=true)
  (a5:nsIn K Uv "check_new"=some (some (.ref f5)))
  (l5:K.lookup f5=some ⟨G2,O3,.func (fnOf "check_new" "check_new" (bI gY) (bu gY) (aB gY) .none M3 L1 I4 K4 w4 J3),Q8⟩) (c5:codeIn K w4 "check_new"=true) (k5:keepIn K (.ref f5)=true)
  (a6:nsIn K Uv "check_names"=some (some (.ref f6)))
  (l6:K.lookup f6=some ⟨N1,N7,.func (fnOf "check_names" "check_names" (bI fB) (bu fB) (aB fB) .none C9 H8 Q0 H0 w9 H5),G4⟩) (c6:codeIn K w9 "check_names"=true) (k6:keepIn K (.ref f6)=true)
  (a7:UV K (.ref C1) "__init__"=some (some (.ref f7))) (i7:Wc K (.ref f7)=true)
  (l7:K.lookup f7=some ⟨C2,O1,.func (fnOf "__init__" "Stack.__init__" (bI bT) (bu bT) (aB bT) .none L6 O2 P2 D8 x9 Q6),K5⟩) (c7:codeIn K x9 "Stack.__init__"=true) (k7:keepIn K (.ref f7)=true)
  (a8:nsIn K Uv "_law_figures"=some (some (.ref f8)))
  (l8:K.lookup f8=some ⟨O4,M7,.func (fnOf "_law_figures" "_law_figures" (bI fu) (bu fu) (aB fu) .none P1 B8 I1 K2 u1 M1),H3⟩) (c8:codeIn K u1 "_law_figures"=true) (k8:keepIn K (.ref f8)=true)
  (a9:nsIn K Uv "_law_classes_of"=some (some (.ref f9)))
  (l9:K.lookup f9=some ⟨G1,L4,.func (fnOf "_law_classes_of" "_law_classes_of" (bI cH) (bu cH) (aB cH) .none P4 D4 L8 M5 r6 Q3),D9⟩) (c9:codeIn K r6 "_law_classes_of"=true) (k9:keepIn K (.ref f9)=true)
  (Q2:nsIn K Uv "_law_pair"=some (some (.ref i5)))
  (O6:K.lookup i5=some ⟨u9,n4,.func (fnOf "_law_pair" "_law_pair" (bI eX) (bu eX) (aB eX) .none q0 q7 m5 B1 h8 m9),m0⟩) (I6:codeIn K h8 "_law_pair"=true) (r1:keepIn K (.ref i5)=true)
  (D5:nsIn K Uv "check_there"=some (some (.ref i6)))
  (E4:K.lookup i6=some ⟨r5,p9,.func (fnOf "check_there" "check_there" (bI fj) (bu fj) (aB fj) .none v8 A9 o2 r8 h9 u0),n1⟩) (N5:codeIn K h9 "check_there"=true) (w0:keepIn K (.ref i6)=true)
  (L3:nsIn K Uv "counted"=some (some (.ref i4)))
  (N3:K.lookup i4=some ⟨j7,A3,.func (fnOf "counted" "counted" (bI jm) (bu jm) (aB jm) .none j0 r9 z0 q4 g7 s8),s1⟩) (P9:codeIn K g7 "counted"=true) (q6:keepIn K (.ref i4)=true)
  (N6:UV K (.ref C1) "chain"=some (some (.ref g0))) (D3:Wc K (.ref g0)=true)
  (C4:K.lookup g0=some ⟨y7,t5,.func (fnOf "chain" "Stack.chain" (bI fD) (bu fD) (aB fD) .none A1 w1 j8 n7 g3 u4),s9⟩) (D7:codeIn K g3 "Stack.chain"=true) (y0:keepIn K (.ref g0)=true)
  (B9:UV K (.ref C1) "offset"=some (some (.ref e9))) (M9:Wc K (.ref e9)=true)
  (H9:K.lookup e9=some ⟨B0,o9,.func (fnOf "offset" "Stack.offset" (bI dG) (bu dG) (aB dG) .none y3 A5 r3 i9 i2 s5),y9⟩) (D0:codeIn K i2 "Stack.offset"=true) (j9:keepIn K (.ref e9)=true)
  (M6:UV K (.ref C1) "steps"=some (some (.ref f0))) (M0:Wc K (.ref f0)=true)
  (P8:K.lookup f0=some ⟨y6,t3,.func (fnOf "steps" "Stack.steps" (bI fG) (bu fG) (aB fG) .none y1 x3 u8 m6 h7 m1),A2⟩) (E6:codeIn K h7 "Stack.steps"=true) (q5:keepIn K (.ref f0)=true)
  (E7:UV K (.ref C1) "unhang"=some (some (.ref e2))) (O8:Wc K (.ref e2)=true)
  (G8:K.lookup e2=some ⟨u5,s3,.func (fnOf "unhang" "Stack.unhang" (bI d_) (bu d_) (aB d_) .none w7 u6 t9 y8 h4 o6),v0⟩) (J8:codeIn K h4 "Stack.unhang"=true) (w5:keepIn K (.ref e2)=true)
  (K7:UV K (.ref C1) "back"=some (some (.ref e3))) (J9:Wc K (.ref e3)=true)
  (O9:K.lookup e3=some ⟨A6,q8,.func (fnOf "back" "Stack.back" (bI gk) (bu gk) (aB gk) .none t0 x7 x4 v5 h5 j6),r7⟩) (P7:codeIn K h5 "Stack.back"=true) (p6:keepIn K (.ref e3)=true)
  (C6:UV K (.ref C1) "together"=some (some (.ref e7))) (C5:Wc K (.ref e7)=true)
  (K9:K.lookup e7=some ⟨t6,o7,.func (fnOf "together" "Stack.together" (bI di) (bu di) (aB di) .none o1 j1 r2 s2 h0 v1),v6⟩) (L5:codeIn K h0 "Stack.together"=true) (o5:keepIn K (.ref e7)=true)
  (N4:UV K (.ref C1) "looks"=some (some (.ref e6))) (C8:Wc K (.ref e6)=true)
  (Q4:K.lookup e6=some ⟨p0,r4,.func (fnOf "looks" "Stack.looks" (bI fH) (bu fH) (aB fH) .none w6 t8 j2 v7 g9 B2),w2⟩) (G5:codeIn K g9 "Stack.looks"=true) (u7:keepIn K (.ref e6)=true)
  (L2:UV K (.ref C1) "standing"=some (some (.ref e8))) (I9:Wc K (.ref e8)=true)
  (G6:K.lookup e8=some ⟨v4,n5,.func (fnOf "standing" "Stack.standing" (bI cJ) (bu cJ) (aB cJ) .none n3 j5 x6 w3 g6 m4),A8⟩) (C3:codeIn K g6 "Stack.standing"=true) (w8:keepIn K (.ref e8)=true)
  (G0:UV K (.ref C1) "hang"=some (some (.ref e4))) (K0:Wc K (.ref e4)=true)
  (H4:K.lookup e4=some ⟨x0,p7,.func (fnOf "hang" "Stack.hang" (bI gm) (bu gm) (aB gm) .none q3 s7 A7 k0 h3 r0),m8⟩) (E5:codeIn K h3 "Stack.hang"=true) (y2:keepIn K (.ref e4)=true)
  (B4:UV K (.ref C1) "join"=some (some (.ref e5))) (E0:Wc K (.ref e5)=true)
  (J7:K.lookup e5=some ⟨x8,n8,.func (fnOf "join" "Stack.join" (bI fZ) (bu fZ) (aB fZ) .none x5 v9 v2 m7 i0 t1),n9⟩) (D2:codeIn K i0 "Stack.join"=true) (s4:keepIn K (.ref e5)=true)
  (J0:nsIn K Uv "law"=some (some (.ref i3)))
  (Q1:K.lookup i3=some ⟨i8,n2,.func (fnOf "law" "law" (bI nW) (bu nW) (aB nW) .none g4 g5 g8 i1 e1 h6),j3⟩) (E1:codeIn K e1 "law"=true) (Q9:keepIn K (.ref i3)=true)
  (b4:nsIn K Uv "Stack"=some (some (.ref C1))) (D1:Yz K C1 Str.empty=true) (R0:Zm K C1=true) (E9:aaI K C1=true) (F0:UV K (.ref C1) "__setattr__"=some (some (.builtin "object.__setattr__"))) (P3:abk K C1=true) (G9:keepIn K (.ref C1)=true)
  (y5:UV K (.ref C1) "turn"=some none)
  (v3:UV K (.ref C1) "weights"=some none)
  (o0:UV K (.ref C1) "behind"=some none)
  (o3:UV K (.ref C1) "sizes"=some none)
  (t4:UV K (.ref C1) "done"=some none)
  (u2:UV K (.ref C1) "looked"=some none)
  (g1:nsIn K Uv "LETTERS"=some (some (.str "abcdefghijklmnopqrstuvwxyz" B3)))
  (g2:nsIn K Uv "LONGEST"=some (some (.int 8 P0)))
  (z1:nsIn K Uv "abs"=some none)
  (F:nsIn K Uv "all"=some none)
  (z3:nsIn K Uv "bool"=some none)
  (z4:nsIn K Uv "dict"=some none)
  (z5:nsIn K Uv "enumerate"=some none)
  (z6:nsIn K Uv "int"=some none)
  (z7:nsIn K Uv "isinstance"=some none)
  (z8:nsIn K Uv "len"=some none)
  (z9:nsIn K Uv "list"=some none)
  (L7:nsIn K Uv "max"=some none)
  (K6:nsIn K Uv "min"=some none)
  (B5:nsIn K Uv "range"=some none)
  (C0:nsIn K Uv "set"=some none)
  (N9:nsIn K Uv "sorted"=some none)
  (O7:nsIn K Uv "str"=some none)
  (N2:nsIn K Uv "sum"=some none) :
  ∃fd:Vk,(∀(s:T7)(v:Value),abE s fd ⟨[v],[]⟩ [("_law_script",v)])/\∀base:Heap,K.In base->base.Ns Uv mg->d8 l.prog w K mg base CX0 6 fa fd Km (FP K):=by
 have e:=I3.symm.trans (mg_of X G J0);cases e;have B:Blt mg:=⟨mg_none_of X G z1,mg_none_of X G F,mg_none_of X G z3,mg_none_of X G z4,mg_none_of X G z5,mg_none_of X G z6,mg_none_of X G z7,mg_none_of X G z8,mg_none_of X G z9,mg_none_of X G L7,mg_none_of X G K6,mg_none_of X G B5,mg_none_of X G C0,mg_none_of X G N9,mg_none_of X G O7,mg_none_of X G N2⟩;have d0:Cls K C1:=⟨D1,R0,E9,F0⟩;have z:Kla K mg "Stack" nl2:=⟨C1,mg_of X G b4,d0,W9.mpr ⟨y5,W9.mpr ⟨v3,W9.mpr ⟨o0,W9.mpr ⟨o3,W9.mpr ⟨t4,W9.mpr ⟨u2,List.forall_mem_nil _⟩⟩⟩⟩⟩⟩⟩;have e0:Glb mg "LETTERS" (.str "abcdefghijklmnopqrstuvwxyz"):=⟨_,mg_of X G g1,⟨_,rfl⟩⟩;have d7:Glb mg "LONGEST" (.int 8):=⟨_,mg_of X G g2,⟨_,rfl⟩⟩;have F1:=du (st:=iz) l1 Z k1;have F2:=du (st:=iw) l2 c2 k2;have F3:=du (st:=cL) l3 c3 k3;have F4:=du (st:=il) l4 c4 k4;have F5:=du (st:=gY) l5 c5 k5;have F6:=du (st:=fB) l6 c6 k6;have F7:=du (st:=bT) l7 c7 k7;have F8:=du (st:=fu) l8 c8 k8;have F9:=du (st:=cH) l9 c9 k9;have y4:=du (st:=eX) O6 I6 r1;have m2:=du (st:=fj) E4 N5 w0;have x2:=du (st:=jm) N3 P9 q6;have l0:=du (st:=fD) C4 D7 y0;have o8:=du (st:=dG) H9 D0 j9;have t2:=du (st:=fG) P8 E6 q5;have t7:=du (st:=d_) G8 J8 w5;have s0:=du (st:=gk) O9 P7 p6;have n6:=du (st:=di) K9 L5 o5;have p8:=du (st:=fH) Q4 G5 u7;have A0:=du (st:=cJ) G6 C3 w8;have n0:=du (st:=gm) H4 E5 y2;have u3:=du (st:=fZ) J7 D2 s4;have M4:=du (st:=nW) Q1 E1 Q9;refine⟨fnOf "law" "law" (bI nW) (bu nW) (aB nW) .none g4 g5 g8 i1 e1 h6,λs v=>.of_eq rfl,λbase _ _=>?_⟩;have d5:qZ l.prog w K mg base:=⟨_,_,yS F1 B,mg_of X G a1,k1,F1.binds (ps:=J4) λ_ _ _ _ _ _=>un2 λ_ _=>rfl⟩;have N:jL l.prog w K mg base:=⟨_,_,zf F2 B,mg_of X G a2,k2,F2.binds (ps:=nl7) λ_ _ _ _ _ _=>un2 λ_ _=>rfl⟩;have b2:jZ l.prog w K mg base:=⟨_,_,pK F3 B N,mg_of X G a3,k3,F3.binds (ps:=Lf) λ_ _ _ _ _ _=>un1 λ_=>rfl⟩;have d9:vI l.prog w K mg base:=⟨_,_,Ae F4 B e0 d7,mg_of X G a4,k4,F4.binds (ps:=nl8) λ_ _ _ _ _ _=>un1 λ_=>rfl⟩;have d4:qQ l.prog w K mg base:=⟨_,_,xg F5 B d9,mg_of X G a5,k5,F5.binds (ps:=nl9) λ_ _ _ _ _ _=>un3 λ_ _ _=>rfl⟩;have c0:nY l.prog w K mg base:=⟨_,_,uG F6 B d4,mg_of X G a6,k6,F6.binds (ps:=["things"]) λ_ _ _ _ _ _=>un1 λ_=>rfl⟩;have b1:KMk l.prog w K mg base 4 "Stack" nl4 (spI ⟨K,mg⟩ ob0 ob0 bG):=⟨C1,_,_,mg_of X G b4,⟨P3,a7,i7,G9⟩,o4 F7 B c0 z,F7.binds (ps:=nl4) λ_ _ _ _ _ _=>un3 λ_ _ _=>rfl⟩;have b7:mO l.prog w K mg base:=⟨_,_,uQ F8 B,mg_of X G a8,k8,F8.binds (ps:=["_law_n"]) λ_ _ _ _ _ _=>un1 λ_=>rfl⟩;have b0:j4 l.prog w K mg base:=⟨_,_,pR F9 B,mg_of X G a9,k9,F9.binds (ps:=J6) λ_ _ _ _ _ _=>un2 λ_ _=>rfl⟩;have d6:q9 l.prog w K mg base:=⟨_,_,yE y4 B N,mg_of X G Q2,r1,y4.binds (ps:=Kh) λ_ _ _ _ _ _=>un3 λ_ _ _=>rfl⟩;have V:j_ l.prog w K mg base:=⟨_,_,ur m2 B,mg_of X G D5,w0,m2.binds (ps:=G3) λ_ _ _ _ _ _=>un2 λ_ _=>rfl⟩;have b9:qI l.prog w K mg base:=⟨_,_,zM x2 B,mg_of X G L3,q6,x2.binds (ps:=G7) λ_ _ _ _ _ _=>un2 λ_ _=>rfl⟩;have J:gO l.prog w K mg base 2 "Stack" "chain" nl6 (spP ⟨K,mg⟩ aQ):=⟨C1,_,_,mg_of X G b4,d0,⟨N6,D3,y0⟩,tV l0 B V z,l0.binds (ps:=nl6) λ_ _ _ _ _ _=>un2 λ_ _=>rfl⟩;have U:gO l.prog w K mg base 1 "Stack" "offset" nl5 (spP ⟨K,mg⟩ aY):=⟨C1,_,_,mg_of X G b4,d0,⟨B9,M9,j9⟩,rN o8 B z,o8.binds (ps:=nl5) λ_ _ _ _ _ _=>un2 λ_ _=>rfl⟩;have O:gO l.prog w K mg base 3 "Stack" "steps" nl1 (spI ⟨K,mg⟩ ob0 ob0 bc):=⟨C1,_,_,mg_of X G b4,d0,⟨M6,M0,q5⟩,sS t2 B V b9 J U z,t2.binds (ps:=nl1) λ_ _ _ _ _ _=>un3 λ_ _ _=>rfl⟩;have b5:gO l.prog w K mg base 1 "Stack" "unhang" Hv (spI ⟨K,mg⟩ ob0 ob0 cz):=⟨C1,_,_,mg_of X G b4,d0,⟨E7,O8,w5⟩,rT t7 B z,t7.binds (ps:=Hv) λ_ _ _ _ _ _=>un2 λ_ _=>rfl⟩;have d2:gO l.prog w K mg base 2 "Stack" "back" nl0 (spI ⟨K,mg⟩ ob0 ob0 b8):=⟨C1,_,_,mg_of X G b4,d0,⟨K7,J9,p6⟩,uY s0 B b5 z,s0.binds (ps:=nl0) λ_ _ _ _ _ _=>un1 λ_=>rfl⟩;have b3:gO l.prog w K mg base 4 "Stack" "together" nl1 (spI ⟨K,mg⟩ ob0 ob0 bK):=⟨C1,_,_,mg_of X G b4,d0,⟨C6,C5,o5⟩,pZ n6 B O,n6.binds (ps:=nl1) λ_ _ _ _ _ _=>un3 λ_ _ _=>rfl⟩;have b6:gO l.prog w K mg base 1 "Stack" "looks" nl0 (spP ⟨K,mg⟩ bx):=⟨C1,_,_,mg_of X G b4,d0,⟨N4,C8,u7⟩,uO p8 B z,p8.binds (ps:=nl0) λ_ _ _ _ _ _=>un1 λ_=>rfl⟩;have a0:gO l.prog w K mg base 1 "Stack" "standing" nl0 (spP ⟨K,mg⟩ bC):=⟨C1,_,_,mg_of X G b4,d0,⟨L2,I9,w8⟩,oX A0 B z,A0.binds (ps:=nl0) λ_ _ _ _ _ _=>un1 λ_=>rfl⟩;have d3:gO l.prog w K mg base 3 "Stack" "hang" nl3 (spI ⟨K,mg⟩ ob0 ob0 cP):=⟨C1,_,_,mg_of X G b4,d0,⟨G0,K0,y2⟩,uX n0 B J U z,n0.binds (ps:=nl3) λ_ _ _ _ _ _=>un4 λ_ _ _ _=>rfl⟩;have d1:gO l.prog w K mg base 4 "Stack" "join" nl3 (spI ⟨K,mg⟩ ob0 ob0 cR):=⟨C1,_,_,mg_of X G b4,d0,⟨B4,E0,s4⟩,vp u3 B O a0 d3 b9 z,u3.binds (ps:=nl3) λ_ _ _ _ _ _=>un4 λ_ _ _ _=>rfl⟩;exact d8.imp (Qt M4 B d5 b2 b1 b7 b0 d6 O N d2 b3 b6 d1 J) λvs H Q E ⟨a,ns,e,hS,Y,q⟩=>by subst e;exact Py Y hS q
theorem walk{q:U_}{O:List Str}{Z:(Str->Option Value)->Heap->Prop}{V:World->Heap->Prop}{d:DefRec}{K:Params->Frag}(N:l.most=some 63)(U:d.params.defaults=[])
  (hY:∀(w:World)(h:Heap),V w h->(K w.params).In h)
  (F:∀(w:World)(mg:Str->Option Value)(fa:Addr)(h:Heap),(K w.params).In h->h.Ns Uv mg->mg d.name=some (.ref fa)->
   ∃fd:Vk,(∀(s:T7)(u:Value),abE s fd ⟨[u],[]⟩ [("_law_script",u)])/\∀base:Heap,(K w.params).In base->base.Ns Uv mg->d8 l.prog w (K w.params) mg base CX0 6 fa fd Km (FP (K w.params))) :
  ac3 q O Z V l.row.toRowW d [] (λf vs=>acU f vs):=
 L2.walk_of (n:=63) (k:=6) (x:="_law_script") (CX:=λ_=>CX0) (sp:=λw=>FP (K w.params)) N (by decide) U ⟨rfl,by decide,by decide,rfl⟩ hY F (λ_ _ a ns Y _ J=>⟨a,ns,rfl,J,Y,λ_=>rfl⟩) λ_ _ _ _ _ z=>z
end Jb
end
namespace PySem.W.Fast
def tw6317206395257904912:=0
def tw11679537780220526088:=0
def tw12579907758886368227:=0
def tw6585825932743638197:=0
def tw8139204246051607088:=0
def tw7932771723745879715:=0
def tw11102414124515858053:=0
def tw16874144709768006946:=0
def tw11515894837284830343:=0
def tw1332994320114304770:=0
def tw773098721631014725:=0
def tw5085483520637622236:=0
def tw8926662029935833045:=0
def tw11977170827188266796:=0
def tw2193759353176173246:=0
def tw2860010639467128194:=0
def tw1672292878784127002:=0
def tw3599887279878580151:=0
def tw4610859254489271661:=0
def tw9237842645813855965:=0
def tw1346882160182544371:=0
def tw10660780451471516131:=0
def tw4058588316523600990:=0
def tw1827452868927628386:=0
def tw11163295425138263600:=0
def tw5856636410805197109:=0
def tw2923276104140513013:=0
def tw4257538376714016187:=0
def tw14900523611679561355:=0
def tw11636021757656351420:=0
def tw11943822074253099687:=0
def tw17657320356370609589:=0
def tw17036245737767278396:=0
def tw15801335260979413981:=0
def tw3466185352158353962:=0
def tw11850033769291413368:=0
def tw12867292704030990845:=0
def tw13658461896639758493:=0
def tw5146673981865682567:=0
def tw13708111010261012684:=0
def tw8557377507225513487:=0
def tw8386377669315404629:=0
def tw8194278124400488968:=0
def tw15755231868872465935:=0
def tw462314260067394292:=0
def tw12349393995612351682:=0
def tw10836038367535087959:=0
def tw17163586143023913166:=0
def tw14247130762142248952:=0
def tw10125650762526749058:=0
def tw5643784161262293124:=0
def tw17706359767165426428:=0
def tw3571527332857197731:=0
def tw2692718452599129624:=0
def tw12446853556604151907:=0
def tw14953600826264175087:=0
def tw193768476495405987:=0
def tw2250757274652517025:=0
def tw12864995919780268388:=0
def tw5835923717541783980:=0
def tw1548056000857292188:=0
def tw14794276058945031948:=0
def tw12655337054936055492:=0
def tw432820966931936395:=0
def tw15827552344472563077:=0
def tw2734562946481849530:=0
def tw17450503386991603125:=0
def tw9237690075229350920:=0
def tw14410354761778985462:=0
def tw13691227529551602197:=0
def tw15028383792647270921:=0
def tw17048956922577487244:=0
def tw7594618741596093571:=0
def tw6531299465992718475:=0
def tw8029506966586587997:=0
def tw1408836667333951670:=0
def tw13587634654526630787:=0
def tw11555642373816605972:=0
def tw11163921910655151565:=0
def tw11897319488600167984:=0
def tw3028705452148826292:=0
def tw3247358867831362344:=0
def tw9156651677612792249:=0
def tw3460228569616664163:=0
def tw9223374713795355361:=0
def tw1280945714355151934:=0
def tw9335673344113314831:=0
def tw16575603947453157502:=0
def tw12377109571672668051:=0
def tw17505798334205555361:=0
def tw3006518532922440152:=0
def tw10568175933363141747:=0
def tw10806608478458723597:=0
def tw16627503222097460694:=0
def tw2715342112964007371:=0
def tw8522930755604708444:=0
def tw16720878516963637437:=0
def tw14036556818852095532:=0
def tw1478247224224297108:=0
def tw15356039939638339415:=0
def tw2049571827726954589:=0
def tw2794588926701091008:=0
def tw5892710296243091133:=0
def tw8667145055067807908:=0
def tw8530449700694397182:=0
def tw13239885903643531323:=0
def tw2410108085731135989:=0
def tw1074748893446630804:=0
def tw10194983283842743952:=0
def tw6172262380753572464:=0
def tw13444374151135761899:=0
def tw18024455262349223991:=0
def tw8375463611720589263:=0
def tw2774820445389760352:=0
def tw13881722806342395934:=0
def tw10306428141265358643:=0
def tw12158279405484977229:=0
def tw11133930844318694384:=0
def tw4049652642870821506:=0
def tw6669721833665925260:=0
def tw9695813687072126928:=0
def tw15753497088690670916:=0
def tw2463692982446952589:=0
def tw15163744003407372943:=0
def tw10003151595368205695:=0
def tw5194768368549717835:=0
def tw1210809668874249810:=0
def tw12845959600235325771:=0
def tw15416391522459396740:=0
def tw1811197833655583927:=0
def tw13787786633411966929:=0
def tw4412252438741374069:=0
def tw11068623769400761201:=0
def tw11938488980930390442:=0
def tw6250114339972760632:=0
def tw12839868021158591662:=0
def tw2591036750137893970:=0
def tw6223407642604557510:=0
def tw2658355335635100196:=0
def tw17958665856216712081:=0
def tw13853790294026990677:=0
def tw2327808307845590356:=0
def tw1228719298755858911:=0
def tw9025238164411672198:=0
def tw9567890304689249345:=0
def tw18101443678446634686:=0
def tw9708207980782718000:=0
def tw7110584176114791930:=0
def tw373326518734449973:=0
def tw7713881130842762695:=0
def tw13475704959343620568:=0
def tw5476968813062289580:=0
def tw7485522092263317089:=0
def tw265819652197632314:=0
def tw15860170103537094908:=0
def tw6392619636975175676:=0
def tw1560244906611583072:=0
def tw17236910841708494135:=0
def tw10059719543627201861:=0
def tw1456500643134174528:=0
def tw15899476586067253799:=0
def tw2370578744069699045:=0
def tw14216842820735196097:=0
def tw14356903353753820104:=0
def tw17440977856096405760:=0
def tw12028723745494630476:=0
def tw13744776343230839092:=0
def tw10514849701158920692:=0
def tw12065818550525101860:=0
def tw11164843116767731900:=0
def tw7322156169348446613:=0
def tw3643323645570057675:=0
def tw10536819847366362799:=0
def tw1550911154847299665:=0
def tw4919665554846669574:=0
def tw2171546280617358636:=0
def tw7030532641709606825:=0
def tw16497622322114498015:=0
def tw12017955762248095015:=0
def tw610460400639299068:=0
def tw2495136434327368517:=0
def tw11759761365271412649:=0
def tw16653347993097191515:=0
def tw4581010486699737537:=0
def tw8349501422686614908:=0
def tw5774066766350829735:=0
def tw17736614442484955693:=0
def tw5979289087634343915:=0
def tw3987696327859293568:=0
def tw2595953239313846613:=0
def tw2955900258543810586:=0
def tw18323138821800501464:=0
def tw18119486493959289854:=0
def tw6461261929213025146:=0
def tw14762473904098865190:=0
def tw6602573366803893416:=0
def tw9396505491524364260:=0
def tw10781125152183599977:=0
def tw3524918564130564320:=0
def tw16682716099242342150:=0
def tw6769346987844494739:=0
def tw3161187415346106888:=0
def tw2060763362550987390:=0
def tw1152842613892538473:=0
def tw13092628171085938387:=0
def tw1085555349417396668:=0
def tw7198216792730134210:=0
def tw8460650052928964533:=0
def tw7022523089072005966:=0
def tw11524478856771996983:=0
def tw15206984706944331470:=0
def tw1844888351889298843:=0
def tw17168671415410835945:=0
def tw2936677144805968592:=0
def tw3615602452512652235:=0
def tw731505937750807780:=0
def tw2427304644029149208:=0
def tw16439644730971737487:=0
def tw3366969458468770553:=0
def tw15745306625365748426:=0
def tw2114095982471645352:=0
def tw11658457257974365027:=0
def tw5018680486932863816:=0
def tw9826827782188910343:=0
def tw10930277205017872044:=0
def tw15452093732295934037:=0
def tw13079478281585959586:=0
def tw7163837094440926580:=0
def tw10546299646200992137:=0
def tw18300533604662460749:=0
def tw5587279315539576942:=0
def tw17936096245768774925:=0
def tw8533495469137626890:=0
def tw10518743733179674424:=0
def tw3212265181091453817:=0
def tw567014387002182821:=0
def tw17234832668104958515:=0
def tw9393855175729720425:=0
def tw13699919523375652414:=0
def tw6636726277208249232:=0
def tw18095656986469921651:=0
def tw18404449372665492452:=0
def tw18217682994858002306:=0
def tw4559676029940109847:=0
def tw920305255976977699:=0
def tw12693890278985505199:=0
def tw10399104985219483774:=0
def tw5950948653309350822:=0
def tw11478697034082998848:=0
def tw8633337330004421958:=0
def tw4358718760892565239:=0
def tw12790572587268072787:=0
def tw14904006800141562521:=0
def tw12817795678585038495:=0
def tw5466400838142736931:=0
def tw8423782910146084006:=0
def tw1896348139957264601:=0
def tw9445200985742939306:=0
def tw3868639162405226531:=0
def tw13142881758699628286:=0
def tw9657234380690837300:=0
def tw14843768166488829417:=0
def tw10853893123592757117:=0
def tw14626852777150092992:=0
def tw8861157301343821675:=0
def tw3350753444556362971:=0
def tw13601331935101617047:=0
def tw1250993631612069160:=0
def tw2363811131234571144:=0
def tw1360420057563943212:=0
def tw15671675722852932372:=0
def tw10299071266010952558:=0
def tw17550390515000077114:=0
def tw586814466740746214:=0
def tw8686106044252499968:=0
def tw11765429612706222127:=0
def tw11246797905615835619:=0
def tw6885907000428257273:=0
def tw10590505121998351955:=0
def tw1056357345055212274:=0
def tw13906806794280124020:=0
def tw14650753326527973437:=0
def tw400215914606282925:=0
def tw9542093239076107499:=0
def tw6759313889902037434:=0
def tw14667416129647530972:=0
def tw14353146295712232521:=0
def tw5196726823054862878:=0
def tw12212854211641112917:=0
def tw5724685533650440320:=0
def tw11207044678283363010:=0
def tw15145606373317957527:=0
def tw18444059810542554021:=0
def tw7185521694489860213:=0
def tw17017458232848829684:=0
def tw2272369109479811065:=0
def tw17346610950253145761:=0
def tw50307462146575962:=0
def tw13415292645647409056:=0
def tw17346182110469928451:=0
def tw17753718778893845854:=0
def tw784903131320489219:=0
def tw507442394395589876:=0
def tw11694646431184331324:=0
def tw6776686952404080742:=0
def tw10672433869713918167:=0
def tw4382709793422391011:=0
def tw7924220445090039818:=0
def tw4214627096428863529:=0
def tw10196294351822226001:=0
def tw6091120820177846345:=0
def tw2974271665191089257:=0
def tw7200882747427857471:=0
def tw12965630037761336818:=0
def tw13306852497119012916:=0
def tw15201590081755894389:=0
def tw3478958692705615599:=0
def tw15152069829620844930:=0
def tw15575674773549211286:=0
def tw9417910838791555804:=0
def tw5850977737755016913:=0
def tw11974136869490931571:=0
def tw8823072144859515620:=0
def tw12783584029006772781:=0
def tw11966254885479885278:=0
def tw15620301691400909393:=0
def tw10428351390449107693:=0
end PySem.W.Fast
open PySem PySem.W PyProof.Rows
set_option maxRecDepth 100000 in
set_option maxHeartbeats 0 in
theorem PySem.Challenge.cw_joinback_k61_whole_looks_stay_few_holds : PySem.Challenge.rw_joinback_k61_whole_looks_stay_few.Holds := by
 w_on;o_law;k_head;(case hw=>w_witness2)
 k_fill
 refine Jb.walk (l:=PySem.Challenge.rw_joinback_k61_whole_looks_stay_few) rfl rfl (λw h Y=>PySem.W.kIn_of Y) ?F
 case F=>
  intro w mg fa h KX G hmg;refine' Jb.all_mk KX G hmg ?_ ?_ ?_ ?_ ?_ ?_ ?_ ?_ ?_ ?_ ?_ ?_ ?_ ?_ ?_ ?_ ?_ ?_ ?_ ?_ ?_ ?_ ?_ ?_ ?_ ?_ ?_ ?_ ?_ ?_ ?_ ?_ ?_ ?_ ?_ ?_ ?_ ?_ ?_ ?_ ?_ ?_ ?_ ?_ ?_ ?_ ?_ ?_ ?_ ?_ ?_ ?_ ?_ ?_ ?_ ?_ ?_ ?_ ?_ ?_ ?_ ?_ ?_ ?_ ?_ ?_ ?_ ?_ ?_ ?_ ?_ ?_ ?_ ?_ ?_ ?_ ?_ ?_ ?_ ?_ ?_ ?_ ?_ ?_ ?_ ?_ ?_ ?_ ?_ ?_ ?_ ?_ ?_ ?_ ?_ ?_ ?_ ?_ ?_ ?_ ?_ ?_ ?_ ?_ ?_ ?_ ?_ ?_ ?_ ?_ ?_ ?_ ?_ ?_ ?_ ?_ ?_ ?_ ?_ ?_ ?_ ?_ ?_ ?_ ?_ ?_ ?_ ?_ ?_ ?_ ?_ ?_ ?_ ?_
  any_goals k_is
  any_goals k_is
