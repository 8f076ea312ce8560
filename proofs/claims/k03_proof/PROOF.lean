import PyProof.Rows.All
import Wide.All
import OpenK.AllK
import Wide.FinOn
import Lean
import PyProof.EqAt
import PyProof.EqKinds
import PyProof.TupleCall
import KE.KDictList
import KE.KSortTup
import PyProof.AttrMissHeap
import PyProof.NeKinds
import PyProof.TupleIter
import PyProof.TupleOfSeq
import PySem.Challenge.RW_joinback_k03_classes
set_option Elab.async false
set_option linter.all false
set_option compiler.extract_closed false
set_option maxRecDepth 100000
set_option hygiene false
local macro_rules
 |`(tactic|show 1)=>`(tactic|(simp only[Brs]at h';obtain⟨a,xs,rfl,N,_⟩:=h';cases (show Z=Wb a from r')))
 |`(tactic|show 2)=>`(tactic|(repeat(any_goals(first|assumption|wp_step))))
 |`(tactic|show 3)=>`(tactic|(simp only[Brs]at h';subst h'))
 |`(tactic|show 4)=>`(tactic|(intro pins s σ H x y v u Q I rx J h;obtain⟨i,j,rfl,rfl,q⟩:=h;obtain⟨t,rfl⟩:=rx;obtain⟨t',rfl⟩:=J))
 |`(tactic|show 5)=>`(tactic|(have q1:=q.from m1;have a1:∀{ρ2:En}{σ2:L2.St}{H2:Hp}{S2:Ad},Mv P H1 H2 σ σ2 S S2 []->LtB true H1 (wn ob S Fr) H2 (wn ob S2 Fr):=λm=>qw (tO O m);refine⟨λi m σ2 H2=>i+m=items.length/\∃ρ2 S2,Sta G H2 ob ρ2 σ2 S2 Fr/\Mv P H1 H2 σ σ2 S S2 []/\forL tg V (items.drop i) ρ2=some r,⟨items.length,by omega,ρ,S,O,.refl,e⟩,?_⟩;rintro i m σ2 H2 ⟨a6,ρ2,S2,B,m2,e2⟩;by_cases N:i<items.length))
 |`(tactic|show 6)=>`(tactic|(intro pins s σ H xs us Q I r h))
 |`(tactic|show 7)=>`(tactic|(obtain⟨x,rfl,rx⟩:=r.inv1))
local macro_rules
 |`(1.10)=>`((by omega))
 |`(1.11)=>`((λ_=>O.mono (by decide)))
 |`(1.12)=>`((model X.prog X.w))
 |`(1.13)=>`((bj X N' scope C Y H fp))
 |`(1.14)=>`((model prog w))
 |`(1.15)=>`((.ListComp elt [⟨target,iter,ifs,0⟩] scope pos))
 |`(1.16)=>`((.lst .frz (ns.map D.str)))
 |`(1.17)=>`((.DictComp kx vx [⟨target,iter,ifs,0⟩] scope pos))
 |`(1.18)=>`((ixb (λ_=>aP O)))
 |`(1.19)=>`((D.lst Mk.frz (List.map D.str ns)))
 |`(1.20)=>`((x==("__debug__":Str)))
 |`(1.21)=>`((au false 0))
 |`(1.22)=>`((by simp[z]))
 |`(1.23)=>`((Addr×Obj))
 |`(1.24)=>`((cu [0] (λ_=>I) 1.11 (bG 0 (bF (aQ (aa aF ak))))))
set_option hygiene true
section
def Wd:=@if_pos
def Wo:=@if_neg
def WM:=@if_true
def WQ:=@decide_eq_false
def XD:=@if_false
def XJ:=@decide_eq_true
open PySem renaming wpAny_bind->gD,Shared->V0,wpAny_pure->V3,sizeLine->V6,starEach->We,mainGlobals->Wv,Program->WY,compareOp->W8,wpAny_holding->Xf,Around->Xk,foldedSetIterable->Xl,FuncData->Xq,wpAny_mono->Xy,assignEach->Xz,wpAny_newObj_type->XC,binaryOp->X6,bootBuiltins->Yi,backTo->Yj,wpAny_callSpecial?_slot->Yn,codeAny_builtin->YC,mem_of_lookup->YH,wpAny_passesOwn->YX,plainId_quiet->Y5,sysModules->Y9,codeAny_call_builtin->Za,swapsWith->Zd,wpAny_typeOf->Zf,wpAny_comprehension_free->Zh,holding->Zt,wpAny_standAt->Zu,swapsWithSole->Zv,codeAny->Zw,attributeBase->Zx,wpAny_Call_Name_kw->Zz,call_meets->ZC,sizeLine_eq->ZG,wpAny_field->ZJ,boot_len->ZK,wpAny_truthy_bool->ZL,rawInt->ZR
open PySem renaming IsPart->ZS,builtinLookup_eq_fast->ZV,behindInMarks->Z6,sliceBounds->Z_,letOwnedTupleGo->aad,assign->aai,NameKind->aaj,tupleKind_room_in1->aan,wpAny_rule->aaq,PlainAttrs->aar,Keyword->aas,wpAny_pyIter_enum->aay,wpAny_pyIter_list->aaz,swappedStores->aaH,wpAny_call_entry->aaL,wpAny_isInstance->aaN,wpAny_execs_nil->aa0,pyNext->aa1,typeLookup_type->aa2,wpAny_updateSeq->aa6,getItem->aa_,wpAny_setField->abd,keywordEach->abe,wpAny_of_eq->abf,PassesOwn->abh,typeOf->abk,IsPair->abn,wpAny_letOwnedTupleGo_enum->abu,wpAny_newList->abw,slot_list_getitem->abB,typeLookup->abG,valueAt->abL,callerA->abM,Paired->abN,codeAny_mono->abP,noFill_tuple_add->abR,wpAny_getItem_list_slice->abS,ZipApart->abW,wpAny_pyIter_zip->abX,tupleKind->ab2
open PySem renaming exec_Assign_arm->ab4,wpAny_pyNext_list_item->aca,wpAny_throw->ach,unsupported->aci,isTrue->acp,wpAny_pyNext_list_end->acq,BindsTo->acs,wpAny_seqItems->acw,wpAny_notOrdered_dict->acx,wpAny_newTuple->acA,wpAny_pyNext_zip_item->acC,wpAny_load->acE,backToKw->acG,wpAny_newFunctionEnv->acJ,attributeErrorLeaves->acK,wpAny_pyNext_zip_end->acO,assignInOrder->acT,seq_tuple_add->acU,evalPart_none->acV,wpAny_attempt->acX,wpAny_dictSet_pairs->ac2,concat_meets->adb,seqIndex_neg->ade,updateSeq->adm,relabel->adp,newList->adq,list_append->adx,seqIndex_of->adH,call->adR,Fin->ad6
open List renaming mem_append->qb,getElem?_eq_some_iff->Hq,mem_append_right->VR,mem_map->V4,mem_cons->V5,map_cons->V7,map_map->V9,length_map->Wc,mem_append_left->Wf,getElem?_eq_getElem->Wh,nodup_append->Wi,mem_singleton->Wl,append_nil->Wm,mem_cons_of_mem->Ws,mem_of_getElem?->Wu,map_append->Ww,map_congr_left->Wz,range->WD,length_cons->WK,mem_cons_self->WR,getElem?_append_left->WX,cons_append->W0,getElem?_cons_succ->W3,findIdx?_eq_some_iff_getElem->W6,nodup_cons->W_,getElem?_cons_zero->Xa,length_nil->Xe,map_nil->Xi,length_append->Xn,getD_eq_getElem?_getD->Xo,Perm->Xp,getElem?_append_right->XH,set_cons_succ->XN,getElem_cons_drop->XQ,getElem_of_mem->XR,mem_range->XS,replicate->XX,Sublist->Yb,sublist_append_right->Yd,findIdx?_eq_none_iff->Ye
open List renaming length->Yl,length_drop->Ys,drop_length->Yt,perm_append_comm->Yv,set_cons_zero->Yw,getElem?_eq_none_iff->Yx,mem_filter->Yy,find?_cons->YB,append_assoc->YD,flatten_cons->YF,Pairwise->YG,length_take->YJ,getElem_mem->YK,not_mem_nil->YL,take_of_length_le->YM,map_id->YQ,pairwise_cons->YW,ext_getElem?->Y6,take_add_one->Y7,pairwise_iff_getElem->Zc,sublist_append_left->Zk,all_eq_true->Zn,mem_flatten->Zq,pairwise_map->ZP,toArray->ZW,lookup_cons->ZZ,mem_of_mem_drop->Z1,take_length->Z3,mem_reverse->Z5,all_cons->Z7,perm_ext_iff_of_nodup->Z9,filterMap_cons->aaa,of_mem_zip->aae,set_eq_of_length_le->aap,reverse_cons->aax,getElem?_set_self->aaB,eraseIdx_append_of_length_le->aaF,drop_eq_nil_of_le->aaG,any_cons->aaI,filter_cons->aaM
open List renaming nil_sublist->aaO,any_eq_true->aaP,countP_cons->aaQ,take_append_drop->aaU,mem_iff_getElem?->aaV,getElem?_eq_none->aaW,set_append_right->aaX,pairwise_flatten->aaY,eraseIdxIfInBounds_toArray->aaZ,mem_of_mem_take->aa3,getElem?_mapIdx->aa5,flatten_append->aa7,mem_filterMap->abi,sum_cons->abz,getElem?_inj->abE,drop_eq_getElem_cons->abH,getElem_inj->abO,zip->abV,flatten_nil->abZ,getElem?_replicate->ab0,forIn_cons->ab7,range_succ_eq_map->acg,length_pos_of_mem->acn,contains_iff_mem->acD,getElem?_of_mem->acM,getElem?_range->ac4,length_reverse->ac5,length_pos_iff->ac6,all_map->adg,findIdx?_cons->adk,push_toArray->adz,filter_congr->adD,reverse_perm->adF,map_fst_zip->adP,map_snd_zip->adQ,filter_map->adV,drop_zero->adZ,forIn_nil->ad3
open Option renaming bind_some->V1,map_some->W2,getD_some->aaR,isSome_map->abC,isSome_iff_exists->abQ,map_eq_some_iff->acf,none->adI,getD_none->adN
open PySem.Heap renaming get?_push_of_some->V2,lt_size->V_,get?_push_size->Wx,get?_update_other->W5,size_update->X8,size_push->Yu,get?_update_self->YZ,get?_update_ne->aac,SameBut->aah,get?_push_ne->aaA,IsSliceOf->ad2
open PySem.W renaming Frag->V8,kia_one->X3,fnOf->aak,kitx_list->aav,kitx_dict->aaw,kitOne->aa8,keepIn->aa9,kitAny->aba,methodObj->abA,instObj->ab3,OpenLaw->ab6,cellsFrom_some->acb,lookIn->acr,codeIn->acu,kitx_float->ac9,kitx_tuple->ac_,kitx_none->adu,kitx_bool->adv,plainGet->adJ,kitx_int->adK,kitx_str->adL,kitx_own->adM,findIn->adY,WalkO->ad8
open Nat renaming le_refl->Wa,lt_of_lt_of_le->Wg,ne_of_lt->Wj,le_trans->Xu,lt_irrefl->XF,zero_le->Ym,lt_succ_of_lt->Yp,ne_of_gt->Yq,le_of_lt->YS,sub_self->Zj,zero_add->Zm,lt_succ_self->Z0,le_add_right->Z4,le_succ->aaE,mul_le_mul_right->acQ,lt_trichotomy->adE,succ_ne_self->adO,not_lt_zero->adX
open PySem.Value renaming ref->Wb,none->Wq,str->W7,bool->W9,int->Xc,type->Zy,float->adG,isStrOf->ad7
open Bool renaming and_eq_true->Wr,false_ne_true->WL,false_eq_true->WT,and_self->Z8,eq_iff_iff->aaf,and_false->aat,not_true->aaK,and_eq_true_iff->acI,and_true->acW,and_assoc->ad1
open Sum renaming inr->WN,inl->abK
open Ne renaming symm->WW
open PySem.Builtin.Slice renaming slicePlaces->W4,sliceAdjust->Xd,sliceApplied->Y4
open PySem.F renaming plainAttrs_list->Xb,slot_list_append->Xw,type_list_append->Xx,slot_tuple_iterator_next->X_,slot_list_getattribute->Zi,slot_zip_next->ZD,args_tuple_add_2->aal,entry_tuple_add->aau,slot_tuple_add->aaD,args_tuple_iterator_next_1->abb,entry_tuple_iterator_next->abm,args_list_append_2->acH,args_dict_update_2->acL,entry_list_append->ac1,entry_dict_update->ac3,slot_list_append->adf,slot_dict_update->adi,plain_list_iadd->adB,args_zip_next_1->adC
open PySem.Builtin.Str renaming occurrences->Xg,strKind->aab,partsBetween->aao
open PySem.Obj renaming mapSeq->Xh,data_mapFields->abl,isFreed_of_fields->acv,cls_mapFields->adA
open Option.some renaming inj->Xj,injEq->ZM
open PyProof.Rows renaming slot_tuple_getitem->Xm,callWith_type1->X4,boot_isinstance->Yh,seqObj->ZX,envOfC->aaC,AllBare->aaS,assignInOrder_cons->abg,subscriptTail->abt,listUpdate_at->abx,failedOf->abU,get?_update_seq->ab8,boot_list->ab9,subscriptTail_builtinR->acd,mirror_perm->acj,seqEpoch_at->ack,boot_sorted->aco,tail_any->acF,size_push'->acN,boot_tuple->acR,boot_str->acS,entry_tuple_getitem->ac0,IntsAre->ado
open Function renaming comp->Xr
open Or renaming inr->Xv,inl->Yk
open True renaming intro->XM
open Array renaming getD_eq_getD_getElem?->X5,length_toList->Yc,getElem_toList->Z2,getElem?_toList->aaT,getElem?_eq_some_iff->aby,forIn_toList->adl
open PySem.Around renaming under_plainId->X7
open PySem.PassesOwn renaming never->Yg
open Int renaming toNat_natCast->Yo,le_refl->Yr,le_trans->aa4,emod_lt_of_pos->adn,emod_nonneg->adU
open PySem.Builtin.Tuple renaming tupleExact->Yz,tupleItemsOf->abr
open PySem.Str renaming ofString->YT,length_append->ZQ
open ForInStep renaming yield->Y0
open List.Sublist renaming refl->Y8
open False renaming elim->Y_
open PySem.Builtin.SmallTypes renaming nextOf->Zb,stopIteration->abv,ownedTupleFields->adt,newRecord->ad0
open PySem.PyData renaming hasDict->Ze,shownAll->ZF,showable->aag,showableAll->abo,hasDictAll->abD,shown->abY,depthAll->ab_
open PySem.IsL renaming update->Zg
open List.Pairwise renaming imp_of_mem->Zo,nil->ady
open PySem.Builtin.Dict renaming updateFrom->Zr,selfAndRest->abT
open PySem.Builtin.List renaming listTooLong->aam,listUpdate->ab1
open PySem.NameKind renaming free->aaJ,cell->ad9
open PySem.Heap.IsSliceOf renaming new->abj
open PySem.Paired renaming length->abp
open PySem.Calls renaming Name_function_global->abq,call_function_entry->abI,callWith_builtin->ace,spliced_cons->ada,spliced_nil->adw
open List.Perm renaming mem_iff->abF,append_left->acy,refl->acz,trans->adW
open Classical renaming byContradiction->abJ
open PySem.Heap.DictOf renaming new->ab5
open PySem.W.Looks renaming of_pure->acB
open PySem.Draws renaming list->acP
open Prod.mk renaming injEq->acY
open PySem.Challenge renaming pw_joinback_k03_classes->acZ
open PySem.SeqAt.EqAt renaming int_str->ac7,str_int->ac8,same->ad5
open PySem.SeqAt.RcAt renaming lists_lengths->adh
open List.cons renaming injEq->adS
open StateT renaming run_pure->adT
open PySem.Flow renaming next->ad4
namespace L2
open PySem PySem.Spec PyProof.Rows
abbrev Key:=Sum Int Str
def vI:Key->Value->Bool
 |.inl k,v=>Value.isInt k v
 |.inr x,v=>ad7 x v
def Vr(w:World):Key->Int
 |.inl k=>hashInt k
 |.inr x=>hashStr w x
theorem cV:∀{k:Key}{v:Value},vI k v=true->(∃i t,k=abK i/\v=Xc i t)∨(∃x t,k=WN x/\v=W7 x t)
 |.inl i,v,h=>by
  obtain⟨t,e⟩:=Value.isInt_shape (k:=i) (v:=v) h;exact .inl ⟨i,t,rfl,e⟩
 |.inr x,v,h=>by
  obtain⟨t,e⟩:=Value.isStrOf_shape (x:=x) (v:=v) h;exact .inr ⟨x,t,rfl,e⟩
theorem Gk(i:Int)(t:Tok):vI (.inl i) (.int i t)=true:=by simp[vI,Value.isInt]
theorem G8(x:Str)(t:Tok):vI (.inr x) (.str x t)=true:=by simp[vI,ad7]
theorem QH(a b:Int):decide ((abK a:Key)=abK b)=(a==b):=by
 by_cases e:a=b
 .subst e;simp
 .have h:¬(abK a:Key)=abK b:=λq=>e (Sum.inl.inj q)
  rw[WQ h];exact(beq_eq_false_iff_ne.mpr e).symm
theorem Rz(a b:Str):decide ((WN a:Key)=WN b)=decide (a=b):=by
 by_cases e:a=b
 .subst e;simp
 .have h:¬(WN a:Key)=WN b:=λq=>e (Sum.inr.inj q)
  rw[WQ h,WQ e]
theorem Rt(a:Int)(b:Str):decide ((abK a:Key)=WN b)=false:=WQ (λq=>nomatch q)
theorem RG(a:Str)(b:Int):decide ((WN a:Key)=abK b)=false:=WQ (λq=>nomatch q)
def cg(prog:WY)(w:World):PySem.KeyKind prog w Key where
 is:=vI
 hash:=Vr w
 inj:=λv a b Y U=>by
  rcases cV Y with⟨i,t,rfl,rfl⟩|⟨x,t,rfl,rfl⟩
  .rcases cV U with⟨j,u,rfl,e⟩|⟨y,u,rfl,e⟩
   .injection e with e1 _;rw[e1]
   .exact nomatch e
  .rcases cV U with⟨j,u,rfl,e⟩|⟨y,u,rfl,e⟩
   .exact nomatch e
   .injection e with e1 _;rw[e1]
 byValue:=λk v h=>by
  rcases cV h with⟨i,t,rfl,rfl⟩|⟨x,t,rfl,rfl⟩<;>rfl
 pyHash:=λN h=>by
  rcases cV N with⟨i,t,rfl,rfl⟩|⟨x,t,rfl,rfl⟩
  .exact wpAny_pyHash_int h
  .exact wpAny_pyHash_str h
 eqBool:=λF N h=>by
  rcases cV F with⟨i,t,rfl,rfl⟩|⟨x,t,rfl,rfl⟩
  .rcases cV N with⟨j,u,rfl,rfl⟩|⟨y,u,rfl,rfl⟩
   .rw[QH]at h;exact wpAny_eqBool_int h
   .rw[Rt]at h;exact ac7 i t y u _ _ _ _ h
  .rcases cV N with⟨j,u,rfl,rfl⟩|⟨y,u,rfl,rfl⟩
   .rw[RG]at h;exact ac8 x t j u _ _ _ _ h
   .rw[Rz]at h;exact wpAny_eqBool_str h
 «strs»:=λk x t v h=>by
  rcases cV h with⟨i,u,rfl,e⟩|⟨y,u,rfl,e⟩
  .exact nomatch e
  .injection e with e1 _
   subst e1;cases v<;>rfl
theorem Ag(prog:WY)(w:World)(i:Int)(t:Tok):(cg prog w).is (.inl i) (.int i t)=true:=Gk i t
theorem Bj(prog:WY)(w:World)(x:Str)(t:Tok):(cg prog w).is (.inr x) (.str x t)=true:=G8 x t
inductive V where
 |non|bl (b:Bool)|int (i:Int)|str (x:Str)|byt (b:Array UInt8)|flt (b:UInt64)|ref (a:Addr)|ty (n:String)
 deriving DecidableEq
def RelV:V->Value->Prop
 |.non,u=>u=Wq
 |.bl b,u=>u=W9 b
 |.int i,u=>∃t,u=Xc i t
 |.str x,u=>∃t,u=W7 x t
 |.byt b,u=>∃t,u=Value.bytes b t
 |.flt b,u=>∃t,u=adG b t
 |.ref a,u=>u=Wb a
 |.ty n,u=>u=Zy n
abbrev Vals:List V->List Value->Prop:=abN RelV
theorem Vals.length{xs:List V}{us:List Value}(r:Vals xs us):xs.length=us.length:=abp r
theorem Vals.get:∀{xs:List V}{us:List Value}{i:Nat}{x:V},Vals xs us->xs[i]? =some x->∃u,us[i]? =some u/\RelV x u
 |_,_,_,_,.nil,e=>by simp at e
 |_,_,0,_,.cons r _,e=>by simp at e;subst e;exact⟨_,rfl,r⟩
 |_,_,i+1,x,.cons _ t,e=>by
  obtain⟨u,h1,h2⟩:=Vals.get (i:=i) (x:=x) t (by simpa using e);exact⟨u,by simpa using h1,h2⟩
theorem Vals.set{x:V}{u:Value}(r:RelV x u):∀{xs:List V}{us:List Value}(i:Nat),Vals xs us->Vals (xs.set i x) (us.set i u)
 |_,_,_,.nil=>.nil
 |_,_,0,.cons _ t=>.cons r t
 |_,_,i+1,.cons q t=>.cons q (Vals.set r i t)
theorem Vals.append:∀{xs ys:List V}{us Y:List Value},Vals xs us->Vals ys Y->Vals (xs++ys) (us++Y)
 |_,_,_,_,.nil,s=>s
 |_,_,_,_,.cons r t,s=>.cons r (Vals.append t s)
theorem Vals.take:∀{xs:List V}{us:List Value}(n:Nat),Vals xs us->Vals (xs.take n) (us.take n)
 |_,_,0,_=>.nil
 |_,_,_+1,.nil=>.nil
 |_,_,n+1,.cons r t=>.cons r (Vals.take n t)
theorem Vals.drop:∀{xs:List V}{us:List Value}(n:Nat),Vals xs us->Vals (xs.drop n) (us.drop n)
 |_,_,0,r=>r
 |_,_,_+1,.nil=>.nil
 |_,_,n+1,.cons _ t=>Vals.drop n t
def qy:Option V->Option Value->Prop
 |some v,some u=>RelV v u
 |none,none=>True
 |_,_=>False
def KV{κ:Type}:List (κ×V)->List (κ×Value)->Prop:=abN λ(p:κ×V)(q:κ×Value)=>p.1=q.1/\RelV p.2 q.2
def kV:Key->V
 |.inl i=>.int i
 |.inr x=>.str x
inductive HO where
 |lst (xs:List V)
 |tup (xs:List V)
 |dK (kvs:List (Key×V))|dT (kvs:List (List Key×V))
 |set (S:Int->Bool) (n:Nat)
 |ins (C dx:Addr) (fs:List (Str×V))
 |own (x:Addr)
 |xd (fs:List (Str×V))
 |met (f x:Addr)
 |rng (lo hi:Int)
 |frz (o:Obj) (u:HO)
 |tbl (ps:Array Value)
 |ext (φ:Heap->Prop)
abbrev Hp:=Addr->Option HO
def upd(H:Hp)(a:Addr)(o:HO):Hp:=λb=>if b=a then some o else H b
theorem aM{H:Hp}{a:Addr}{o:HO}:upd H a o a=some o:=by unfold upd;rw[Wd rfl]
theorem aK{H:Hp}{a b:Addr}{o:HO}(h:b≠a):upd H a o b=H b:=by unfold upd;rw[Wo h]
theorem Fd{H:Hp}{a:Addr}{o u:HO}:upd (upd H a o) a u=upd H a u:=by
 funext b;unfold upd;split<;>rfl
theorem E_{H:Hp}{a b:Addr}{o u:HO}(h:H a=some o)(h':H b=some u)(d:o≠u):a≠b:=by
 intro e;subst e;rw[h]at h';exact d (Xj h')
theorem aO{H:Hp}{a b:Addr}{o:HO}(h:H a=some o)(h':H b=none):a≠b:=by
 intro e;subst e;rw[h]at h';cases h'
def lq(h:Heap)(a:Addr)(items:Array Value):Prop:=∃o,h.get? a=some o/\o.cls= .type "tuple"/\∃n,o.data= .seq items n/\o.dict=none
theorem lq.new(h:Heap)(items:Array Value):lq (h.push {cls:=.type "tuple",data:=.seq items}) h.objs.size items:=⟨_,Wx _ rfl,rfl,_,rfl,rfl⟩
theorem lq.t{h:Heap}{a:Addr}{items:Array Value}(x:lq h a items):IsTup h a items:=let⟨o,e,c,n,d,_⟩:=x;⟨o,e,c,n,d⟩
section
variable(P:Program)(w:World)
def cB(H:Hp)(h:Heap)(a:Addr):HO->Prop
 |.lst xs=>xs.length<=V6/\∃(B:List Value)(n:Nat),Vals xs B/\h.get? a=some {cls:=.type "list",data:=.seq B.toArray n}
 |.tup xs=>xs.length<=V6/\∃B:List Value,Vals xs B/\lq h a B.toArray
 |.dK kvs=>kvs.length<=V6/\(a==Y9)=false/\∃vs,KV kvs vs/\h.DictOf (cg P w) a vs
 |.dT kvs=>kvs.length<=V6/\(a==Y9)=false/\∃xs:List (List Key×Addr×Value),
  abN (λ(p:List Key×V)(q:List Key×Addr×Value)=>p.1=q.1/\H q.2.1=some (.tup (p.1.map kV))/\RelV p.2 q.2.2) kvs xs/\
  ∃o es ep,h.get? a=some o/\o.ExactDict/\o.data= .dict es ep/\es.toList=xs.map (entryOfKey (ab2 (cg P w)))/\(xs.map (·.1)).Nodup
 |.set S n=>h.SetOf (intKind P w) a S n
 |.ins C dx fs=>H dx=some (.own a)/\fs.length<=1000/\dx≠a/\h.get? a=some (ab3 C dx)/\
  ∃Z,h.Ns1 dx Z/\(∀f,qy (fs.lookup f) (Z f))/\PySem.Within Z (fs.map (·.1))
 |.own _=>∃o,h.get? a=some o
 |.xd fs=>∃Z,h.Ns1 a Z/\∀f,qy (fs.lookup f) (Z f)
 |.rng lo hi=>∃t u v,h.get? a=some {cls:=.type "range",data:=.fields #[.int lo t,.int hi u,.int 1 v]}
 |.frz o u=>h.get? a=some o/\cB H h a u
 |.tbl ps=>h.get? a=some {cls:=.none,data:=.fields ps}
 |.met f x=>h.get? a=some (abA (.ref f) (.ref x))
 |.ext J=>J h/\(∃o,h.get? a=some o)/\∀h1 h2:Heap,J h1->(∀o,h1.get? a=some o->h2.get? a=some o)->J h2
def HOk(H:Hp)(h:Heap):Prop:=∀a o,H a=some o->cB P w H h a o
end
section
variable{P:Program}{w:World}{H H':Hp}{h h':Heap}{a:Addr}{o:HO}
theorem cB.lt(x:cB P w H h a o):a<h.objs.size:=by
 cases o with
 |lst xs=>obtain⟨_,_,_,_,e⟩:=x;exact V_ e
 |tup xs=>obtain⟨_,_,_,p⟩:=x;exact p.t.lt
 |dK kvs=>obtain⟨_,_,_,_,o,_,_,e,_⟩:=x;exact V_ e
 |dT kvs=>obtain⟨_,_,_,_,o,_,_,e,_⟩:=x;exact V_ e
 |set S n=>obtain⟨o,_,_,_,e,_⟩:=x;exact V_ e
 |ins C dx fs=>obtain⟨_,_,_,e,_⟩:=x;exact V_ e
 |own y=>obtain⟨_,e⟩:=x;exact V_ e
 |xd fs=>obtain⟨_,⟨_,_,_,e,_⟩,_⟩:=x;exact V_ e
 |rng lo hi=>obtain⟨_,_,_,e⟩:=x;exact V_ e
 |frz ob u=>obtain⟨e,_⟩:=x;exact V_ e
 |tbl ps=>exact V_ (show h.get? a=some _ from x)
 |met f y=>exact V_ (show h.get? a=some _ from x)
 |ext J=>obtain⟨_,⟨_,e⟩,_⟩:=x;exact V_ e
theorem Paired.mapP{α β:Type}{F G:α->β->Prop}:∀{q:List α}{B:List β},abN F q B->(∀a b,F a b->G a b)->abN G q B
 |_,_,.nil,_=>.nil
 |_,_,.cons r t,f=>.cons (f _ _ r) (Paired.mapP t f)
theorem cB.stay(x:cB P w H h a o)(k:∀b u,(b=a∨H b=some (.own a))->h.get? b=some u->h'.get? b=some u)
  (N:∀b,H b=some (.own a)->H' b=some (.own a)) (F:∀b xs,H b=some (.tup xs)->H' b=some (.tup xs)):cB P w H' h' a o:=by
 induction o with
 |lst xs=>obtain⟨z,B,n,r,e⟩:=x;exact⟨z,B,n,r,k _ _ (.inl rfl) e⟩
 |tup xs=>obtain⟨z,B,r,ob,e,c⟩:=x;exact⟨z,B,r,ob,k _ _ (.inl rfl) e,c⟩
 |dK kvs=>obtain⟨z,y,vs,r,ob,es,ep,e,c⟩:=x;exact⟨z,y,vs,r,ob,es,ep,k _ _ (.inl rfl) e,c⟩
 |dT kvs=>
  obtain⟨z,y,xs,r,ob,es,ep,e,c⟩:=x;exact⟨z,y,xs,Paired.mapP r λp q z=>⟨z.1,F _ _ z.2.1,z.2.2⟩,ob,es,ep,k _ _ (.inl rfl) e,c⟩
 |set S n=>obtain⟨ob,es,ep,t,e,c⟩:=x;exact⟨ob,es,ep,t,k _ _ (.inl rfl) e,c⟩
 |ins C dx fs=>
  obtain⟨d,z,I,e,Z,⟨Y,es,ep,e2,c⟩,r⟩:=x;exact⟨N _ d,z,I,k _ _ (.inl rfl) e,Z,⟨Y,es,ep,k _ _ (.inr d) e2,c⟩,r⟩
 |own y=>obtain⟨ob,e⟩:=x;exact⟨ob,k _ _ (.inl rfl) e⟩
 |xd fs=>obtain⟨Z,⟨Y,es,ep,e,c⟩,r⟩:=x;exact⟨Z,⟨Y,es,ep,k _ _ (.inl rfl) e,c⟩,r⟩
 |rng lo hi=>obtain⟨t,u,v,e⟩:=x;exact⟨t,u,v,k _ _ (.inl rfl) e⟩
 |frz ob u O=>obtain⟨e,q⟩:=x;exact⟨k _ _ (.inl rfl) e,O q⟩
 |tbl ps=>
  have e:h.get? a=some {cls:=.none,data:=.fields ps}:=x;show h'.get? a=some {cls:=.none,data:=.fields ps};exact k a _ (.inl rfl) e
 |met f y=>
  have e:h.get? a=some (abA (.ref f) (.ref y)):=x;show h'.get? a=some (abA (.ref f) (.ref y));exact k a _ (.inl rfl) e
 |ext J=>obtain⟨p,⟨o,e⟩,st⟩:=x;exact⟨st _ _ p λo q=>k _ _ (.inl rfl) q,⟨o,k _ _ (.inl rfl) e⟩,st⟩
theorem HOk.lt(x:HOk P w H h)(e:H a=some o):a<h.objs.size:=(x a o e).lt
theorem HOk.fresh(x:HOk P w H h)(e:h.objs.size<=a):H a=none:=by
 cases q:H a with
 |none=>rfl
 |some u=>exact absurd (Wg (x.lt q) e) (XF _)
theorem HOk.kept(x:HOk P w H h)(k:∀b u,h.get? b=some u->h'.get? b=some u):HOk P w H h':=λa o e=>
 (x a o e).stay (λb u _ q=>k b u q) (λ_ q=>q) λ_ _ q=>q
theorem HOk.laid(x:HOk P w H h)(k:∀b u,h.get? b=some u->h'.get? b=some u)(F:h.objs.size<=a)(new:cB P w (upd H a o) h' a o):HOk P w (upd H a o) h':=λb u e=>by
 have hn:=x.fresh F;by_cases U:b=a
 .subst U;rw[aM]at e;cases e;exact new
 .rw[aK U]at e
  exact(x b u e).stay (λc v _ q=>k c v q) (λc q=>by rw[aK (aO q hn)];exact q) λc xs q=>by rw[aK (aO q hn)];exact q
end
def Rd(H:Hp)(a:Addr)(u:HO):Prop:=H a=some u∨∃o,H a=some (.frz o u)
theorem Rd.ok{P:WY}{w:World}{H:Hp}{h:Heap}{a:Addr}{u:HO}(r:Rd H a u)(x:HOk P w H h):cB P w H h a u:=by
 rcases r with r|⟨o,r⟩
 .exact x a u r
 .obtain⟨_,q⟩:=x a _ r
  exact q
def Mut:Option HO->Prop
 |some (.lst _)=>True
 |some (.dK _)=>True
 |some (.dT _)=>True
 |some (.set _ _)=>True
 |some (.ins _ _ _)=>True
 |some (.ext _)=>True
 |_=>False
section
variable{P:Program}{w:World}{H:Hp}{h h':Heap}{x e:Addr}{o':HO}
theorem HOk.write(ok:HOk P w H h)(mu:Mut (H x))(V:e=x∨H e=some (.own x))(k:∀b u,b≠e->h.get? b=some u->h'.get? b=some u)(F:∃u,h'.get? e=some u)
  (new:cB P w (upd H x o') h' x o'):HOk P w (upd H x o') h':=λb u q=>by
 have I:∀c y,H c=some (.own y)->c≠x:=λc y r z=>by subst z;rw[r]at mu;exact mu
 have J:∀c xs,H c=some (.tup xs)->c≠x:=λc xs r z=>by subst z;rw[r]at mu;exact mu
 by_cases U:b=x
 .subst U;rw[aM]at q;cases q;exact new
 .rw[aK U]at q
  by_cases B:b=e
  .have q':H b=some (.own x):=by
    rcases V with z|z
    .exact absurd (B.trans z) U
    .rw[B];exact z
   rw[q]at q';cases q';obtain⟨v,N⟩:=F;exact⟨v,by rw[B];exact N⟩
  .refine(ok b u q).stay (λc v Z r=>k c v ?_ r) (λc r=>by rw[aK (I c b r)];exact r) λc xs r=>by rw[aK (J c xs r)];exact r
   rcases Z with rfl|Z
   .exact B
   .rintro rfl
    rcases V with z|z
    .exact I c b Z z
    .rw[Z]at z;cases z;exact U rfl
end
structure Un(fs ex:List Addr)(H H':Hp)(h h':Heap):Prop where
 keep:∀b o,h.get? b=some o->H b=none->b∉fs->b∉ex->h'.get? b=some o
 slot:∀b o,h.get? b=some o->H b=none->b∈fs->b∉ex->∃sl,h'.get? b=some {o with slots:=sl}
 free:∀b o,h.get? b=some o->H b=none->b∉ex->H' b=none
 there:∀b o,h.get? b=some o->b∉ex->∃o',h'.get? b=some o'
 tups:∀b xs,H b=some (.tup xs)->H' b=some (.tup xs)
 frzs:∀b o u,H b=some (.frz o u)->H' b=some (.frz o u)
 tbls:∀b ps,H b=some (.tbl ps)->∃more,H' b=some (.tbl (ps++more))
section
variable{fs fs' ex ex':List Addr}{H H1 H2:Hp}{h h1 h2 h':Heap}{a x e:Addr}{o:HO}
theorem Un.any(u:Un fs ex H H1 h h1){b:Addr}{ob:Obj}(q:h.get? b=some ob)(n:H b=none)(J:b∉ex):∃sl,h1.get? b=some {ob with slots:=sl}:=by
 by_cases U:b∈fs
 .exact u.slot b ob q n U J
 .exact⟨ob.slots,u.keep b ob q n U J⟩
theorem Un.kept(k:∀b u,h.get? b=some u->h'.get? b=some u):Un fs ex H H h h':=
 ⟨λb ob q _ _ _=>k b ob q,λb ob q _ _ _=>⟨ob.slots,k b ob q⟩,λ_ _ _ n _=>n,λb ob q _=>⟨ob,k b ob q⟩,λ_ _ q=>q,λ_ _ _ q=>q,λ_ ps q=>⟨#[],by rw[q];simp⟩⟩
theorem Un.refl:Un fs ex H H h h:=Un.kept λ_ _ q=>q
theorem Un.laid(k:∀b u,h.get? b=some u->h'.get? b=some u)(F:h.objs.size<=a)(hn:H a=none):Un fs ex H (upd H a o) h h' where
 keep:=λb u q _ _ _=>k b u q
 slot:=λb u q _ _ _=>⟨u.slots,k b u q⟩
 free:=λb u q n _=>by rw[aK (Wj (Wg (V_ q) F))];exact n
 there:=λb u q _=>⟨u,k b u q⟩
 tups:=λb xs q=>by rw[aK (aO q hn)];exact q
 frzs:=λb u xs q=>by rw[aK (aO q hn)];exact q
 tbls:=λb ps q=>⟨#[],by rw[aK (aO q hn),q];simp⟩
theorem Un.write(mu:Mut (H x))(V:e=x∨H e=some (.own x))(k:∀b u,b≠e->h.get? b=some u->h'.get? b=some u)(F:∃u,h'.get? e=some u):Un fs ex H (upd H x o) h h':=by
 have J:∀b,H b=none->b≠x:=λb n z=>by subst z;rw[n]at mu;exact mu
 have U:∀b,H b=none->b≠e:=λb n z=>by
  subst z;rcases V with r|r
  .exact J b n r
  .rw[n]at r;cases r
 have I:∀b u,H b=some u->¬Mut (some u)->b≠x:=λb u q N z=>by subst z;rw[q]at mu;exact N mu
 refine⟨λb u q n _ _=>k b u (U b n) q,λb u q n _ _=>⟨u.slots,k b u (U b n) q⟩,λb u q n _=>by rw[aK (J b n)];exact n,λb u q _=>?_,
  λb xs q=>by rw[aK (I b _ q λz=>z)];exact q,λb u xs q=>by rw[aK (I b _ q λz=>z)];exact q,λb ps q=>⟨#[],by rw[aK (I b _ q λz=>z),q];simp⟩⟩
 by_cases B:b=e
 .subst B;exact F
 .exact⟨u,k b u B q⟩
end
def trk(h:Heap)(H:Hp):List Addr:=(WD h.objs.size).filter λa=>(H a).isSome
def yV(h:Heap)(H:Hp):Heap:=PySem.W.hideAll h (trk h H)
theorem Gi(h:Heap)(H:Hp):(yV h H).objs.size=h.objs.size:=PySem.W.hideAll_size _ _
theorem KZ{h:Heap}{H:Hp}{b:Addr}{o:Obj}(e:h.get? b=some o)(n:H b=none):(yV h H).get? b=some o:=
 PySem.W.hideAll_get _ e λJ=>by
  have q:(H b).isSome=true:=(Yy.mp J).2;rw[n]at q;simp at q
theorem Ot{h:Heap}{H:Hp}{b:Addr}{o:Obj}(e:(yV h H).get? b=some o):h.get? b=some o/\H b=none:=by
 have N:h.get? b=some o:=PySem.W.of_hideAll (trk h H) e;refine⟨N,?_⟩;cases q:H b with
 |none=>rfl
 |some x=>
  have J:b∈trk h H:=Yy.mpr ⟨XS.mpr (V_ N),by simp[q]⟩;have z:(yV h H).get? b=none:=PySem.W.hideAll_none (trk h H) J;rw[z]at e;cases e
def Oo(g h:Heap)(L:Addr):List (Addr×Obj):=(WD h.objs.size).filterMap λa=>if a=L∨(g.get? a).isSome=true then none else(h.get? a).map λo=>(a,o)
def rest(g h:Heap)(L d:Addr):List (Addr×Obj):=(Oo g h L).filter λp=>decide (p.1≠d)
structure Mod(K:PySem.W.Frag)(mg:Str->Option Value)(base:Heap):Prop where
 kin:K.In base
 glob:base.Ns Wv mg
 blt:∃mb,base.Ns builtinsNs mb/\∀x:Str,x≠"__name__"->mb x=Yi x
 nolimit:base.NoLimit
structure Cx where
 prog:WY
 w:World
 K:V8
 mg:Str->Option Value
 base:Heap
 A:Xk
 N:List Str
 s₀:V0
 H₀:Hp
 env:Env
 outer:List Env
 stack:List Env
 ex:List Addr
 fn:Str->Bool
 calm:Bool
 pn:List 1.23
 xe:Value->V0->Prop
def frs(l:List Env):List Addr:=l.filterMap (·.frame)
abbrev Cx.fs(X:Cx):List Addr:=frs X.outer
def Vis(F:Scope)(x:Str):Prop:=F.names.lookup x=some .local∨F.names.lookup x=some .cell∨F.names.lookup x=some .free
def Loc(F:Scope)(x:Str):Prop:=F.names.lookup x=some .local∨F.names.lookup x=some .cell
def Look(env:Env)(h:Heap)(m:Str->Option Value)(x:Str)(u:Value):Prop:=
 (env.kindOf x=some .local/\m x=some u)∨((env.kindOf x=some .cell∨env.kindOf x=some .free)/\∃c,env.cells.lookup x=some c/\h.IsCell c (some u))
structure Cx.Ok(X:Cx):Prop where
 mod:Mod X.K X.mg X.base
 kind:X.env.scope.kind= .function
 glob:X.env.globals=Wv
 blt:X.env.builtins=builtinsNs
 above:X.s₀.heap.objs.size<=X.env.locals
 inj:∀x y c,X.env.cells.lookup x=some c->X.env.cells.lookup y=some c->x=y
 has:∀x,(X.env.kindOf x=some .cell∨X.env.kindOf x=some .free)->∃c,X.env.cells.lookup x=some c
 cab:∀x c,X.fn x=true->X.env.cells.lookup x=some c->X.s₀.heap.objs.size<=c
 hd:X.calm=true->X.A.handled=none
 frames:X.A.frames=some X.stack
 stk:X.stack=X.outer∨(X.stack=X.env::X.outer/\X.env.frame=some X.env.locals)
 exf:∀b∈X.ex,b≠X.env.locals/\∀x c,X.env.cells.lookup x=some c->c≠b
 bs:∀b o,X.base.get? b=some o->X.s₀.heap.get? b=some o/\X.H₀ b=none
 bsz:X.base.objs.size<=X.s₀.heap.objs.size
 noex:∀b o,X.base.get? b=some o->b∉X.ex
 exfs:∀b∈X.ex,b∉X.fs
 funs:X.s₀.heap.FunFrames X.base X.outer
 frf:∀b∈X.fs,X.H₀ b=none
structure Inv(X:Cx)(pins:List (Addr×Obj))(σ:List (Option V))(H:Hp)(s:Shared):Prop where
 ok:X.Ok
 os:s.os=X.s₀.os
 bare:aaS s.gens
 base:Un X.fs X.ex X.H₀ H X.s₀.heap s.heap
 loc:∃m,s.heap.Ns X.env.locals m/\∀(i:Nat)(x:Str)(v:V),X.N[i]? =some x->σ[i]? =some (some v)->Vis X.env.scope x->∃u,RelV v u/\Look X.env s.heap m x u
 cell:∀x c,X.env.cells.lookup x=some c->∃v,s.heap.IsCell c v
 free:H X.env.locals=none
 freeC:∀x c,X.env.cells.lookup x=some c->H c=none
 pin:∀p∈X.pn++pins,s.heap.get? p.1=some p.2/\H p.1=none/\p.1≠X.env.locals/\p.1∉X.fs/\∀v,p.2.data≠.cell v
 hok:HOk X.prog X.w H s.heap
 len:σ.length=X.N.length
section
variable{X:Cx}{pins:List (Addr×Obj)}{σ:List (Option V)}{H H':Hp}{s:Shared}{h':Heap}
theorem Cx.Ok.nofr(ok:X.Ok){b:Addr}{o:Obj}(e:X.base.get? b=some o):b∉X.fs:=λU=>by
 have:=(ok.funs.mem U).1;rw[e]at this;cases this
theorem Inv.bs(I:Inv X pins σ H s):∀b o,X.base.get? b=some o->s.heap.get? b=some o/\H b=none:=λb o e=>
 ⟨I.base.keep b o (I.ok.bs b o e).1 (I.ok.bs b o e).2 (I.ok.nofr e) (I.ok.noex b o e),I.base.free b o (I.ok.bs b o e).1 (I.ok.bs b o e).2 (I.ok.noex b o e)⟩
theorem Inv.bk(I:Inv X pins σ H s):∀b o,X.base.get? b=some o->s.heap.get? b=some o:=λb o e=>(I.bs b o e).1
theorem Inv.mod(I:Inv X pins σ H s):Mod X.K X.mg X.base:=I.ok.mod
theorem Inv.kIn(I:Inv X pins σ H s):X.K.In s.heap:=I.ok.mod.kin.keeps I.bk
theorem Inv.fr(I:Inv X pins σ H s):∃m,Fr X.base X.env.locals s.heap m:=
 let⟨m,hn,_⟩:=I.loc
 ⟨m,hn,I.bk,Xu I.ok.bsz I.ok.above⟩
theorem Inv.lt(I:Inv X pins σ H s):X.env.locals<s.heap.objs.size:=let⟨_,hn,_⟩:=I.loc;hn.lt
theorem Inv.sz(I:Inv X pins σ H s):X.s₀.heap.objs.size<=s.heap.objs.size:=Xu I.ok.above (YS I.lt)
theorem Inv.nofs(I:Inv X pins σ H s){a:Addr}(h:s.heap.objs.size<=a):a∉X.fs:=λU=>by
 obtain⟨_,o,N,_⟩:=I.ok.funs.mem U;exact absurd (Wg (V_ N) (Xu I.sz h)) (XF _)
theorem Inv.cne(I:Inv X pins σ H s):∀x c,X.env.cells.lookup x=some c->c≠X.env.locals:=λx c e z=>by
 obtain⟨v,o,N,hd⟩:=I.cell x c e;obtain⟨m,⟨o',es,ep,F,U,_⟩,_⟩:=I.loc;rw[z,F]at N;cases N;rw[U]at hd;cases hd
theorem Inv.funs(I:Inv X pins σ H s):s.heap.FunFrames X.base X.outer:=by
 have all:∀(l:List Env),(∀b∈frs l,b∈X.fs)->X.s₀.heap.FunFrames X.base l->s.heap.FunFrames X.base l:=by
  intro l
  induction l with
  |nil=>intro _ _;trivial
  |cons env r F=>
   intro hs Y;obtain⟨B,⟨L,o,Z,hn,N,hd⟩,O⟩:=Y;have q:L∈X.fs:=hs L (by unfold frs;rw[aaa,Z];exact WR);obtain⟨sl,e⟩:=I.base.slot L o N (I.ok.frf L q) q λz=>I.ok.exfs L z q;exact⟨B,⟨L,_,Z,hn,e,hd⟩,F (λb U=>hs b (by unfold frs;rw[aaa,Z];exact Ws _ U)) O⟩
 exact all X.outer (λ_ U=>U) I.ok.funs
theorem Inv.stack(I:Inv X pins σ H s):s.heap.FunFrames X.base X.stack:=by
 rcases I.ok.stk with e|⟨e,Z⟩
 .rw[e];exact I.funs
 .rw[e]
  obtain⟨m,hn,_⟩:=I.loc;refine .cons (by rw[I.ok.kind];decide) Z hn ?_ I.funs;exact Heap.get?_none_of_le (Xu I.ok.bsz I.ok.above)
theorem Inv.stkSub(I:Inv X pins σ H s):∀b∈frs X.stack,b∈X.env.locals::X.fs:=λb U=>by
 rcases I.ok.stk with e|⟨e,Z⟩
 .rw[e]at U;exact Ws _ U
 .rw[e]at U
  unfold frs at U;rw[aaa,Z]at U;exact U
theorem Inv.stkFree(I:Inv X pins σ H s):∀b∈frs X.stack,H b=none:=λb U=>by
 rcases V5.mp (I.stkSub b U)with e|U
 .rw[e];exact I.free
 .obtain⟨_,o,ho,_⟩:=I.ok.funs.mem U
  exact I.base.free b o ho (I.ok.frf b U) λz=>I.ok.exfs b z U
theorem Inv.step{g':Array GenState}{t':Nat}{d':Drawn}{ch:List Addr}(I:Inv X pins σ H s)
  (B:∀b∈ch,(b∈X.ex∨X.s₀.heap.objs.size<=b)/\b≠X.env.locals/\(∀x c,X.env.cells.lookup x=some c->c≠b)/\∀p∈X.pn++pins,p.1≠b)
  (keep:∀b o,b≠X.env.locals->b∉X.fs->b∉ch->s.heap.get? b=some o->H b=none->h'.get? b=some o)
  (slot:∀b o,b≠X.env.locals->b∈X.fs->b∉ch->s.heap.get? b=some o->H b=none->∃sl,h'.get? b=some {o with slots:=sl}) (free:∀b o,b∉ch->s.heap.get? b=some o->H b=none->H' b=none)
  (there:∀b o,b∉ch->s.heap.get? b=some o->∃o',h'.get? b=some o')
  (tups:∀b xs,H b=some (.tup xs)->H' b=some (.tup xs)) (frzs:∀b o u,H b=some (.frz o u)->H' b=some (.frz o u)) (tbls:∀b ps,H b=some (.tbl ps)->∃more,H' b=some (.tbl (ps++more)))
  (ns:∀m,s.heap.Ns X.env.locals m->h'.Ns X.env.locals m) (hok:HOk X.prog X.w H' h') (hg:aaS g') :
  Inv X pins σ H' {s with heap:=h',gens:=g',drawn:=d',toks:=t'}:=by
 have a1:∀b o,X.s₀.heap.get? b=some o->b≠X.env.locals:=λb o e=>Wj (Wg (V_ e) I.ok.above);have a0:∀b o,X.s₀.heap.get? b=some o->b∉X.ex->b∉ch:=λb o e J U=>by
  rcases(B b U).1 with z|z
  .exact J z
  .exact absurd (Wg (V_ e) z) (XF _)
 have O:∀x c,X.env.cells.lookup x=some c->∀v,s.heap.IsCell c v->h'.IsCell c v:=λx c e v ⟨o,N,hd⟩=>by
  have Y:c∉ch:=λz=>(B c z).2.2.1 x c e rfl;by_cases Z:c∈X.fs
  .obtain⟨sl,q⟩:=slot c o (I.cne x c e) Z Y N (I.freeC x c e)
   exact⟨_,q,hd⟩
  .exact⟨o,keep c o (I.cne x c e) Z Y N (I.freeC x c e),hd⟩
 refine⟨I.ok,I.os,hg,⟨λb o e n U J=>?_,λb o e n U J=>?_,λb o e n J=>?_,λb o e J=>?_,λb xs e=>tups b xs (I.base.tups b xs e),λb o xs e=>frzs b o xs (I.base.frzs b o xs e),λb ps e=>?_⟩,?_,λx c e=>?_,?_,λx c e=>?_,λp F=>?_,hok,I.len⟩
 .exact keep b o (a1 b o e) U (a0 b o e J) (I.base.keep b o e n U J) (I.base.free b o e n J)
 .obtain⟨sl,e1⟩:=I.base.slot b o e n U J
  obtain⟨a2,e2⟩:=slot b _ (a1 b o e) U (a0 b o e J) e1 (I.base.free b o e n J);exact⟨a2,e2⟩
 .obtain⟨o',e1⟩:=I.base.there b o e J
  exact free b o' (a0 b o e J) e1 (I.base.free b o e n J)
 .obtain⟨o',e1⟩:=I.base.there b o e J
  exact there b o' (a0 b o e J) e1
 .obtain⟨m1,e1⟩:=I.base.tbls b ps e
  obtain⟨V,e2⟩:=tbls b _ e1;exact⟨m1++V,by rw[e2,Array.append_assoc]⟩
 .obtain⟨m,hn,hl⟩:=I.loc
  refine⟨m,ns m hn,λi x v e1 e2 e3=>?_⟩;obtain⟨u,r,l⟩:=hl i x v e1 e2 e3;refine⟨u,r,?_⟩;rcases l with l|⟨k,c,e,z⟩
  .exact .inl l
  .exact .inr ⟨k,c,e,O x c e _ z⟩
 .obtain⟨v,z⟩:=I.cell x c e
  exact⟨v,O x c e v z⟩
 .obtain⟨m,⟨o,_,_,N,_⟩,_⟩:=I.loc
  exact free _ o (λz=>(B _ z).2.1 rfl) N I.free
 .obtain⟨v,o,N,hd⟩:=I.cell x c e
  exact free c o (λz=>(B c z).2.2.1 x c e rfl) N (I.freeC x c e)
 .obtain⟨e,n,ne,nf,d⟩:=I.pin p F
  have Y:p.1∉ch:=λz=>(B p.1 z).2.2.2 p F rfl;exact⟨keep p.1 p.2 ne nf Y e n,free p.1 p.2 Y e n,ne,nf,d⟩
theorem Inv.un{t':Nat}(I:Inv X pins σ H s)(u:Un X.fs [] H H' s.heap h')(hok:HOk X.prog X.w H' h'):Inv X pins σ H' {s with heap:=h',toks:=t'}:=by
 obtain⟨m,⟨o,es,ep,N,r⟩,_⟩:=id I.loc;obtain⟨sl,Y⟩:=u.any N I.free (by simp);exact I.step (g':=s.gens) (d':=s.drawn) (ch:=[]) (λ_ z=>nomatch z) (λb o _ U _ e n=>u.keep b o e n U (by simp)) (λb o _ U _ e n=>u.slot b o e n U (by simp)) (λb o _ e n=>u.free b o e n (by simp)) (λb o _ e=>u.there b o e (by simp)) u.tups u.frzs u.tbls (λO J=>by
  obtain⟨o',V,q,F,B⟩:=J;rw[N]at F;cases F;exact⟨_,V,q,Y,B⟩) hok I.bare
theorem Inv.call{g':Array GenState}{t':Nat}{d':Drawn}{ch:List Addr}(I:Inv X pins σ H s)(u:Un (frs X.stack) ch H H' s.heap h')(hok:HOk X.prog X.w H' h')(q:aaS g')
  (B:∀b∈ch,(b∈X.ex∨X.s₀.heap.objs.size<=b)/\b≠X.env.locals/\(∀x c,X.env.cells.lookup x=some c->c≠b)/\∀p∈X.pn++pins,p.1≠b) :
  Inv X pins σ H' {s with heap:=h',gens:=g',drawn:=d',toks:=t'}:=by
 obtain⟨m,⟨o,es,ep,N,r⟩,_⟩:=id I.loc;obtain⟨sl,Y⟩:=u.any N I.free λz=>(B _ z).2.1 rfl;exact I.step (ch:=ch) B (λb o Y U Z e n=>u.keep b o e n (λz=>(V5.mp (I.stkSub b z)).elim Y U) Z) (λb o _ _ Z e n=>u.any e n Z) (λb o Z e n=>u.free b o e n Z) (λb o Z e=>u.there b o e Z) u.tups u.frzs u.tbls (λO J=>by
  obtain⟨o',V,a0,F,r'⟩:=J;rw[N]at F;cases F;exact⟨_,V,a0,Y,r'⟩) hok q
theorem Inv.turned{t':Nat}{it:Addr}(I:Inv X pins σ H s)(k:∀b o,b≠it->s.heap.get? b=some o->h'.get? b=some o)(hn:H it=none)(Y:it≠X.env.locals)
  (h1:it∈X.ex∨X.s₀.heap.objs.size<=it) (h2:∀x c,X.env.cells.lookup x=some c->c≠it) (F:∀p∈X.pn++pins,p.1≠it):Inv X pins σ H {s with heap:=h',toks:=t'}:=by
 have B:∀b u,H b=some u->b≠it:=λb u e z=>by rw[z,hn]at e;cases e
 refine I.step (g':=s.gens) (d':=s.drawn) (ch:=[it]) (λb U=>?_) (λb o _ _ Z e _=>k b o (λz=>Z 1.22) e) (λb o _ _ Z e _=>⟨o.slots,k b o (λz=>Z 1.22) e⟩) (λ_ _ _ _ n=>n)
  (λb o Z e=>⟨o,k b o (λz=>Z 1.22) e⟩) (λ_ _ e=>e) (λ_ _ _ e=>e) (λb ps e=>⟨#[],by rw[e];simp⟩) (λm J=>?_) (λb u e=>?_) I.bare
 .have e:b=it:=by simpa using U
  subst e;exact⟨h1,Y,h2,F⟩
 .obtain⟨o,es,ep,ho,r⟩:=J
  exact⟨o,es,ep,k _ o (WW Y) ho,r⟩
 .refine(I.hok b u e).stay (λc v Z q=>k c v ?_ q) (λ_ q=>q) λ_ _ q=>q
  rcases Z with z|z
  .rw[z];exact B b u e
  .exact B c _ z
theorem Inv.tok(I:Inv X pins σ H s)(t:Nat):Inv X pins σ H {s with toks:=t}:=I.un (h':=s.heap) (t':=t) Un.refl I.hok
theorem Inv.kept{t':Nat}(I:Inv X pins σ H s)(k:∀b u,s.heap.get? b=some u->h'.get? b=some u):Inv X pins σ H {s with heap:=h',toks:=t'}:=I.un (Un.kept k) (I.hok.kept k)
theorem Inv.laid{a:Addr}{o:HO}{t':Nat}(I:Inv X pins σ H s)(k:∀b u,s.heap.get? b=some u->h'.get? b=some u)(F:s.heap.objs.size<=a)(new:cB X.prog X.w (upd H a o) h' a o) :
 Inv X pins σ (upd H a o) {s with heap:=h',toks:=t'}:=I.un (Un.laid k F (I.hok.fresh F)) (I.hok.laid k F new)
theorem Inv.write{x e:Addr}{o:HO}{t':Nat}(I:Inv X pins σ H s)(mu:Mut (H x))(V:e=x∨H e=some (.own x))(k:∀b u,b≠e->s.heap.get? b=some u->h'.get? b=some u)(F:∃u,h'.get? e=some u)
 (new:cB X.prog X.w (upd H x o) h' x o):Inv X pins σ (upd H x o) {s with heap:=h',toks:=t'}:=I.un (Un.write mu V k F) (I.hok.write mu V k F new)
theorem Inv.weak{F:List (Option V)}(I:Inv X pins σ H s)(Y:F.length=σ.length)(w:∀(i:Nat) v,F[i]? =some (some v)->σ[i]? =some (some v)):Inv X pins F H s:=
 ⟨I.ok,I.os,I.bare,I.base,let⟨m,hn,hl'⟩:=I.loc;⟨m,hn,λi x v e1 e2 N=>hl' i x v e1 (w i v e2) N⟩,I.cell,I.free,I.freeC,I.pin,I.hok,Y.trans I.len⟩
theorem Inv.pins_of{q:List 1.23}(I:Inv X pins σ H s)(h:∀p∈q,s.heap.get? p.1=some p.2/\H p.1=none/\p.1≠X.env.locals/\p.1∉X.fs/\∀v,p.2.data≠.cell v):Inv X q σ H s:=
 ⟨I.ok,I.os,I.bare,I.base,I.loc,I.cell,I.free,I.freeC,λp F=>(qb.mp F).elim (λz=>I.pin p (Wf _ z)) (h p),I.hok,I.len⟩
theorem zV{N:List Str}(U:N.Nodup){i j:Nat}{x:Str}(a:N[i]? =some x)(b:N[j]? =some x):i=j:=by
 obtain⟨h1,e1⟩:=Hq.mp a;obtain⟨h2,e2⟩:=Hq.mp b;exact(abO U).mp (e1.trans e2.symm)
theorem Hd{M:Model}{A:Xk}{E:Value->V0->Prop}{i:Nat}{x:Str}{v:V}{u:Value}{Q:Unit->V0->Prop}(I:Inv X pins σ H s)(hN:X.N.Nodup)(hi:X.N[i]? =some x)(J:Loc X.env.scope x)(r:RelV v u)
  (h:∀s',Inv X pins (σ.set i (some v)) H s'->(∃a,aah a s.heap s'.heap/\(a=X.env.locals∨X.env.cells.lookup x=some a))->Q () s') (hf:X.fn x=true∨X.env.scope.names.lookup x=some .local:=by first|exact .inl rfl|exact .inr rfl|assumption):wpAny M A (storeName X.env x u) Q E s:=by
 obtain⟨m,hn,hl⟩:=id I.loc;have a3:(X.env.scope.kind== .class||(X.env.scope.kind== .module&&X.env.locals !=X.env.globals))=false:=by rw[I.ok.kind];rfl
 have a2:i<σ.length:=by rw[I.len];exact(Hq.mp hi).1
 have cne:=I.cne;have a0:∀{a:Addr}{h':Heap},(∃o,s.heap.get? a=some o/\H a=none)->aah a s.heap h'->HOk X.prog X.w H h':=λ{a h'} Y hs b ob e=>by
  obtain⟨_,_,a1⟩:=Y;refine(I.hok b ob e).stay (λc w' Z q=>(hs.2 c ?_).trans q) (λ_ q=>q) λ_ _ q=>q;rintro rfl;rcases Z with rfl|Z
  .rw[a1]at e;cases e
  .rw[a1]at Z;cases Z
 rcases J with B|B
 .refine wpAny_storeName_local B hn (λh' a8 hs=>?_) a3
  obtain⟨oL,_,_,a7,_⟩:=id hn;refine h _ ⟨I.ok,I.os,I.bare,⟨λb o e n U J=>?_,λb o e n U J=>?_,I.base.free,λb o e J=>?_,I.base.tups,I.base.frzs,I.base.tbls⟩,⟨_,a8,λj y v' e1 e2 e3=>?_⟩,λy c e=>?_,I.free,I.freeC,λp F=>?_,a0 ⟨oL,a7,I.free⟩ hs,by simpa using I.len⟩ ⟨_,hs,.inl rfl⟩
  .exact(hs.2 b (Wj (Wg (V_ e) I.ok.above))).trans (I.base.keep b o e n U J)
  .obtain⟨sl,e1⟩:=I.base.slot b o e n U J
   exact⟨sl,(hs.2 b (Wj (Wg (V_ e) I.ok.above))).trans e1⟩
  .obtain⟨o',e1⟩:=I.base.there b o e J
   exact⟨o',(hs.2 b (Wj (Wg (V_ e) I.ok.above))).trans e1⟩
  .by_cases hj:j=i
   .subst hj
    rw[hi]at e1;cases e1;rw[aaB a2]at e2;cases e2;exact⟨u,r,.inl ⟨B,by simp⟩⟩
   .rw[List.getElem?_set_ne (WW hj)]at e2
    obtain⟨u',O,q⟩:=hl j y v' e1 e2 e3;refine⟨u',O,?_⟩;rcases q with⟨k,e⟩|⟨k,c,e,z⟩
    .refine .inl ⟨k,?_⟩
     have:y≠x:=λe=>hj (zV hN e1 (e▸hi));simp[this,e]
    .exact .inr ⟨k,c,e,z.sameBut hs (cne y c e)⟩
  .obtain⟨w',z⟩:=I.cell y c e
   exact⟨w',z.sameBut hs (cne y c e)⟩
  .obtain⟨e,n,ne,nf,d⟩:=I.pin p F
   exact⟨(hs.2 p.1 ne).trans e,n,ne,nf,d⟩
 .have hfn:X.fn x=true:=by
   rcases hf with z|z
   .exact z
   .rw[z]at B;cases B
  obtain⟨c,Z⟩:=I.ok.has x (.inl B);obtain⟨w',z⟩:=I.cell x c Z;refine wpAny_storeName_cell I.ok.kind B Z z (λh' a5 hs=>?_);obtain⟨oc,a6,a4⟩:=id z;refine h {s with heap:=h'} ⟨I.ok,I.os,I.bare,⟨λb o e n U J=>?_,λb o e n U J=>?_,I.base.free,λb o e J=>?_,I.base.tups,I.base.frzs,I.base.tbls⟩,⟨m,hn.sameBut hs (WW (cne x c Z)),λj y v' e1 e2 e3=>?_⟩,λy c' e=>?_,I.free,I.freeC,λp F=>?_,a0 ⟨oc,a6,I.freeC x c Z⟩ hs,by simpa using I.len⟩ ⟨c,hs,.inr Z⟩
  .exact(hs.2 b (Wj (Wg (V_ e) (I.ok.cab x c hfn Z)))).trans (I.base.keep b o e n U J)
  .obtain⟨sl,e1⟩:=I.base.slot b o e n U J
   exact⟨sl,(hs.2 b (Wj (Wg (V_ e) (I.ok.cab x c hfn Z)))).trans e1⟩
  .obtain⟨o',e1⟩:=I.base.there b o e J
   exact⟨o',(hs.2 b (Wj (Wg (V_ e) (I.ok.cab x c hfn Z)))).trans e1⟩
  .by_cases hj:j=i
   .subst hj
    rw[hi]at e1;cases e1;rw[aaB a2]at e2;cases e2;exact⟨u,r,.inr ⟨.inl B,c,Z,a5⟩⟩
   .rw[List.getElem?_set_ne (WW hj)]at e2
    obtain⟨u',O,q⟩:=hl j y v' e1 e2 e3;refine⟨u',O,?_⟩;rcases q with q|⟨k,c',e,z'⟩
    .exact .inl q
    .refine .inr ⟨k,c',e,z'.sameBut hs ?_⟩
     rintro rfl;exact hj (zV hN e1 (I.ok.inj _ _ _ e Z▸hi))
  .by_cases hcc:c'=c
   .subst hcc;exact⟨_,a5⟩
   .obtain⟨w2,z2⟩:=I.cell y c' e
    exact⟨w2,z2.sameBut hs hcc⟩
  .obtain⟨e,n,ne,nf,d⟩:=I.pin p F
   refine⟨(hs.2 p.1 ?_).trans e,n,ne,nf,d⟩;intro q;rw[q,a6]at e;have q':oc=p.2:=Xj e;exact d w' (by rw[←q'];exact a4)
theorem lV{M:Model}{A:Xk}{E:Value->V0->Prop}{i:Nat}{x:Str}{v:V}{u:Value}{Q:Unit->V0->Prop}(I:Inv X pins σ H s)(U:X.N.Nodup)(hi:X.N[i]? =some x)(J:Loc X.env.scope x)(r:RelV v u)
  (h:∀s',Inv X pins (σ.set i (some v)) H s'->Q () s') (Z:X.fn x=true∨X.env.scope.names.lookup x=some .local:=by first|exact .inl rfl|exact .inr rfl|assumption):wpAny M A (storeName X.env x u) Q E s:=
 Hd I U hi J r (λs' Y _=>h s' Y) Z
theorem Inv.call'{s':V0}{ch:List Addr}(I:Inv X pins σ H s)(N:s'.os=s.os)(u:Un (frs X.stack) ch H H' s.heap s'.heap)(hok:HOk X.prog X.w H' s'.heap)(q:aaS s'.gens)
  (B:∀b∈ch,(b∈X.ex∨X.s₀.heap.objs.size<=b)/\b≠X.env.locals/\(∀x c,X.env.cells.lookup x=some c->c≠b)/\∀p∈X.pn++pins,p.1≠b):Inv X pins σ H' s':=by
 obtain⟨h',g',d',t',o'⟩:=s';have e:o'=s.os:=N;subst e;exact I.call (g':=g') (t':=t') (d':=d') u hok q B
end
abbrev XK:=Value->Option Addr->Hp->Prop
abbrev St:=List (Option V)
abbrev VK:=V->Hp->Prop
abbrev TE:=St->Hp->VK->Prop
abbrev TT:=St->Hp->(Bool->Hp->Prop)->Prop
abbrev TA:=St->Hp->(List V->Hp->Prop)->Prop
structure Ends where
 nx:St->Hp->Prop
 rt:VK
 bk:St->Hp->Prop:=λ_ _=>False
 ct:St->Hp->Prop:=λ_ _=>False
abbrev TS:=Ends->St->Hp->Prop
def EP(X:Cx)(pins:List 1.23)(σ:St)(Q:VK)(u:Value)(s':V0):Prop:=∃v H',Inv X pins σ H' s'/\RelV v u/\Q v H'
def TP(X:Cx)(pins:List 1.23)(σ:St)(Q:Bool->Hp->Prop)(b:Bool)(s':V0):Prop:=∃H',Inv X pins σ H' s'/\Q b H'
def AP(X:Cx)(pins:List 1.23)(σ:St)(Q:List V->Hp->Prop)(us:List Value)(s':V0):Prop:=∃vs H',Inv X pins σ H' s'/\Vals vs us/\Q vs H'
def SP(X:Cx)(pins:List 1.23)(D:Ends)(f:Flow)(s':V0):Prop:=
 match f with
 |.next=>∃F H',Inv X pins F H' s'/\D.nx F H'
 |.brk=>∃F H',Inv X pins F H' s'/\D.bk F H'
 |.cont=>∃F H',Inv X pins F H' s'/\D.ct F H'
 |.ret u=>∃v F H',Inv X pins F H' s'/\RelV v u/\D.rt v H'
def PE(X:Cx)(e:Expr)(t:TE):Prop:=
 ∀(pins:List 1.23)(s:V0)(σ:St)(H:Hp)(Q:VK),Inv X pins σ H s->t σ H Q->wpAny 1.12 X.A (eval e X.env) (EP X pins σ Q) X.xe s
def PT(X:Cx)(e:Expr)(t:TT):Prop:=
 ∀(pins:List 1.23)(s:V0)(σ:St)(H:Hp)(Q:Bool->Hp->Prop),Inv X pins σ H s->t σ H Q->wpAny 1.12 X.A (acp e X.env (eval e X.env)) (TP X pins σ Q) X.xe s
def PW(X:Cx)(e:Expr)(t:TT):Prop:=
 ∀(q:Sem Value)(pins:List 1.23)(s:V0)(σ:St)(H:Hp)(Q:Bool->Hp->Prop),Inv X pins σ H s->t σ H Q->wpAny 1.12 X.A (acp e X.env q) (TP X pins σ Q) X.xe s
theorem PW.pt{X:Cx}{e:Expr}{t:TT}(h:PW X e t):PT X e t:=h _
def PA(X:Cx)(es:List Expr)(t:TA):Prop:=
 ∀(pos:Pos)(pins:List 1.23)(s:V0)(σ:St)(H:Hp)(Q:List V->Hp->Prop),Inv X pins σ H s->t σ H Q->wpAny 1.12 X.A (spliced (Yj pos (We es X.env))) (AP X pins σ Q) X.xe s
def PS(X:Cx)(st:Stmt)(t:TS):Prop:=
 ∀(pins:List 1.23)(s:V0)(σ:St)(H:Hp)(D:Ends),Inv X pins σ H s->t D σ H->wpAny 1.12 X.A (exec st X.env) (SP X pins D) X.xe s
def PSs(X:Cx)(st:List Stmt)(t:TS):Prop:=
 ∀(pins:List 1.23)(s:V0)(σ:St)(H:Hp)(D:Ends),Inv X pins σ H s->t D σ H->wpAny 1.12 X.A (execs st X.env) (SP X pins D) X.xe s
theorem thn{α:Type}{t:Sem α}{Q F:α->V0->Prop}{M:Model}{A:Xk}{E:Value->V0->Prop}{s:V0}(h:wpAny M A t Q E s)(q:∀a s,Q a s->F a s):wpAny M A t F E s:=Xy h q λ_ _ x=>x
section
variable{X:Cx}
theorem bin{a b:Expr}{ta tb:TE}(Y:PE X a ta)(U:PE X b tb){pins:List 1.23}{s:V0}{σ:St}{H:Hp}{R:V->V->Hp->Prop}(I:Inv X pins σ H s)(h:ta σ H λx H1=>tb σ H1 λy H2=>R x y H2)
  {α:Type} {Q:α->V0->Prop} {f:Value->Value->Sem α}
  (Z:∀v u B x y H2,Inv X pins σ H2 B->RelV x v->RelV y u->R x y H2->wpAny 1.12 X.A (f v u) Q X.xe B) :
  wpAny 1.12 X.A (eval a X.env) (λv J=>wpAny 1.12 X.A (eval b X.env) (λu q=>wpAny 1.12 X.A (f v u) Q X.xe q) X.xe J) X.xe s:=by
 refine thn (Y pins s σ H _ I h) λv O ⟨x,H1,F,r1,q1⟩=>?_;refine thn (U pins O σ H1 _ F q1) λu B ⟨y,H2,I2,N,q2⟩=>?_;exact Z v u B x y H2 I2 r1 N q2
def By(i:Nat):TE:=λσ H Q=>∃v,σ[i]? =some (some v)/\Q v H
def tC(v:V):TE:=λ_ H Q=>Q v H
theorem Km{i:Nat}{x:Str}{pos:Pos}(U:X.N[i]? =some x)(O:Vis X.env.scope x)(hd:1.20=false:=by decide)(F:(x==("__classdict__":Str))=false:=by decide):PE X (.Name x pos) (By i):=by
 intro pins s σ H Q I h;obtain⟨v,e,h⟩:=h;obtain⟨m,hn,Y⟩:=I.loc;obtain⟨u,r,l⟩:=Y i x v U e O;have fin:EP X pins σ Q u s:=⟨v,H,I,r,h⟩;rcases l with⟨B,J⟩|⟨B,c,Z,q⟩
 .exact wpAny_Name (wpAny_loadName_local I.ok.kind B hn J fin) hd
 .rcases B with B|B
  .exact wpAny_Name (wpAny_loadName_cell I.ok.kind B Z q fin) hd
  .exact wpAny_Name (wpAny_loadName_free I.ok.kind B Z q fin F) hd
theorem Qq{i j pos}:PE X (.Constant (.int i) j pos) (tC (.int i)):=λ_ _ _ H _ I h=>wpAny_Constant_int ⟨.int i,H,I.tok _,⟨_,rfl⟩,h⟩
theorem SX{b j pos}:PE X (.Constant (.bool b) j pos) (tC (.bl b)):=λ_ _ _ H _ I h=>Constant_bool ⟨.bl b,H,I,rfl,h⟩
theorem Rk{j pos}:PE X (.Constant .none j pos) (tC .non):=λ_ _ _ H _ I h=>Constant_none ⟨.non,H,I,rfl,h⟩
theorem RN{x j pos}:PE X (.Constant (.str x) j pos) (tC (.str x)):=λ_ _ _ H _ I h=>Calls.Constant_str ⟨.str x,H,I.tok _,⟨_,rfl⟩,h⟩
def Gl(X:Cx)(x:Str):Prop:=X.env.kindOf x=some .globalImplicit
theorem Od{E:Value->V0->Prop}{pins:List 1.23}{s:V0}{σ:St}{H:Hp}{x:Str}{u:Value}{pos:Pos}{Q:Value->V0->Prop}(I:Inv X pins σ H s)(q:Gl X x)(J:X.mg x=some u)(h:Q u s)
  (hd:1.20=false:=by decide):wpAny 1.12 X.A (eval (.Name x pos) X.env) Q E s:=
 abq I.ok.kind q (Calls.loadGlobal_global (by rw[I.ok.glob];exact I.mod.glob.keeps I.bk) J h) hd
theorem mF{E:Value->V0->Prop}{pins:List 1.23}{s:V0}{σ:St}{H:Hp}{x:Str}{u:Value}{pos:Pos}{Q:Value->V0->Prop}(I:Inv X pins σ H s)(q:Gl X x)(J:X.mg x=none)(N:Yi x=some u)(h:Q u s)
  (hn:x≠"__name__":=by decide) (hd:1.20=false:=by decide):wpAny 1.12 X.A (eval (.Name x pos) X.env) Q E s:=by
 obtain⟨B,h1,h2⟩:=I.mod.blt;exact abq I.ok.kind q (Calls.loadGlobal_builtin (by rw[I.ok.glob];exact I.mod.glob.keeps I.bk) J (by rw[I.ok.blt];exact h1.keeps I.bk) ((h2 x hn).trans N) h) hd
theorem Mh{x:Str}{v:V}{u:Value}{pos:Pos}(q:Gl X x)(J:X.mg x=none)(N:Yi x=some u)(r:RelV v u)(hn:x≠"__name__":=by decide)(hd:1.20=false:=by decide):PE X (.Name x pos) (tC v):=
 λ_ _ _ H _ I h=>mF I q J N ⟨v,H,I,r,h⟩ hn hd
variable{a b:Expr}{ta tb:TE}{pos:Pos}
variable{tA tB':TT}{rest:List Expr}
def QZ(t u:TT):TT:=λσ H Q=>t σ H λc H1=>if c=true then u σ H1 Q else Q false H1
def tOr(t u:TT):TT:=λσ H Q=>t σ H λc H1=>if c=true then Q true H1 else u σ H1 Q
def Us(t:TT):TT:=λσ H Q=>t σ H λc H1=>Q (!c) H1
theorem Fi(Y:PT X a tA):PW X (.BoolOp .And [a] pos) tA:=by
 intro q pins s σ H Q I h;refine isTrue_and (thn (Y pins s σ H Q I h) λc O e=>?_);cases c with
 |true=>exact isTrue_and_nil e
 |false=>exact e
theorem Qn(Y:PT X a tA):PW X (.BoolOp .Or [a] pos) tA:=by
 intro q pins s σ H Q I h;refine isTrue_or (thn (Y pins s σ H Q I h) λc O e=>?_);cases c with
 |false=>exact isTrue_or_nil e
 |true=>exact e
theorem J9(Y:PT X a tA)(U:PW X (.BoolOp .And (b::rest) pos) tB'):PW X (.BoolOp .And (a::b::rest) pos) (QZ tA tB'):=by
 intro q pins s σ H Q I h;refine isTrue_and (thn (Y pins s σ H _ I h) λc O ⟨H1,F,q1⟩=>?_);cases c with
 |true=>exact U q pins O σ H1 Q F q1
 |false=>exact⟨H1,F,q1⟩
theorem Ua(Y:PT X a tA)(U:PW X (.BoolOp .Or (b::rest) pos) tB'):PW X (.BoolOp .Or (a::b::rest) pos) (tOr tA tB'):=by
 intro q pins s σ H Q I h;refine isTrue_or (thn (Y pins s σ H _ I h) λc O ⟨H1,F,q1⟩=>?_);cases c with
 |true=>exact⟨H1,F,q1⟩
 |false=>exact U q pins O σ H1 Q F q1
theorem Ru(Y:PT X a tA):PT X (.UnaryOp .Not a pos) (Us tA):=by
 intro pins s σ H Q I h;exact isTrue_not (Y pins s σ H (λc H1=>Q (!c) H1) I h)
def P_(ta tb:TE):TE:=λσ H Q=>ta σ H λx H1=>∃c,x= .bl c/\if c=true then tb σ H1 Q else Q (.bl false) H1
theorem Q4{op}{t:TE}(h:PE X a t):PE X (.BoolOp op [a] pos) t:=λpins s σ H Q I B=>BoolOp_one (h pins s σ H Q I B)
theorem RM(Y:PE X a ta)(U:PE X (.BoolOp .And (b::rest) pos) tb):PE X (.BoolOp .And (a::b::rest) pos) (P_ ta tb):=by
 intro pins s σ H Q I h;refine BoolOp_and (thn (Y pins s σ H _ I h) λv O ⟨x,H1,F,q,q1⟩=>?_);obtain⟨c,rfl,q1⟩:=q1;cases q;refine ZL ?_;cases c with
 |true=>exact U pins O σ H1 Q F q1
 |false=>exact⟨.bl false,H1,F,rfl,q1⟩
end
def SqL(K:V8)(H:Hp)(a:Addr)(xs:List V):Prop:=
 Rd H a (.lst xs)∨
  ∃(o:Obj)(B:Array Value)(n:Nat),K.lookup a=some o/\o.cls= .type "list"/\o.dict=none/\o.data= .seq B n/\B.size<=V6/\Vals xs B.toList
def SqT(K:V8)(H:Hp)(a:Addr)(xs:List V):Prop:=
 Rd H a (.tup xs)∨
  ∃(o:Obj)(B:Array Value)(n:Nat),K.lookup a=some o/\o.cls= .type "tuple"/\o.data= .seq B n/\B.size<=V6/\Vals xs B.toList
def VB:Value->Option V
 |.none=>some .non
 |.bool b=>some (.bl b)
 |.int i _=>some (.int i)
 |.str x _=>some (.str x)
 |.bytes b _=>some (.byt b)
 |.float b _=>some (.flt b)
 |.ref a=>some (.ref a)
 |.type n=>some (.ty n)
 |_=>none
theorem RelV.abs{x:V}{u:Value}(r:RelV x u):VB u=some x:=by
 cases x with
 |non=>cases r;rfl
 |bl _=>cases r;rfl
 |int _=>obtain⟨t,rfl⟩:=r;rfl
 |str _=>obtain⟨t,rfl⟩:=r;rfl
 |byt _=>obtain⟨t,rfl⟩:=r;rfl
 |flt _=>obtain⟨t,rfl⟩:=r;rfl
 |ref _=>cases r;rfl
 |ty _=>cases r;rfl
theorem RelV.inj{x y:V}{u:Value}(r:RelV x u)(q:RelV y u):x=y:=Xj (r.abs.symm.trans q.abs)
theorem Vals.inj:∀{xs ys:List V}{us:List Value},Vals xs us->Vals ys us->xs=ys
 |_,_,_,.nil,.nil=>rfl
 |_,_,_,.cons r t,.cons r' t'=>by rw[r.inj r',Vals.inj t t']
section
variable{X:Cx}{pins:List (Addr×Obj)}{σ:St}{H:Hp}{s:Shared}{a:Addr}{xs ys:List V}
theorem SqL.of{K:V8}(h:H a=some (.lst xs)):SqL K H a xs:=.inl (.inl h)
theorem SqT.of{K:V8}(h:H a=some (.tup xs)):SqT K H a xs:=.inl (.inl h)
theorem Inv.list(I:Inv X pins σ H s)(h:SqL X.K H a xs):∃B:List Value,Vals xs B/\PlainL s.heap a B.toArray/\xs.length<=V6:=by
 rcases h with h|⟨o,B,n,q,Z,hd,hs,O,r⟩
 .obtain⟨z,B,n,r,e⟩:=h.ok I.hok
  exact⟨B,r,⟨_,n,e,rfl,rfl,rfl⟩,z⟩
 .refine⟨B.toList,r,⟨o,n,I.kIn a o q,Z,hd,by simpa using hs⟩,?_⟩
  have e:=r.length;simp only[Yc]at e;omega
theorem Inv.tuple(I:Inv X pins σ H s)(h:SqT X.K H a xs):∃B:List Value,Vals xs B/\IsTup s.heap a B.toArray/\xs.length<=V6:=by
 rcases h with h|⟨o,B,n,q,Z,hs,O,r⟩
 .obtain⟨z,B,r,p⟩:=h.ok I.hok
  exact⟨B,r,p.t,z⟩
 .refine⟨B.toList,r,⟨o,I.kIn a o q,Z,n,by simpa using hs⟩,?_⟩
  have e:=r.length;simp only[Yc]at e;omega
theorem Inv.list_inj(I:Inv X pins σ H s)(h:SqL X.K H a xs)(h':SqL X.K H a ys):xs=ys:=by
 obtain⟨B,r,⟨o,n,e,_,_,d⟩,_⟩:=I.list h;obtain⟨its',O,⟨o',F,N,_,_,d'⟩,_⟩:=I.list h';rw[e]at N;cases N;rw[d]at d';injection d' with d1 _;have:B=its':=by simpa using congrArg Array.toList d1
 subst this;exact r.inj O
theorem Inv.tuple_inj(I:Inv X pins σ H s)(h:SqT X.K H a xs)(h':SqT X.K H a ys):xs=ys:=by
 obtain⟨B,r,⟨o,e,_,n,d⟩,_⟩:=I.tuple h;obtain⟨its',O,⟨o',N,_,F,d'⟩,_⟩:=I.tuple h';rw[e]at N;cases N;rw[d]at d';injection d' with d1 _;have:B=its':=by simpa using congrArg Array.toList d1
 subst this;exact r.inj O
end
abbrev Cx.wish(X:Cx)(E:Value->V0->Prop):Cx:={X with xe:=E}
abbrev Cx.nox(X:Cx):Cx:=X.wish λ_ _=>False
theorem Cx.Ok.wish{X:Cx}(ok:X.Ok)(E:Value->V0->Prop):(X.wish E).Ok:=
 ⟨ok.mod,ok.kind,ok.glob,ok.blt,ok.above,ok.inj,ok.has,ok.cab,ok.hd,ok.frames,ok.stk,ok.exf,ok.bs,ok.bsz,ok.noex,ok.exfs,ok.funs,ok.frf⟩
theorem Cx.Ok.unwish{X:Cx}{E:Value->V0->Prop}(ok:(X.wish E).Ok):X.Ok:=
 ⟨ok.mod,ok.kind,ok.glob,ok.blt,ok.above,ok.inj,ok.has,ok.cab,ok.hd,ok.frames,ok.stk,ok.exf,ok.bs,ok.bsz,ok.noex,ok.exfs,ok.funs,ok.frf⟩
section
variable{X:Cx}{pins:List (Addr×Obj)}{σ:St}{H:Hp}{s:Shared}{E:Value->Shared->Prop}
theorem Inv.wish(I:Inv X pins σ H s)(E:Value->V0->Prop):Inv (X.wish E) pins σ H s:=⟨I.ok.wish E,I.os,I.bare,I.base,I.loc,I.cell,I.free,I.freeC,I.pin,I.hok,I.len⟩
theorem Inv.unwish(I:Inv (X.wish E) pins σ H s):Inv X pins σ H s:=⟨I.ok.unwish,I.os,I.bare,I.base,I.loc,I.cell,I.free,I.freeC,I.pin,I.hok,I.len⟩
theorem SP.unwish{D:Ends}{f:Flow}{s':V0}(h:SP (X.wish E) pins D f s'):SP X pins D f s':=by
 cases f with
 |next=>obtain⟨F,H',I,q⟩:=h;exact⟨F,H',I.unwish,q⟩
 |brk=>obtain⟨F,H',I,q⟩:=h;exact⟨F,H',I.unwish,q⟩
 |cont=>obtain⟨F,H',I,q⟩:=h;exact⟨F,H',I.unwish,q⟩
 |ret u=>obtain⟨v,F,H',I,r,q⟩:=h;exact⟨v,F,H',I.unwish,r,q⟩
theorem PSs.nox{st:List Stmt}{t:TS}(h:PSs X.nox st t):PSs X st t:=λpins s σ H D I B=>
 Xy (h pins s σ H D (I.wish _) B) (λ_ _ q=>q.unwish) λ_ _ z=>Y_ z
end
section
variable{X:Cx}{st:Stmt}{rest:List Stmt}{t u:TS}{e:Expr}{te:TE}{pos:Pos}
def Qe:TS:=λD σ H=>D.nx σ H
def Nb(t u:TS):TS:=λD σ H=>t {D with nx:=u D} σ H
theorem Ob:PSs X [] Qe:=λ_ _ σ H _ I h=>aa0 ⟨σ,H,I,h⟩
theorem Ka(h1:PS X st t)(h2:PSs X rest u):PSs X (st::rest) (Nb t u):=by
 intro pins s σ H D I h;refine wpAny_execs_cons (thn (h1 pins s σ H {D with nx:=u D} I h) λf O q=>?_);cases f with
 |next=>
  obtain⟨F,H',Y,q⟩:=q;exact h2 pins O F H' D Y q
 |ret v=>exact q
 |brk=>exact q
 |cont=>exact q
theorem Nr(h1:PS X st t):PSs X [st] t:=by
 intro pins s σ H D I h;refine wpAny_execs_cons (thn (h1 pins s σ H D I h) λf O q=>?_);cases f with
 |next=>exact aa0 q
 |ret v=>exact q
 |brk=>exact q
 |cont=>exact q
theorem Inv.quiet{pins:List 1.23}{σ:St}{H:Hp}{s:V0}(I:Inv X pins σ H s):interactive X.env=false:=by simp[interactive,I.ok.kind]
def K1(te:TE):TS:=λD σ H=>te σ H λ_ H1=>D.nx σ H1
theorem xg(V:PE X e te)(hs:Zd e none pos.line X.env=pure false:=by rfl):PS X (.Expr e pos) (K1 te):=by
 intro pins s σ H D I h;exact wpAny_Expr_any (thn (V pins s σ H _ I h) λv O ⟨x,H1,F,U,q1⟩=>⟨σ,H1,F,q1⟩) I.quiet hs
def Nx(te:TE):TS:=λD σ H=>te σ H D.rt
theorem xx(V:PE X e te):PS X (.Return (some e) pos) (Nx te):=by
 intro pins s σ H D I h;exact wpAny_Return_some (thn (V pins s σ H _ I h) λv O ⟨x,H1,F,U,q1⟩=>⟨x,σ,H1,F,U,q1⟩)
def Tp(c:TT)(t u:TS):TS:=λD σ H=>c σ H λb H1=>if b=true then t D σ H1 else u D σ H1
theorem Qg{c:Expr}{a b:List Stmt}{tc:TT}(Z:PT X c tc)(Y:PSs X a t)(U:PSs X b u):PS X (.If c a b pos) (Tp tc t u):=by
 intro pins s σ H D I h;refine wpAny_If (thn (Z pins s σ H _ I h) λd O ⟨H1,F,q1⟩=>?_);cases d with
 |true=>exact Y pins O σ H1 D F q1
 |false=>exact U pins O σ H1 D F q1
end
abbrev TG:=V->St->Hp->(St->Hp->Prop)->Prop
abbrev TGs:=List V->St->Hp->(St->Hp->Prop)->Prop
def PG(X:Cx)(target:Expr)(t:TG):Prop:=
 ∀(pins:List 1.23)(s:V0)(σ:St)(H:Hp)(v:V)(u:Value)(Q:St->Hp->Prop),Inv X pins σ H s->RelV v u->t v σ H Q->
  wpAny 1.12 X.A (aai target X.env u) (λ_ s'=>∃F H',Inv X pins F H' s'/\Q F H') X.xe s
def PGs(X:Cx)(ts:List Expr)(t:TGs):Prop:=
 ∀(pins:List 1.23)(s:V0)(σ:St)(H:Hp)(vs:List V)(us:List Value)(Q:St->Hp->Prop),Inv X pins σ H s->Vals vs us->t vs σ H Q->
  wpAny 1.12 X.A (acT ((Xz ts X.env).map (·.2)) us) (λ_ s'=>∃F H',Inv X pins F H' s'/\Q F H') X.xe s
abbrev Gj:=V->V->V->Hp->(Hp->Prop)->Prop
def Mw(X:Cx)(t:Gj):Prop:=
 ∀(pins:List 1.23)(s:V0)(σ:St)(H:Hp)(o i v:V)(q J u:Value)(Q:Hp->Prop),Inv X pins σ H s->RelV o q->RelV i J->RelV v u->t o i v H Q->
  wpAny 1.12 X.A (setItem q J u) (λ_ s'=>∃H',Inv X pins σ H' s'/\Q H') X.xe s
section
variable{X:Cx}{pos:Pos}
def rn(i:Nat):TG:=λv σ H Q=>Q (σ.set i (some v)) H
theorem tE{i:Nat}{x:Str}(U:X.N.Nodup)(hi:X.N[i]? =some x)(J:Loc X.env.scope x)(Z:X.fn x=true∨X.env.scope.names.lookup x=some .local:=by first|exact .inl rfl|exact .inr rfl|assumption):PG X (.Name x pos) (rn i):=by
 intro pins s σ H v u Q I r h;exact wpAny_assign_Name (lV I U hi J r (λs' Y=>⟨_,H,Y,h⟩) Z)
def MN:TGs:=λvs σ H Q=>vs=[]/\Q σ H
def HY(t:TG)(u:TGs):TGs:=λvs σ H Q=>∃v r,vs=v::r/\t v σ H λF H'=>u r F H' Q
theorem Ft:PGs X [] MN:=by
 intro pins s σ H vs us Q I r h;obtain⟨e,h⟩:=h;subst e;cases r;exact assignInOrder_nil ⟨σ,H,I,h⟩
theorem zK{e:Expr}{es:List Expr}{t:TG}{u:TGs}(h1:PG X e t)(h2:PGs X es u)
  (hs:(Xz (e::es) X.env).map (·.2)=aai e X.env::(Xz es X.env).map (·.2):=by rfl):PGs X (e::es) (HY t u):=by
 intro pins s σ H vs us Q I r h;obtain⟨v,q,e1,h⟩:=h;subst e1;cases r with
 |cons r B=>
  rw[hs];refine abg (thn (h1 pins s σ H _ _ _ I r h) λ_ O ⟨N,H1,F,q1⟩=>?_);exact h2 pins O N H1 _ _ Q F B q1
def Qs(K:V8)(n:Nat)(t:TGs):TG:=λv σ H Q=>∃a xs,v= .ref a/\SqT K H a xs/\xs.length=n/\t xs σ H Q
theorem Im{es:List Expr}{k:Nat}{t:TGs}{n:Nat}(Z:X.calm=true)(h:PGs X es t)
  (hn:(Xz es X.env).length=n:=by rfl) (V:(Xz es X.env).findIdx? (·.1)=none:=by rfl):PG X (.Tuple es k pos) (Qs X.K n t):=by
 intro pins s σ H v u Q I r q;obtain⟨a,xs,e1,N,Y,q⟩:=q;subst e1;cases r;obtain⟨B,U,F,O⟩:=I.tuple N;refine assign_Tuple_tuple (I.ok.hd Z) F (by simp[hn,←Y,U.length]) V λh' J=>?_;have I1:Inv X pins σ H {s with heap:=h'}:=I.kept (t':=s.toks) λb o e=>J b o (Wj (V_ e)) e;exact h pins _ σ H xs _ Q I1 (by simpa using U) q
def g8(to q:TE)(t:Gj):TG:=λv σ H Q=>to σ H λo H1=>q σ H1 λi H2=>t o i v H2 λY=>Q σ Y
theorem Qo{o i:Expr}{to ti:TE}{t:Gj}(N:PE X o to)(hi:PE X i ti)(hs:Mw X t)
  (Y:∀v,aai (.Subscript o i pos) X.env v=(do
   let q ←Zt [v] (eval o X.env)
   let J ←Zt [v,q] (eval i X.env)
   standAt pos
   Zt [v,q,J] (setItem q J v)
   release [v,q,J] []):=by intro _;rfl):PG X (.Subscript o i pos) (g8 to ti t):=by
 intro pins s σ H v u Q I r h;rw[Y];refine gD (Xf (thn (N pins s σ H _ I h) λq O ⟨x,H1,F,U,q1⟩=>?_));refine gD (Xf (thn (hi pins O σ H1 _ F q1) λJ B ⟨y,H2,I2,Z,q2⟩=>?_));refine gD (Zu (gD (Xf (thn (hs pins B σ H2 x y v q J u _ I2 U Z r q2) λ_ s3 ⟨H3,V,q3⟩=>?_))));exact wpAny_release ⟨σ,H3,V,q3⟩
def Je(te:TE)(g:TG):TS:=λD σ H=>te σ H λx H1=>g x σ H1 D.nx
theorem HX{tg e:Expr}{te:TE}{g:TG}(V:PE X e te)(J:PG X tg g)(hs:Zv [tg] e pos.line X.env=pure false:=by rfl)(N:aaH [tg] e X.env=pure none:=by rfl)
  (h1:(Xz [tg] X.env).map (·.2)=[aai tg X.env]:=by rfl):PS X (.Assign [tg] e pos) (Je te g):=by
 intro pins s σ H D I h;refine wpAny_Assign_stores (thn (V pins s σ H _ I h) λv O ⟨x,H1,F,U,q1⟩=>?_) hs N;rw[h1];exact thn (J pins O σ H1 x v _ F U q1) λ_ B q=>q
theorem Lk{i:Nat}{x:Str}{e:Expr}{te:TE}{pos':Pos}(Y:X.N.Nodup)(hi:X.N[i]? =some x)(J:Loc X.env.scope x)(V:PE X e te)(hs:Zd e (some (.Name x pos')) pos.line X.env=pure false:=by rfl)(Z:X.fn x=true∨X.env.scope.names.lookup x=some .local:=by first|exact .inl rfl|exact .inr rfl|assumption) :
  PS X (.Assign [.Name x pos'] e pos) (Je te (rn i)):=by
 intro pins s σ H D I h;refine wpAny_Assign_Name (thn (V pins s σ H _ I h) λv O ⟨y,H1,F,U,q1⟩=>?_) hs;exact lV F Y hi J U (λB q=>⟨_,H1,q,q1⟩) Z
def S7(i j:Nat)(ta:TA):TS:=λD σ H=>ta σ H λvs H1=>∃v w,vs=[v,w]/\D.nx ((σ.set i (some v)).set j (some w)) H1
theorem Qx{i j:Nat}{x y:Str}{a b:Expr}{ta:TA}{px py pt:Pos}{kt k2 pt2}(Z:X.calm=true)(hN:X.N.Nodup)(hi:X.N[i]? =some x)(hj:X.N[j]? =some y)(a1:i≠j)
  (J:X.env.scope.names.lookup x=some .local) (V:X.env.scope.names.lookup y=some .local) (Y:PA X [a,b] ta)
  (hw:aaH [.Tuple [.Name x px,.Name y py] kt pt] (.Tuple [a,b] k2 pt2) X.env=pure (some [x,y]))
  (hs:Zv [.Tuple [.Name x px,.Name y py] kt pt] (.Tuple [a,b] k2 pt2) pos.line X.env=pure false:=by rfl) :
  PS X (.Assign [.Tuple [.Name x px,.Name y py] kt pt] (.Tuple [a,b] k2 pt2) pos) (S7 i j ta):=by
 intro pins s σ H D I h;rw[ab4];refine gD (Zu ?_);rw[hs];refine gD (V3 ?_);rw[Wo (by decide)];refine gD (Tuple_ (thn (Y _ pins s σ H _ I h) λus O ⟨vs,H1,F,U,q1⟩=>?_));obtain⟨v,w,e1,q1⟩:=q1;subst e1;obtain⟨u1,u2,rfl,rv,a2⟩:∃u1 u2,us=[u1,u2]/\RelV v u1/\RelV w u2:=by
  cases U with
  |cons p q=>
   cases q with
   |cons p' q'=>
    cases q';exact⟨_,_,rfl,p,p'⟩
 refine XC ?_ (by show 2<=V6;decide);have I2:Inv X pins σ H1 {O with heap:=O.heap.push {cls:=.type "tuple",data:=.seq [u1,u2].toArray}}:=F.kept (t':=O.toks) λb o e=>V2 _ e;rw[hw];refine gD (V3 ?_);show wpAny 1.12 X.A (do rule "assign.swapped-stores";let items ←unpackItems (.ref O.heap.objs.size) 2 none;acT [λv=>bindName X.env y v,λv=>bindName X.env x v] items.reverse;pure ad4) _ _ _;refine gD (aaq (gD (unpackItems_tuple (items:=#[u1,u2]) (I.ok.hd Z) (IsTup.new O.heap _) λh' a0=>?_)));have I3:=I2.kept (h':=h') (t':=O.toks) λb o e=>a0 b o (Wj (V_ e)) e;show wpAny _ _ (acT [λv=>bindName X.env y v,λv=>bindName X.env x v] [u2,u1] >>=λ_=>pure ad4) _ _ _;refine gD (abg (wpAny_bindName (lV I3 hN hj (.inl V) a2 (λB I4=>?_) (.inr V))));refine abg (wpAny_bindName (lV I4 hN hi (.inl J) rv (λs3 I5=>assignInOrder_nil (V3 ?_)) (.inr J)));rw[List.set_comm _ _ (WW a1)]at I5;exact⟨_,H1,I5,q1⟩
end
section
variable{X:Cx}{pos:Pos}
def Ke(c:TT)(tb:TS):TS:=λD σ H=>∃W:Nat->St->Hp->Prop,(∃m,W m σ H)/\∀m σ H,W m σ H->
 c σ H λb H1=>if b=true then ∃N:St->Hp->Prop,(∀F H',N F H'->∃O,O<m/\W O F H')/\tb {D with nx:=N,ct:=N,bk:=D.nx} σ H1 else D.nx σ H1
theorem Jd{c:Expr}{V:List Stmt}{tc:TT}{tb:TS}(hp:abh 1.12 X.A X.env X.xe)(Z:PT X c tc)(U:PSs X V tb):PS X (.While c V [] pos) (Ke tc tb):=by
 intro pins s σ H D I h;obtain⟨W,⟨m0,w0⟩,turn⟩:=h;refine wpAny_While (codeAny_whileLoop (λn s'=>∃F H',Inv X pins F H' s'/\W n F H') ?_ m0 ⟨σ,H,I,w0⟩);rintro n O ⟨a0,H1,I1,w1⟩;refine YX hp (thn (Z pins O a0 H1 _ I1 (turn n a0 H1 w1)) λb B ⟨H2,I2,q2⟩=>?_);cases b with
 |true=>
  obtain⟨N,hN,q2⟩:=q2;rw[Wd rfl];refine YX hp (thn (U pins B a0 H2 _ I2 q2) λf s3 q3=>?_);cases f with
  |next=>
   obtain⟨q,Y,I3,n3⟩:=q3;obtain⟨m',J,w3⟩:=hN q Y n3;exact⟨m',J,q,Y,I3,w3⟩
  |cont=>
   obtain⟨q,Y,I3,n3⟩:=q3;obtain⟨m',J,w3⟩:=hN q Y n3;exact⟨m',J,q,Y,I3,w3⟩
  |brk=>exact q3
  |ret v=>exact q3
 |false=>
  rw[Wo WL];exact aa0 ⟨a0,H2,I2,q2⟩
end
structure It where
 go:Nat->Hp->Prop
 yld:Nat->Hp->V->Hp->Prop
 stop:Nat->Hp->Prop
def jd(X:Cx)(pins:List 1.23)(H:Hp)(b:Addr):Prop:=
 H b=none/\b≠X.env.locals/\b∉X.fs/\(b∈X.ex∨X.s₀.heap.objs.size<=b)/\(∀x c,X.env.cells.lookup x=some c->c≠b)/\∀p∈X.pn++pins,p.1≠b
theorem Inv.fpOk{X:Cx}{pins:List 1.23}{σ:St}{H H':Hp}{s:V0}{b:Addr}(I:Inv X pins σ H s)(U:s.heap.objs.size<=b)(hn:H' b=none):jd X pins H' b:=by
 refine⟨hn,Yq (Wg I.lt U),I.nofs U,.inr (Xu I.sz U),λx c e z=>?_,λp F z=>?_⟩
 .obtain⟨v,q⟩:=I.cell x c e
  exact absurd (Wg q.lt (by rw[z];exact U)) (XF _)
 .exact absurd (Wg (V_ (I.pin p F).1) (by rw[z];exact U)) (XF _)
structure Turn(P:Program)(w:World)(K:PySem.W.Frag)(tg:Expr)(J:It)(fp:List Addr)(it:Addr)(tn:Nat->Heap->Prop):Prop where
 mem:it∈fp
 obj:∀i h,tn i h->∀b∈fp,∃o,h.get? b=some o/\∀v,o.data≠.cell v
 keep:∀i h h',tn i h->(∀b∈fp,∀o,h.get? b=some o->h'.get? b=some o)->tn i h'
 item:∀(X:Cx),X.prog=P->X.w=w->X.K=K->X.calm=true->∀(i:Nat)(pins:List 1.23)(s:V0)(σ:St)(H:Hp)(E:Value->V0->Prop),Inv X pins σ H s->(∀b∈fp,jd X pins H b)->tn i s.heap->J.go i H->
  wpAny (model P w) X.A (aa1 (.ref it)) (λr s1=>∃u,r=some u/\
   wpAny (model P w) X.A (aad tg (.ref it) u) (λ_ s2=>∃x H',Inv X pins σ H' s2/\RelV x u/\J.yld i H x H'/\tn (i+1) s2.heap/\∀b∈fp,H' b=none) E s1) E s
 done:∀(X:Cx),X.prog=P->X.w=w->X.K=K->X.calm=true->∀(i:Nat)(pins:List 1.23)(s:V0)(σ:St)(H:Hp)(E:Value->V0->Prop),Inv X pins σ H s->(∀b∈fp,jd X pins H b)->tn i s.heap->J.stop i H->
  wpAny (model P w) X.A (aa1 (.ref it)) (λr s1=>r=none/\Inv X pins σ H s1) E s
 self:∀(A:Xk)(i:Nat)(s:V0)(Q:Value->V0->Prop)(E:Value->V0->Prop),tn i s.heap->Q (.ref it) s->wpAny (model P w) A (pyIter (.ref it)) Q E s
abbrev TI:=St->Hp->(It->Hp->Prop)->Prop
def PIE(X:Cx)(pins:List 1.23)(σ:St)(tg:Expr)(R:It->Hp->Prop)(F:Value)(B:V0):Prop:=
 ∃(it:Addr)(fp:List Addr)(q:Nat->Heap->Prop)(J:It)(H':Hp),F= .ref it/\Inv X pins σ H' B/\Turn X.prog X.w X.K tg J fp it q/\q 0 B.heap/\(∀b∈fp,jd X pins H' b)/\R J H'
def PI(X:Cx)(tg iter:Expr)(wi:TI):Prop:=
 ∀(pins:List 1.23)(s:V0)(σ:St)(H:Hp)(R:It->Hp->Prop),Inv X pins σ H s->wi σ H R->
  wpAny 1.12 X.A (eval iter X.env) (λv O=>wpAny 1.12 X.A (pyIter v) (PIE X pins σ tg R) X.xe O) X.xe s
theorem Ig {M:Model} {A:Xk} {E:Value->V0->Prop} {s:V0} {tg:Expr} {it:Addr} {u:Value} {o:Obj} {n:String} {vs:Array Value} {Q:Unit->V0->Prop} (N:s.heap.get? it=some o) (Z:o.cls = .type n) (hd:o.data = .fields vs)
    (hn:["enumerate", "zip", "dict_itemiterator", "dict_reverseitemiterator", "odict_iterator", "itertools.zip_longest", "itertools.pairwise"].contains n=false) (q:Q () s):wpAny M A (aad tg (.ref it) u) Q E s:=by
  unfold aad
  cases tg <;> first
    | exact V3 q
    | (cases u <;> first
        | exact V3 q
        | (refine gD (acE N ?_)
           rw [Z,hd]
           show wpAny M A (if (["enumerate", "zip", "dict_itemiterator", "dict_reverseitemiterator", "odict_iterator", "itertools.zip_longest", "itertools.pairwise"].contains n && vs[0]? == some (ZR _))=true then _ else _) Q E s
           rw [Wo (by intro h; rw [hn,Bool.false_and] at h; cases h)]
           exact V3 q))
def Itl(K:V8)(a:Addr):It:=
 ⟨λi H=>∃xs x,SqL K H a xs/\xs[i]? =some x,λi H x H'=>H'=H/\∀xs,SqL K H a xs->xs[i]? =some x,λi H=>∃xs,SqL K H a xs/\xs.length<=i⟩
def Itt(K:V8)(a:Addr):It:=
 ⟨λi H=>∃xs x,SqT K H a xs/\xs[i]? =some x,λi H x H'=>H'=H/\∀xs,SqT K H a xs->xs[i]? =some x,λi H=>∃xs,SqT K H a xs/\xs.length<=i⟩
def Itr(lo:Int)(n:Nat):It:=⟨λi _=>i<n,λi H x H'=>H'=H/\x= .int (lo+i),λi _=>n<=i⟩
theorem Ga{P:WY}{w:World}{K:V8}{tg:Expr}(a it:Addr):Turn P w K tg (Itl K a) [it] it (λi h=>h.IsListIter it a i)where
 mem:=by simp
 obj:=λi h st b U=>by
  have e:b=it:=by simpa using U
  subst e;obtain⟨o,e,c,d⟩:=st;exact⟨o,e,λv z=>by rw[d]at z;cases z⟩
 keep:=λi h h' st k=>st.at λo e=>k it (by simp) o e
 item:=by
  intro X hP hw hK Z i pins s σ H E I hf st q;subst hP hw hK;obtain⟨xs,x,N,J⟩:=q;obtain⟨B,rv,p,O⟩:=I.list N;obtain⟨u,F,ru⟩:=rv.get J;obtain⟨f0,f1,f2,f3,f4,f5⟩:=hf it (by simp);refine aca st p.isList (x:=u) (by simpa using F) λh' a0 sb=>?_;have I1:Inv X pins σ H {s with heap:=h'}:=I.turned (t':=s.toks) (λb o U e=>(sb.2 b U).trans e) f0 f1 f3 f4 f5;obtain⟨o,e,c,d⟩:=id a0;exact⟨u,rfl,Ig (s:={s with heap:=h'}) e c d (by decide) ⟨x,H,I1,ru,⟨rfl,λys V=>by rw[I.list_inj V N];exact J⟩,a0,λb U=>(hf b U).1⟩⟩
 done:=by
  intro X hP hw hK Z i pins s σ H E I hf st q;subst hP hw hK;obtain⟨xs,N,J⟩:=q;obtain⟨B,rv,p,O⟩:=I.list N;obtain⟨f0,f1,f2,f3,f4,f5⟩:=hf it (by simp);have Y:=rv.length;exact acq (I.ok.hd Z) st p.isList (by simp;omega) λh' eb=>⟨rfl,I.turned (t':=s.toks) (λb o U e=>eb b o U e) f0 f1 f3 f4 f5⟩
 self:=λ_ _ _ _ _ st h=>wpAny_pyIter_listiter st h
theorem BP{P:WY}{w:World}{K:V8}{tg:Expr}(a it:Addr):Turn P w K tg (Itt K a) [it] it (λi h=>h.IsTupleIter it a i)where
 mem:=by simp
 obj:=λi h st b U=>by
  have e:b=it:=by simpa using U
  subst e;obtain⟨o,e,c,d⟩:=st;exact⟨o,e,λv z=>by rw[d]at z;cases z⟩
 keep:=λi h h' st k=>st.at λo e=>k it (by simp) o e
 item:=by
  intro X hP hw hK Z i pins s σ H E I hf st q;subst hP hw hK;obtain⟨xs,x,N,J⟩:=q;obtain⟨B,rv,p,O⟩:=I.tuple N;obtain⟨u,F,ru⟩:=rv.get J;obtain⟨f0,f1,f2,f3,f4,f5⟩:=hf it (by simp);refine wpAny_pyNext_tuple_item st (show s.heap.IsTuple a B.toArray from p) (x:=u) (by simpa using F) λh' a0 sb=>?_;have I1:Inv X pins σ H {s with heap:=h'}:=I.turned (t':=s.toks) (λb o U e=>(sb.2 b U).trans e) f0 f1 f3 f4 f5;obtain⟨o,e,c,d⟩:=id a0;exact⟨u,rfl,Ig (s:={s with heap:=h'}) e c d (by decide) ⟨x,H,I1,ru,⟨rfl,λys V=>by rw[I.tuple_inj V N];exact J⟩,a0,λb U=>(hf b U).1⟩⟩
 done:=by
  intro X hP hw hK Z i pins s σ H E I hf st q;subst hP hw hK;obtain⟨xs,N,J⟩:=q;obtain⟨B,rv,p,O⟩:=I.tuple N;obtain⟨f0,f1,f2,f3,f4,f5⟩:=hf it (by simp);have Y:=rv.length;exact wpAny_pyNext_tuple_end (I.ok.hd Z) st (show s.heap.IsTuple a B.toArray from p) (by simp;omega) λh' eb=>⟨rfl,I.turned (t':=s.toks) (λb o U e=>eb b o U e) f0 f1 f3 f4 f5⟩
 self:=λ_ _ _ _ _ st h=>wpAny_pyIter_tupleiter st h
theorem BJ{P:WY}{w:World}{K:V8}{tg:Expr}(it:Addr)(lo:Int)(n:Nat):Turn P w K tg (Itr lo n) [it] it (λi h=>IsRangeIter h it (lo+(i:Nat)*1) ((n:Int)-(i:Nat)) 1)where
 mem:=by simp
 obj:=λi h st b U=>by
  have e:b=it:=by simpa using U
  subst e;exact⟨_,st,λv z=>by
   have z':Data.fields _=Data.cell v:=z;cases z'⟩
 keep:=λi h h' st k=>k it (by simp) _ st
 item:=by
  intro X Y B hK Z i pins s σ H E I hf st q;subst Y B hK;obtain⟨f0,V,f2,J,f4,f5⟩:=hf it (by simp);have W:=Walks.range (prog:=X.prog) (w:=X.w) (I.ok.hd Z) it lo 1 n;refine W.item i s _ _ q st λv h' tk N O kk=>?_;obtain⟨t,rfl⟩:=N;have F:Inv X pins σ H {s with heap:=h',toks:=tk}:=I.turned (λb o U e=>kk b o (by simpa using U) e) f0 V J f4 f5;refine⟨_,rfl,Ig (s:={s with heap:=h',toks:=tk}) (n:="range_iterator") O rfl rfl (by decide) ⟨.int (lo+i),H,F,⟨t,?_⟩,⟨rfl,rfl⟩,O,λb U=>(hf b U).1⟩⟩;rw[Int.mul_one]
 done:=by
  intro X Y B hK Z i pins s σ H E I hf st q;subst Y B hK;obtain⟨f0,V,f2,J,f4,f5⟩:=hf it (by simp);exact wpAny_pyNext_range_end (I.ok.hd Z) st (by have:n<=i:=q;omega) λh' eb=>⟨rfl,I.turned (t':=s.toks) (λb o U e=>eb b o U e) f0 V J f4 f5⟩
 self:=λ_ _ _ _ _ st h=>wpAny_pyIter_rangeiter st h
section
variable{X:Cx}{tg:Expr}
theorem Jj{pins:List 1.23}{σ:St}{H:Hp}{s:V0}{R:It->Hp->Prop}{E:Value->V0->Prop}{lo hi:Int}{t u v:Tok}{tk:Nat}(I:Inv X pins σ H s)(h1: -(2 ^ 62)<=lo)(h2:lo<2 ^ 62)(Z: -(2 ^ 62)<=hi)(B:hi<2 ^ 62)
  (q:R (Itr lo (hi-lo).toNat) H):wpAny 1.12 X.A (pyIter (.ref s.heap.objs.size)) (PIE X pins σ tg R) E {s with heap:=s.heap.push {cls:=.type "range",data:=.fields #[.int lo t,.int hi u,.int 1 v]},toks:=tk}:=by
 refine wpAny_pyIter_range (IsRange.new ..) (small_one h1 h2 Z B) ?_;have F:Inv X pins σ H {s with heap:=s.heap.push {cls:=.type "range",data:=.fields #[.int lo t,.int hi u,.int 1 v]},toks:=tk}:=I.kept λb o e=>V2 _ e;refine⟨(s.heap.push {cls:=.type "range",data:=.fields #[.int lo t,.int hi u,.int 1 v]}).objs.size,[(s.heap.push {cls:=.type "range",data:=.fields #[.int lo t,.int hi u,.int 1 v]}).objs.size],_,_,H,rfl,
  F.kept (t':=tk) λb o e=>V2 _ e,BJ _ lo (hi-lo).toNat,?_,λb U=>?_,q⟩
 .have e1:lo+((0:Nat):Int)*1=lo:=by simp
  have e2:(((hi-lo).toNat:Nat):Int)-((0:Nat):Int)=Builtin.Range.rangeSize lo hi 1:=by rw[rangeSize_one];split<;>omega
  show IsRangeIter _ _ (lo+((0:Nat):Int)*1) ((((hi-lo).toNat:Nat):Int)-((0:Nat):Int)) 1;rw[e1,e2];exact Wx _ rfl
 .have e:b=(s.heap.push {cls:=.type "range",data:=.fields #[.int lo t,.int hi u,.int 1 v]}).objs.size:=by simpa using U
  subst e;exact F.fpOk (Wa _) (F.hok.fresh (Wa _))
def La(ta:TA):TI:=λσ H R=>ta σ H λvs H1=>∃j:Int,vs=[.int j]/\-(2 ^ 62)<=j/\j<2 ^ 62/\R (Itr 0 j.toNat) H1
theorem wK{a:Expr}{ta:TA}{p pos:Pos}(N:Gl X "range")(J:X.mg "range"=none)(Y:PA X [a] ta)(hs:We [a] X.env=[(false,eval a X.env)]:=by rfl):PI X tg (.Call (.Name "range" p) [a] [] pos) (La ta):=by
 intro pins s σ H R I h;refine Call_ (mF I N J boot_range (X4 (thn (Y pos pins s σ H _ I h) λus O ⟨vs,H1,F,U,q1⟩=>?_) hs rfl));obtain⟨j,e,q1,q2,q⟩:=q1;subst e;cases U with
 |cons r B=>
  cases B;obtain⟨t,rfl⟩:=r;exact call_range_1 (Jj F 1.10 1.10 q1 q2 (by simpa using q))
def Mi(wi:TI)(g:TG)(tb:TS):TS:=λD σ H=>wi σ H λJ H1=>∃W:Nat->Nat->St->Hp->Prop,(∃m,W 0 m σ H1)/\∀i m σ H,W i m σ H->
 (J.stop i H/\D.nx σ H)∨(J.go i H/\∃N:St->Hp->Prop,(∀F H',N F H'->∃O,O<m/\W (i+1) O F H')/\∀x H',J.yld i H x H'->g x σ H' λσ2 H2=>tb {D with nx:=N,ct:=N,bk:=D.nx} σ2 H2)
def jW(fp:List Addr)(h:Heap):List (Addr×Obj):=fp.filterMap λb=>(h.get? b).map λo=>(b,o)
theorem cX{fp:List Addr}{h:Heap}{b:Addr}{o:Obj}(U:b∈fp)(e:h.get? b=some o):(b,o)∈jW fp h:=abi.mpr ⟨b,U,by rw[e];rfl⟩
theorem qe{fp:List Addr}{h:Heap}{p:Addr×Obj}(F:p∈jW fp h):p.1∈fp/\h.get? p.1=some p.2:=by
 obtain⟨b,U,e⟩:=abi.mp F;cases q:h.get? b with
 |none=>rw[q]at e;cases e
 |some o=>
  rw[q]at e;have N:(b,o)=p:=Xj e;subst N;exact⟨U,q⟩
theorem Inv.pinned{pins:List 1.23}{σ:St}{H:Hp}{s:V0}{fp:List Addr}(I:Inv X pins σ H s)(Z:∀b∈fp,jd X pins H b)(N:∀b∈fp,∃o,s.heap.get? b=some o/\∀v,o.data≠.cell v):Inv X (pins++jW fp s.heap) σ H s:=
 I.pins_of λp F=>(qb.mp F).elim (λz=>I.pin p (VR _ z)) λz=>by
  obtain⟨U,e⟩:=qe z;obtain⟨f0,V,B,_⟩:=Z p.1 U;obtain⟨o,q,d⟩:=N p.1 U;rw[e]at q;cases q;exact⟨e,f0,V,B,d⟩
theorem Inv.unpinned{pins q:List 1.23}{σ:St}{H:Hp}{s:V0}(I:Inv X (pins++q) σ H s):Inv X pins σ H s:=I.pins_of λp F=>I.pin p (VR _ (Wf _ F))
theorem Cm{iter:Expr}{V:List Stmt}{wi:TI}{g:TG}{tb:TS}{pos:Pos}(hp:abh 1.12 X.A X.env X.xe)(Z:X.calm=true)(hi:PI X tg iter wi)(q:PG X tg g)(U:PSs X V tb)
  (hs:∀x,Xl iter X.env x=pure x:=by intro _;rfl):PS X (.For tg iter V [] pos) (Mi wi g tb):=by
 intro pins s σ H D I h;refine wpAny_For (thn (hi pins s σ H _ I h) λv s1 h1=>thn h1 λb1 B h2=>?_) hs;obtain⟨it,fp,tn,J,H2,e,I2,T,b0,f2,W,⟨m0,w0⟩,turn⟩:=h2;subst e;have a3:∀{H':Hp},(∀b∈fp,H' b=none)->∀b∈fp,jd X pins H' b:=λhn b U=>⟨hn b U,(f2 b U).2⟩;refine codeAny_forLoop_any (λn s'=>∃i F H',Inv X pins F H' s'/\tn i s'.heap/\(∀b∈fp,H' b=none)/\W i n F H') ?_ m0 ⟨0,σ,H2,I2,b0,λb U=>(f2 b U).1,w0⟩;rintro n s3 ⟨i,a2,Y,I3,a6,a5,w3⟩;rcases turn i n a2 Y w3 with⟨stop,qn⟩|⟨go,N,hN,step⟩
 .refine YX hp (thn (T.done X rfl rfl rfl Z i pins s3 a2 Y X.xe I3 (a3 a5) a6 stop) λr s4 ⟨O,I4⟩=>?_)
  subst O;exact aa0 ⟨a2,Y,I4,qn⟩
 .refine YX hp (thn (T.item X rfl rfl rfl Z i pins s3 a2 Y X.xe I3 (a3 a5) a6 go) λr s4 ⟨u,O,h4⟩=>?_)
  subst O;refine YX hp (thn h4 λ_ s5 ⟨x,H5,I5,r5,y5,a4,a9⟩=>?_);have a7:=I5.pinned (a3 a9) (T.obj _ _ a4);refine YX hp (thn (q _ s5 a2 H5 x u _ a7 r5 (step x H5 y5)) λ_ s6 ⟨a8,H6,I6,q6⟩=>?_);refine YX hp (thn (U _ s6 a8 H6 _ I6 q6) λf s7 q7=>?_);have a1:∀{a0:St}{H7:Hp},Inv X (pins++jW fp s5.heap) a0 H7 s7->N a0 H7->∃m,m<n/\∃i F H',Inv X pins F H' s7/\tn i s7.heap/\(∀b∈fp,H' b=none)/\W i m F H':=λ{a0 H7} I7 n7=>by
   obtain⟨m',hm,w7⟩:=hN a0 H7 n7;refine⟨m',hm,i+1,a0,H7,I7.unpinned,T.keep _ _ _ a4 λb U o e=>(I7.pin (b,o) (VR _ (VR _ (cX U e)))).1,λb U=>?_,w7⟩;obtain⟨o,e,d⟩:=T.obj _ _ a4 b U;exact(I7.pin (b,o) (VR _ (VR _ (cX U e)))).2.1
  cases f with
  |next=>obtain⟨a0,H7,I7,n7⟩:=q7;exact a1 I7 n7
  |cont=>obtain⟨a0,H7,I7,n7⟩:=q7;exact a1 I7 n7
  |brk=>obtain⟨a0,H7,I7,q7⟩:=q7;exact⟨a0,H7,I7.unpinned,q7⟩
  |ret v=>obtain⟨x7,a0,H7,I7,r7,q7⟩:=q7;exact⟨x7,a0,H7,I7.unpinned,r7,q7⟩
end
abbrev R2:=V->V->Hp->VK->Prop
def OpR(X:Cx)(f:Value->Value->Sem Value)(r:R2):Prop:=
 ∀(pins:List 1.23)(s:V0)(σ:St)(H:Hp)(x y:V)(v u:Value)(Q:VK),Inv X pins σ H s->RelV x v->RelV y u->r x y H Q->
  wpAny 1.12 X.A (f v u) (EP X pins σ Q) X.xe s
def UnR(X:Cx)(f:Value->Sem Value)(r:V->Hp->VK->Prop):Prop:=
 ∀(pins:List 1.23)(s:V0)(σ:St)(H:Hp)(x:V)(v:Value)(Q:VK),Inv X pins σ H s->RelV x v->r x H Q->
  wpAny 1.12 X.A (f v) (EP X pins σ Q) X.xe s
def cY(X:Cx)(f:Value)(r:List V->Hp->VK->Prop):Prop:=
 ∀(pins:List 1.23)(s:V0)(σ:St)(H:Hp)(xs:List V)(us:List Value)(Q:VK),Inv X pins σ H s->Vals xs us->r xs H Q->
  wpAny 1.12 X.A (call f us) (EP X pins σ Q) X.xe s
def Vx(X:Cx)(r:V->Hp->(Bool->Hp->Prop)->Prop):Prop:=
 ∀(pins:List 1.23)(s:V0)(σ:St)(H:Hp)(x:V)(v:Value)(Q:Bool->Hp->Prop),Inv X pins σ H s->RelV x v->r x H Q->
  wpAny 1.12 X.A (truthy v) (TP X pins σ Q) X.xe s
def tOp(r:R2)(ta tb:TE):TE:=λσ H Q=>ta σ H λx H1=>tb σ H1 λy H2=>r x y H2 Q
def tUn(r:V->Hp->VK->Prop)(ta:TE):TE:=λσ H Q=>ta σ H λx H1=>r x H1 Q
def rI(C:Int->Int->Prop)(g:Int->Int->V):R2:=λx y H Q=>∃i j,x= .int i/\y= .int j/\C i j/\Q (g i j) H
def rI0(g:Int->Int->V):R2:=λx y H Q=>∃i j,x= .int i/\y= .int j/\Q (g i j) H
def rU(g:Int->V):V->Hp->VK->Prop:=λx H Q=>∃i,x= .int i/\Q (g i) H
section
variable{X:Cx}{a b c:Expr}{ta tb tc:TE}{pos:Pos}
theorem QC(Y:PE X a ta)(U:PE X b tb){pins:List 1.23}{s:V0}{σ:St}{H:Hp}{R:V->V->Hp->Prop}(I:Inv X pins σ H s)
  (h:ta σ H λx H1=>tb σ H1 λy H2=>R x y H2) {Q:Value->V0->Prop} {f:Value->Value->Sem Value}
  (Z:∀v u B x y H2,Inv X pins σ H2 B->RelV x v->RelV y u->R x y H2->wpAny 1.12 X.A (f v u) Q X.xe B) :
  wpAny 1.12 X.A (eval a X.env) (λv J=>wpAny 1.12 X.A (eval b X.env) (λu q=>wpAny 1.12 X.A (f v u) Q X.xe q) X.xe J) X.xe s:=by
 refine thn (Y pins s σ H _ I h) λv O ⟨x,H1,F,r1,q1⟩=>?_;refine thn (U pins O σ H1 _ F q1) λu B ⟨y,H2,I2,N,q2⟩=>?_;exact Z v u B x y H2 I2 r1 N q2
theorem P0{op:Operator}{r:R2}(N:OpR X (X6 op) r)(Y:PE X a ta)(U:PE X b tb):PE X (.BinOp a op b pos) (tOp r ta tb):=by
 intro pins s σ H Q I h;exact wpAny_BinOp (QC Y U I h λv u B x y H2 O rx J q=>N pins B σ H2 x y v u Q O rx J q)
theorem T4{op:UnaryOp}{r:V->Hp->VK->Prop}(N:UnR X (unaryOp op) r)(Y:PE X a ta):PE X (.UnaryOp op a pos) (tUn r ta):=by
 intro pins s σ H Q I h;exact UnaryOp_ (thn (Y pins s σ H _ I h) λv O ⟨x,H1,F,U,q1⟩=>N pins O σ H1 x v Q F U q1)
theorem opI{f:Value->Value->Sem Value}{C:Int->Int->Prop}{g:Int->Int->Int}
  (B:∀(i j:Int)(t u:Tok)(s:V0)(Q:Value->V0->Prop)(E:Value->V0->Prop),C i j->Q (.int (g i j) s.toks) {s with toks:=s.toks+1}->wpAny 1.12 X.A (f (.int i t) (.int j u)) Q E s) :
  OpR X f (rI C λi j=>.int (g i j)):=by
 intro pins s σ H x y v u Q I rx J h;obtain⟨i,j,rfl,rfl,Z,q⟩:=h;obtain⟨t,rfl⟩:=rx;obtain⟨t',rfl⟩:=J;exact B i j t t' s _ _ Z ⟨.int (g i j),H,I.tok _,⟨_,rfl⟩,q⟩
theorem Uh{f:Value->Value->Sem Value}{g:Int->Int->Int}
  (B:∀(i j:Int)(t u:Tok)(s:V0)(Q:Value->V0->Prop)(E:Value->V0->Prop),Q (.int (g i j) s.toks) {s with toks:=s.toks+1}->wpAny 1.12 X.A (f (.int i t) (.int j u)) Q E s) :
  OpR X f (rI0 λi j=>.int (g i j)):=by
 show 4;exact B i j t t' s _ _ ⟨.int (g i j),H,I.tok _,⟨_,rfl⟩,q⟩
theorem Rp{f:Value->Value->Sem Value}{g:Int->Int->Bool}
  (B:∀(i j:Int)(t u:Tok)(s:V0)(Q:Value->V0->Prop)(E:Value->V0->Prop),Q (.bool (g i j)) s->wpAny 1.12 X.A (f (.int i t) (.int j u)) Q E s) :
  OpR X f (rI0 λi j=>.bl (g i j)):=by
 show 4;exact B i j t t' s _ _ ⟨.bl (g i j),H,I,rfl,q⟩
def VF(i j:Int):Prop:=0<=j/\j<=1000000/\i.natAbs<2 ^ 64
def QL(i j:Int):Prop:=(-(2 ^ 64)<i/\i<2 ^ 64)∨(-(2 ^ 64)<j/\j<2 ^ 64)
theorem QL.ok{i j:Int}(h:QL i j):IntMulOk i j:=by
 rcases h with⟨h1,h2⟩|⟨h1,h2⟩
 .exact .of_left (intBits_le_64 h1 h2)
 .exact .of_right (intBits_le_64 h1 h2)
theorem RD:OpR X (X6 .Add) (rI0 λi j=>.int (i+j)):=Uh λ_ _ _ _ _ _ _ q=>add_int q
theorem RP:OpR X (X6 .Sub) (rI0 λi j=>.int (i-j)):=Uh λ_ _ _ _ _ _ _ q=>sub_int q
theorem Ri:OpR X (X6 .Mult) (rI QL λi j=>.int (i*j)):=opI λ_ _ _ _ _ _ _ Z q=>mul_int q Z.ok
theorem R3:OpR X (X6 .Mod) (rI (λ_ j=>0<j) λi j=>.int (i % j)):=opI λi j _ _ _ _ _ Z q=>by
 have h1:(0:Int)<j:=Z;exact mod_int' 1.10 (by rw[Int.fmod_eq_emod_of_nonneg i 1.10];exact q)
theorem QR:OpR X (X6 .Pow) (rI VF λi j=>.int (i ^ j.toNat)):=opI λ_ _ _ _ _ _ _ Z q=>pow_int_small Z.1 Z.2.1 Z.2.2 q
theorem unI{f:Value->Sem Value}{g:Int->Int}
  (B:∀(i:Int)(t:Tok)(s:V0)(Q:Value->V0->Prop)(E:Value->V0->Prop),Q (.int (g i) s.toks) {s with toks:=s.toks+1}->wpAny 1.12 X.A (f (.int i t)) Q E s) :
  UnR X f (rU λi=>.int (g i)):=by
 intro pins s σ H x v Q I rx h;obtain⟨i,rfl,q⟩:=h;obtain⟨t,rfl⟩:=rx;exact B i t s _ _ ⟨.int (g i),H,I.tok _,⟨_,rfl⟩,q⟩
theorem R6:UnR X (unaryOp .USub) (rU λi=>.int (-i)):=unI λ_ _ _ _ _ q=>neg_int q
end
section
variable{X:Cx}{a b c:Expr}{ta tb tc:TE}{pos:Pos}
theorem Ci{pins:List 1.23}{σ:St}{H:Hp}{s:V0}{Q:VK}{k U:Bool}(I:Inv X pins σ H s)(q:Q (.bl k) H)(e:k=U):EP X pins σ Q (.bool U) s:=by
 subst e;exact⟨.bl k,H,I,rfl,q⟩
theorem Um:OpR X (W8 .Lt) (rI0 λi j=>.bl (decide (i<j))):=Rp λ_ _ _ _ _ _ _ q=>lt_int q
theorem Uj:OpR X (W8 .Gt) (rI0 λi j=>.bl (decide (j<i))):=Rp λ_ _ _ _ _ _ _ q=>gt_int q
theorem Tz:OpR X (W8 .GtE) (rI0 λi j=>.bl (decide (j<=i))):=Rp λ_ _ _ _ _ _ _ q=>ge_int q
theorem GR:OpR X (W8 .Lt) (λx y H Q=>∃i j,x= .str i/\y= .str j/\Q (.bl (decide (i.cps.toList<j.cps.toList))) H):=by
 show 4;exact lt_str (Ci I q rfl)
theorem Ha:OpR X (W8 .In) (λx y H Q=>∃i j,x= .str i/\y= .str j/\Q (.bl (!(Xg j i 0 j.length 1).isEmpty)) H):=by
 show 4;exact in_str (Ci I q rfl)
theorem Qy:OpR X (W8 .Is) (λx y H Q=>y= .non/\Q (.bl (decide (x= .non))) H):=by
 intro pins s σ H x y v u Q I rx J h;obtain⟨rfl,q⟩:=h;cases J;refine is_none_gen (Ci I q ?_);cases x<;>first
  |(cases rx;rfl)
  |(obtain⟨t,rfl⟩:=rx;rfl)
theorem DX{op:CmpOp}{r:R2}(N:OpR X (W8 op) r)(Y:PE X a ta)(U:PE X b tb)(J:Z6 op b=false):PE X (.Compare a [op] [b] pos) (tOp r ta tb):=by
 intro pins s σ H Q I h;exact wpAny_Compare1 (QC Y U I h λv u B x y H2 O rx F q=>N pins B σ H2 x y v u Q O rx F q) J
def JN(t:TE):TT:=λσ H Q=>t σ H λx H'=>∃k,x= .bl k/\Q k H'
theorem Fq{op:CmpOp}{r:R2}(N:OpR X (W8 op) r)(Y:PE X a ta)(U:PE X b tb)(J:Z6 op b=false):PT X (.Compare a [op] [b] pos) (JN (tOp r ta tb)):=by
 intro pins s σ H Q I h;refine wpAny_isTrue_Compare1 (thn (Y pins s σ H _ I h) λv O ⟨x,H1,F,r1,q1⟩=>thn (U pins O σ H1 _ F q1) λu B ⟨y,H2,I2,Z,q2⟩=>
  thn (N pins B σ H2 x y v u _ I2 r1 Z q2) λc s3 ⟨z,H3,V,r3,k,e,q⟩=>?_) J
 subst e;cases r3;exact ZL ⟨H3,V,q⟩
def Oi(K:V8)(x:V)(H:Hp)(k:Bool):Prop:=
 match x with
 |.non=>k=false
 |.bl b=>k=b
 |.int i=>k=(i !=0)
 |.str y=>y.length<=V6/\k=((y.length:Int)!=0)
 |.byt y=>y.size<=V6/\k=((y.size:Int)!=0)
 |.ref p=>(∃xs,SqL K H p xs/\k= !xs.isEmpty)∨(∃xs,SqT K H p xs/\k= !xs.isEmpty)∨∃kvs,H p=some (.dK kvs)/\k= !kvs.isEmpty
 |_=>False
theorem Dl{κ:Type}{kvs:List (κ×V)}{vs:List (κ×Value)}(r:KV kvs vs):(!vs.isEmpty)= !kvs.isEmpty:=by
 cases r<;>rfl
theorem vh{xs:List V}{B:List Value}(r:Vals xs B):(!B.toArray.isEmpty)= !xs.isEmpty:=by
 cases r<;>simp
theorem ou:(V6:Nat)<2 ^ 63:=by rw[ZG];decide
theorem QS:Vx X (λx H Q=>∃k,Oi X.K x H k/\Q k H):=by
 intro pins s σ H x v Q I rx h;obtain⟨k,e,q⟩:=h;have Y:=ou;have hs:V6=16777216:=ZG;cases x with
 |non=>
  cases rx;have N:k=false:=e;subst N;exact truthy_none ⟨H,I,q⟩
 |bl b=>
  cases rx;have N:k=b:=e;subst N;exact ZL ⟨H,I,q⟩
 |int i=>
  obtain⟨t,rfl⟩:=rx;have N:k=(i !=0):=e;subst N;exact PySem.P.truthy_int ⟨H,I,q⟩
 |str y=>
  obtain⟨t,rfl⟩:=rx;obtain⟨V,N⟩:y.length<=V6/\k=((y.length:Int)!=0):=e;subst N;exact PySem.P.truthy_str 1.10 ⟨H,I.tok _,q⟩
 |byt y=>
  obtain⟨t,rfl⟩:=rx;obtain⟨V,N⟩:y.size<=V6/\k=((y.size:Int)!=0):=e;subst N;exact PySem.W.truthy_bytes 1.10 ⟨H,I.tok _,q⟩
 |ref p=>
  cases rx;have N:(∃xs,SqL X.K H p xs/\k= !xs.isEmpty)∨(∃xs,SqT X.K H p xs/\k= !xs.isEmpty)∨∃kvs,H p=some (.dK kvs)/\k= !kvs.isEmpty:=e;rcases N with⟨xs,J,N⟩|⟨xs,J,N⟩|⟨kvs,J,N⟩
  .subst N
   obtain⟨B,r,F,O⟩:=I.list J;have U:=r.length;exact wpAny_truthy_list F.isList (by simp only[List.size_toArray];omega) ⟨H,I.tok _,by rw[vh r];exact q⟩
  .subst N
   obtain⟨B,r,F,O⟩:=I.tuple J;have U:=r.length;exact truthy_tuple F (by simp only[List.size_toArray];omega) ⟨H,I.tok _,by rw[vh r];exact q⟩
  .subst N
   obtain⟨O,Z,vs,r,m⟩:kvs.length<=V6/\(p==Y9)=false/\∃vs,KV kvs vs/\s.heap.DictOf (cg X.prog X.w) p vs:=I.hok p _ J;have U:kvs.length=vs.length:=abp r;exact wpAny_truthy_dict Z m 1.10 ⟨H,I.tok _,by rw[Dl r];exact q⟩
 |_=>exact(show False from e).elim
theorem KN(Y:PE X a ta)(V:∀q,acp a X.env q=(do let v ←q;standAt a.pos;Zt [v] (truthy v))) :
  PT X a (λσ H Q=>ta σ H λx H'=>∃k,Oi X.K x H' k/\Q k H'):=by
 intro pins s σ H Q I h;exact isTrue_plain (thn (Y pins s σ H _ I h) λv O ⟨x,H1,F,U,q1⟩=>QS pins O σ H1 x v Q F U q1) (V _)
theorem Bv:OpR X (X6 .Add) (λx y H Q=>∃i j,x= .str i/\y= .str j/\i.length+j.length<=V6/\Q (.str (i++j)) H):=by
 intro pins s σ H x y v u Q I rx J h;obtain⟨i,j,rfl,rfl,O,q⟩:=h;obtain⟨t,rfl⟩:=rx;obtain⟨t',rfl⟩:=J;exact add_str (λt' tk=>⟨.str (i++j),H,I.tok _,⟨_,rfl⟩,q⟩) O
theorem vals1{x:V}{us:List Value}(r:Vals [x] us):∃u,us=[u]/\RelV x u:=by
 cases r with
 |cons U Z=>cases Z;exact⟨_,rfl,U⟩
theorem vals2{x y:V}{us:List Value}(r:Vals [x,y] us):∃u Y,us=[u,Y]/\RelV x u/\RelV y Y:=by
 cases r with
 |cons U Z=>
  cases Z with
  |cons F I=>cases I;exact⟨_,_,rfl,U,F⟩
theorem Ld:cY X (.builtin "abs") (λxs H Q=>∃i,xs=[.int i]/\Q (.int (if i<0 then -i else i)) H):=by
 show 6;obtain⟨i,rfl,q⟩:=h;obtain⟨u,rfl,t,rfl⟩:=vals1 r;exact call_abs_int λu tk=>⟨.int (if i<0 then -i else i),H,I.tok _,⟨_,rfl⟩,q⟩
theorem Hh(Z:X.calm=true):cY X (.builtin "min") (λxs H Q=>∃i j,xs=[.int i,.int j]/\Q (.int (if j<i then j else i)) H):=by
 show 6;obtain⟨i,j,rfl,q⟩:=h;obtain⟨u,Y,rfl,⟨t,rfl⟩,⟨t',rfl⟩⟩:=vals2 r;refine min_two_ints (I.ok.hd Z) λh' tk k=>⟨_,H,I.kept k,?_,q⟩;by_cases B:j<i
 .rw[Wd B,Wd B];exact⟨_,rfl⟩
 .rw[Wo B,Wo B];exact⟨_,rfl⟩
theorem Hl:cY X (.type "int") (λxs H Q=>(∃i,xs=[.int i]/\Q (.int i) H)∨∃k,xs=[.bl k]/\Q (.int (if k then 1 else 0)) H):=by
 show 6;rcases h with⟨i,rfl,q⟩|⟨k,rfl,q⟩
 .obtain⟨u,rfl,t,rfl⟩:=vals1 r
  exact call_int_int ⟨.int i,H,I,⟨_,rfl⟩,q⟩
 .obtain⟨u,rfl,r1⟩:=vals1 r
  cases r1;exact call_int_bool ⟨.int (if k then 1 else 0),H,I.tok _,⟨_,rfl⟩,q⟩
theorem yJ:cY X (.type "str") (λxs H Q=>∃i,xs=[.int i]/\i.natAbs.log2<1920/\Q (.str (toString i)) H):=by
 show 6;obtain⟨i,rfl,O,q⟩:=h;obtain⟨u,rfl,t,rfl⟩:=vals1 r;exact PySem.P.str_of_int O ⟨.str _,H,I.tok _,⟨_,rfl⟩,q⟩
end
structure Ql(h:Heap)(x dx C:Addr)(mA:Str->Option Value):Prop where
 obj:h.get? x=some (ab3 C dx)
 ns:h.Ns1 dx mA
 ne:dx≠x
theorem GK{h:Heap}{dx:Addr}{Z:Str->Option Value}(n:h.Ns1 dx Z):∃Y,h.get? dx=some Y/\∀name,acr name Y=some (Z name):=by
 obtain⟨o,es,ep,N,hd,B,_,J⟩:=n;refine⟨o,N,λname=>?_⟩;have e:=J name;unfold nsFind findBy at e;rw[←Array.find?_toList]at e;unfold acr;rw[hd];dsimp only;split
 .rename_i y q
  rw[q]at e;exact congrArg some e
 .rename_i q
  rw[q]at e;have a:es.toList.any (·.refKey)=false:=by
   rw[List.any_eq_false];intro y V;obtain⟨z,t,F⟩:=B y (Array.mem_toList_iff.mp V);simp[DictEntry.refKey,F]
  have I:¬es.toList.any (·.refKey)=true:=by rw[a];exact WL
  rw[Wo I];exact congrArg some e
theorem Ql.look{h:Heap}{x dx C:Addr}{Z:Str->Option Value}(I:Ql h x dx C Z):∃Y,PySem.W.InstAt h x (ab3 C dx) C (some Y)/\∀name,acr name Y=some (Z name):=
 let⟨Y,ho,hl⟩:=GK I.ns
 ⟨Y,⟨I.obj,rfl,rfl,ho⟩,hl⟩
theorem qy.some_of{v:V}{o:Option Value}(r:qy (some v) o):∃u,o=some u/\RelV v u:=by
 cases o with
 |none=>exact(show False from r).elim
 |some u=>exact⟨u,rfl,r⟩
section
variable{P:Program}{w:World}{H H':Hp}{h h':Heap}{a C dx:Addr}{fs fs':List (Str×V)}
theorem EY(hok:HOk P w H h)(e:H a=some (.ins C dx fs)):∃Z,Ql h a dx C Z/\(∀f,qy (fs.lookup f) (Z f))/\PySem.Within Z (fs.map (·.1))/\fs.length<=1000/\H dx=some (.own a):=by
 obtain⟨d,z,I,ob,Z,n,r,q⟩:=(show cB P w H h a (.ins C dx fs)from hok a _ e);exact⟨Z,⟨ob,n,I⟩,r,q,z,d⟩
end
structure Cls(K:PySem.W.Frag)(C:Addr):Prop where
 pg:adJ K C Str.empty=true
 hd:PySem.W.hasDictIn K C=true
 po:PySem.W.plainOver K C=true
 sa:adY K (.ref C) "__setattr__"=some (some (.builtin "object.__setattr__"))
theorem Cls.get{K:V8}{C:Addr}(c:Cls K C)(f:Str):adJ K C f=true:=c.pg
section
variable{X:Cx}{pins:List (Addr×Obj)}{σ:St}{H:Hp}{s:Shared}{A:Around}{E:Value->Shared->Prop}{Q:Value->Shared->Prop}{c:Value}{b:Bool}
inductive lN(K:PySem.W.Frag)(H:Hp):V->Value->Prop where
 |non:lN K H .non (.type "NoneType")
 |bl (x:Bool):lN K H (.bl x) (.type "bool")
 |int (i:Int):lN K H (.int i) (.type "int")
 |str (x:Str):lN K H (.str x) (.type "str")
 |flt (x:UInt64):lN K H (.flt x) (.type "float")
 |lst {a:Addr} {xs:List V} (e:H a=some (.lst xs)):lN K H (.ref a) (.type "list")
 |frz {a:Addr} {o:Obj} {xs:List V} (e:H a=some (.frz o (.lst xs))):lN K H (.ref a) (.type "list")
 |tup {a:Addr} {xs:List V} (e:H a=some (.tup xs)):lN K H (.ref a) (.type "tuple")
 |dK {a:Addr} {kvs:List (Key×V)} (e:H a=some (.dK kvs)):lN K H (.ref a) (.type "dict")
 |dT {a:Addr} {kvs:List (List Key×V)} (e:H a=some (.dT kvs)):lN K H (.ref a) (.type "dict")
 |ins {a C dx:Addr} {fs:List (Str×V)} (e:H a=some (.ins C dx fs)) (cl:Cls K C) (ha:adY K (.ref C) "__class__"=some (some (.builtin "object.__class__")))
  (hn:PySem.W.specialIn K (.builtin "object.__class__") "__get__"=some (some (.builtin "getset_descriptor.__get__"))) (htk:PySem.W.takesIn K (.builtin "object.__class__")=some true)
  (hm:PySem.W.mroIn K C (.type "object")=some true):lN K H (.ref a) (.ref C)
theorem Hr{x:V}{u t:Value}(I:Inv X pins σ H s)(rx:RelV x u)(F:lN X.K H x t)(e:aa8 X.K t c=some b)(h:∀tk,Q (.bool b) {s with toks:=tk}) :
  wpAny 1.12 A (call (.builtin "isinstance") [u,c]) Q E s:=by
 cases F with
 |non=>cases (show u=Wq from rx);exact X3 adu I.kIn XM e (λz=>nomatch z) h
 |bl y=>cases (show u=W9 y from rx);exact X3 adv I.kIn XM e (λz=>nomatch z) h
 |int i=>obtain⟨t,q⟩:=(show ∃t,u=Xc i t from rx);cases q;exact X3 adK I.kIn XM e (λz=>nomatch z) h
 |str y=>obtain⟨t,q⟩:=(show ∃t,u=W7 y t from rx);cases q;exact X3 adL I.kIn XM e (λz=>nomatch z) h
 |flt y=>obtain⟨t,q⟩:=(show ∃t,u=adG y t from rx);cases q;exact X3 ac9 I.kIn XM e (λz=>nomatch z) h
 |@lst a xs U=>
  cases (show u=Wb a from rx);obtain⟨_,_,n,_,h1⟩:=(show cB X.prog X.w H s.heap a (.lst xs)from I.hok a _ U);exact X3 aav I.kIn ⟨_,h1,rfl⟩ e (λz=>nomatch z) h
 |@frz a ob xs U=>
  cases (show u=Wb a from rx);obtain⟨_,_,_,n,_,h1⟩:=(show cB X.prog X.w H s.heap a (.frz ob (.lst xs))from I.hok a _ U);exact X3 aav I.kIn ⟨_,h1,rfl⟩ e (λz=>nomatch z) h
 |@tup a xs U=>
  cases (show u=Wb a from rx);obtain⟨_,_,_,p⟩:=(show cB X.prog X.w H s.heap a (.tup xs)from I.hok a _ U);obtain⟨o,h1,h2,_⟩:=p;exact X3 ac_ I.kIn ⟨o,h1,h2⟩ e (λz=>nomatch z) h
 |@dK a kvs U=>
  cases (show u=Wb a from rx);obtain⟨_,_,vs,_,p⟩:=(show cB X.prog X.w H s.heap a (.dK kvs)from I.hok a _ U);obtain⟨o,es,ep,h1,h2,_⟩:=p;exact X3 aaw I.kIn ⟨o,h1,h2.1⟩ e (λz=>nomatch z) h
 |@dT a kvs U=>
  cases (show u=Wb a from rx);obtain⟨_,_,xs,_,o,es,ep,h1,h2,_⟩:=(show cB X.prog X.w H s.heap a (.dT kvs)from I.hok a _ U);exact X3 aaw I.kIn ⟨o,h1,h2.1⟩ e (λz=>nomatch z) h
 |@ins a C dx fs U N Y hn B hm=>
  cases (show u=Wb a from rx);obtain⟨Z,O,_⟩:=EY I.hok U;obtain⟨od,J,_⟩:=O.look;exact X3 (adM (N.get _) N.hd Y hn B hm) I.kIn J e (λz=>nomatch z) h
end
structure je(k:Nat)(A:Around):Prop where
 hd:A.handled=none
 dp:A.depth+3*k+5<recursionLimit
 un:A.units+16*k+200<cLine
 gd:A.guards=some []
theorem je.mono{j k:Nat}{A:Xk}(r:je k A)(h:j<=k):je j A:=⟨r.hd,by have:=r.dp;omega,by have:=r.un;omega,r.gd⟩
theorem je.deeper{k:Nat}{A:Xk}(r:je (k+1) A)(env:Env):je k (A.deeper env):=
 ⟨r.hd,by have:=r.dp;show A.depth+1+3*k+5<_;omega,by have:=r.un;show A.units+3+16*k+200<_;omega,r.gd⟩
theorem je.depth{k:Nat}{A:Xk}(r:je k A):A.depth<recursionLimit:=by have:=r.dp;omega
theorem je.units{k:Nat}{A:Xk}(r:je k A):A.units+64<cLine:=by have:=r.un;omega
def Ra:TA:=λ_ H Q=>Q [] H
def zz(ta:TE)(q:TA):TA:=λσ H Q=>ta σ H λx H1=>q σ H1 λxs H2=>Q (x::xs) H2
section
variable{X:Cx}{e:Expr}{es:List Expr}{te:TE}{t:TA}{pos:Pos}
theorem Ku:PA X [] Ra:=λ_ _ _ _ H Q I h=>adw ⟨[],H,I,.nil,h⟩
theorem pU(Y:PE X e te)(O:PA X es t)(hs:We (e::es) X.env=(false,eval e X.env)::We es X.env:=by rfl):PA X (e::es) (zz te t):=by
 intro pos pins s σ H Q I h;rw[hs];show wpAny _ _ (spliced ((false,eval e X.env)::Yj pos (We es X.env))) _ _ s;refine ada (thn (Y pins s σ H _ I h) λu q ⟨x,H1,F,U,q1⟩=>?_);exact thn (O pos pins q σ H1 _ F q1) λus B ⟨xs,H2,J,Z,q2⟩=>⟨x::xs,H2,J,.cons U Z,q2⟩
def U8(t:TA):TE:=λσ H Q=>t σ H λxs H1=>xs.length<=V6/\∀p,H1 p=none->Q (.ref p) (upd H1 p (.tup xs))
def Vi(t:TA):TE:=λσ H Q=>t σ H λxs H1=>xs.length<=V6/\∀p,H1 p=none->Q (.ref p) (upd H1 p (.lst xs))
theorem Cw{x1}(h:PA X es t):PE X (.Tuple es x1 pos) (U8 t):=by
 intro pins s σ H Q I N;refine wpAny_Tuple_spliced (thn (h pos pins s σ H _ I N) λus O ⟨xs,H1,F,r,z,q⟩=>⟨by rw[←r.length];exact z,?_⟩);have Z:H1 O.heap.objs.size=none:=F.hok.fresh (Wa _);refine⟨.ref O.heap.objs.size,upd H1 O.heap.objs.size (.tup xs),F.laid (t':=O.toks) (λb u e=>V2 _ e) (Wa _) ?_,rfl,q _ Z⟩;exact⟨z,us,r,⟨_,Wx _ rfl,rfl,_,rfl,rfl⟩⟩
theorem Ji(h:PA X es t):PE X (.List es pos) (Vi t):=by
 intro pins s σ H Q I N;refine wpAny_List_spliced (thn (h pos pins s σ H _ I N) λus O ⟨xs,H1,F,r,z,q⟩=>⟨by rw[←r.length];exact z,?_⟩);have Z:H1 O.heap.objs.size=none:=F.hok.fresh (Wa _);refine⟨.ref O.heap.objs.size,upd H1 O.heap.objs.size (.lst xs),F.laid (t':=O.toks) (λb u e=>V2 _ e) (Wa _) ?_,rfl,q _ Z⟩;exact⟨z,us,0,r,Wx _ rfl⟩
end
abbrev Sp:=List V->Hp->VK->XK->Prop
abbrev CXT:=List Env->Hp->V0->XK->Value->V0->Prop
structure Mm(P:Program)(w:World)(K:PySem.W.Frag)(mg:Str->Option Value)(base:Heap)(A:Around)(outer:List Env)(s:Shared)(H:Hp):Prop where
 frames:A.frames=some outer
 mod:Mod K mg base
 bs:∀b o,base.get? b=some o->s.heap.get? b=some o/\H b=none
 bsz:base.objs.size<=s.heap.objs.size
 funs:s.heap.FunFrames base outer
 frf:∀b∈frs outer,H b=none
 hok:HOk P w H s.heap
 bare:aaS s.gens
def CE(outer:List Env)(P:WY)(w:World)(H:Hp)(s:V0)(Q:VK)(u:Value)(s':V0):Prop:=
 ∃v H',s'.os=s.os/\aaS s'.gens/\Un (frs outer) [] H H' s.heap s'.heap/\HOk P w H' s'.heap/\RelV v u/\Q v H'
def CR(CX:CXT)(outer:List Env)(P:WY)(w:World)(H:Hp)(s:V0)(Q:VK)(E:XK)(r:Result)(s':V0):Prop:=
 match r with
 |.ok (.ret u)=>CE outer P w H s Q u s'
 |.ok _=>False
 |.error e=>CX outer H s E e s'
structure gJ(P:Program)(w:World)(K:PySem.W.Frag)(mg:Str->Option Value)(base:Heap)(CX:CXT)(k:Nat)(f:Addr)(fd:FuncData)(ps:List Str)(sp:Sp):Prop where
 len:∀vs H Q E,sp vs H Q E->vs.length=ps.length
 run:∀(A:Xk)(outer:List Env)(s:V0)(H:Hp)(args:Args)(us:List Value)(vs:List V)(Q:VK)(E:XK),je k A->Mm P w K mg base A outer s H->acs s fd args (ps.zip us)->Vals vs us->sp vs H Q E->
  Zw (model P w) A (.call (.ref f) args) (CR CX outer P w H s Q E) s
theorem gJ.imp{P:WY}{w:World}{K:V8}{mg:Str->Option Value}{base:Heap}{CX:CXT}{k:Nat}{f:Addr}{fd:Xq}{ps:List Str}{sp B:Sp}(F:gJ P w K mg base CX k f fd ps sp)
  (h:∀vs H Q E,B vs H Q E->sp vs H Q E):gJ P w K mg base CX k f fd ps B:=
 ⟨λvs H Q E q=>F.len vs H Q E (h _ _ _ _ q),λA outer s H args us vs Q E O V U N hs=>F.run A outer s H args us vs Q E O V U N (h _ _ _ _ hs)⟩
section
variable{X:Cx}{pins:List (Addr×Obj)}{σ:St}{H:Hp}{s s':Shared}
theorem Inv.env0(I:Inv X pins σ H s):Mm X.prog X.w X.K X.mg X.base X.A X.stack s H:=
 ⟨I.ok.frames,I.ok.mod,I.bs,Xu I.ok.bsz I.sz,I.stack,I.stkFree,I.hok,I.bare⟩
theorem Inv.after{Q:VK}{u:Value}(I:Inv X pins σ H s)(h:CE X.stack X.prog X.w H s Q u s'):EP X pins σ Q u s':=by
 obtain⟨v,H',os,bare,un,hok,r,q⟩:=h;obtain⟨Y,g,d,t,B⟩:=s';obtain rfl:B=s.os:=os;exact⟨v,H',I.call (h':=Y) (g':=g) (d':=d) (t':=t) (ch:=[]) un hok bare (λb z=>absurd z (by simp)),r,q⟩
end
def O8(sp:Sp)(dvs:List V)(E:XK)(t:TA):TE:=λσ H Q=>t σ H λvs H1=>sp (vs++dvs) H1 Q E
def Binds(K:V8)(fd:Xq)(ps:List Str)(ds:List Value):Prop:=
 ∀(s:V0)(us:List Value),K.In s.heap->(us++ds).length=ps.length->acs s fd ⟨us,[]⟩ (ps.zip (us++ds))
theorem Binds.all{K:V8}{fd:Xq}{ps:List Str}(h:∀us:List Value,us.length=ps.length->bindArgs fd ⟨us,[]⟩=pure (ps.zip us)):Binds K fd ps []:=λs us _ Y=>by
 rw[Wm]at Y⊢;exact .of_eq (h us Y)
def Dj(CX:CXT)(X:Cx)(E:XK):Prop:=∀(pins:List 1.23)(σ:St)(H:Hp)(s:V0)(e:Value)(s':V0),Inv X pins σ H s->CX X.stack H s E e s'->X.xe e s'
section
variable{X:Cx}{CX:CXT}{k:Nat}{f C:Addr}{fd:FuncData}{ps:List Str}{sp:Sp}{dvs:List V}{ds:List Value}{E:XK}{x m:Str}{p pos apos:Pos}{e o:Expr}{es:List Expr}{ta:TE}{t:TA}
theorem Rn{pins:List 1.23}{σ:St}{H:Hp}{s:V0}{Q:VK}{us:List Value}{vs:List V}(F:gJ X.prog X.w X.K X.mg X.base CX k f fd ps sp)(O:je k X.A)(U:Binds X.K fd ps ds)(hd:Vals dvs ds)(J:Dj CX X E)
  (I:Inv X pins σ H s) (r:Vals vs us) (h:sp (vs++dvs) H Q E):wpAny 1.12 X.A (call (.ref f) us) (EP X pins σ Q) X.xe s:=by
 have Z:Vals (vs++dvs) (us++ds):=r.append hd;have Y:(us++ds).length=ps.length:=by rw[←Z.length];exact F.len _ _ _ _ h
 refine wpAny_call (abP (F.run X.A X.stack s H ⟨us,[]⟩ (us++ds) (vs++dvs) Q E O I.env0 (U s us I.kIn Y) Z h) λr s' N=>?_);cases r with
 |error e=>exact J pins σ H s e s' I N
 |ok q=>
  cases q with
  |ret u=>exact I.after N
  |next=>exact Y_ N
  |brk=>exact Y_ N
  |cont=>exact Y_ N
theorem O4(F:gJ X.prog X.w X.K X.mg X.base CX k f fd ps sp)(O:je k X.A)(hg:Gl X x)(hm:X.mg x=some (.ref f))(B:aa9 X.K (.ref f)=true)(U:Binds X.K fd ps ds)(hd:Vals dvs ds)(J:Dj CX X E)
  (Y:PA X (e::es) t) (Z:1.20=false:=by decide) (V:We (e::es) X.env=(false,eval e X.env)::We es X.env:=by rfl) (N:(Yj pos (We es X.env)).any (·.1)=false:=by rfl) :
  PE X (.Call (.Name x p) (e::es) [] pos) (O8 sp dvs E t):=by
 intro pins s σ H Q I h;refine Zz (Od I hg hm ?_ Z);refine PySem.W.callWith_K (h₀:=X.base) I.ok.mod.kin B (thn (Y pos pins s σ H _ I h) λus s1 ⟨vs,H1,I1,r,q⟩=>⟨I1.kIn,?_⟩) V N;exact Rn F O U hd J I1 r q
end
structure di(N P:List Str)(sc:Scope):Prop where
 kind:sc.kind= .function
 co:sc.isCoroutine=false
 gen:sc.isGenerator=false
 nd:N.Nodup
 pre:N.take P.length=P
 par:∀x∈P,sc.names.lookup x=some .local∨sc.names.lookup x=some .cell
 nofree:∀y∈sc.names,y.2≠.free
theorem v9{q:Str->Option aaj}{x:Str}:∀{binds:List (Str×Value)}{m:Str->Option Value},(∀v,(x,v)∉binds)->bindL q binds m x=m x
 |[],_,_=>rfl
 |(n,v)::r,m,h=>by
  unfold bindL;rw[v9 λw B=>h w (Ws _ B)];split
  .have:x≠n:=by rintro rfl;exact h v WR
   simp[this]
  .rfl
theorem w5{q:Str->Option aaj}{x:Str}:∀{binds:List (Str×Value)}{m:Str->Option Value},(∀v,(x,v)∉binds)->bindC q binds m x=m x
 |[],_,_=>rfl
 |(n,v)::r,m,h=>by
  unfold bindC;rw[w5 λw B=>h w (Ws _ B)];split
  .rfl
  .have:x≠n:=by rintro rfl;exact h v WR
   simp[this]
theorem wy{q:Str->Option aaj}{x:Str}{v:Value}:∀{P:List Str}{vs:List Value}{i:Nat}{m:Str->Option Value},P.Nodup->P[i]? =some x->vs[i]? =some v->q x=some .local->
  bindL q (P.zip vs) m x=some v
 |[],_,_,_,_,h,_,_=>by simp at h
 |_::_,[],_,_,_,_,h,_=>by simp at h
 |p::P,w::vs,0,m,nd,h1,h2,hk=>by
  simp at h1 h2;subst h1;subst h2;show bindL q ((p,w)::P.zip vs) m p=_;unfold bindL;rw[v9 λv N=>(W_.mp nd).1 (aae N).1,Wd hk];simp
 |p::P,w::vs,i+1,m,nd,h1,h2,hk=>by
  show bindL q ((p,w)::P.zip vs) m x=_;unfold bindL;exact wy (i:=i) (W_.mp nd).2 (by simpa using h1) (by simpa using h2) hk
theorem wQ{q:Str->Option aaj}{x:Str}{v:Value}:∀{P:List Str}{vs:List Value}{i:Nat}{m:Str->Option Value},P.Nodup->P[i]? =some x->vs[i]? =some v->q x≠some .local->
  bindC q (P.zip vs) m x=some v
 |[],_,_,_,_,h,_,_=>by simp at h
 |_::_,[],_,_,_,_,h,_=>by simp at h
 |p::P,w::vs,0,m,nd,h1,h2,hk=>by
  simp at h1 h2;subst h1;subst h2;show bindC q ((p,w)::P.zip vs) m p=_;unfold bindC;rw[w5 λv N=>(W_.mp nd).1 (aae N).1,Wo hk];simp
 |p::P,w::vs,i+1,m,nd,h1,h2,hk=>by
  show bindC q ((p,w)::P.zip vs) m x=_;unfold bindC;exact wQ (i:=i) (W_.mp nd).2 (by simpa using h1) (by simpa using h2) hk
def start(N:List Str)(vs:List V):St:=vs.map some++XX (N.length-vs.length) none
def Bd(CX:CXT)(P:WY)(w:World)(K:V8)(mg:Str->Option Value)(base:Heap)(N:List Str)(Z:Str)(scope:Scope)(f:Addr)(q:Value)(A:Xk)(outer:List Env)(s:V0)(H:Hp)(E:XK):Cx where
 prog:=P
 w:=w
 K:=K
 mg:=mg
 base:=base
 A:=A.deeper (aaC Z scope s.heap.objs.size f q)
 N:=N
 s₀:=s
 H₀:=H
 env:=aaC Z scope s.heap.objs.size f q
 outer:=outer
 stack:=aaC Z scope s.heap.objs.size f q::outer
 ex:=[]
 calm:=true
 fn:=λ_=>true
 pn:=[]
 xe:=λe s'=>wpAny (model P w) (A.deeper (aaC Z scope s.heap.objs.size f q)) (leaving (aaC Z scope s.heap.objs.size f q) e) (λ_ I=>CX outer H s E e I) (λB I=>CX outer H s E B I) s'
theorem zB{F:Scope}{n:Nat}{x:Str}(h:F.names.lookup x=some .cell):∃c,(cellsFrom n F.names []).lookup x=some c:=by
 have q:=acb F.names n [] (.inl h);exact abQ.mp q
theorem Gr{CX:CXT}{P:WY}{w:World}{K:V8}{mg:Str->Option Value}{base:Heap}{N ps:List Str}{a0:Str}{scope:Scope}{f:Addr}{cd:Value}{A:Xk}{outer:List Env}{s O:V0}{H:Hp}{E:XK}{us:List Value}{vs:List V}
  (S:di N ps scope) (hd:A.handled=none) (U:Mm P w K mg base A outer s H) (hl:vs.length=ps.length) (r:Vals vs us)
  (x:InCallC s s.heap.objs.size (bindL (aaC a0 scope s.heap.objs.size f cd).kindOf (ps.zip us) λ_=>none) (cellsFrom (s.heap.objs.size+1) scope.names []) (bindC (aaC a0 scope s.heap.objs.size f cd).kindOf (ps.zip us) λ_=>none) O) :
  Inv (Bd CX P w K mg base N a0 scope f cd A outer s H E) [] (start N vs) H O:=by
 have a2:ps.length<=N.length:=by have:=congrArg Yl S.pre;rw[YJ]at this;omega
 obtain⟨h1,tk,rfl,B⟩:=x.done;have I:∀b:Addr,b∉(Bd CX P w K mg base N a0 scope f cd A outer s H E).ex:=λb z=>absurd (show b∈([]:List Addr)from z) (by simp);refine⟨⟨U.mod,S.kind,rfl,rfl,Wa _,λy z c h1 h2=>?_,λy hy=>?_,λy c _ h=>?_,λ_=>hd,Around.frames_deeper U.frames,.inr ⟨rfl,rfl⟩,λb z=>absurd z (I b),U.bs,U.bsz,λb _ _=>I b,λb z=>absurd z (I b),U.funs,U.frf⟩,
  rfl,U.bare,Un.kept B,⟨_,x.toInCall.ns,λi y v h1 h2 Z=>?_⟩,λy c h=>⟨_,x.cell y c h⟩,U.hok.fresh (Wa _),λy c h=>?_,λp F=>absurd (show p∈([]:List 1.23)from F) (by simp),U.hok.kept B,?_⟩
 .exact name_of_addr x.apart (YH h1) (YH h2)
 .have hy:scope.names.lookup y=some .cell∨scope.names.lookup y=some .free:=hy
  rcases hy with hy|hy
  .exact zB hy
  .exact absurd rfl (S.nofree _ (YH hy))
 .exact YS (x.above y c (YH h))
 .have hi:i<vs.length:=by
   unfold start at h2;by_cases hi:i<vs.length
   .exact hi
   .rw[XH (by simpa using hi)]at h2
    rw[ab0]at h2;split at h2<;>cases h2
  have Y:vs[i]? =some v:=by
   unfold start at h2;rw[WX (by simpa using hi),List.getElem?_map]at h2;cases e:vs[i]? with
   |none=>rw[e]at h2;cases h2
   |some a=>rw[e]at h2;cases h2;rfl
  obtain⟨u,hu,J⟩:=r.get Y;have F:ps[i]? =some y:=by
   rw[←S.pre,List.getElem?_take_of_lt 1.10];exact h1
  have a1:ps.Nodup:=by rw[←S.pre];exact S.nd.sublist (List.take_sublist _ _)
  refine⟨u,J,?_⟩;rcases S.par y (Wu F)with k|k
  .exact .inl ⟨k,wy a1 F hu k⟩
  .obtain⟨c,e⟩:=zB (n:=s.heap.objs.size+1) k
   refine .inr ⟨.inl k,c,e,?_⟩;have q:=x.cell y c e;rw[wQ a1 F hu (by show scope.names.lookup y≠_;rw[k];decide)]at q;exact q
 .exact U.hok.fresh (YS (x.above y c (YH h)))
 .unfold start
  show _=N.length;rw[Xn,Wc,List.length_replicate];omega
theorem T5{CX:CXT}{P:WY}{w:World}{K:V8}{mg:Str->Option Value}{base:Heap}{k:Nat}{f:Addr}{name Z:Str}{a1:Arguments}{a2:List Stmt}{scope:Scope}{dV kV a5 pm a0 ct oc:Value}{an od:Option Addr}
  {a8:Array (Option Value)} {N ps:List Str} {sp:Sp} (lk:K.lookup f=some ⟨oc,od,.func (aak name Z a1 a2 scope dV kV a5 pm an a0 ct),a8⟩) (B:acu K a0 Z=true) (S:di N ps scope)
  (len:∀vs H Q E,sp vs H Q E->vs.length=ps.length)
  (a4:∀(A:Xk)(outer:List Env)(s:V0)(H:Hp)(vs:List V)(Q:VK)(E:XK),je k (A.deeper (aaC Z scope s.heap.objs.size f a0))->sp vs H Q E->
   ∃t,PSs (Bd CX P w K mg base N Z scope f a0 A outer s H E) a2 t/\t {nx:=λ_ H'=>Q .non H',rt:=Q} (start N vs) H) :
  gJ P w K mg base CX (k+1) f (aak name Z a1 a2 scope dV kV a5 pm an a0 ct) ps sp:=by
 refine⟨len,λA outer s H args us vs Q E O e0 U r a6=>?_⟩;have Y:=len _ _ _ _ a6;have KX:K.In s.heap:=e0.mod.kin.keeps λb o e=>(e0.bs b o e).1;have a7:s.heap.NoLimit:=e0.mod.nolimit.keeps λb o e=>(e0.bs b o e).1;have a3:∀y∈ps.zip us,scope.names.lookup y.1=some .local∨(scope.names.lookup y.1=some .cell/\((cellsFrom (s.heap.objs.size+1) scope.names []).lookup y.1).isSome=true):=λ⟨n,v⟩ hy=>by
  rcases S.par n (aae hy).1 with q|q
  .exact .inl q
  .exact .inr ⟨q,acb _ _ _ (.inl q)⟩
 refine codeAny_call_function O.depth (KX _ _ lk) rfl S.co S.gen rfl (PySem.W.codeRec_of KX B) (U _ _ _ _ ?_);refine wpAny_newFunctionEnv_cells S.kind a3 λenv he s1 x=>?_;subst he;refine⟨a7.keeps x.toInCall.keep,codeAny_func ?_⟩;obtain⟨t,ht,hq⟩:=a4 A outer s H vs Q E (O.deeper _) a6;have I:Inv (Bd CX P w K mg base N Z scope f a0 A outer s H E) [] (start N vs) H s1:=Gr S O.hd e0 Y r x;refine Xy (ht [] s1 (start N vs) H _ I hq) (λfl s' hs=>?_) λe s' hs=>hs;have fin:∀{F:St}{H':Hp}{v:V}{u:Value},Inv (Bd CX P w K mg base N Z scope f a0 A outer s H E) [] F H' s'->RelV v u->Q v H'->CE outer P w H s Q u s':=
  λ{F H' v u} J rv q=>⟨v,H',J.os,J.bare,J.base,J.hok,rv,q⟩
 cases fl with
 |ret u=>
  obtain⟨v,F,H',J,rv,q⟩:=hs;exact fin J rv q
 |next=>
  obtain⟨F,H',J,q⟩:=hs;exact fin (v:=V.non) (u:=Wq) J rfl q
 |brk=>
  obtain⟨_,_,_,q⟩:=hs;exact Y_ q
 |cont=>
  obtain⟨_,_,_,q⟩:=hs;exact Y_ q
section
variable{X:Cx}{x:Str}{p pos:Pos}{e:Expr}{es:List Expr}{t:TA}{id T:String}{r:List V->Hp->VK->Prop}
def tCB(r:List V->Hp->VK->Prop)(t:TA):TE:=λσ H Q=>t σ H λvs H1=>r vs H1 Q
theorem Bl(Z:cY X (.builtin id) r)(q:Gl X x)(J:X.mg x=none)(N:Yi x=some (.builtin id))(Y:PA X (e::es) t)(hn:x≠"__name__":=by decide)(a0:1.20=false:=by decide)
  (V:We (e::es) X.env=(false,eval e X.env)::We es X.env:=by rfl) (B:(Yj pos (We es X.env)).any (·.1)=false:=by rfl):PE X (.Call (.Name x p) (e::es) [] pos) (tCB r t):=by
 intro pins s σ H Q I h;refine Zz (mF I q J N ?_ hn a0);exact PyProof.Rows.callWith_builtin1 (thn (Y pos pins s σ H _ I h) λus O ⟨vs,H1,F,U,q1⟩=>Z pins O σ H1 vs us Q F U q1) V B
theorem wz(Z:cY X (.type T) r)(q:Gl X x)(J:X.mg x=none)(N:Yi x=some (.type T))(Y:PA X (e::es) t)(hn:x≠"__name__":=by decide)(a0:1.20=false:=by decide)
  (V:We (e::es) X.env=(false,eval e X.env)::We es X.env:=by rfl) (B:(Yj pos (We es X.env)).any (·.1)=false:=by rfl):PE X (.Call (.Name x p) (e::es) [] pos) (tCB r t):=by
 intro pins s σ H Q I h;refine Zz (mF I q J N ?_ hn a0);exact X4 (thn (Y pos pins s σ H _ I h) λus O ⟨vs,H1,F,U,q1⟩=>Z pins O σ H1 vs us Q F U q1) V B
end
end L2
namespace HT
open PySem PyProof.Rows
section
variable{prog:Program}{w:World}{A:Around}{E:Value->Shared->Prop}{s:Shared}
theorem cat_tup{t b:Addr}{vs Y:List Value}{Q:Value->V0->Prop}(ht:IsTup s.heap t vs.toArray)(U:IsTup s.heap b Y.toArray)(hv:vs≠[])
  (h1:Y=[]->Q (.ref t) s) (h2:Y≠[]->Q (.ref s.heap.objs.size) {s with heap:=s.heap.push {cls:=.type "tuple",data:=.seq (vs++Y).toArray}})
  (hsz:vs.length+Y.length<=V6):wpAny 1.14 A (X6 .Add (.ref t) (.ref b)) Q E s:=by
 obtain⟨⟨cls,O,data,sl⟩,N,Z,n,hd⟩:=id ht;obtain⟨⟨a3,q,a2,J⟩,a0,V,I,a1⟩:=id U;simp only at Z hd V a1;subst Z hd V a1;have e:vs.toArray++Y.toArray=(vs++Y).toArray:=by simp
 by_cases B:Y=[]
 .exact adb ⟨_,N,rfl⟩ ⟨_,a0,rfl⟩ abR acU aaD aau (aal _ _)
   (tuple_addW1 t b vs.toArray Y.toArray n I O q sl J (by simpa using hv) (by simp[B])) ⟨N,a0,h1 B⟩
 .refine adb ⟨_,N,rfl⟩ ⟨_,a0,rfl⟩ abR acU aaD aau (aal _ _)
   (tuple_addW2 t b vs.toArray Y.toArray n I O q sl J (by simpa using hv) (by simpa using B) (by rw[List.size_toArray,List.size_toArray];exact hsz)) ⟨N,a0,?_⟩
  rw[e];exact h2 B
def sIx(n d:Nat):Option Int->Nat
 |none=>d
 |some v=>if v<0 then(v+(n:Int)).toNat else min v.toNat n
theorem sIx_none(n d:Nat):sIx n d none=d:=rfl
theorem sIx_nat(n d k:Nat):sIx n d (some (k:Int))=min k n:=by
 show(if(k:Int)<0 then((k:Int)+(n:Int)).toNat else min (k:Int).toNat n)=min k n;rw[Wo 1.10,Yo]
theorem QX(n d:Nat)(hd:d<=n)(o:Option Int):sIx n d o<=n:=by
 cases o with
 |none=>exact hd
 |some v=>
  show(if v<0 then(v+(n:Int)).toNat else min v.toNat n)<=n;by_cases N:v<0
  .rw[Wd N];omega
  .rw[Wo N];exact Nat.min_le_right _ _
theorem Fz(v:Int)(n d:Nat):(if v<0 then max (v+(n:Int)) 0 else min v (n:Int))=((sIx n d (some v):Nat):Int):=by
 show(if v<0 then max (v+(n:Int)) 0 else min v (n:Int))=(((if v<0 then(v+(n:Int)).toNat else min v.toNat n):Nat):Int);by_cases N:v<0
 .simp only[Wd N];omega
 .simp only[Wo N];omega
theorem adjust_gen(lo hi:Option Int)(n:Nat):Xd lo hi 1 (n:Int)=(((sIx n 0 lo:Nat):Int),((sIx n n hi:Nat):Int)):=by
 have h1:¬((1:Int)<0):=by omega
 unfold Xd;simp only[h1,XD];refine Prod.ext ?_ ?_
 .cases lo with
  |none=>rfl
  |some v=>exact Fz v n 0
 .cases hi with
  |none=>rfl
  |some v=>exact Fz v n n
theorem places_gen(i j:Nat):W4 (i:Int) (j:Int) 1=j-i:=by
 unfold W4;have h1:(1:Int)>0:=by omega
 simp only[h1,WM,Int.ediv_one];split<;>omega
theorem slicePart_{v:Value}{o:Option Int}{Q:Option Int->V0->Prop}(p:ZS v o)(h:Q o s):wpAny 1.14 A (Builtin.Slice.slicePartIndex v) Q E s:=by
 cases p with
 |none=>exact slicePart_none h
 |int i t=>exact slicePart_int h
theorem pZ{sl:Addr}{Y J:Value}{lo hi:Option Int}{n:Nat}{Q:Int×Int×Nat->V0->Prop}(hs:s.heap.IsSliceOf sl Y J .none)(F:ZS Y lo)(N:ZS J hi)
  (h:Q (((sIx n 0 lo:Nat):Int),1,sIx n n hi-sIx n 0 lo) s):wpAny 1.14 A (Y4 (.ref sl) (pure (n:Int))) Q E s:=by
 obtain⟨os,q,I,O⟩:=id hs;unfold Y4 Builtin.Slice.sliceFields;refine gD (gD (ZJ q O (x:=Y) rfl (gD (ZJ q O (x:=J) rfl (gD (ZJ q O (x:=.none) rfl (V3 ?_)))))));refine gD (slicePart_none ?_);show wpAny _ _ (if((1:Int)==0)=true then _ else _) _ _ s;rw[Wo (by decide)];refine gD (slicePart_ F (gD (slicePart_ N (gD (V3 ?_)))));show wpAny _ _ (match Xd lo hi 1 (n:Int)with|(lo,hi)=>pure (lo,(1:Int),W4 lo hi 1)) _ _ s;rw[adjust_gen lo hi n];show wpAny _ _ (pure (((sIx n 0 lo:Nat):Int),(1:Int),W4 ((sIx n 0 lo:Nat):Int) ((sIx n n hi:Nat):Int) 1)) _ _ s;rw[places_gen];exact V3 h
theorem I_(xs:Array Value)(i k:Nat):((WD k).filterMap λ(m:Nat)=>xs[((i:Int)+(m:Int)*1).toNat]?).toArray=((xs.toList.drop i).take k).toArray:=by
 have e:(λ(m:Nat)=>xs[((i:Int)+(m:Int)*1).toNat]?)=λm=>xs[i+m]?:=by
  funext m;have:((i:Int)+(m:Int)*1).toNat=i+m:=by omega
  rw[this]
 rw[e];have:=pick_run xs i k;rw[List.filterMap_map]at this;have e2:((λx=>xs[x]?)∘λx=>i+x)=λm=>xs[i+m]?:=rfl;rw[e2]at this;rw[this]
theorem getItem_tuple_cut{t sl:Addr}{items:Array Value}{Y J:Value}{lo hi:Option Int}{Q:Value->V0->Prop}(F:IsTup s.heap t items)(hs:s.heap.IsSliceOf sl Y J .none)(pl:ZS Y lo)(N:ZS J hi)
  (B:¬(sIx items.size 0 lo=0/\sIx items.size items.size hi=items.size))
  (h:Q (.ref s.heap.objs.size) {s with heap:=s.heap.push {cls:=.type "tuple",data:=.seq ((items.toList.drop (sIx items.size 0 lo)).take (sIx items.size items.size hi-sIx items.size 0 lo)).toArray}})
  (hsz:items.size<=V6):wpAny 1.14 A (aa_ (.ref t) (.ref sl)) Q E s:=by
 have V:sizeOk (.seq ((items.toList.drop (sIx items.size 0 lo)).take (sIx items.size items.size hi-sIx items.size 0 lo)).toArray):=by
  show((items.toList.drop (sIx items.size 0 lo)).take (sIx items.size items.size hi-sIx items.size 0 lo)).toArray.size<=V6;rw[List.size_toArray,YJ,Ys,Yc];omega
 have I:sIx items.size items.size hi<=items.size:=QX _ _ (Wa _) hi;obtain⟨os,a0,a1,O⟩:=id hs;have U:s.TypeIs (.ref sl) "slice":=⟨os,a0,a1⟩;unfold aa_
 try with_reducible refine Xf ?_
 first|refine gD (V3 ?_)|skip
 refine gD (wpAny_sequenceKey F.typeIs (by decide) ?_);refine gD (Yn (name:=YT "__getitem__") F.typeIs Xm
  (aaL Xm F.typeIs ac0 ?_ (args_tuple_getitem _ _)))
 show wpAny _ _ (abr (.ref t) >>=_) _ _ s;refine gD (tupleItemsOf_ F ?_);refine gD (Zf U ?_);rw[Wd (by decide)];refine gD (pZ hs pl N ?_);have Z:¬((((sIx items.size 0 lo:Nat):Int)==0&&(1:Int)==1&&(sIx items.size items.size hi-sIx items.size 0 lo)==items.size)=true):=by
  intro q;rw[Wr,Wr]at q;have q1:((sIx items.size 0 lo:Nat):Int)=0:=eq_of_beq q.1.1;have q2:sIx items.size items.size hi-sIx items.size 0 lo=items.size:=eq_of_beq q.2;exact B ⟨by omega,by omega⟩
 show wpAny _ _ (if(((sIx items.size 0 lo:Nat):Int)==0&&(1:Int)==1&&(sIx items.size items.size hi-sIx items.size 0 lo)==items.size)=true then _ else _) _ _ s;rw[Wo Z,I_]
 first
  |exact gD (m:=Yz _) (XC (V3 ⟨_,rfl,V3 h⟩) V)
  |exact gD (m:=Yz _) (XC (gD (V3 (V3 ⟨_,rfl,V3 h⟩))) V)
  |exact gD (gD (m:=Yz _) (XC (V3 (V3 ⟨_,rfl,V3 h⟩)) V))
  |exact gD (gD (m:=Yz _) (XC (V3 ⟨_,rfl,V3 h⟩) V))
end
end HT
namespace L2
open PySem PySem.Spec PyProof.Rows
abbrev TO:=St->Hp->(Option Int->Hp->Prop)->Prop
def PO(X:Cx)(e:Option Expr)(t:TO):Prop:=
 ∀(pins:List 1.23)(s:V0)(σ:St)(H:Hp)(Q:Option Int->Hp->Prop),Inv X pins σ H s->t σ H Q->
  wpAny 1.12 X.A (evalPart e X.env) (λu s'=>∃o H',Inv X pins σ H' s'/\ZS u o/\Q o H') X.xe s
def Mp:TO:=λ_ H Q=>Q none H
def S6(t:TE):TO:=λσ H Q=>t σ H λx H1=>∃i,x= .int i/\Q (some i) H1
section
variable{X:Cx}{e:Expr}{te:TE}{lo hi:Option Expr}{tl th:TO}{pos p2:Pos}
theorem LK:PO X none Mp:=by
 intro pins s σ H Q I h;rw[acV];exact V3 ⟨none,H,I,.none,h⟩
theorem Mt(h:PE X e te):PO X (some e) (S6 te):=by
 intro pins s σ H Q I B;rw[evalPart_some];refine thn (h pins s σ H _ I B) λu O ⟨x,H1,F,U,q1⟩=>?_;obtain⟨i,rfl,q⟩:=q1;obtain⟨t,rfl⟩:=U;exact⟨some i,H1,F,.int i t,q⟩
def SlR(X:Cx)(r:V->Option Int->Option Int->Hp->VK->Prop):Prop:=
 ∀(pins:List 1.23)(s:V0)(σ:St)(H:Hp)(x:V)(v Y J:Value)(lo hi:Option Int)(sl:Addr)(Q:VK),Inv X pins σ H s->RelV x v->s.heap.IsSliceOf sl Y J .none->ZS Y lo->ZS J hi->r x lo hi H Q->
  ∃T id,abG (.type T) "__getitem__"=pure (some (.builtin id))/\s.TypeIs v T/\wpAny 1.12 X.A (aa_ v (.ref sl)) (EP X pins σ Q) X.xe s
theorem SlR.or{r O:V->Option Int->Option Int->Hp->VK->Prop}(h:SlR X r)(h':SlR X O):SlR X (λx lo hi H Q=>r x lo hi H Q∨O x lo hi H Q):=by
 intro pins s σ H x v Y J lo hi sl Q I rx hs F N q;rcases q with q|q
 .exact h pins s σ H x v Y J lo hi sl Q I rx hs F N q
 .exact h' pins s σ H x v Y J lo hi sl Q I rx hs F N q
def tSl(r:V->Option Int->Option Int->Hp->VK->Prop)(te:TE)(tl th:TO):TE:=λσ H Q=>te σ H λx H1=>tl σ H1 λl H2=>th σ H2 λu Y=>r x l u Y Q
theorem zp{r:V->Option Int->Option Int->Hp->VK->Prop}(O:SlR X r)(he:PE X e te)(Y:PO X lo tl)(F:PO X hi th):PE X (.Subscript e (.Slice lo hi none p2) pos) (tSl r te tl th):=by
 intro pins s σ H Q I h;refine Subscript_ (thn (he pins s σ H _ I h) λv s1 ⟨x,H1,I1,U,q1⟩=>?_);refine wpAny_Slice (thn (Y pins s1 σ H1 _ I1 q1) λvl B ⟨l,H2,I2,pl,q2⟩=>thn (F pins B σ H2 _ I2 q2) λJ s3 ⟨u,H3,I3,N,q3⟩=>?_);rw[acV];refine V3 ?_;have Z:Inv X pins σ H3 {s3 with heap:=s3.heap.push {cls:=.type "slice",data:=.fields #[vl,J,.none]}}:=I3.kept (t':=s3.toks) λb ob q=>V2 _ q;obtain⟨T,id,hT,ht,hg⟩:=O pins {s3 with heap:=s3.heap.push {cls:=.type "slice",data:=.fields #[vl,J,.none]}} σ H3 x v vl J l u s3.heap.objs.size Q Z U (abj ..) pl N q3;show wpAny 1.12 X.A (abt e (.Slice lo hi none p2) v (.ref s3.heap.objs.size)) (EP X pins σ Q) X.xe {s3 with heap:=s3.heap.push {cls:=.type "slice",data:=.fields #[vl,J,.none]}};exact acF (ops:=[.ref s3.heap.objs.size,v]) ht hT hg (by with_unfolding_all rfl)
def uA(xs:List V)(lo hi:Option Int):List V:=(xs.drop (HT.sIx xs.length 0 lo)).take (HT.sIx xs.length xs.length hi-HT.sIx xs.length 0 lo)
theorem rQ(xs:List V)(lo hi:Option Int):(uA xs lo hi).length<=xs.length:=by
 unfold uA;rw[YJ,Ys];omega
def Vu(K:V8):V->Option Int->Option Int->Hp->VK->Prop:=λx lo hi H Q=>∃a xs,x= .ref a/\SqT K H a xs/\
 ¬(HT.sIx xs.length 0 lo=0/\HT.sIx xs.length xs.length hi=xs.length)/\∀p,H p=none->Q (.ref p) (upd H p (.tup (uA xs lo hi)))
theorem R1:SlR X (Vu X.K):=by
 intro pins s σ H x v Y vu lo hi sl Q I rx hs V N h;obtain⟨a,xs,rfl,J,Z,q⟩:=h;cases rx;obtain⟨B,r,F,O⟩:=I.tuple J;have U:B.toArray.size=xs.length:=by rw[List.size_toArray];exact r.length.symm
 refine⟨"tuple",_,Xm.lookup,F.typeIs,?_⟩;refine HT.getItem_tuple_cut F hs V N (by rw[U];exact Z) ?_ (by rw[U];exact O);rw[U];refine⟨.ref s.heap.objs.size,_,I.laid (t':=s.toks) (o:=.tup (uA xs lo hi)) (λb ob q=>V2 _ q) (Wa _) ?_,rfl,q _ (I.hok.fresh (Wa _))⟩;exact⟨Xu (rQ xs lo hi) O,_,(r.drop (HT.sIx xs.length 0 lo)).take (HT.sIx xs.length xs.length hi-HT.sIx xs.length 0 lo),lq.new _ _⟩
def SQ(K:V8):R2:=λx y H Q=>∃a b xs ys,x= .ref a/\y= .ref b/\SqT K H a xs/\SqT K H b ys/\xs≠[]/\xs.length+ys.length<=V6/\
 (ys=[]->Q (.ref a) H)/\(ys≠[]->∀p,H p=none->Q (.ref p) (upd H p (.tup (xs++ys))))
theorem Vals.nil_iff{xs:List V}{us:List Value}(r:Vals xs us):us=[]↔xs=[]:=by
 cases r with
 |nil=>simp
 |cons _ _=>simp
theorem Oq:OpR X (X6 .Add) (SQ X.K):=by
 intro pins s σ H x y v u Q I rx V h;obtain⟨a,b,xs,ys,rfl,rfl,Y,U,J,O,q1,q2⟩:=h;cases rx;cases V;obtain⟨B,F,p1,_⟩:=I.tuple Y;obtain⟨N,Z,p2,_⟩:=I.tuple U;refine HT.cat_tup p1 p2 (λz=>J (F.nil_iff.mp z)) (λz=>⟨.ref a,H,I,rfl,q1 (Z.nil_iff.mp z)⟩) (λz=>?_) (by rw[←F.length,←Z.length];exact O);refine⟨.ref s.heap.objs.size,_,I.laid (t':=s.toks) (o:=.tup (xs++ys)) (λb ob q=>V2 _ q) (Wa _) ?_,rfl,q2 (λw=>z (Z.nil_iff.mpr w)) _ (I.hok.fresh (Wa _))⟩;exact⟨by rw[Xn];exact O,_,F.append Z,lq.new _ _⟩
end
def ixN(n:Nat)(i:Int):Option Nat:=if 0<=i then(if i<n then some i.toNat else none)else if -(n:Int)<=i then some (i+n).toNat else none
def atI{α:Type}(xs:List α)(i:Int):Option α:=(ixN xs.length i).bind λj=>xs[j]?
theorem yz{n:Nat}{i:Int}{j:Nat}(h:ixN n i=some j):seqIndex? i n=some j/\j<n/\-(n:Int)<=i/\i<n:=by
 unfold ixN at h;by_cases N:0<=i
 .rw[Wd N]at h
  by_cases h1:i<n
  .rw[Wd h1]at h
   have e:i.toNat=j:=Xj h;exact⟨by rw[adH N h1,e],by omega,by omega,h1⟩
  .rw[Wo h1]at h;cases h
 .rw[Wo N]at h
  by_cases h1: -(n:Int)<=i
  .rw[Wd h1]at h
   have e:(i+n).toNat=j:=Xj h;exact⟨by rw[ade 1.10 h1,e],by omega,h1,by omega⟩
  .rw[Wo h1]at h;cases h
theorem pQ{α:Type}{xs:List α}{i:Int}{v:α}(h:atI xs i=some v):∃j,seqIndex? i xs.length=some j/\xs[j]? =some v/\j<xs.length/\-(xs.length:Int)<=i/\i<xs.length:=by
 unfold atI at h;cases e:ixN xs.length i with
 |none=>rw[e]at h;cases h
 |some j=>
  rw[e]at h;obtain⟨h1,h2,Z,U⟩:=yz e;exact⟨j,h1,h,h2,Z,U⟩
def sZ(b:Expr):Prop:=∀o i,subscripted b false o i=operate [o,i] (aa_ o i)
def IxR(X:Cx)(r:R2):Prop:=
 ∀(F B:Expr)(pins:List 1.23)(s:V0)(σ:St)(H:Hp)(x y:V)(v u:Value)(Q:VK),Inv X pins σ H s->RelV x v->RelV y u->r x y H Q->
  subscripted B false v u=operate [v,u] (aa_ v u)->wpAny 1.12 X.A (abt F B v u) (EP X pins σ Q) X.xe s
def MtR(X:Cx)(id:String)(r:V->List V->Hp->VK->Prop):Prop:=
 ∀(pins:List 1.23)(s:V0)(σ:St)(H:Hp)(x:V)(xs:List V)(v:Value)(us:List Value)(Q:VK),Inv X pins σ H s->RelV x v->Vals xs us->r x xs H Q->
  wpAny 1.12 X.A (call (.builtin id) (v::us)) (EP X pins σ Q) X.xe s
section
variable{X:Cx}{a b:Expr}{ta tb:TE}{pos:Pos}
theorem IxR.or{r O:R2}(h:IxR X r)(h':IxR X O):IxR X (λx y H Q=>r x y H Q∨O x y H Q):=by
 intro F B pins s σ H x y v u Q I rx J q hs;rcases q with q|q
 .exact h F B pins s σ H x y v u Q I rx J q hs
 .exact h' F B pins s σ H x y v u Q I rx J q hs
theorem HB{r:R2}(O:IxR X r)(Y:PE X a ta)(U:PE X b tb)(hs:sZ b):PE X (.Subscript a b pos) (tOp r ta tb):=by
 intro pins s σ H Q I h;exact Subscript_ (QC Y U I h λv u B x y H2 F rx J q=>O a b pins B σ H2 x y v u Q F rx J q (hs _ _))
def Uv(K:V8):R2:=λx y H Q=>∃p xs i v,x= .ref p/\y= .int i/\SqL K H p xs/\atI xs i=some v/\Q v H
def U0(K:V8):R2:=λx y H Q=>∃p xs i v,x= .ref p/\y= .int i/\SqT K H p xs/\atI xs i=some v/\Q v H
def Th:R2:=λx y H Q=>∃z i c,x= .str z/\y= .int i/\z.length<=V6/\atI z.cps.toList i=some c/\Q (.str ⟨#[c]⟩) H
theorem Oa:IxR X (Uv X.K):=by
 intro a1 a2 pins s σ H x y v u Q I rx J h hs;obtain⟨p,xs,i,z,rfl,rfl,N,V,q⟩:=h;cases rx;obtain⟨t,rfl⟩:=J;obtain⟨B,r,F,O⟩:=I.list N;obtain⟨j,h1,h2,Z,U,h5⟩:=pQ V;obtain⟨w,ew,a0⟩:=r.get h2;have Y:=r.length;have hn:=ou;have fin:EP X pins σ Q w s:=⟨z,H,I,a0,q⟩;by_cases h0:0<=i
 .have hj:i.toNat=j:=by
   rw[adH h0 h5]at h1;exact Xj h1
  exact item_listR F.isList h0 1.10 (by rw[hj];simpa using ew) fin hs
 .have hj:(i+(B.toArray.size:Int)).toNat=j:=by
   rw[ade 1.10 U]at h1;rw[List.size_toArray,←Y];exact Xj h1
  exact acd (x:=w) F.isList.typeIs abB.lookup
   (wpAny_getItem_list_neg (Q:=λr s'=>r=w/\EP X pins σ Q r s') F.isList 1.10 (by rw[List.size_toArray]<;>omega) 1.10 (by rw[hj];simpa using ew) ⟨rfl,fin⟩) hs
theorem Qw:IxR X (U0 X.K):=by
 intro a1 a2 pins s σ H x y v u Q I rx J h hs;obtain⟨p,xs,i,z,rfl,rfl,N,V,q⟩:=h;cases rx;obtain⟨t,rfl⟩:=J;obtain⟨B,r,F,O⟩:=I.tuple N;obtain⟨j,h1,h2,Z,U,h5⟩:=pQ V;obtain⟨w,ew,a0⟩:=r.get h2;have Y:=r.length;have hn:=ou;have fin:EP X pins σ Q w s:=⟨z,H,I,a0,q⟩;exact acd (x:=w) F.typeIs slot_tuple_getitem.lookup
  (getItem_tuple (j:=j) (Q:=λr s'=>r=w/\EP X pins σ Q r s') F 1.10 1.10 (by rw[List.size_toArray,←Y];exact h1) (by simpa using ew) ⟨rfl,fin⟩) hs
theorem QQ:IxR X Th:=by
 intro F B pins s σ H x y v u Q I rx J h hs;obtain⟨z,i,c,rfl,rfl,O,V,q⟩:=h;obtain⟨t,rfl⟩:=rx;obtain⟨t',rfl⟩:=J;obtain⟨j,h1,h2,Z,U,N⟩:=pQ V;have Y:z.cps.toList.length=z.length:=by simp[Str.length]
 rw[Y]at h1 U N;have hn:=ou;exact acF (typeIs_str s z t) slot_str_getitem.lookup (getItem_str (c:=c) (by
  have e1:decide (i< -(2 ^ 63:Int))=false:=WQ 1.10;have e2:decide (i>=2 ^ 63)=false:=WQ 1.10;rw[e1,e2,Bool.or_false]) (by rw[h1];simpa using h2) ⟨.str ⟨#[c]⟩,H,I.tok _,⟨_,rfl⟩,q⟩) hs
def rIx(K:V8):R2:=λx y H Q=>Uv K x y H Q∨U0 K x y H Q∨Th x y H Q
theorem Q0:IxR X (rIx X.K):=Oa.or (Qw.or QQ)
theorem Dd(B:List Value)(n j:Nat)(u:Value):Xh (·.setIfInBounds j u) {cls:=.type "list",data:=.seq B.toArray n}={cls:=.type "list",data:=.seq (B.set j u).toArray n}:=by
 simp[Xh]
theorem Inv.lst{pins:List 1.23}{σ:St}{H:Hp}{s:V0}{p:Addr}{xs:List V}(I:Inv X pins σ H s)(h:H p=some (.lst xs)) :
  ∃(B:List Value)(n:Nat),Vals xs B/\s.heap.get? p=some {cls:=.type "list",data:=.seq B.toArray n}/\xs.length<=V6:=by
 obtain⟨z,B,n,r,e⟩:=I.hok p _ h;exact⟨B,n,r,e,z⟩
theorem Inv.lstUpd{pins:List 1.23}{σ:St}{H:Hp}{s:V0}{p:Addr}{xs ys:List V}{B its':List Value}{n F:Nat}{f:Obj->Obj}(I:Inv X pins σ H s)(h:H p=some (.lst xs))
  (N:s.heap.get? p=some {cls:=.type "list",data:=.seq B.toArray n}) (Z:f {cls:=.type "list",data:=.seq B.toArray n}={cls:=.type "list",data:=.seq its'.toArray F}) (r:Vals ys its') (O:ys.length<=V6) (t:Nat) :
  Inv X pins σ (upd H p (.lst ys)) {s with heap:=s.heap.update p f,toks:=t}:=by
 have e:(s.heap.update p f).get? p=some {cls:=.type "list",data:=.seq its'.toArray F}:=by
  rw[YZ f N (by rw[Z]<;>rfl),Z]
 refine I.write (x:=p) (e:=p) (by rw[h];trivial) (.inl rfl) (λb u U q=>(W5 _ _ (WW U)).trans q) ⟨_,e⟩ ?_;exact⟨O,its',F,r,e⟩
def Qf:V->V->V->Hp->(Hp->Prop)->Prop:=λo i v H Q=>∃p xs k j,o= .ref p/\i= .int k/\H p=some (.lst xs)/\ixN xs.length k=some j/\Q (upd H p (.lst (xs.set j v)))
theorem set_list:Mw X Qf:=by
 intro pins s σ H o i v ov iv u Q I V ri J h;obtain⟨p,xs,k,j,rfl,rfl,F,hj,q⟩:=h;cases V;obtain⟨t,rfl⟩:=ri;obtain⟨B,n,r,N,O⟩:=I.lst F;obtain⟨h1,h2,Z,U⟩:=yz hj;have Y:=r.length;have hn:=ou;have I':Inv X pins σ (upd H p (.lst (xs.set j v))) {s with heap:=s.heap.update p (Xh (·.setIfInBounds j u))}:=
  I.lstUpd F N (Dd B n j u) (r.set J j) (by rw[List.length_set];exact O) s.toks
 by_cases h0:0<=k
 .have hk:k.toNat=j:=by
   rw[adH h0 U]at h1;exact Xj h1
  exact PySem.W.ki_setAt N h0 1.10 (by rw[List.size_toArray,←Y];exact U) (by rw[hk];exact⟨_,I',q⟩)
 .have hk:(k+(B.toArray.size:Int)).toNat=j:=by
   rw[ade 1.10 Z]at h1;rw[List.size_toArray,←Y];exact Xj h1
  exact PySem.W.ki_setBack N 1.10 (by rw[List.size_toArray,←Y];exact Z) 1.10 (by rw[hk];exact⟨_,I',q⟩)
theorem yS(lo hi:Option Int)(n:Nat):(Z_ lo hi none n).1=((HT.sIx n 0 lo:Nat):Int)/\(Z_ lo hi none n).2.1=((HT.sIx n n hi:Nat):Int)/\(Z_ lo hi none n).2.2=1:=by
 refine⟨?_,?_,rfl⟩
 .cases lo with
  |none=>simp[Z_,HT.sIx]
  |some i=>
   simp only[Z_,HT.sIx,adN,show(1:Int)>0 by decide,WM];by_cases h:i<0
   .simp only[h,WM]<;>omega
   .simp only[h,XD]<;>omega
 .cases hi with
  |none=>simp[Z_,HT.sIx]
  |some i=>
   simp only[Z_,HT.sIx,adN,show(1:Int)>0 by decide,WM];by_cases h:i<0
   .simp only[h,WM]<;>omega
   .simp only[h,XD]<;>omega
theorem vK(B:List Value)(lo hi:Option Int):slicePick B.toArray lo hi none=((B.drop (HT.sIx B.length 0 lo)).take (HT.sIx B.length B.length hi-HT.sIx B.length 0 lo)).toArray:=by
 obtain⟨h1,h2,Z⟩:=yS lo hi B.toArray.size;unfold slicePick;rw[h1,h2,Z];simp only[sliceRange_one,pick_run,List.size_toArray]<;>rfl
def Tu(K:V8):V->Option Int->Option Int->Hp->VK->Prop:=λx lo hi H Q=>∃a xs,x= .ref a/\SqL K H a xs/\∀p,H p=none->Q (.ref p) (upd H p (.lst (uA xs lo hi)))
theorem MP:SlR X (Tu X.K):=by
 intro pins s σ H x v Y Z lo hi sl Q I rx hs V N h;obtain⟨a,xs,rfl,J,q⟩:=h;cases rx;obtain⟨B,r,F,O⟩:=I.list J;have U:=r.length;refine⟨"list",_,abB.lookup,F.isList.typeIs,?_⟩;refine abS F.isList hs V N .none (by simp) ?_ (by rw[List.size_toArray]<;>omega);rw[vK,←U];refine⟨.ref s.heap.objs.size,_,I.laid (t':=s.toks) (o:=.lst (uA xs lo hi)) (λb ob q=>V2 _ q) (Wa _) ?_,rfl,q _ (I.hok.fresh (Wa _))⟩;exact⟨Xu (rQ xs lo hi) O,_,0,(r.drop (HT.sIx xs.length 0 lo)).take (HT.sIx xs.length xs.length hi-HT.sIx xs.length 0 lo),Wx _ rfl⟩
def lC:V->Bool
 |.non=>true
 |.bl _=>true
 |.int _=>true
 |.str _=>true
 |_=>false
def eqV:V->V->Bool
 |.non,.non=>true
 |.bl a,.bl b=>a==b
 |.bl a,.int b=>(if a then 1 else 0)==b
 |.int a,.bl b=>a==(if b then 1 else 0)
 |.int a,.int b=>a==b
 |.str a,.str b=>a==b
 |_,_=>false
theorem QV{A:Xk}{s:V0}{y x:V}{u v:Value}(J:RelV y u)(rx:RelV x v)(I:lC y=true)(Z:lC x=true):SeqAt.EqAt A s u v (eqV y x):=by
 cases y with
 |non=>
  cases J;cases x with
  |non=>cases rx;exact SeqAt.EqAt.same _
  |bl b=>cases rx;exact SeqAt.EqAt.none_bool b
  |int b=>obtain⟨t,rfl⟩:=rx;exact SeqAt.EqAt.none_int b t
  |str b=>obtain⟨t,rfl⟩:=rx;exact SeqAt.EqAt.none_str b t
  |_=>exact absurd (show false=true from Z) WL
 |bl a=>
  cases J;cases x with
  |non=>cases rx;exact SeqAt.EqAt.bool_none a
  |bl b=>cases rx;exact SeqAt.EqAt.bool_bool a b
  |int b=>obtain⟨t,rfl⟩:=rx;exact SeqAt.EqAt.bool_int a b t
  |str b=>obtain⟨t,rfl⟩:=rx;exact SeqAt.EqAt.bool_str a b t
  |_=>exact absurd (show false=true from Z) WL
 |int a=>
  obtain⟨t',rfl⟩:=J;cases x with
  |non=>cases rx;exact SeqAt.EqAt.int_none a t'
  |bl b=>cases rx;exact SeqAt.EqAt.int_bool a t' b
  |int b=>obtain⟨t,rfl⟩:=rx;exact SeqAt.EqAt.int_int a t' b t
  |str b=>obtain⟨t,rfl⟩:=rx;exact ac7 a t' b t
  |_=>exact absurd (show false=true from Z) WL
 |str a=>
  obtain⟨t',rfl⟩:=J;cases x with
  |non=>cases rx;exact SeqAt.EqAt.str_none a t'
  |bl b=>cases rx;exact SeqAt.EqAt.str_bool a t' b
  |int b=>obtain⟨t,rfl⟩:=rx;exact ac8 a t' b t
  |str b=>obtain⟨t,rfl⟩:=rx;exact SeqAt.EqAt.str_str a t' b t
  |_=>exact absurd (show false=true from Z) WL
 |_=>exact absurd (show false=true from I) WL
def eqU(x:V)(u:Value):Bool:=match u with
 |.none=>eqV .non x
 |.bool b=>eqV (.bl b) x
 |.int i _=>eqV (.int i) x
 |.str z _=>eqV (.str z) x
 |_=>false
theorem Iv{x y:V}{u:Value}(r:RelV y u)(f:lC y=true):eqU x u=eqV y x:=by
 cases y with
 |non=>cases r;rfl
 |bl b=>cases r;rfl
 |int i=>obtain⟨t,rfl⟩:=r;rfl
 |str z=>obtain⟨t,rfl⟩:=r;rfl
 |_=>exact absurd (show false=true from f) WL
theorem pW{x:V}:∀{xs:List V}{us:List Value},Vals xs us->xs.all lC=true->us.any (eqU x)=xs.any λy=>eqV y x
 |_,_,.nil,_=>rfl
 |y::xs,u::us,.cons r t,f=>by
  rw[Z7,Wr]at f;rw[aaI,aaI,Iv r f.1,pW t f.2]
theorem mD{A:Xk}{s:V0}{x:V}{v:Value}(rx:RelV x v)(q:lC x=true):∀{xs:List V}{us:List Value},Vals xs us->xs.all lC=true->∀u∈us,SeqAt.EqAt A s u v (eqU x u)
 |_,_,.nil,_=>λu F=>by cases F
 |y::xs,u::us,.cons r t,f=>λZ F=>by
  rw[Z7,Wr]at f;rcases V5.mp F with rfl|F
  .rw[Iv r f.1];exact QV r rx f.1 q
  .exact mD rx q t f.2 Z F
def inV(x:V)(xs:List V):Bool:=xs.any λy=>eqV y x
def rIn(K:V8)(q:Bool):R2:=λx y H Q=>∃p xs,y= .ref p/\(SqL K H p xs∨SqT K H p xs)/\lC x=true/\xs.all lC=true/\Q (.bl (if q then !inV x xs else inV x xs)) H
theorem Hc:OpR X (W8 .In) (rIn X.K false):=by
 intro pins s σ H x y v u Q I rx J h;obtain⟨p,xs,rfl,N,Z,fs,q⟩:=h;cases J;rcases N with N|N
 .obtain⟨its,r,pl,hz⟩:=I.list N
  refine SeqAt.in_listAt (eqU x) pl.isList (λw B=>mD rx Z r fs w (by simpa using B)) ⟨.bl _,H,I,rfl,?_⟩;rw[show its.toArray.any (eqU x)=its.any (eqU x)by simp,pW r fs];exact q
 .obtain⟨its,r,pl,hz⟩:=I.tuple N
  refine SeqAt.in_tupleAt (eqU x) pl (λw B=>mD rx Z r fs w (by simpa using B)) ⟨.bl _,H,I,rfl,?_⟩;rw[show its.toArray.any (eqU x)=its.any (eqU x)by simp,pW r fs];exact q
theorem xR:OpR X (W8 .NotIn) (rIn X.K true):=by
 intro pins s σ H x y v u Q I rx J h;obtain⟨p,xs,rfl,N,Z,fs,q⟩:=h;cases J;rcases N with N|N
 .obtain⟨its,r,pl,hz⟩:=I.list N
  refine SeqAt.notIn_listAt (eqU x) pl.isList (λw B=>mD rx Z r fs w (by simpa using B)) ⟨.bl _,H,I,rfl,?_⟩;rw[show its.toArray.any (eqU x)=its.any (eqU x)by simp,pW r fs];exact q
 .obtain⟨its,r,pl,hz⟩:=I.tuple N
  refine SeqAt.notIn_tupleAt (eqU x) pl (λw B=>mD rx Z r fs w (by simpa using B)) ⟨.bl _,H,I,rfl,?_⟩;rw[show its.toArray.any (eqU x)=its.any (eqU x)by simp,pW r fs];exact q
theorem xH:OpR X (W8 .NotIn) (λx y H Q=>∃i j,x= .str i/\y= .str j/\Q (.bl (!(!(Xg j i 0 j.length 1).isEmpty))) H):=by
 show 4;exact notIn_str ⟨.bl _,H,I,rfl,q⟩
theorem ym:cY X (.builtin "len") (λxs H Q=>∃p ys,xs=[.ref p]/\(SqL X.K H p ys∨SqT X.K H p ys)/\Q (.int ys.length) H):=by
 show 6;obtain⟨p,ys,rfl,N,q⟩:=h;obtain⟨u,rfl,rx⟩:=vals1 r;cases rx;have hn:=ou;rcases N with N|N
 .obtain⟨its,r',pl,hz⟩:=I.list N
  have U:=r'.length;exact Calls.call_len_list pl.isList (by simp only[List.size_toArray]<;>omega) ⟨.int ys.length,H,I.tok _,⟨s.toks+1,by rw[List.size_toArray,U]⟩,q⟩
 .obtain⟨its,r',pl,hz⟩:=I.tuple N
  have U:=r'.length;exact len_tuple pl (by simp only[List.size_toArray]<;>omega) ⟨.int ys.length,H,I.tok _,⟨s.toks+1,by rw[List.size_toArray,U]⟩,q⟩
theorem xm:cY X (.builtin "len") (λxs H Q=>∃z,xs=[.str z]/\z.length<=V6/\Q (.int z.length) H):=by
 show 6;obtain⟨z,rfl,O,q⟩:=h;obtain⟨u,rfl,t,rfl⟩:=vals1 r;have hn:=ou;exact len_str 1.10 ⟨.int z.length,H,I.tok _,⟨_,rfl⟩,q⟩
theorem vP:cY X (.type "tuple") (λxs H Q=>∃p ys,xs=[.ref p]/\((SqL X.K H p ys/\∀l,H l=none->Q (.ref l) (upd H l (.tup ys)))∨(SqT X.K H p ys/\Q (.ref p) H))):=by
 show 6;obtain⟨p,ys,rfl,h⟩:=h;obtain⟨u,rfl,rx⟩:=vals1 r;cases rx;rcases h with⟨N,q⟩|⟨N,q⟩
 .obtain⟨its,r',pl,hz⟩:=I.list N
  have U:=r'.length;refine call_tuple_list pl.isList (λh' kp=>?_) (by simp only[List.size_toArray]<;>omega);have F:Inv X pins σ H {s with heap:=h'}:=I.kept (t':=s.toks) kp;have O:Inv X pins σ (upd H h'.objs.size (.tup ys)) {s with heap:=h'.push {cls:=.type "tuple",data:=.seq its.toArray}}:=
   F.laid (t':=s.toks) (λb o e=>V2 _ e) (Wa _) (show cB X.prog X.w _ _ _ (.tup ys)from⟨hz,its,r',lq.new _ _⟩)
  exact⟨.ref h'.objs.size,_,O,rfl,q _ (F.hok.fresh (Wa _))⟩
 .obtain⟨its,r',pl,hz⟩:=I.tuple N
  exact call_tuple_same pl ⟨.ref p,H,I,rfl,q⟩
def tyV(K:V8)(T:String)(x:V)(H:Hp):Prop:=match x with
 |.str _=>T="str"
 |.int _=>T="int"
 |.ref p=>(T="list"/\∃xs,SqL K H p xs)∨(T="tuple"/\∃o,K.lookup p=some o/\o.cls= .type "tuple"/\o.dict=none)∨
  (T="dict"/\((∃kvs,H p=some (.dK kvs))∨∃kvs,H p=some (.dT kvs)))∨(T="set"/\∃S n,H p=some (.set S n))
 |_=>False
theorem HN{pins:List 1.23}{σ:St}{H:Hp}{s:V0}{T:String}{x:V}{v:Value}(I:Inv X pins σ H s)(r:RelV x v)(F:tyV X.K T x H) :
  s.TypeIs v T/\∀a,v= .ref a->∃ob,s.heap.get? a=some ob/\ob.dict=none:=by
 cases x with
 |str z=>
  obtain⟨t,rfl⟩:=r;cases (show T="str" from F);exact⟨typeIs_str s z t,λ_ e=>nomatch e⟩
 |int i=>
  obtain⟨t,rfl⟩:=r;cases (show T="int" from F);exact⟨typeIs_int s i t,λ_ e=>nomatch e⟩
 |ref p=>
  cases r;rcases F with⟨rfl,xs,N⟩|⟨rfl,o,B,Z,hd⟩|⟨rfl,B⟩|⟨rfl,S,n,B⟩
  .obtain⟨its,_,pl,_⟩:=I.list N
   refine⟨pl.isList.typeIs,λa e=>?_⟩;cases e;obtain⟨o,n,e,c,hd,_⟩:=pl;exact⟨o,e,hd⟩
  .refine⟨⟨o,I.kIn p o B,Z⟩,λa e=>?_⟩
   cases e;exact⟨o,I.kIn _ o B,hd⟩
  .have z:∃o,s.heap.get? p=some o/\o.ExactDict:=by
    rcases B with⟨kvs,B⟩|⟨kvs,B⟩
    .obtain⟨_,_,_,_,o,_,_,e,ex,_⟩:=I.hok p _ B
     exact⟨o,e,ex⟩
    .obtain⟨_,_,_,_,o,_,_,e,ex,_⟩:=I.hok p _ B
     exact⟨o,e,ex⟩
   obtain⟨o,e,ex⟩:=z;refine⟨⟨o,e,ex.1⟩,λa e2=>?_⟩;cases e2;exact⟨o,e,ex.2.1⟩
  .obtain⟨o,_,_,_,e,ex,_⟩:=I.hok p _ B
   refine⟨⟨o,e,ex.1⟩,λa e2=>?_⟩;cases e2;exact⟨o,e,ex.2.1⟩
 |_=>exact Y_ F
def VG(K:V8)(T:String)(r:V->List V->Hp->VK->Prop)(to:TE):TE:=λσ H Q=>to σ H λx H1=>tyV K T x H1/\r x [] H1 Q
def tBM(K:V8)(T:String)(r:V->List V->Hp->VK->Prop)(to:TE)(t:TA):TE:=λσ H Q=>to σ H λx H1=>tyV K T x H1/\t σ H1 λxs H2=>r x xs H2 Q
variable{o e:Expr}{es:List Expr}{to:TE}{t:TA}{name:Str}{apos cpos:Pos}{T id:String}{r:V->List V->Hp->VK->Prop}
theorem QW(B:aar T)(slot:Slot T name id)(Z:abk (.builtin id)=pure (.type "method_descriptor"))(J:MtR X id r)(N:PE X o to)
  (V:Zx o name X.env (eval o X.env)=eval o X.env:=by rfl) (q:(apos.endLine==cpos.line)=true:=by rfl):PE X (.Call (.Attribute o name apos) [] [] cpos) (VG X.K T r to):=by
 intro pins s σ H Q I h;refine wpAny_Call_method0_late V q (thn (N pins s σ H _ I h) λv O ⟨x,H1,F,U,Y,q1⟩=>?_);obtain⟨h1,h2⟩:=HN F U Y;exact⟨T,id,B,slot,Z,h1,h2,ace rfl (PySem.evalArgs_none (J pins O σ H1 x [] v [] Q F U .nil q1))⟩
theorem Eg(pa:aar T)(slot:Slot T name id)(a2:abk (.builtin id)=pure (.type "method_descriptor"))(J:MtR X id r)(N:PE X o to)(Y:PA X (e::es) t)
  (V:Zx o name X.env (eval o X.env)=eval o X.env:=by rfl)
  (a1:((Yj cpos (We (e::es) X.env)).all (λx=>!x.1)&&(acG cpos (abe [] X.env)).all (λx=>x.1.isSome)
   &&decide ((e::es).length+([]:List aas).length+(if([]:List aas).isEmpty then 0 else 1)<30))=true:=by rfl)
  (q:(apos.endLine==cpos.line)=true:=by rfl) (hs:We (e::es) X.env=(false,eval e X.env)::We es X.env:=by rfl) (a0:(Yj cpos (We es X.env)).any (·.1)=false:=by rfl) :
  PE X (.Call (.Attribute o name apos) (e::es) [] cpos) (tBM X.K T r to t):=by
 intro pins s σ H Q I h;refine wpAny_Call_method_late V a1 q rfl (thn (N pins s σ H _ I h) λv O ⟨x,H1,F,U,ty,q1⟩=>?_);obtain⟨h1,h2⟩:=HN F U ty;refine⟨T,id,pa,slot,a2,h1,h2,?_⟩;have hA:=Y cpos pins O σ H1 _ F q1;rw[hs]at hA⊢;refine ace (by show(false||(Yj cpos (We es X.env)).any (·.1))=false;rw[a0]<;>rfl) (Calls.evalArgs_plain ?_);exact thn hA λus B ⟨vs,H2,I2,Z,q2⟩=>J pins B σ H2 x vs v us Q I2 U Z q2
end
def MtM(X:Cx)(id:String)(r:V->List V->Hp->VK->Prop):Prop:=
 ∀(pins:List 1.23)(s:V0)(σ:St)(H:Hp)(x:V)(xs:List V)(v:Value)(us:List Value)(Q:VK),Inv X pins σ H s->RelV x v->Vals xs us->r x xs H Q->
  wpAny 1.12 X.A (call (.builtin id) (v::us)) (EP X pins σ Q) X.xe s
theorem Vals.one:∀{x:V}{us:List Value},Vals [x] us->∃u,us=[u]/\RelV x u
 |_,_,.cons r .nil=>⟨_,rfl,r⟩
theorem Vals.zero:∀{us:List Value},Vals [] us->us=[]
 |_,.nil=>rfl
theorem Vals.dropLast{xs:List V}{us:List Value}(h:Vals xs us):Vals xs.dropLast us.dropLast:=by
 induction h with
 |nil=>exact .nil
 |cons r t O=>
  cases t with
  |nil=>exact .nil
  |cons q t'=>exact .cons r O
theorem Vals.eraseIdx:∀{xs:List V}{us:List Value}(i:Nat),Vals xs us->Vals (xs.eraseIdx i) (us.eraseIdx i)
 |_,_,_,.nil=>.nil
 |_,_,0,.cons _ t=>t
 |_,_,i+1,.cons r t=>.cons r (Vals.eraseIdx i t)
theorem Vals.reverse{xs:List V}{us:List Value}(h:Vals xs us):Vals xs.reverse us.reverse:=by
 induction h with
 |nil=>exact .nil
 |cons r t O=>rw[aax,aax];exact Vals.append O (.cons r .nil)
theorem Ce{α:Type}(l:List α):l.eraseIdx (l.length-1)=l.dropLast:=by
 induction l with
 |nil=>rfl
 |cons a r O=>
  cases r with
  |nil=>rfl
  |cons b r=>
   have e:(a::b::r).length-1=((b::r).length-1)+1:=by
    have h1:(a::b::r).length=r.length+2:=rfl;have h2:(b::r).length=r.length+1:=rfl;omega
   rw[e,List.eraseIdx_cons_succ,O]
   all_goals rfl
theorem wR{α:Type}:∀(l:List α)(i:Nat),(l.eraseIdx i).length<=l.length
 |[],_=>Wa _
 |_::_,0=>aaE _
 |_::r,i+1=>Nat.succ_le_succ (wR r i)
section
variable{X:Cx}{pins:List (Addr×Obj)}{σ:St}{H:Hp}{s:Shared}{l b:Addr}{xs ys zs:List V}
theorem Inv.lset{B its':List Value}{n:Nat}{f:Array Value->Array Value}{t':Nat}(I:Inv X pins σ H s)(V:H l=some (.lst xs))
  (e:s.heap.get? l=some {cls:=.type "list",data:=.seq B.toArray n}) (Z:f B.toArray=its'.toArray) (N:Vals ys its') (O:ys.length<=V6) :
  Inv X pins σ (upd H l (.lst ys)) {s with heap:=s.heap.update l (Xh f),toks:=t'}:=by
 have q:=Zg e f;rw[Z]at q;refine I.write (x:=l) (e:=l) (by rw[V];exact trivial) (.inl rfl) (λJ u U F=>(W5 s.heap (Xh f) (WW U)).trans F) ⟨_,q⟩ ?_;exact⟨O,its',_,N,q⟩
theorem Inv.lnew{B:List Value}{t':Nat}(I:Inv X pins σ H s)(N:Vals ys B)(O:ys.length<=V6) :
  Inv X pins σ (upd H s.heap.objs.size (.lst ys)) {s with heap:=s.heap.push {cls:=.type "list",data:=.seq B.toArray},toks:=t'}:=
 I.laid (λ_ _ q=>V2 _ q) (Wa _) ⟨O,B,0,N,Wx _ rfl⟩
theorem Inv.fresh(I:Inv X pins σ H s):H s.heap.objs.size=none:=I.hok.fresh (Wa _)
theorem Inv.lstM(I:Inv X pins σ H s)(V:H l=some (.lst xs)):xs.length<=V6/\∃(B:List Value)(n:Nat),Vals xs B/\xs.length=B.length/\s.heap.get? l=some {cls:=.type "list",data:=.seq B.toArray n}:=by
 obtain⟨z,B,n,r,e⟩:=I.hok l _ V;exact⟨z,B,n,r,r.length,e⟩
theorem JL{n:Nat}(h:n<=V6):aam n=false:=by
 unfold aam;exact WQ 1.10
end
section
variable{X:Cx}
def Em:V->List V->Hp->VK->Prop:=λx vs H Q=>∃l xs y,x= .ref l/\vs=[y]/\H l=some (.lst xs)/\xs.length<V6/\Q .non (upd H l (.lst (xs++[y])))
theorem G7:MtM X "list.append" Em:=by
 intro pins s σ H x vs v us Q I rx J h;obtain⟨l,xs,y,rfl,rfl,V,O,q⟩:=h;cases rx;obtain⟨u,rfl,U⟩:=J.one;obtain⟨z,B,n,r,Y,e⟩:=I.lstM V;refine ZC adf ⟨_,e,rfl⟩ ac1 (acH _ _) (adx l B.toArray n u (by rw[List.size_toArray];omega)) ⟨e,?_⟩;refine⟨.non,_,I.lset (its':=B++[u]) V e (by simp) (r.append (.cons U .nil)) ?_,rfl,q⟩;rw[Xn,List.length_singleton];omega
def Oz:V->List V->Hp->VK->Prop:=λx vs H Q=>∃l b xs zs,x= .ref l/\vs=[.ref b]/\H l=some (.lst xs)/\H b=some (.lst zs)/\xs.length+zs.length<=V6/\Q .non (upd H l (.lst (xs++zs)))
theorem mt_extend:MtM X "list.extend" Oz:=by
 intro pins s σ H x vs v us Q I rx J h;obtain⟨l,b,xs,zs,rfl,rfl,V,hB,O,q⟩:=h;cases rx;obtain⟨u,rfl,U⟩:=J.one;cases U;obtain⟨z,B,n,r,Y,e⟩:=I.lstM V;obtain⟨z2,N,n2,Z,a1,e2⟩:=I.lstM hB;have hsz:B.toArray.size+N.toArray.size<=V6:=by rw[List.size_toArray,List.size_toArray];omega
 have a0:¬(!B.toArray.isEmpty&&aam (B.toArray.size+N.toArray.size))=true:=by
  rw[JL hsz,aat];exact WL
 refine ZC F.slot_list_extend ⟨_,e,rfl⟩ F.entry_list_extend (F.args_list_extend_2 _ _)
  (AutoSeq1.list_extend_list_list_0 l B.toArray n b N.toArray n2 a0 (by rw[List.size_toArray];omega) 1.10) ⟨e,e2,?_⟩
 refine⟨.non,_,I.lset (its':=B++N) V e (by simp) (r.append Z) ?_,rfl,q⟩;rw[Xn];omega
def Vo:V->List V->Hp->VK->Prop:=λx vs H Q=>∃l xs y,x= .ref l/\vs=[]/\H l=some (.lst xs)/\xs[xs.length-1]? =some y/\Q y (upd H l (.lst xs.dropLast))
theorem mt_pop:MtM X "list.pop" Vo:=by
 intro pins s σ H x vs v us Q I rx J h;obtain⟨l,xs,y,rfl,rfl,Z,V,q⟩:=h;cases rx;have N:=J.zero;subst N;obtain⟨z,B,n,r,Y,e⟩:=I.lstM Z;obtain⟨u,hu,U⟩:=r.get V;have O:B.toArray[B.toArray.size-1]? =some u:=by
  show B.toArray[B.length-1]? =some u;rw[←aaT,←Y];exact hu
 refine ZC F.slot_list_pop ⟨_,e,rfl⟩ F.entry_list_pop (F.args_list_pop_1 _) (MeetsSeq.list_pop_last l B.toArray n u O (by rw[List.size_toArray];omega)) ⟨e,?_⟩;refine⟨y,_,I.lset (its':=B.dropLast) Z e ?_ r.dropLast ?_,U,q⟩
 .show B.toArray.eraseIdxIfInBounds (B.toArray.size-1)=B.dropLast.toArray
  rw[List.size_toArray,aaZ,Ce]
 .rw[List.length_dropLast]
  omega
def H9:V->List V->Hp->VK->Prop:=λx vs H Q=>∃l xs i k y,x= .ref l/\vs=[.int i]/\H l=some (.lst xs)/\-(2 ^ 63)<=i/\i<2 ^ 63/\seqIndex? i xs.length=some k/\xs[k]? =some y/\Q y (upd H l (.lst (xs.eraseIdx k)))
theorem Kc:MtM X "list.pop" H9:=by
 intro pins s σ H x vs v us Q I rx J h;obtain⟨l,xs,i,k,y,rfl,rfl,O,h1,h2,hk,V,q⟩:=h;cases rx;obtain⟨u,rfl,U⟩:=J.one;obtain⟨t,rfl⟩:=U;obtain⟨z,B,n,r,Y,e⟩:=I.lstM O;obtain⟨w,Z,N⟩:=r.get V;refine ZC F.slot_list_pop ⟨_,e,rfl⟩ F.entry_list_pop (F.args_list_pop_2 _ _)
  (MeetsSeq.list_pop_at l B.toArray n i t k w (fitsIndex_both h1 h2) (by rw[List.size_toArray,←Y];exact hk) (by rw[←aaT];exact Z) (by rw[List.size_toArray];omega)) ⟨e,?_⟩
 refine⟨y,_,I.lset (its':=B.eraseIdx k) O e ?_ (r.eraseIdx k) ?_,N,q⟩
 .show B.toArray.eraseIdxIfInBounds k=(B.eraseIdx k).toArray
  rw[aaZ]
 .have:=wR xs k
  omega
def Hy:V->List V->Hp->VK->Prop:=λx vs H Q=>∃l xs,x= .ref l/\vs=[]/\H l=some (.lst xs)/\Q .non (upd H l (.lst []))
theorem Jl:MtM X "list.clear" Hy:=by
 intro pins s σ H x vs v us Q I rx J h;obtain⟨l,xs,rfl,rfl,V,q⟩:=h;cases rx;have N:=J.zero;subst N;obtain⟨z,B,n,r,Y,e⟩:=I.lstM V;refine ZC F.slot_list_clear ⟨_,e,rfl⟩ F.entry_list_clear (F.args_list_clear_1 _) (AutoSeq1.list_clear_list_0 l B.toArray n (by rw[List.size_toArray];omega)) ⟨e,?_⟩;exact⟨.non,_,I.lset (its':=[]) (ys:=[]) V e rfl .nil (Ym _),rfl,q⟩
def U4:R2:=λx y H Q=>∃l b xs zs,x= .ref l/\y= .ref b/\H l=some (.lst xs)/\H b=some (.lst zs)/\xs.length+zs.length<=V6/\∀p,H p=none->Q (.ref p) (upd H p (.lst (xs++zs)))
theorem RQ:OpR X (X6 .Add) U4:=by
 intro pins s σ H x y v u Q I rx J h;obtain⟨l,b,xs,zs,rfl,rfl,V,F,O,q⟩:=h;cases rx;cases J;obtain⟨z,B,n,r,Y,e⟩:=I.lstM V;obtain⟨z2,N,n2,Z,a0,e2⟩:=I.lstM F;refine PySem.P.add_list e e2 ?_ (by rw[List.size_toArray,List.size_toArray];omega);have U:B.toArray++N.toArray=(B++N).toArray:=by simp
 rw[U];exact⟨.ref _,_,I.lnew (t':=s.toks) (r.append Z) (by rw[Xn];omega),rfl,q _ I.fresh⟩
end
section
variable{κ:Type}[DecidableEq κ]
def kJ(kvs:List (κ×V))(k:κ):Option V:=(kvs.find? λN=>decide (N.1=k)).map (·.2)
def putK(kvs:List (κ×V))(k:κ)(v:V):List (κ×V):=
 if(kvs.any λN=>decide (N.1=k))=true then kvs.map (λN=>if N.1=k then(N.1,v)else N)else kvs++[(k,v)]
def Ph(kvs:List (κ×V))(k:κ):List (κ×V):=kvs.filter λN=>decide (N.1≠k)
theorem t6{p:κ×V}{r:List (κ×V)}{k:κ}(e:p.1=k):kJ (p::r) k=some p.2:=by simp[kJ,YB,e]
theorem uz{p:κ×V}{r:List (κ×V)}{k:κ}(e:¬p.1=k):kJ (p::r) k=kJ r k:=by simp[kJ,YB,e]
theorem vD(k:κ):∀kvs:List (κ×V),(kvs.any λN=>decide (N.1=k))=(kJ kvs k).isSome
 |[]=>rfl
 |p::r=>by
  rw[aaI];by_cases e:p.1=k
  .simp only[t6 e,XJ e,Bool.true_or,Option.isSome_some]
  .rw[uz e,WQ e,Bool.false_or];exact vD k r
theorem gq(kvs:List (κ×V))(k:κ)(v:V):(putK kvs k v).length<=kvs.length+1:=by
 unfold putK;split
 .rw[Wc];omega
 .rw[Xn,WK,Xe];omega
theorem lQ{kvs:List (κ×V)}{k:κ}(v:V)(h:kJ kvs k=none):putK kvs k v=kvs++[(k,v)]:=by
 unfold putK;rw[vD,h];exact Wo (by decide)
theorem qy.isSome_eq{o:Option V}{u:Option Value}(r:qy o u):o.isSome=u.isSome:=by
 cases o with
 |none=>cases u with
  |none=>rfl
  |some _=>exact(show False from r).elim
 |some _=>cases u with
  |none=>exact(show False from r).elim
  |some _=>rfl
theorem qy.getD{o:Option V}{u:Option Value}{d:V}{d':Value}(r:qy o u)(rd:RelV d d'):RelV (o.getD d) (u.getD d'):=by
 cases o with
 |none=>cases u with
  |none=>exact rd
  |some _=>exact(show False from r).elim
 |some _=>cases u with
  |none=>exact(show False from r).elim
  |some _=>exact r
theorem KV.val{kvs:List (κ×V)}{vs:List (κ×Value)}(r:KV kvs vs)(k:κ):qy (kJ kvs k) (abL vs k):=by
 unfold KV at r
 induction r with
 |nil=>exact XM
 |@cons p q ps B h t O=>
  obtain⟨h1,h2⟩:=h;by_cases e:p.1=k
  .have e':q.1=k:=h1.symm.trans e
   have b:abL (q::B) k=some q.2:=by simp[abL,YB,e']
   rw[t6 e,b];exact h2
  .have e':¬q.1=k:=λz=>e (h1.trans z)
   have b:abL (q::B) k=abL B k:=by simp[abL,YB,e']
   rw[uz e,b];exact O
theorem KV.any{kvs:List (κ×V)}{vs:List (κ×Value)}(r:KV kvs vs)(k:κ):(kvs.any λN=>decide (N.1=k))=vs.any λN=>decide (N.1=k):=by
 unfold KV at r
 induction r with
 |nil=>rfl
 |cons h t O=>rw[aaI,aaI,O,h.1]
theorem KV.repl{kvs:List (κ×V)}{vs:List (κ×Value)}(r:KV kvs vs)(k:κ){y:V}{u:Value}(J:RelV y u) :
  KV (kvs.map λN=>if N.1=k then(N.1,y)else N) (vs.map λN=>if N.1=k then(N.1,u)else N):=by
 unfold KV at r⊢
 induction r with
 |nil=>exact .nil
 |@cons p q ps B h t O=>
  rw[V7,V7];refine .cons ?_ O;obtain⟨h1,h2⟩:=h;by_cases e:p.1=k
  .rw[Wd e,Wd (h1.symm.trans e)];exact⟨h1,J⟩
  .rw[Wo e,Wo (λz=>e (h1.trans z))];exact⟨h1,h2⟩
theorem KV.put{kvs:List (κ×V)}{vs:List (κ×Value)}(r:KV kvs vs)(k:κ){y:V}{u:Value}(J:RelV y u):KV (putK kvs k y) (stored vs k u):=by
 unfold putK stored;rw[r.any k];by_cases e:(vs.any λN=>decide (N.1=k))=true
 .rw[Wd e,Wd e];exact r.repl k J
 .rw[Wo e,Wo e];exact Paired.snoc r ⟨rfl,J⟩
theorem KV.drop{kvs:List (κ×V)}{vs:List (κ×Value)}(r:KV kvs vs)(k:κ):KV (Ph kvs k) (without vs k):=by
 unfold KV at r⊢;unfold Ph without
 induction r with
 |nil=>exact .nil
 |@cons p q ps B h t O=>
  obtain⟨h1,h2⟩:=h;rw[aaM,aaM];by_cases e:p.1=k
  .have a:¬decide (p.1≠k)=true:=by simp[e]
   have b:¬decide (q.1≠k)=true:=by simp[h1.symm.trans e]
   rw[Wo a,Wo b];exact O
  .have e':¬q.1=k:=λz=>e (h1.trans z)
   have a:decide (p.1≠k)=true:=by simp[e]
   have b:decide (q.1≠k)=true:=by simp[e']
   rw[Wd a,Wd b];exact .cons ⟨h1,h2⟩ O
theorem KV.keys{kvs:List (κ×V)}{vs:List (κ×Value)}(r:KV kvs vs):kvs.map (·.1)=vs.map (·.1):=by
 unfold KV at r
 induction r with
 |nil=>rfl
 |cons h t O=>rw[V7,V7,O,h.1]
theorem KV.length{kvs:List (κ×V)}{vs:List (κ×Value)}(r:KV kvs vs):kvs.length=vs.length:=abp r
end
theorem rA{P:WY}{w:World}{k:Key}{u:Value}(r:RelV (kV k) u):(cg P w).is k u=true:=by
 cases k with
 |inl i=>obtain⟨t,e⟩:=(show ∃t,u=Xc i t from r);subst e;exact Ag P w i t
 |inr x=>obtain⟨t,e⟩:=(show ∃t,u=W7 x t from r);subst e;exact Bj P w x t
theorem wJ{P:WY}{w:World}:∀{ks:List Key}{us:List Value},Vals (ks.map kV) us->ItemsAre (cg P w) ks us
 |[],_,r=>by rw[Xi]at r;cases r;exact .nil
 |k::ks,_,r=>by
  rw[V7]at r;cases r with
  |cons h t=>exact .cons (rA h) (wJ t)
abbrev KT(H:Hp):List (List Key×V)->List (List Key×Addr×Value)->Prop:=abN λp q=>p.1=q.1/\H q.2.1=some (.tup (p.1.map kV))/\RelV p.2 q.2.2
theorem KT.val{H:Hp}{kvs:List (List Key×V)}{xs:List (List Key×Addr×Value)}(r:KT H kvs xs)(k:List Key):qy (kJ kvs k) ((atKey xs k).map (·.2)):=by
 induction r with
 |nil=>exact XM
 |@cons p q ps B h t O=>
  obtain⟨h1,_,h2⟩:=h;by_cases e:p.1=k
  .have e':q.1=k:=h1.symm.trans e
   have b:atKey (q::B) k=some q.2:=by simp[atKey,YB,e']
   rw[t6 e,b];exact h2
  .have e':¬q.1=k:=λz=>e (h1.trans z)
   have b:atKey (q::B) k=atKey B k:=by simp[atKey,YB,e']
   rw[uz e,b];exact O
theorem KT.repl{H:Hp}{kvs:List (List Key×V)}{xs:List (List Key×Addr×Value)}(r:KT H kvs xs)(k:List Key){y:V}{u:Value}(J:RelV y u) :
  KT H (kvs.map λN=>if N.1=k then(N.1,y)else N) (xs.map (putAt k u)):=by
 induction r with
 |nil=>exact .nil
 |@cons p q ps B h t O=>
  rw[V7,V7];refine .cons ?_ O;obtain⟨h1,h2,Z⟩:=h;unfold putAt;by_cases e:p.1=k
  .rw[Wd e,Wd (h1.symm.trans e)];exact⟨h1,h2,J⟩
  .rw[Wo e,Wo (λz=>e (h1.trans z))];exact⟨h1,h2,Z⟩
theorem KT.put{H:Hp}{kvs:List (List Key×V)}{xs:List (List Key×Addr×Value)}(r:KT H kvs xs)(k:List Key){b:Addr}{y:V}{u:Value}(U:H b=some (.tup (k.map kV)))(J:RelV y u) :
  KT H (putK kvs k y) (storedH xs k b u):=by
 have e:(kvs.any λN=>decide (N.1=k))=(atKey xs k).isSome:=by
  rw[vD,(r.val k).isSome_eq,abC]
 unfold putK storedH;rw[e];by_cases q:(atKey xs k).isSome=true
 .rw[Wd q,Wd q];exact r.repl k J
 .rw[Wo q,Wo q];exact Paired.snoc r ⟨rfl,U,J⟩
theorem KT.keeps{H H':Hp}{kvs:List (List Key×V)}{xs:List (List Key×Addr×Value)}(r:KT H kvs xs)(F:∀b ys,H b=some (.tup ys)->H' b=some (.tup ys)):KT H' kvs xs:=
 Paired.mapP r λ_ _ z=>⟨z.1,F _ _ z.2.1,z.2.2⟩
section
variable{P:Program}{w:World}{H:Hp}{h:Heap}{a:Addr}
theorem Qh{u:HO}(ok:HOk P w H h)(e:Rd H a u):cB P w H h a u:=e.ok ok
theorem uJ{kvs:List (Key×V)}(ok:HOk P w H h)(e:Rd H a (.dK kvs)):kvs.length<=V6/\(a==Y9)=false/\∃vs,KV kvs vs/\h.DictOf (cg P w) a vs:=
 show cB P w H h a (.dK kvs)from Qh ok e
theorem zE{kvs:List (Key×V)}(ok:HOk P w H h)(e:H a=some (.dK kvs)):kvs.length<=V6/\(a==Y9)=false/\∃vs,KV kvs vs/\h.DictOf (cg P w) a vs:=uJ ok (.inl e)
theorem uy{ks:List Key}(ok:HOk P w H h)(e:H a=some (.tup (ks.map kV))):(ab2 (cg P w)).is h ks a:=by
 obtain⟨_,B,r,o,h1,h2,n,Z⟩:=(show cB P w H h a (.tup (ks.map kV))from ok a _ e);exact⟨o,B.toArray,n,h1,h2,Z.1,by simpa using wJ r⟩
theorem Av{kvs:List (List Key×V)}(ok:HOk P w H h)(e:Rd H a (.dT kvs)):kvs.length<=V6/\(a==Y9)=false/\
  ∃xs,KT H kvs xs/\h.DictOfH (ab2 (cg P w)) a xs:=by
 obtain⟨z,y,xs,r,o,es,ep,h1,h2,Z,U,F⟩:=(show cB P w H h a (.dT kvs)from Qh ok e);refine⟨z,y,xs,r,o,es,ep,h1,h2,Z,U,λx J=>?_,F⟩;have all:∀{l:List (List Key×V)}{m:List (List Key×Addr×Value)},KT H l m->∀x∈m,(ab2 (cg P w)).is h x.1 x.2.1:=by
  intro l m q
  induction q with
  |nil=>intro x J;exact nomatch J
  |@cons p q ps B N t O=>
   intro x J;rcases V5.mp J with e|J
   .subst e
    exact uy ok (by rw[←N.1];exact N.2.1)
   .exact O x J
 exact all r x J
theorem Ux{kvs:List (List Key×V)}(ok:HOk P w H h)(e:H a=some (.dT kvs)):kvs.length<=V6/\(a==Y9)=false/\
 ∃xs,KT H kvs xs/\h.DictOfH (ab2 (cg P w)) a xs:=Av ok (.inl e)
end
def oA(H:Hp)(a:Addr)(y:V)(r:Option V):Prop:=
 (∃kvs k,Rd H a (.dK kvs)/\y=kV k/\r=kJ kvs k)∨∃kvs k b,Rd H a (.dT kvs)/\y= .ref b/\H b=some (.tup (k.map kV))/\r=kJ kvs k
def Bx(H:Hp)(a:Addr)(y v:V)(H':Hp):Prop:=
 (∃kvs k,H a=some (.dK kvs)/\y=kV k/\kvs.length<V6/\H'=upd H a (.dK (putK kvs k v)))∨
 ∃kvs k b,H a=some (.dT kvs)/\y= .ref b/\H b=some (.tup (k.map kV))/\kvs.length<V6/\H'=upd H a (.dT (putK kvs k v))
theorem oA.k{H:Hp}{a:Addr}{kvs:List (Key×V)}{k:Key}(e:H a=some (.dK kvs)):oA H a (kV k) (kJ kvs k):=.inl ⟨kvs,k,.inl e,rfl,rfl⟩
theorem oA.t{H:Hp}{a b:Addr}{kvs:List (List Key×V)}{k:List Key}(e:H a=some (.dT kvs))(B:H b=some (.tup (k.map kV))):oA H a (.ref b) (kJ kvs k):=.inr ⟨kvs,k,b,.inl e,rfl,B,rfl⟩
theorem Bx.k{H:Hp}{a:Addr}{kvs:List (Key×V)}{k:Key}{v:V}(e:H a=some (.dK kvs))(Y:kvs.length<V6):Bx H a (kV k) v (upd H a (.dK (putK kvs k v))):=.inl ⟨kvs,k,e,rfl,Y,rfl⟩
theorem Bx.t{H:Hp}{a b:Addr}{kvs:List (List Key×V)}{k:List Key}{v:V}(e:H a=some (.dT kvs))(B:H b=some (.tup (k.map kV)))(Y:kvs.length<V6) :
 Bx H a (.ref b) v (upd H a (.dT (putK kvs k v))):=.inr ⟨kvs,k,b,e,rfl,B,Y,rfl⟩
section
variable{X:Cx}{pins:List (Addr×Obj)}{σ:St}{H:Hp}{s:Shared}{a:Addr}{y v:V}{u r:Value}{o:Option V}{A:Around}{E:Value->Shared->Prop}
theorem Inv.big(I:Inv X pins σ H s):Y9<s.heap.objs.size:=by
 have h:Wv<s.heap.objs.size:=(I.mod.glob.keeps I.bk).lt;exact Nat.lt_trans (by decide) h
theorem GF{Q:Value->V0->Prop}(V:A.units+1<cLine)(I:Inv X pins σ H s)(g:oA H a y (some v))(J:RelV y u)(h:∀Y s',Inv X pins σ H s'->RelV v Y->Q Y s') :
  wpAny 1.12 A (aa_ (.ref a) u) Q E s:=by
 rcases g with⟨kvs,k,e,U,l⟩|⟨kvs,k,b,e,U,Z,l⟩
 .subst U
  obtain⟨z,hd,vs,rel,O⟩:=uJ I.hok e;obtain⟨Y,B,N⟩:=qy.some_of (v:=v) (o:=abL vs k) (by rw[l];exact rel.val k);exact wpAny_getItem_of (rA J) O.mapOf B (h Y _ (I.tok _) N)
 .subst U
  cases (show u=Wb b from J);obtain⟨z,hd,xs,rel,O⟩:=Av I.hok e;obtain⟨Y,B,N⟩:=qy.some_of (v:=v) (o:=(atKey xs k).map (·.2)) (by rw[l];exact rel.val k);obtain⟨p,F,q⟩:=acf.mp B;refine wpAny_getItem_heap (aan V) (uy I.hok Z) O F ?_;rw[q];exact h Y _ (I.tok _) N
theorem Vz{Q:Value->V0->Prop}(F:A.units+1<cLine)(I:Inv X pins σ H s)(g:oA H a y o)(J:RelV y u)(h:∀s',Inv X pins σ H s'->Q (.bool o.isSome) s') :
  wpAny 1.12 A (W8 .In u (.ref a)) Q E s:=by
 rcases g with⟨kvs,k,e,U,l⟩|⟨kvs,k,b,e,U,B,l⟩
 .subst U
  obtain⟨z,hd,vs,rel,O⟩:=uJ I.hok e;refine wpAny_in_of (rA J) hd O.mapOf ?_;rw[←(rel.val k).isSome_eq,←l];exact h _ (I.tok _)
 .subst U
  cases (show u=Wb b from J);obtain⟨z,hd,xs,rel,O⟩:=Av I.hok e;refine wpAny_in_heap (aan F) (uy I.hok B) hd O ?_;have q:=(rel.val k).isSome_eq;rw[abC]at q;rw[←q,←l];exact h _ (I.tok _)
theorem Oe{Q:Value->V0->Prop}(F:A.units+1<cLine)(I:Inv X pins σ H s)(g:oA H a y o)(J:RelV y u)(h:∀s',Inv X pins σ H s'->Q (.bool (!o.isSome)) s') :
  wpAny 1.12 A (W8 .NotIn u (.ref a)) Q E s:=by
 rcases g with⟨kvs,k,e,U,l⟩|⟨kvs,k,b,e,U,B,l⟩
 .subst U
  obtain⟨z,hd,vs,rel,O⟩:=uJ I.hok e;refine wpAny_notIn_of (rA J) hd O.mapOf ?_;rw[←(rel.val k).isSome_eq,←l];exact h _ (I.tok _)
 .subst U
  cases (show u=Wb b from J);obtain⟨z,hd,xs,rel,O⟩:=Av I.hok e;refine wpAny_notIn_heap (aan F) (uy I.hok B) hd O ?_;have q:=(rel.val k).isSome_eq;rw[abC]at q;rw[←q,←l];exact h _ (I.tok _)
theorem o6{h':Heap}{t':Nat}{ob:HO}(I:Inv X pins σ H s)(mu:Mut (H a))(hs:aah a s.heap h')(V:∃q,h'.get? a=some q)(new:cB X.prog X.w (upd H a ob) h' a ob) :
  Inv X pins σ (upd H a ob) {s with heap:=h',toks:=t'}:=
 I.write (x:=a) (e:=a) mu (.inl rfl) (λb q U z=>(hs.2 b U).trans z) V new
theorem yW{P:WY}{w:World}{H':Hp}{h':Heap}{kvs:List (Key×V)}{vs:List (Key×Value)}(z:kvs.length<=V6)(hd:(a==Y9)=false)(rel:KV kvs vs)(O:h'.DictOf (cg P w) a vs) :
 cB P w H' h' a (.dK kvs):=⟨z,hd,vs,rel,O⟩
theorem Ho{H':Hp}{Q:Unit->V0->Prop}(F:A.units+1<cLine)(I:Inv X pins σ H s)(g:Bx H a y v H')(J:RelV y u)(rv:RelV v r)(h:∀s',Inv X pins σ H' s'->Q () s') :
  wpAny 1.12 A (setItem (.ref a) u r) Q E s:=by
 rcases g with⟨kvs,k,e,ey,l,eH⟩|⟨kvs,k,b,e,ey,B,l,eH⟩
 .subst ey eH
  obtain⟨z,hd,vs,rel,dd⟩:=zE I.hok e;have O:vs.length<=V6:=by rw[←rel.length];exact z
  have Y:(putK kvs k v).length<=V6:=by have:=gq kvs k v;omega
  refine wpAny_setItem_pairs (hsz:=O) (rA J) dd λh' a0 hs=>h _ ?_;have V:∃q,h'.get? a=some q:=let⟨q,_,_,N,_⟩:=a0;⟨q,N⟩;exact o6 I (by rw[e];exact XM) hs V (yW Y hd (rel.put k rv) a0)
 .subst ey eH
  cases (show u=Wb b from J);obtain⟨z,hd,xs,rel,dd⟩:=Ux I.hok e;have O:xs.length<=V6:=by rw[←abp rel];exact z
  have Y:(putK kvs k v).length<=V6:=by have:=gq kvs k v;omega
  refine wpAny_setItem_heap (hsz:=O) (aan F) (uy I.hok B) dd λh' a0 hs=>h _ ?_;obtain⟨q,es,ep,N,h2,Z,U,_,h5⟩:=a0;refine o6 I (by rw[e];exact XM) hs ⟨q,N⟩ ⟨Y,hd,_,(rel.put k B rv).keeps λc ys ec=>?_,q,es,ep,N,h2,Z,U,h5⟩;rw[aK (E_ ec e (λz=>nomatch z))];exact ec
end
section
variable{X:Cx}{pins:List (Addr×Obj)}{σ:St}{H:Hp}{s:Shared}{a:Addr}{kvs:List (Key×V)}{k:Key}{u:Value}{A:Around}{E:Value->Shared->Prop}
theorem UL{Q:Value->V0->Prop}(I:Inv X pins σ H s)(e:Rd H a (.dK kvs))(h:∀t s',Inv X pins σ H s'->Q (.int kvs.length t) s'):wpAny 1.12 A (call (.builtin "len") [.ref a]) Q E s:=by
 obtain⟨z,hd,vs,rel,O⟩:=uJ I.hok e;refine call_len_dict hd O (by rw[←rel.length];rw[ZG]at z;omega) ?_;rw[←rel.length];exact h _ _ (I.tok _)
end
theorem zN{X:Cx}{pins:List 1.23}{σ:St}{H:Hp}{s:V0}{a:Addr}{y:V}{o:Option V}(I:Inv X pins σ H s)(g:oA H a y o):s.TypeIs (.ref a) "dict":=by
 rcases g with⟨kvs,k,e,_,_⟩|⟨kvs,k,b,e,_,_,_⟩
 .obtain⟨_,_,vs,_,dd⟩:=uJ I.hok e
  exact dd.typeIs
 .obtain⟨_,_,xs,_,dd⟩:=Av I.hok e
  exact dd.typeIs
theorem uH{P:WY}{w:World}{H:Hp}(h:Heap)(U:Y9<h.objs.size):cB P w H (h.push {cls:=.type "dict",data:=.dict #[]}) h.objs.size (.dK []):=
 ⟨Ym _,beq_eq_false_iff_ne.mpr (WW (Wj U)),[],.nil,ab5 h⟩
def R5:TE:=λ_ H Q=>∀p,H p=none->Q (.ref p) (upd H p (.dK []))
section
variable{X:Cx}{pos:Pos}
theorem Ie:PE X (.Dict [] [] pos) R5:=λpins s σ H Q I h=>
 wpAny_Dict_empty ⟨.ref s.heap.objs.size,_,I.laid (a:=s.heap.objs.size) (o:=.dK []) (t':=s.toks) (λ_ _ q=>V2 _ q) (Wa _) (uH s.heap I.big),rfl,h _ (I.hok.fresh (Wa _))⟩
end
def xK:List (TE×TE)->St->Hp->(List (V×V)->Hp->Prop)->Prop
 |[],_,H,Q=>Q [] H
 |(tk,tv)::r,σ,H,Q=>tk σ H λx H1=>tv σ H1 λy H2=>xK r σ H2 λps Y=>Q ((x,y)::ps) Y
abbrev VV:List (V×V)->List (Value×Value)->Prop:=abN λp q=>RelV p.1 q.1/\RelV p.2 q.2
def PPs(X:Cx)(pos:Pos)(keys:List (Option Expr))(J:List Expr)(Z:List (TE×TE)):Prop:=
 ∀(pins:List 1.23)(s:V0)(σ:St)(H:Hp)(Q:List (V×V)->Hp->Prop),Inv X pins σ H s->xK Z σ H Q->
  wpAny 1.12 X.A (evalPairs (pairTrees keys J X.env pos)) (λvs s'=>∃ps H',Inv X pins σ H' s'/\VV ps vs/\Q ps H') X.xe s
theorem Ov{X:Cx}{pos:Pos}:PPs X pos [] [] []:=λpins s σ H Q I h=>pairTrees_nil_walk ⟨[],H,I,.nil,h⟩
theorem Kq{X:Cx}{pos:Pos}{k v:Expr}{ks:List (Option Expr)}{vs:List Expr}{tk tv:TE}{Z:List (TE×TE)}(B:PE X k tk)(N:PE X v tv)(O:PPs X pos ks vs Z) :
  PPs X pos (some k::ks) (v::vs) ((tk,tv)::Z):=λpins s σ H Q I h=>
 pairTrees_cons_walk (thn (B pins s σ H _ I h) λu U ⟨x,H1,F,rx,q1⟩=>thn (N pins U σ H1 _ F q1) λq s2 ⟨y,H2,I2,J,q2⟩=>
  thn (O pins s2 σ H2 _ I2 q2) λws s3 ⟨ps,Y,V,rel,q3⟩=>⟨(x,y)::ps,Y,V,.cons ⟨rx,J⟩ rel,q3⟩)
def l_(kvs more:List (Key×V)):List (Key×V):=more.foldl (λacc N=>putK acc N.1 N.2) kvs
theorem KV.merge:∀{more:List (Key×V)}{F:List (Key×Value)}{kvs:List (Key×V)}{vs:List (Key×Value)},KV more F->KV kvs vs->KV (l_ kvs more) (merged vs F):=by
 intro more F kvs vs r;unfold KV at r
 induction r generalizing kvs vs with
 |nil=>intro q;exact q
 |@cons p q ps B h t O=>
  intro I;have e:KV (putK kvs p.1 p.2) (stored vs q.1 q.2):=by
   have:=I.put p.1 h.2;rw[←h.1];exact this
  exact O e
theorem nH:∀(more kvs:List (Key×V)),(l_ kvs more).length<=kvs.length+more.length
 |[],kvs=>by show kvs.length<=kvs.length+0;omega
 |p::r,kvs=>by
  have h1:=nH r (putK kvs p.1 p.2);have h2:=gq kvs p.1 p.2;show(l_ (putK kvs p.1 p.2) r).length<=_;rw[WK];omega
theorem uD{P:WY}{w:World}:∀{kvs:List (Key×V)}{Y:List (Value×Value)},VV (kvs.map λN=>(kV N.1,N.2)) Y->∃F,Carries (cg P w) Y F/\KV kvs F
 |[],_,r=>by rw[Xi]at r;cases r;exact⟨[],XM,.nil⟩
 |p::kvs,_,r=>by
  rw[V7]at r;cases r with
  |@cons a b B bs h t=>
   obtain⟨F,c,q⟩:=uD (P:=P) (w:=w) t;obtain⟨I,J⟩:=b;exact⟨(p.1,J)::F,⟨rA h.1,rfl,c⟩,.cons ⟨rfl,h.2⟩ q⟩
def Qa(Z:List (TE×TE)):TE:=λσ H Q=>∀p,H p=none->xK Z σ (upd H p (.dK [])) λps H2=>H2 p=some (.dK [])/\∃kvs:List (Key×V),ps=kvs.map (λN=>(kV N.1,N.2))/\kvs.length<=15/\Q (.ref p) (upd H2 p (.dK (l_ [] kvs)))
theorem Mg{X:Cx}{pos:Pos}{keys:List (Option Expr)}{J:List Expr}{Z:List (TE×TE)}(h:PPs X pos keys J Z)(a0:keys.all (·.isSome)=true)(Y:keys.length=J.length)(N:keys≠[])
  (a1:keys.length<=15):PE X (.Dict keys J pos) (Qa Z):=by
 intro pins s σ H Q I q;have hn:=I.hok.fresh (Wa s.heap.objs.size);have F:=I.laid (a:=s.heap.objs.size) (o:=.dK []) (h':=s.heap.push {cls:=.type "dict",data:=.dict #[]}) (t':=s.toks) (λ_ _ q=>V2 _ q) (Wa _) (uH s.heap I.big);refine wpAny_Dict_walk (knd:=cg X.prog X.w) a0 Y N a1 (thn (h pins _ σ _ _ F (q _ hn)) λws B ⟨ps,H2,I2,rel,e,kvs,ep,lk,q2⟩=>?_);subst ep;obtain⟨rs,c,rk⟩:=uD (P:=X.prog) (w:=X.w) rel;obtain⟨z,hd,a2,r0,dd⟩:=zE I2.hok e;cases r0;refine⟨rs,c,dd,λh' U hs=>⟨.ref s.heap.objs.size,_,?_,rfl,q2⟩⟩;have O:(l_ [] kvs).length<=V6:=by
  have h1:=nH kvs [];rw[Xe]at h1;rw[ZG];omega
 have V:∃q,h'.get? s.heap.objs.size=some q:=let⟨q,_,_,hq,_⟩:=U;⟨q,hq⟩;exact o6 I2 (by rw[e];exact XM) hs V (yW O hd (rk.merge .nil) U)
end L2
namespace Att
open PySem PySem.W PySem.Calls PyProof.Rows
theorem sG{P:Params}{h:Heap}:∀(ns:List Int)(vs:List Value),WellAll P h vs (ns.map WData.int)->ado vs ns:=by
 intro ns
 induction ns with
 |nil=>
  intro vs w;rw[Xi]at w;cases w;exact .nil
 |cons n ns O=>
  intro vs w;rw[V7]at w;cases w with
  |cons a b=>
   cases a;exact .cons _ _ (O _ b)
theorem GD{l:OpenLaw}{n:Nat}(hn:l.most=some n){P:Params}{h:Heap}{args:List WData}{O:List Value}
  (B:l.row.toRowW.claim.pre args=true) (J:WellAll P h O args) :
  ∃a vs ns,O=[Wb a]/\args=[WData.list (ns.map WData.int)]/\h.get? a=some {cls:=.type "list",data:=.seq vs.toArray}/\ado vs ns/\ns.length<=n:=by
 have a0:WShape.hasAll [] args [.list .int]=true:=(pre_splitW B).1;have Z:l.pre.holds [] {args:=args}=true:=(pre_splitW B).2;obtain⟨d,r,rfl,h1,h2⟩:=hasAllW_cons a0;obtain rfl:=hasAllW_nil h2;obtain⟨xs,rfl,h3⟩:=hasW_list h1;obtain⟨ns,rfl⟩:=items_int h3;have U:ns.length<=n:=by
  unfold OpenLaw.pre at Z;have h4:(WTm.not (.lt (.lit (.int (n:Int))) (.len (.arg 0)))).holds [] {args:=[.list (ns.map .int)]}=true:=by
   have h4:=(holds_andW Z).1;rw[hn]at h4;exact h4
  have V:=condW_of h4 (w_not (w_lt w_lit (w_len_list (w_arg rfl))));rw[Wc]at V;refine Nat.le_of_not_lt λq=>?_;have Y:(n:Int)<((ns.length:Nat):Int):=by omega
  first
   |(rw[XJ Y]at V;exact absurd V (by decide))
   |(simp at V;omega)
 cases J with
 |cons F w2=>
  cases w2;cases F with
  |list N I=>exact⟨_,_,ns,rfl,rfl,N,sG ns _ I,U⟩
theorem Gq(l:OpenLaw)(args:List WData):l.row.toRowW.claim.post args (.bool true) args=true:=
 postW_of (r:=l.row.toRowW) (X:=(true==true))
  (show WShape.has [] (.bool true) .bool=true by first|rfl|decide|simp[WShape.has,WShape.arms,WShape.armsAll])
  (show(WTm.eq .res (.lit (.bool true))).value [] {args:=args,res:=some (.bool true),after:=args}=some (.bool (true==true))from w_eq_bool (w_res rfl) w_lit) rfl
theorem attach_call{l:OpenLaw}{n:Nat}{q:WY}{a1:List Str}{XP:(Str->Option Value)->Heap->Prop}{YP:World->Heap->Prop}{d:DefRec}
  (hn:l.most=some n) (a7:d.params.defaults=[])
  (call:∀(w:World)(s₀ a0:V0)(mg mb:Str->Option Value)(fa:Addr)(o:Obj)(V cd O:Value)(a:Addr)(vs:List Value)(ns:List Int),
   Ground q a1 [] XP w s₀ mg mb a0.heap->YP w a0.heap->
   a0.heap.get? fa=some o->o.data= .func (docDef d.name d.params d.body d.scope V cd O)->a0.heap.CodeRec cd d.name->mg d.name=some (.ref fa)->
   a0.heap.get? a=some {cls:=.type "list",data:=.seq vs.toArray}->ado vs ns->ns.length<=n->a0.gens= #[]->
   Zw (model l.prog w) abM (.call (.ref fa) ⟨[.ref a],[]⟩) (λr s'=>r= .ok (.ret (.bool true))/\OldK a0.heap s'.heap/\s'.os=a0.os/\aaS s'.gens) a0) :
  WalkO q a1 XP YP l.row.toRowW d [] (λf vs=>adR f vs):=by
 intro w s₀ a0 mg mb G Y fa o V cd O dV kV N hd B I a5 hg args a8 F a3 a9 b1 a6 b0;obtain rfl:dV= .none:=Dflts.none I a7;obtain rfl:kV= .none:=Dflts.noKw I;obtain⟨a,vs,ns,rfl,rfl,a4,a2,U⟩:=GD hn a3 a6;refine enter_call (abP (call w s₀ a0 mg mb fa o V cd O a vs ns G Y N (fd_plain hd) B a5 a4 a2 U hg) λr s' hq=>?_);obtain⟨rfl,h2,Z,h4⟩:=hq;exact⟨.inl ⟨.bool true,.bool true,[],rfl,λ_=>rfl,.bool true,Gq l _,λ_=>⟨ady,λ_ J=>(nomatch J)⟩⟩,h2,Z,h4⟩
end Att
namespace L2
open PySem PySem.Spec PyProof.Rows
theorem wF:∀{vs:List Value}{ns:List Int},ado vs ns->Vals (ns.map V.int) vs
 |_,_,.nil=>.nil
 |_,_,.cons n t h=>.cons ⟨t,rfl⟩ (wF h)
def Only(H:Hp):Prop:=∀b,H b=none∨∃o xs,H b=some (.frz o (.lst xs))
theorem JX{P:WY}{w:World}{K:V8}{mg mb:Str->Option Value}{CX:CXT}{k:Nat}{fa a:Addr}{fd:Xq}{x:Str}{sp:Sp}{J:V0}{vs:List Value}{ns:List Int}
  (KX:K.In J.heap) (Z:J.heap.Ns Wv mg) (U:J.heap.Ns builtinsNs mb) (b0:∀x:Str,x≠"__name__"->mb x=Yi x) (a5:J.heap.NoLimit) (hg:J.gens= #[])
  (Y:J.heap.get? a=some {cls:=.type "list",data:=.seq vs.toArray}) (hi:ado vs ns) (hl:ns.length<=V6) (O:je k abM)
  (F:∀base:Heap,K.In base->base.Ns Wv mg->gJ P w K mg base CX k fa fd [x] sp) (a3:∀(s:V0)(u:Value),acs s fd ⟨[u],[]⟩ [(x,u)])
  (a9:∀H:Hp,Only H->SqL K H a (ns.map V.int)->sp [.ref a] H (λv _=>v= .bl true) λ_ _ _=>False)
  (a8:∀H e s',CX [] H J (λ_ _ _=>False) e s'->False) :
  Zw (model P w) abM (.call (.ref fa) ⟨[.ref a],[]⟩) (λr s'=>r= .ok (.ret (.bool true))/\OldK J.heap s'.heap/\s'.os=J.os/\aaS s'.gens) J:=by
 have rv:=wF hi;have a7:=hi.length;have a2:∀H:Hp,Only H->SqL K H a (ns.map V.int)->HOk P w H J.heap->(∀b,H b≠none->b=a)->(H a≠none->K.lookup a=none)->
   Zw (model P w) abM (.call (.ref fa) ⟨[.ref a],[]⟩) (λr s'=>r= .ok (.ret (.bool true))/\OldK J.heap s'.heap/\s'.os=J.os/\aaS s'.gens) J:=by
  intro H hO hS hok hA I;have a0:∀{b:Addr}{o:Obj},J.heap.get? b=some o->H b=none->(yV J.heap H).get? b=some o:=λe n=>KZ e n;have b1:∀{b:Addr}{o:Obj}{es:Array DictEntry}{ep:Nat},J.heap.get? b=some o->o.data= .dict es ep->H b=none:=λ{b o es ep} e d=>by
   cases q:H b with
   |none=>rfl
   |some u=>
    have N:b=a:=hA b (by rw[q];simp);subst N;rw[Y]at e;cases e;have d':Data.seq vs.toArray _=Data.dict es ep:=d;cases d'
  have a1:∀{b:Addr}{m:Str->Option Value},J.heap.Ns b m->(yV J.heap H).Ns b m:=λ{b m}⟨o,es,ep,e,d,r⟩=>⟨o,es,ep,a0 e (b1 e d),d,r⟩;have a4:K.In (yV J.heap H):=λb o e=>a0 (KX b o e) (by
   cases q:H b with
   |none=>rfl
   |some u=>
    have N:b=a:=hA b (by rw[q];simp);subst N;rw[I (by rw[q];simp)]at e;cases e)
  have hM:Mod K mg (yV J.heap H):=⟨a4,a1 Z,⟨mb,a1 U,b0⟩,let⟨mc,h1,h2⟩:=a5;⟨mc,a1 h1,h2⟩⟩;have e0:Mm P w K mg (yV J.heap H) abM [] J H:=⟨rfl,hM,λb o e=>Ot e,Nat.le_of_eq (Gi _ _),trivial,λb U=>absurd (show b∈([]:List Addr)from U) (by simp),hok,.of_eq hg⟩;refine abP ((F _ a4 (a1 Z)).run abM [] J H ⟨[.ref a],[]⟩ [.ref a] [.ref a] _ _ O e0 (a3 J (.ref a)) (.cons rfl .nil) (a9 H hO hS)) λr s' h=>?_;cases r with
  |error e=>exact(a8 H e s' h).elim
  |ok fl=>
   cases fl with
   |next=>exact Y_ h
   |brk=>exact Y_ h
   |cont=>exact Y_ h
   |ret u=>
    obtain⟨v,H',os,bare,un,a6,r',q⟩:=h;have q':v= .bl true:=q;subst q';obtain rfl:u=W9 true:=r';refine⟨rfl,OldK.of_keep λb o e=>?_,os,bare⟩;cases q:H b with
    |none=>exact un.keep b o e q (by intro z;exact absurd (show b∈([]:List Addr)from z) (by simp)) (by simp)
    |some u=>
     rcases hO b with z|⟨ob,xs,z⟩
     .rw[q]at z;cases z
     .have z2:=un.frzs b ob _ z
      obtain⟨e1,_⟩:=hok b _ z;obtain⟨e2,_⟩:=a6 b _ z2;rw[e]at e1;cases e1;exact e2
 cases B:K.lookup a with
 |some o=>
  have e:=KX a o B;rw[Y]at e;cases e;refine a2 (λ_=>none) (λ_=>.inl rfl) (.inr ⟨_,vs.toArray,_,B,rfl,rfl,rfl,by rw[List.size_toArray,a7];exact hl,by simpa using rv⟩) (λb u z=>by have z':(none:Option HO)=some u:=z;cases z') (λb z=>absurd rfl z) λz=>absurd rfl z
 |none=>
  refine a2 (λb=>if b=a then some (.frz {cls:=.type "list",data:=.seq vs.toArray} (.lst (ns.map V.int)))else none) (λb=>?_) (.inl (.inr ⟨{cls:=.type "list",data:=.seq vs.toArray},Wd rfl⟩)) (λb u z=>?_) (λb z=>?_) λ_=>B
  .by_cases U:b=a
   .exact .inr ⟨_,_,Wd U⟩
   .exact .inl (Wo U)
  .by_cases U:b=a
   .have z':=(Wd U).symm.trans z
    cases z';subst U;exact⟨Y,by rw[Wc];exact hl,vs,_,rv,Y⟩
   .have z':=(Wo U).symm.trans z
    cases z'
  .by_cases U:b=a
   .exact U
   .exact absurd (Wo U) z
theorem walk_of{l:ab6}{n k:Nat}{q:WY}{I:List Str}{XP:(Str->Option Value)->Heap->Prop}{YP:World->Heap->Prop}{d:DefRec}{K:Params->V8}{CX:World->CXT}{sp:World->Sp}{x:Str}
  (hn:l.most=some n) (a5:n<=V6) (a7:d.params.defaults=[]) (O:je k abM)
  (hY:∀(w:World)(h:Heap),YP w h->(K w.params).In h)
  (F:∀(w:World)(mg:Str->Option Value)(fa:Addr)(h:Heap),(K w.params).In h->h.Ns Wv mg->mg d.name=some (.ref fa)->
   ∃fd:Xq,(∀(s:V0)(u:Value),acs s fd ⟨[u],[]⟩ [(x,u)])/\
    ∀base:Heap,(K w.params).In base->base.Ns Wv mg->gJ l.prog w (K w.params) mg base (CX w) k fa fd [x] (sp w))
  (a4:∀(w:World)(H:Hp)(a:Addr)(ns:List Int),ns.length<=n->Only H->SqL (K w.params) H a (ns.map V.int)->sp w [.ref a] H (λv _=>v= .bl true) λ_ _ _=>False)
  (a3:∀(w:World)(H:Hp)(s:V0)(e:Value)(s':V0),CX w [] H s (λ_ _ _=>False) e s'->False) :
  ad8 q I XP YP l.row.toRowW d [] (λf vs=>adR f vs):=by
 refine Att.attach_call hn a7 λw s₀ J mg mb fa o pm cd a8 a vs ns G Y N hd B a6 a2 a1 a0 hg=>?_;have KX:=hY w _ Y;obtain⟨fd,U,hF⟩:=F w mg fa _ KX G.T.g a6;exact JX KX G.T.g G.T.b G.T.builtins G.T.nolimit hg a2 a1 (Xu a0 a5) O hF U (λH hO Z=>a4 w H a ns a0 hO Z) λH e s'=>a3 w H J e s'
def dm(s:Stmt):Arguments:=match s with
 |.FunctionDef _ a _ _ _ _ _ _ _ _=>a
 |_=>{posonlyargs:=[],args:=[],vararg:=none,kwonlyargs:=[],kw_defaults:=[],kwarg:=none,defaults:=[]}
def cG(s:Stmt):List Stmt:=match s with
 |.FunctionDef _ _ b _ _ _ _ _ _ _=>b
 |_=>[]
def aL(s:Stmt):Scope:=match s with
 |.FunctionDef _ _ _ _ _ _ F _ _ _=>F
 |_=>{kind:=.function,names:=[],isGenerator:=false,isCoroutine:=false}
abbrev CX0:CXT:=λ_ _ _ _ _ _=>False
abbrev E0:XK:=λ_ _ _=>False
theorem Ud{X:Cx}:Dj CX0 X E0:=λ_ _ _ _ _ _ _ h=>h.elim
structure Fun(K:PySem.W.Frag)(x qual:Str)(st:Stmt)(f:Addr)(fd:FuncData):Prop where
 ex:∃(oc:Value)(od:Option Addr)(kV doc pm:Value)(an:Option Addr)(cdv ct:Value)(osl:Array (Option Value)),
  fd=aak x qual (dm st) (cG st) (aL st) .none kV doc pm an cdv ct/\K.lookup f=some ⟨oc,od,.func fd,osl⟩/\acu K cdv qual=true
 kp:aa9 K (.ref f)=true
section
variable{P:Program}{w:World}{K:PySem.W.Frag}{mg:Str->Option Value}{base:Heap}
theorem Fun.ok{x Z:Str}{st:Stmt}{f:Addr}{fd:Xq}{N ps:List Str}{k:Nat}{sp:Sp}(F:Fun K x Z st f fd)(S:di N ps (aL st))(len:∀vs H Q E,sp vs H Q E->vs.length=ps.length)
  (a0:∀(J:Value)(A:Xk)(outer:List Env)(s:V0)(H:Hp)(vs:List V)(Q:VK)(E:XK),je k (A.deeper (aaC Z (aL st) s.heap.objs.size f J))->sp vs H Q E->
   ∃t,PSs (Bd CX0 P w K mg base N Z (aL st) f J A outer s H E).nox (cG st) t/\t {nx:=λ_ H'=>Q .non H',rt:=Q} (start N vs) H):gJ P w K mg base CX0 (k+1) f fd ps sp:=by
 obtain⟨U,Y,kV,a1,pm,an,J,ct,a2,rfl,lk,B⟩:=F.ex;refine T5 lk B S len λA outer s H vs Q E O I=>?_;obtain⟨t,h,q⟩:=a0 J A outer s H vs Q E O I;exact⟨t,h.nox,q⟩
theorem Fun.binds{x Z:Str}{st:Stmt}{f:Addr}{fd:Xq}{ps:List Str}(F:Fun K x Z st f fd)
  (h:∀(kV O V:Value)(I:Option Addr)(J ct:Value)(us:List Value),us.length=ps.length->bindArgs (aak x Z (dm st) (cG st) (aL st) .none kV O V I J ct) ⟨us,[]⟩=pure (ps.zip us)):Binds K fd ps []:=by
 obtain⟨U,Y,kV,O,V,I,J,ct,q,rfl,N,B⟩:=F.ex;exact .all (h kV O V I J ct)
theorem iM{x Z:Str}{st:Stmt}{f:Addr}{U:Value}{Y I:Option Addr}{q:Array (Option Value)}{kV O V J ct:Value}(l:K.lookup f=some ⟨U,Y,.func (aak x Z (dm st) (cG st) (aL st) .none kV O V I J ct),q⟩)
 (c:acu K J Z=true) (k:aa9 K (.ref f)=true):Fun K x Z st f (aak x Z (dm st) (cG st) (aL st) .none kV O V I J ct):=⟨⟨U,Y,kV,O,V,I,J,ct,q,rfl,l,c⟩,k⟩
end
section
variable{X:Cx}
theorem pv(i:Nat){x:Str}{pos:Pos}(U:X.N[i]? =some x:=by rfl)(q:Vis X.env.scope x:=by first|exact Yk rfl|exact Xv (Yk rfl)|exact Xv (Xv rfl))(hd:1.20=false:=by decide)
 (B:(x==("__classdict__":Str))=false:=by decide):PE X (.Name x pos) (By i):=Km U q hd B
end
theorem vU{A B:Prop}(h:B):if false=true then A else B:=by
 rw[Wo WL];exact h
theorem qw{A B:Prop}(h:A):if true=true then A else B:=by
 rw[Wd rfl];exact h
def Same(H H':Hp):Prop:=∀b o,H b=some o->H' b=some o
theorem Same.refl(H:Hp):Same H H:=λ_ _ h=>h
theorem Same.trans{H H1 H2:Hp}(a:Same H H1)(b:Same H1 H2):Same H H2:=λc o h=>b c o (a c o h)
theorem Same.free{H H':Hp}(e:Same H H'){l:Addr}(h:H' l=adI):H l=adI:=by
 cases q:H l with
 |none=>rfl
 |some o=>
  rw[e l o q]at h;cases h
theorem Same.seq{K:V8}{H H':Hp}{a:Addr}{xs:List V}(e:Same H H')(h:SqL K H a xs):SqL K H' a xs:=by
 rcases h with(h|⟨o,h⟩)|h
 .exact .inl (.inl (e _ _ h))
 .exact .inl (.inr ⟨o,e _ _ h⟩)
 .exact .inr h
section
variable{X:Cx}
theorem GZ:cY X (.builtin "len") (λxs H Q=>∃a kvs,xs=[V.ref a]/\H a=some (.dK kvs)/\Q (.int kvs.length) H):=by
 show 6;obtain⟨a,kvs,rfl,Y,q⟩:=h;obtain⟨u,rfl,U⟩:=vals1 r;cases U;exact UL I (.inl Y) λt s' B=>⟨.int kvs.length,H,B,⟨t,rfl⟩,q⟩
end
end L2
set_option maxHeartbeats 4000000
namespace Jb
open PySem PySem.Spec PyProof.Rows L2
structure Cal(P:Program)(w:World)(K:PySem.W.Frag)(mg:Str->Option Value)(base:Heap)(k:Nat)(x:Str)(ps:List Str)(sp:Sp):Prop where
 ex:∃f fd,gJ P w K mg base CX0 k f fd ps sp/\mg x=some (.ref f)/\aa9 K (.ref f)=true/\Binds K fd ps []
section
variable{X:Cx}{e:Expr}{es:List Expr}{t:TA}{p pos:Pos}{a b:Expr}{ta tb:TE}
theorem Jx{k:Nat}{x:Str}{ps:List Str}{sp:Sp}(C:Cal X.prog X.w X.K X.mg X.base k x ps sp)(O:je k X.A)(q:Gl X x)(Y:PA X (e::es) t)
  (Z:1.20=false:=by decide) (V:We (e::es) X.env=(false,eval e X.env)::We es X.env:=by rfl) (I:(Yj pos (We es X.env)).any (·.1)=false:=by rfl) :
  PE X (.Call (.Name x p) (e::es) [] pos) (O8 sp [] E0 t):=by
 obtain⟨f,fd,F,J,B,U⟩:=C.ex;exact O4 F O q J B U .nil Ud Y Z V I
theorem Sx{x:Str}{n:String}(q:Gl X x)(J:X.mg x=none)(N:Yi x=some (.type n))(hn:x≠"__name__":=by decide)(hd:1.20=false:=by decide):PE X (.Name x pos) (tC (.ty n)):=
 Mh q J N rfl hn hd
def UW(_ j:Int):Prop:=0<j/\j<18446744073709551616
theorem Jf:OpR X (X6 .FloorDiv) (rI UW λi j=>.int (i / j)):=opI λi j _ _ _ _ _ Z q=>by
 have h1:(0:Int)<j:=Z.1;have h2:j<18446744073709551616:=Z.2;have B:j.natAbs<2 ^ 64:=by omega
 have U:j.natAbs≠0:=by omega
 have V:j.natAbs.log2<64:=(Nat.log2_lt U).mpr B;exact floordiv_int 1.10 (by rw[Int.fdiv_eq_ediv_of_nonneg i 1.10];exact q) (.inl (PyProof.noPylong_of_log2 1.10))
theorem Ah:cY X (.builtin "isinstance") (λxs H Q=>∃x n t b,xs=[x,.ty n]/\lN X.K H x t/\aa8 X.K t (.type n)=some b/\Q (.bl b) H):=by
 show 6;obtain⟨x,n,t,b,rfl,F,e,q⟩:=h;obtain⟨u,Y,rfl,U,Z⟩:=vals2 r;cases Z;exact Hr I U F e λtk=>⟨.bl b,H,I.tok tk,rfl,q⟩
end
theorem Same.new{q:Addr}{H:Hp}{o:HO}(h:H q=none):Same H (L2.upd H q o):=λb u e=>by rw[aK (aO e h)];exact e
theorem CG{α β:Type}{l:List α}{f:α->β->Sem (ForInStep β)}(g:β->α->β):∀(q:β),(∀x∈l,∀c,f x c=pure (.yield (g c x)))->forIn l q f=pure (l.foldl g q):=by
 induction l with
 |nil=>intro q _;rfl
 |cons x r O=>
  intro q h;rw[ab7,h x WR q];show(pure (Y0 (g q x)) >>=_)=_;rw[pure_bind];exact O (g q x) λy V c=>h y (Ws _ V) c
def nG(env:Env)(q:List (Str×Addr))(y:Str×aaj):List (Str×Addr):=if y.2== .free then(y.1,(env.cells.lookup y.1).getD 0)::q else q
def n6(scope:Scope)(env:Env):List (Str×Addr):=scope.names.foldl (nG env) []
theorem iR{scope:Scope}{env:Env}(h:∀y∈scope.names,y.2= .free->∃c,env.cells.lookup y.1=some c):closureFor scope env=pure (n6 scope env):=by
 unfold closureFor;dsimp only;rw[CG (nG env) [] λy V c=>?_]
 .rw[pure_bind]
  rfl
 .obtain⟨n,k⟩:=y
  unfold nG;dsimp only;by_cases B:(k==aaJ)=true
  .rw[Wd B,Wd B]
   obtain⟨a,Y⟩:=h (n,k) V (by simpa using B);have Y:env.cells.lookup n=some a:=Y;unfold cellOf;rw[Y];rfl
  .rw[Wo B,Wo B]
theorem v6{env:Env}(R:Str->Addr->Prop):∀(l:List (Str×aaj))(acc:List (Str×Addr)),(∀x c,acc.lookup x=some c->R x c)->(∀y∈l,y.2= .free->R y.1 ((env.cells.lookup y.1).getD 0))->
  ∀x c,(l.foldl (nG env) acc).lookup x=some c->R x c
 |[],acc,h,_=>h
 |y::r,acc,h,hy=>by
  refine v6 R r (nG env acc y) (λx c e=>?_) λz O=>hy z (Ws _ O);unfold nG at e;split at e
  .rename_i hk
   rw[ZZ]at e;cases J:(x==y.1)with
   |true=>
    rw[J]at e;have ex:x=y.1:=by simpa using J
    cases e;rw[ex];exact hy y WR (by simpa using hk)
   |false=>
    rw[J]at e;exact h x c e
  .exact h x c e
theorem qY{env:Env}:∀(l:List (Str×aaj))(acc:List (Str×Addr))(x:Str),((∃c,acc.lookup x=some c)∨(x,aaJ)∈l)->∃c,(l.foldl (nG env) acc).lookup x=some c
 |[],acc,x,h=>by
  rcases h with h|h
  .exact h
  .cases h
 |y::r,acc,x,h=>by
  refine qY r (nG env acc y) x ?_;rcases h with⟨c,h⟩|h
  .left
   unfold nG;split
   .rw[ZZ]
    cases J:(x==y.1)with
    |true=>exact⟨_,rfl⟩
    |false=>exact⟨c,h⟩
   .exact⟨c,h⟩
  .rcases V5.mp h with e|e
   .left
    unfold nG;subst e;rw[Wd (by rfl),ZZ,show(x==x)=true by simp];exact⟨_,rfl⟩
   .exact .inr e
def bj(X:Cx)(N':List Str)(scope:Scope)(C:Addr)(Y:V0)(q:Hp)(fp:List Addr):Cx:=
 {X with N:=N',s₀:=Y,H₀:=q,env:=compEnvC scope (n6 scope X.env) C X.env,outer:=X.stack,stack:=X.stack,ex:=fp,fn:=λ_=>false,pn:=[],xe:=λ_ _=>False}
def eV(cap:List (Option Nat))(σ:L2.St):L2.St:=cap.map λo=>o.bind λj=>(σ[j]?).bind id
structure bZ(sc:Scope)(N N':List Str)(scope:Scope)(cap:List (Option Nat)):Prop where
 kind:scope.kind= .function
 nocell:∀y∈scope.names,y.2≠.cell
 nm:∀y∈scope.names,y.2= .local->scope.names.lookup y.1=some .local
 free:∀y∈scope.names,y.2= .free->sc.names.lookup y.1=some .cell∨sc.names.lookup y.1=some .free
 len:cap.length=N'.length
 cap:∀i∈WD cap.length,∀j∈WD N.length,cap[i]? =some (some j)->N[j]? =N'[i]?/\∀x∈N'[i]?,scope.names.lookup x=some .free
theorem my{α:Type}{l:List (Str×α)}{x:Str}{k:α}(h:l.lookup x=some k):(x,k)∈l:=YH h
theorem pP{scope:Scope}{env:Env}{x:Str}{k:aaj}(B:(adp scope env).names.lookup x=some k)(I:k= .cell∨k= .free)(F:∀y∈scope.names,y.2≠.cell):(x,aaJ)∈scope.names:=by
 have h:=my B;obtain⟨⟨n,q⟩,J,e⟩:=V4.mp h;dsimp only at e;split at e
 .rename_i hc
  cases e;have:q= .free:=by
   have:=(acI.mp (acI.mp hc).1).1;simpa using this
  subst this;exact J
 .cases e
  rcases I with z|z
  .subst z;exact absurd rfl (F _ J)
  .subst z;exact J
section
variable{X:Cx}{pins:List (Addr×Obj)}{σ:L2.St}{H:Hp}{s:Shared}{scope:Scope}{N':List Str}{cap:List (Option Nat)}{fp:List Addr}{C:Addr}
theorem iT(I:Inv X pins σ H s)(O:bZ X.env.scope X.N N' scope cap){x:Str}{c:Addr}(h:(n6 scope X.env).lookup x=some c):X.env.cells.lookup x=some c:=by
 refine v6 (λx c=>X.env.cells.lookup x=some c) scope.names [] (λx c e=>by simp at e) (λy V B=>?_) x c h;obtain⟨c,e⟩:=I.ok.has y.1 (O.free y V B);rw[e];rfl
theorem Nh(I:Inv X pins σ H s)(O:bZ X.env.scope X.N N' scope cap)(Z:∀b∈fp,jd X pins H b)(V:∀b∈fp,b<s.heap.objs.size)(B:s.heap.objs.size<=C):(bj X N' scope C s H fp).Ok where
 mod:=I.ok.mod
 kind:=O.kind
 glob:=I.ok.glob
 blt:=I.ok.blt
 above:=B
 inj:=λx y c h1 h2=>I.ok.inj x y c (iT I O h1) (iT I O h2)
 has:=λx h=>by
  refine qY scope.names [] x (.inr ?_);rcases h with h|h
  .exact pP h (.inl rfl) O.nocell
  .exact pP h (.inr rfl) O.nocell
 cab:=λx c h _=>by cases h
 hd:=I.ok.hd
 frames:=I.ok.frames
 stk:=.inl rfl
 exf:=λb U=>⟨Wj (Wg (V b U) B),λx c e=>(Z b U).2.2.2.2.1 x c (iT I O e)⟩
 bs:=I.bs
 bsz:=Xu I.ok.bsz I.sz
 noex:=λb o e U=>by
  rcases(Z b U).2.2.2.1 with z|z
  .exact I.ok.noex b o e z
  .exact absurd (Wg (V_ (I.ok.bs b o e).1) z) (XF _)
 exfs:=λb U z=>by
  rcases V5.mp (I.stkSub b z)with q|q
  .exact(Z b U).2.1 q
  .exact(Z b U).2.2.1 q
 funs:=I.stack
 frf:=I.stkFree
theorem zf{a0:Heap}{tk:Nat}{D:Addr}{o:Obj}(I:Inv X pins σ H s)(O:bZ X.env.scope X.N N' scope cap)(hf:∀b∈fp,jd X pins H b)(V:∀b∈fp,b<s.heap.objs.size)
  (hC:s.heap.objs.size<=C) (hD:s.heap.objs.size<=D) (b3:D≠C) (a1:∀b u,s.heap.get? b=some u->a0.get? b=some u) {m:Str->Option Value} (a9:a0.Ns C m) (b1:a0.get? D=some o) (b2:∀v,o.data≠.cell v) :
  Inv (bj X N' scope C s H fp) [(D,o)] (eV cap σ) H {s with heap:=a0,toks:=tk}where
 ok:=Nh I O hf V hC
 os:=rfl
 bare:=I.bare
 base:=Un.kept a1
 loc:=by
  refine⟨m,a9,λi x v e1 e2 e3=>?_⟩;have e1:N'[i]? =some x:=e1;unfold eV at e2;rw[List.getElem?_map]at e2;cases Z:cap[i]? with
  |none=>rw[Z]at e2;cases e2
  |some q=>
   rw[Z]at e2;cases q with
   |none=>cases e2
   |some j=>
    have e2:(σ[j]?).bind id=some v:=Xj e2;have a7:σ[j]? =some (some v):=by
     cases z:σ[j]? with
     |none=>rw[z]at e2;cases e2
     |some y=>
      rw[z]at e2;have:y=some v:=e2;rw[this]
    have hi:i<cap.length:=(Hq.mp Z).1;have hj:j<X.N.length:=by
     have:=(Hq.mp a7).1;rw[I.len]at this;exact this
    obtain⟨B,c2⟩:=O.cap i (XS.mpr hi) j (XS.mpr hj) Z;have a6:scope.names.lookup x=some .free:=c2 x (by rw[e1];rfl);have hN:X.N[j]? =some x:=B.trans e1;have a2:=my a6;have a4:Vis X.env.scope x:=(O.free _ a2 rfl).elim (λz=>.inr (.inl z)) λz=>.inr (.inr z);obtain⟨m0,_,Y⟩:=I.loc;obtain⟨u,r,lk⟩:=Y j x v hN a7 a4;refine⟨u,r,?_⟩;rcases lk with⟨k,_⟩|⟨_,c,ec,a3⟩
    .have k:X.env.scope.names.lookup x=some .local:=k
     rcases O.free _ a2 rfl with z|z
     .rw[k]at z;cases z
     .rw[k]at z;cases z
    .right
     obtain⟨c',a5⟩:=qY (env:=X.env) scope.names [] x (.inr a2);have a8:=iT I O a5;rw[ec]at a8;cases a8;refine⟨?_,c,a5,?_⟩
     .have e3:Vis (adp scope X.env) x:=e3
      rcases e3 with e3|e3|e3
      .exfalso
       have J:=my e3;obtain⟨⟨n,q⟩,b0,e⟩:=V4.mp J;dsimp only at e;split at e
       .cases e
       .cases e
        have:=O.nm _ b0 rfl;rw[a6]at this;cases this
      .exact .inl e3
      .exact .inr e3
     .obtain⟨oc,h1,h2⟩:=a3
      exact⟨oc,a1 _ _ h1,h2⟩
 cell:=λx c e=>by
  obtain⟨v,oc,h1,h2⟩:=I.cell x c (iT I O e);exact⟨v,oc,a1 _ _ h1,h2⟩
 free:=I.hok.fresh hC
 freeC:=λx c e=>I.freeC x c (iT I O e)
 pin:=λp F=>by
  have e:p=(D,o):=by simpa[bj]using F
  subst e;refine⟨b1,I.hok.fresh hD,b3,λz=>?_,b2⟩;obtain⟨b,U,e⟩:=abi.mp z;have hz:D∈X.env.locals::X.fs:=I.stkSub D z;rcases V5.mp hz with q|q
  .exact absurd (Wg (by rw[q];exact I.lt) hD) (XF _)
  .exact I.nofs hD q
 hok:=I.hok.kept a1
 len:=by
  unfold eV;rw[Wc];exact O.len
end
abbrev NoX:Value->V0->Prop:=λ_ _=>False
section
variable{prog:Program}{w:World}{A:Around}{R:Result->Shared->Prop}{s:Shared}
theorem yd{elt target iter:Expr}{ifs:List Expr}{scope:Scope}{pos:Pos}{it acc:Value}{env:Env}(I:Nat->V0->Prop)
  (turn:∀n s,I n s->wpAny 1.14 A (aa1 it) (λr J=>match r with
   |none=>R (.ok .next) J
   |some v=>wpAny 1.14 A (aad target it v) (λ_ O=>wpAny 1.14 A (aai target env v) (λ_ Y=>
    wpAny 1.14 A (forIn ifs true λc r=>if r=true then do let ok ←acp c env (eval c env);pure (Y0 ok)else pure (Y0 r)) (λok B=>
     if ok=true then wpAny 1.14 A (eval elt env) (λx F=>wpAny 1.14 A (call (.builtin "list.append") [acc,x]) (λ_ Z=>∃m,m<n/\I m Z) NoX F) NoX B
     else ∃m,m<n/\I m B) NoX Y) NoX O) NoX J) NoX s)
  (n:Nat) (h:I n s):Zw 1.14 A (.compLoop 1.15 0 it acc env) R s:=by
 refine codeAny_loop rfl I (λn s U=>?_) n h;show wpAny _ A ((compTurn 1.15 0 it acc env).onRaise (λx=>do noteFrame x env;theTreesLotGoes x)) _ _ s;refine wpAny_noted ?_;rw[compTurn_list];refine gD (Zu (gD (Xy (turn n s U) (λr J q=>?_) λ_ _ h'=>h'.elim)));cases r with
 |none=>exact V3 q
 |some v=>
  refine gD (Xy q (λ_ O N=>?_) λ_ _ h'=>h'.elim);refine gD (Xy N (λ_ Y a2=>gD (Xy a2 (λok B V=>?_) λ_ _ h'=>h'.elim)) λ_ _ h'=>h'.elim);cases ok with
  |false=>exact V3 ⟨rfl,V⟩
  |true=>
   exact gD (gD (Xy V (λx F a0=>gD (Xy a0 (λ_ Z a1=>V3 (V3 ⟨rfl,a1⟩)) λ_ _ h'=>h'.elim)) λ_ _ h'=>h'.elim))
end
def PTs(X:Cx)(ifs:List Expr)(t:TT):Prop:=
 ∀(pins:List 1.23)(s:V0)(σ:L2.St)(H:Hp)(Q:Bool->Hp->Prop),Inv X pins σ H s->t σ H Q->
  wpAny 1.12 X.A (forIn ifs true λc r=>if r=true then do let ok ←acp c X.env (eval c X.env);pure (Y0 ok)else pure (Y0 r)) (TP X pins σ Q) X.xe s
def S9:TT:=λ_ H Q=>Q true H
theorem Nv{X:Cx}:PTs X [] S9:=λ_ _ _ H _ I h=>wpAny_tests_nil ⟨H,I,h⟩
theorem O1{X:Cx}{c:Expr}{t:TT}(h:PT X c t):PTs X [c] t:=λpins s σ H Q I q=>wpAny_tests_one (h pins s σ H Q I q)
def Kp(σ q:L2.St):Prop:=∀(i:Nat) v,σ[i]? =some (some v)->q[i]? =some (some v)
theorem Kp.none{σ q:L2.St}{a:Option V}(h:Kp σ q):Kp (adI::σ) (a::q):=λi v e=>by
 cases i with
 |zero=>cases e
 |succ i=>exact h i v e
theorem Kp.cons{σ q:L2.St}{a:Option V}(h:Kp σ q):Kp (a::σ) (a::q):=λi v e=>by
 cases i with
 |zero=>exact e
 |succ i=>exact h i v e
def Pg(J:It)(H:Hp)(g:TG)(tt:TT)(te:TE)(σ:L2.St)(Q:List V->Hp->Prop):Prop:=
 ∃W:Nat->Nat->List V->Hp->Prop,(∃m,W 0 m [] H)/\∀i m ys H,W i m ys H->
  (J.stop i H/\Q ys H)∨(J.go i H/\ys.length<V6/\∃N:List V->Hp->Prop,(∀B H',N B H'->∃O,O<m/\W (i+1) O B H')/\
   ∀x H',J.yld i H x H'->g x σ H' λσ2 H2=>Kp σ σ2/\tt σ2 H2 λb Y=>if b=true then te σ2 Y λv q=>N (ys++[v]) q else N ys Y)
def FQ(cap:List (Option Nat))(wi:TI)(g:TG)(tt:TT)(te:TE):TE:=λσ H Q=>wi σ H λJ H1=>
 Pg J H1 g tt te (eV cap σ) λys H2=>ys.length<=V6/\∀D,H2 D=none->Q (.ref D) (upd H2 D (.lst ys))
section
variable{X:Cx}{elt target iter:Expr}{ifs:List Expr}{scope:Scope}{pos:Pos}{N':List Str}{cap:List (Option Nat)}{wi:TI}{g:TG}{tt:TT}{te:TE}
def lobj(B:List Value)(n:Nat):Obj:={cls:=.type "list",data:=.seq B.toArray n}
theorem uM{pins:List 1.23}{σ:L2.St}{H:Hp}{Y:V0}{it:Addr}{fp:List Addr}{tn:Nat->Heap->Prop}{J:It}{Q:List V->Hp->Prop}{RR:Value->Addr->Result->V0->Prop}{E:Value->V0->Prop}
  (Z:X.calm=true) (O:bZ X.env.scope X.N N' scope cap) (I:Inv X pins σ H Y) (T:Turn X.prog X.w X.K target J fp it tn) (st:tn 0 Y.heap) (f2:∀b∈fp,jd X pins H b)
  (hg:∀C,PG 1.13 target g) (ht:∀C,PTs 1.13 ifs tt) (he:∀C,PE 1.13 elt te) (cw:Pg J H g tt te (eV cap σ) Q)
  (c4:∀(D C:Addr)(s':V0)(H':Hp)(ys:List V)(B:List Value)(n:Nat)(b0:L2.St),Y.heap.objs.size<=D->Y.heap.objs.size<=C->D≠C->Inv 1.13 [(D,lobj B n)] b0 H' s'->Vals ys B->Q ys H'->
   RR (.ref D) C (.ok .next) s') :
  wpAny 1.12 X.A (adq []) (λacc c1=>wpAny 1.12 X.A (newFunctionEnv scope X.env.globals (n6 scope X.env) [] X.env.qual none .none (some X.env)) (λb1 b6=>
   Zw 1.12 X.A (.compStart 1.15 0 (.ref it) acc {b1 with scope:=adp scope X.env}) (RR acc b1.locals) b6) E c1) E Y:=by
 refine XC (acJ O.nocell (by intro y hy;simp at hy) (λa2 a1 a0=>?_) O.kind);dsimp only at a1 a0⊢;generalize b3:Y.heap.push {cls:=.type "list",dict:=none,data:=.seq ([]:List Value).toArray}=H2 at a1 a0⊢;have hC:H2.objs.size=Y.heap.objs.size+1:=by rw[←b3,Yu]
 have a3:Y.heap.objs.size≠H2.objs.size:=by rw[hC];exact Wj (Z0 _)
 have a4:Y.heap.objs.size<=H2.objs.size:=by rw[hC];exact aaE _
 have b5:∀b o,Y.heap.get? b=some o->a2.get? b=some o:=λb o e=>a0.extBut b o (by rw[hC];exact Wj (Yp (V_ e))) (V2 _ (b3▸V2 _ e));have b9:a2.get? Y.heap.objs.size=some (lobj [] 0):=a0.extBut _ _ a3 (V2 _ (b3▸Wx _ rfl));have a9:∀b∈fp,b<Y.heap.objs.size:=λb U=>by
  obtain⟨o,e,_⟩:=T.obj 0 _ st b U;exact V_ e
 have I1:=zf (tk:=Y.toks+([]:List (Str×Value)).length) I O f2 a9 a4 (Wa _) a3 b5 a1 b9 (λv z=>by cases z);have b7:tn 0 a2:=T.keep _ _ _ st λb _ o e=>b5 b o e;obtain⟨W,⟨m0,w0⟩,turn⟩:=cw;generalize hD:Y.heap.objs.size=D at *
 generalize c7:H2.objs.size=C at *
 have a8:∀{H':Hp}{o:Obj},(∀b∈fp,H' b=none)->∀b∈fp,jd 1.13 [(D,o)] H' b:=λ{H' o} hn b U=>by
  refine⟨hn b U,Wj (Wg (a9 b U) a4),I1.ok.exfs b U,.inl U,(I1.ok.exf b U).2,λp hp=>?_⟩;have e:p=(D,o):=by simpa[bj]using hp
  subst e;exact Yq (a9 b U)
 have b2:Zw 1.12 X.A (.compLoop 1.15 0 (.ref it) (.ref D) (compEnvC scope (n6 scope X.env) C X.env)) (RR (.ref D) C) {Y with heap:=a2,toks:=Y.toks+([]:List (Str×Value)).length}:=by
  refine yd (λn s'=>∃i ys B k H',Inv 1.13 [(D,lobj B k)] (eV cap σ) H' s'/\Vals ys B/\tn i s'.heap/\(∀b∈fp,H' b=none)/\W i n ys H') ?_ m0 ⟨0,[],[],0,H,I1,.nil,b7,λb U=>(f2 b U).1,w0⟩;rintro n s3 ⟨i,ys,B,k,H3,I3,rv,b4,c0,w3⟩;rcases turn i n ys H3 w3 with⟨stop,qn⟩|⟨go,hsz,N,hN,step⟩
  .refine thn (T.done 1.13 rfl rfl rfl Z i _ s3 _ H3 NoX I3 (a8 c0) b4 stop) λr s4 ⟨hr,I4⟩=>?_
   subst hr;exact c4 D C s4 H3 ys B k _ (Wa _) a4 a3 I4 rv qn
  .refine thn (T.item 1.13 rfl rfl rfl Z i _ s3 _ H3 NoX I3 (a8 c0) b4 go) λr s4 ⟨u,hr,h4⟩=>?_
   subst hr;refine thn h4 λ_ s5 ⟨x,H5,I5,r5,y5,a6,c5⟩=>?_;have c3:=I5.pinned (a8 c5) (T.obj _ _ a6);refine thn (hg C _ s5 _ H5 x u _ c3 r5 (step x H5 y5)) λ_ s6 ⟨a7,H6,I6,c2,q6⟩=>?_;refine thn (ht C _ s6 a7 H6 _ I6 q6) λok s7 ⟨H7,I7,q7⟩=>?_;have a5:∀{s':V0}{H':Hp}{b0:L2.St},Inv 1.13 ([(D,lobj B k)]++jW fp s5.heap) b0 H' s'->tn (i+1) s'.heap/\∀b∈fp,H' b=none:=λ{s' H' b0} Ix=>by
    refine⟨T.keep _ _ _ a6 λb U o e=>(Ix.pin (b,o) (VR _ (VR _ (cX U e)))).1,λb U=>?_⟩;obtain⟨o,e,d⟩:=T.obj _ _ a6 b U;exact(Ix.pin (b,o) (VR _ (VR _ (cX U e)))).2.1
   have b8:(eV cap σ).length=a7.length:=by rw[I6.len,I1.len]
   cases ok with
   |false=>
    have n7:N ys H7:=by simpa using q7
    obtain⟨m',hm,w7⟩:=hN _ _ n7;exact⟨m',hm,i+1,ys,B,k,H7,I7.unpinned.weak b8 c2,rv,(a5 I7).1,(a5 I7).2,w7⟩
   |true=>
    have q7:te a7 H7 λv H4=>N (ys++[v]) H4:=by simpa using q7
    refine thn (he C _ s7 a7 H7 _ I7 q7) λu8 s8 ⟨v,H8,I8,r8,n8⟩=>?_;obtain⟨eD,nD,_,c6,_⟩:=I8.pin (D,lobj B k) (VR _ (Wf _ WR));have lv:=rv.length;refine ZC adf ⟨_,eD,rfl⟩ ac1 (acH _ _) (adx D B.toArray k u8 (by rw[List.size_toArray];omega)) ⟨eD,?_⟩;obtain⟨m',hm,w8⟩:=hN _ _ n8;obtain⟨k',eN⟩:∃k',(s8.heap.update D (Xh (·.push u8))).get? D=some (lobj (B++[u8]) k'):=by
     have q:=Zg eD (·.push u8);dsimp only at q;rw[adz]at q;exact⟨_,q⟩
    have I9:Inv 1.13 (jW fp s5.heap) a7 H8 {s8 with heap:=s8.heap.update D (Xh (·.push u8))}:=by
     refine Inv.turned (it:=D) (t':=s8.toks) (I8.pins_of λp hp=>I8.pin p (VR _ (VR _ hp))) (λb o U e=>(W5 s8.heap (Xh _) (WW U)).trans e) nD a3 (.inr (by rw[←hD];exact Wa _)) (λx c e z=>?_) (λp hp z=>?_)
     .obtain⟨vc,oc,h1,_⟩:=I.cell x c (iT I O e)
      have hh:=V_ h1;rw[z,hD]at hh;exact XF _ hh
     .have hp:p∈jW fp s5.heap:=hp
      have hh:=a9 p.1 (qe hp).1;rw[z]at hh;exact XF _ hh
    refine⟨m',hm,i+1,ys++[v],B++[u8],k',H8,(I9.weak b8 c2).pins_of (λp hp=>?_),rv.append (.cons r8 .nil),?_,λb U=>?_,w8⟩
    .have e:p=(D,lobj (B++[u8]) k'):=Wl.mp hp
     rw[e];exact⟨eN,nD,a3,c6,λv z=>by cases z⟩
    .exact T.keep _ _ _ a6 λb U o e=>(I9.pin (b,o) (VR _ (cX U e))).1
    .obtain⟨o,e,d⟩:=T.obj _ _ a6 b U
     exact(I9.pin (b,o) (VR _ (cX U e))).2.1
 exact codeAny_compStart_list b2 (T.self _ 0 _ _ _ b7 b2)
theorem Et(hx:X.xe=NoX)(Z:X.calm=true)(O:bZ X.env.scope X.N N' scope cap)(hi:PI X target iter wi)
  (hg:∀C Y H fp,PG 1.13 target g) (ht:∀C Y H fp,PTs 1.13 ifs tt) (V:∀C Y H fp,PE 1.13 elt te)
  (hs:∀x,Xl iter X.env x=pure x:=by intro _;rfl):PE X 1.15 (FQ cap wi g tt te):=by
 intro pins s σ H Q I h;rw[eval_ListComp];refine Zh (use:=none) rfl hs (iR λy hy hk=>I.ok.has y.1 (O.free y hy hk)) O.kind O.nm (thn (hi pins s σ H _ I h) λv s1 h1=>thn h1 λa4 s2 h2=>?_);obtain⟨it,fp,tn,J,H2,e,I2,T,a2,f2,cw⟩:=h2;subst e;refine uM (RR:=λacc C=>compPost 1.12 X.A X.xe none (EP X pins σ Q) acc C) Z O I2 T a2 f2 (λC=>hg C _ _ _) (λC=>ht C _ _ _) (λC=>V C _ _ _) cw ?_;intro D C s' H' ys B n F hD hC a3 I' rv q;obtain⟨hz,q⟩:=q;obtain⟨m,a1,_⟩:=I'.loc;refine⟨m,a1,λh' sb=>?_⟩;obtain⟨eD,nD,_,a5,_⟩:=I'.pin (D,lobj B n) (VR _ WR);have a0:Inv X pins σ (upd H' D (.lst ys)) {s' with heap:=h'}:=by
  refine I2.call' (ch:=fp) I'.os ?_ ?_ I'.bare (λb U=>⟨(f2 b U).2.2.2.1,(f2 b U).2.1,(f2 b U).2.2.2.2.1,(f2 b U).2.2.2.2.2⟩)
  .have ne:∀b o,s2.heap.get? b=some o->b≠C/\b≠D:=λb o e=>⟨Wj (Wg (V_ e) hC),Wj (Wg (V_ e) hD)⟩
   refine⟨λb o e n U V=>sb.extBut b o (ne b o e).1 (I'.base.keep b o e n U V),λb o e n U V=>?_,λb o e n V=>?_,λb o e V=>?_,λb xs e=>?_,λb o u e=>?_,λb ps e=>?_⟩
   .obtain⟨sl,e1⟩:=I'.base.slot b o e n U V
    exact⟨sl,sb.extBut b _ (ne b o e).1 e1⟩
   .rw[aK (ne b o e).2]
    exact I'.base.free b o e n V
   .obtain⟨o',e1⟩:=I'.base.there b o e V
    exact⟨o',sb.extBut b _ (ne b o e).1 e1⟩
   .have e1:=I'.base.tups b xs e
    rw[aK (aO e1 nD)];exact e1
   .have e1:=I'.base.frzs b o u e
    rw[aK (aO e1 nD)];exact e1
   .obtain⟨more,e1⟩:=I'.base.tbls b ps e
    refine⟨more,?_⟩;rw[aK (aO e1 nD)];exact e1
  .intro b u e
   by_cases U:b=D
   .subst U
    rw[aM]at e;cases e;exact⟨hz,B,n,rv,sb.extBut _ _ a3 eD⟩
   .rw[aK U]at e
    have nC:∀b u,H' b=some u->b≠C:=λb u e z=>by
     have hf:H' C=none:=I'.free;rw[z,hf]at e;cases e
    refine(I'.hok b u e).stay (λc v Z q=>sb.extBut c v ?_ q) (λc q=>by rw[aK (aO q nD)];exact q) λc xs q=>by rw[aK (aO q nD)];exact q
    rcases Z with z|z
    .rw[z]
     exact nC b u e
    .exact nC c _ z
 exact⟨.ref D,_,a0,rfl,q D nD⟩
end
section
variable{X:Cx}{pins:List (Addr×Obj)}{σ:L2.St}{H:Hp}{s:Shared}
theorem Qu{x:V}{u t:Value}(I:Inv X pins σ H s)(rx:RelV x u)(F:lN X.K H x t):∃N,PySem.W.KitX X.K u t N/\N s.heap/\u≠.builtin "__main__.__loader__#opaque":=by
 cases F with
 |non=>cases (show u=Wq from rx);exact⟨_,adu,XM,λz=>nomatch z⟩
 |bl y=>cases (show u=W9 y from rx);exact⟨_,adv,XM,λz=>nomatch z⟩
 |int i=>obtain⟨t,q⟩:=(show ∃t,u=Xc i t from rx);cases q;exact⟨_,adK,XM,λz=>nomatch z⟩
 |str y=>obtain⟨t,q⟩:=(show ∃t,u=W7 y t from rx);cases q;exact⟨_,adL,XM,λz=>nomatch z⟩
 |flt y=>obtain⟨t,q⟩:=(show ∃t,u=adG y t from rx);cases q;exact⟨_,ac9,XM,λz=>nomatch z⟩
 |@lst a xs U=>
  cases (show u=Wb a from rx);obtain⟨_,_,n,_,h1⟩:=(show cB X.prog X.w H s.heap a (.lst xs)from I.hok a _ U);exact⟨_,aav,⟨_,h1,rfl⟩,λz=>nomatch z⟩
 |@frz a ob xs U=>
  cases (show u=Wb a from rx);obtain⟨_,_,_,n,_,h1⟩:=(show cB X.prog X.w H s.heap a (.frz ob (.lst xs))from I.hok a _ U);exact⟨_,aav,⟨_,h1,rfl⟩,λz=>nomatch z⟩
 |@tup a xs U=>
  cases (show u=Wb a from rx);obtain⟨_,_,_,p⟩:=(show cB X.prog X.w H s.heap a (.tup xs)from I.hok a _ U);obtain⟨o,h1,h2,_⟩:=p;exact⟨_,ac_,⟨o,h1,h2⟩,λz=>nomatch z⟩
 |@dK a kvs U=>
  cases (show u=Wb a from rx);obtain⟨_,_,vs,_,p⟩:=(show cB X.prog X.w H s.heap a (.dK kvs)from I.hok a _ U);obtain⟨o,es,ep,h1,h2,_⟩:=p;exact⟨_,aaw,⟨o,h1,h2.1⟩,λz=>nomatch z⟩
 |@dT a kvs U=>
  cases (show u=Wb a from rx);obtain⟨_,_,xs,_,o,es,ep,h1,h2,_⟩:=(show cB X.prog X.w H s.heap a (.dT kvs)from I.hok a _ U);exact⟨_,aaw,⟨o,h1,h2.1⟩,λz=>nomatch z⟩
 |@ins a C dx fs U cl Y hn B hm=>
  cases (show u=Wb a from rx);obtain⟨Z,O,_⟩:=EY I.hok U;obtain⟨od,J,_⟩:=O.look;exact⟨_,adM (cl.get _) cl.hd Y hn B hm,J,λz=>nomatch z⟩
theorem Ea:∀{Y:List String}{us:List Value},Vals (Y.map V.ty) us->us=Y.map Zy
 |[],_,.nil=>rfl
 |t::r,_,.cons h q=>by cases (show _=Zy t from h);rw[Ea q];rfl
theorem xV:cY X (.builtin "isinstance") (λxs H Q=>∃x tp Y t b,xs=[x,.ref tp]/\H tp=some (.tup (List.map V.ty Y))/\lN X.K H x t/\aba X.K t (Y.map Zy)=some b/\Q (.bl b) H):=by
 show 6;obtain⟨x,tp,Y,t,b,rfl,a0,F,e,q⟩:=h;obtain⟨u,w',rfl,U,r2⟩:=vals2 r;cases r2;obtain⟨N,Z,O,hn⟩:=Qu I U F;obtain⟨_,B,J,o,h1,h2,n,h3,_⟩:=(show cB X.prog X.w H s.heap tp (.tup (Y.map V.ty))from I.hok tp _ a0);rw[Ea J]at h3;obtain⟨cls,dd,data,sl⟩:=o;cases h2;cases h3;exact PySem.W.kia_tup Z I.kIn O h1 e hn λtk=>⟨.bl b,H,I.tok tk,rfl,q⟩
theorem v4:∀(tk:Nat)(l:List Str),Vals (l.map V.str) (strsFrom tk l)
 |_,[]=>.nil
 |tk,x::r=>.cons ⟨_,rfl⟩ (v4 (tk+1) r)
def QJ:V->List V->Hp->VK->Prop:=λx vs H Q=>∃(a b:Str)(l:List Str),x= .str a/\vs=[.str b]/\(decide (a.length<b.length)||decide (aab a<aab b))=false/\(b.length==0)=false/\
 (Xg a b 0 a.length (a.length+1)).isEmpty=false/\a.length<=V6/\aao a (Xg a b 0 a.length (a.length+1)) b.length=l/\l.length<=V6/\
 ∀p,H p=none->Q (.ref p) (upd H p (.lst (l.map V.str)))
theorem J1:MtR X "str.split" QJ:=by
 intro pins s σ H x vs v us Q I rx V h;obtain⟨a,b,l,rfl,rfl,B,J,O,U,rfl,N,q⟩:=h;obtain⟨t,rfl⟩:=rx;obtain⟨u,rfl,t',rfl⟩:=V.one;refine ZC F.slot_str_split (typeIs_str s a t) F.entry_str_split (F.args_str_split_2 _ _) (meets_str_split_sep a b t t' B J O U N) ?_;exact⟨.ref s.heap.objs.size,_,I.lnew (v4 _ _) (by rw[Wc];exact N),rfl,q _ I.fresh⟩
end
inductive Dt where
 |non|bl (b:Bool)|int (i:Int)|str (x:Str)|lst (ds:List Dt)|tup (ds:List Dt)
mutual
def eqD:Dt->Dt->Bool
 |.non,.non=>true
 |.bl a,.bl b=>a==b
 |.int a,.int b=>a==b
 |.bl a,.int b=>(if a then 1 else 0)==b
 |.int a,.bl b=>a==(if b then 1 else 0)
 |.str a,.str b=>a==b
 |.lst a,.lst b=>eqL a b
 |.tup a,.tup b=>eqL a b
 |_,_=>false
def eqL:List Dt->List Dt->Bool
 |[],[]=>true
 |a::r,b::q=>eqD a b&&eqL r q
 |_,_=>false
end
mutual
def dp:Dt->Nat
 |.lst ds=>dpL ds+1
 |.tup ds=>dpL ds+1
 |_=>0
def dpL:List Dt->Nat
 |[]=>0
 |d::r=>max (dp d) (dpL r)
end
mutual
def Brs(K:V8)(H:Hp):Dt->V->Prop
 |.non,v=>v= .non
 |.bl b,v=>v= .bl b
 |.int i,v=>v= .int i
 |.str x,v=>v= .str x
 |.lst ds,v=>∃a xs,v= .ref a/\SqL K H a xs/\gZ K H ds xs
 |.tup ds,v=>∃a xs,v= .ref a/\SqT K H a xs/\gZ K H ds xs
def gZ(K:V8)(H:Hp):List Dt->List V->Prop
 |[],xs=>xs=[]
 |d::r,xs=>∃x ys,xs=x::ys/\Brs K H d x/\gZ K H r ys
end
mutual
theorem vG:∀d:Dt,eqD d d=true
 |.non=>by simp[eqD]
 |.bl _=>by simp[eqD]
 |.int _=>by simp[eqD]
 |.str _=>by simp[eqD]
 |.lst ds=>by simp[eqD,uB ds]
 |.tup ds=>by simp[eqD,uB ds]
theorem uB:∀ds:List Dt,eqL ds ds=true
 |[]=>by simp[eqL]
 |d::r=>by simp[eqL,vG d,uB r]
end
theorem gZ.length{K:V8}{H:Hp}:∀{ds:List Dt}{xs:List V},gZ K H ds xs->ds.length=xs.length
 |[],xs,h=>by
  have h:xs=[]:=by simpa[gZ]using h
  rw[h];rfl
 |d::r,xs,h=>by
  obtain⟨x,ys,rfl,_,h⟩:=(by simpa[gZ]using h:∃x ys,xs=x::ys/\Brs K H d x/\gZ K H r ys);simp[gZ.length h]
theorem lB:∀{ds es:List Dt},ds.length≠es.length->eqL ds es=false
 |[],[],h=>absurd rfl h
 |[],_::_,_=>by simp[eqL]
 |_::_,[],_=>by simp[eqL]
 |d::r,e::q,h=>by
  have:r.length≠q.length:=by simpa using h
  simp[eqL,lB this]
def eqJ(ds es:List Dt)(j:Nat):Bool:=eqD (ds.getD j .non) (es.getD j .non)
theorem kO:∀{ds es:List Dt},ds.length=es.length->(WD ds.length).all (eqJ ds es)=eqL ds es
 |[],[],_=>by simp[eqL]
 |[],_::_,h=>by simp at h
 |_::_,[],h=>by simp at h
 |d::r,e::q,h=>by
  have h':r.length=q.length:=by simpa using h
  have O:=kO h';rw[WK,acg,Z7,adg,eqL];congr 1
section
variable{X:Cx}{pins:List (Addr×Obj)}{σ:L2.St}{H:Hp}{s:Shared}
theorem Bo(I:Inv X pins σ H s){a:Addr}{xs ys:List V}(h1:SqL X.K H a xs)(h2:SqT X.K H a ys):False:=by
 obtain⟨B,_,p,_⟩:=I.list h1;obtain⟨F,_,q,_⟩:=I.tuple h2;obtain⟨o,e1,N,_⟩:=p.isList;obtain⟨o',e2,J,_⟩:=q;rw[e1]at e2;cases e2;rw[N]at J;injection J with z;exact absurd z (by decide)
mutual
theorem yN(I:Inv X pins σ H s):∀(d e:Dt){v:V},Brs X.K H d v->Brs X.K H e v->d=e
 |.non,e,v,h,h'=>by
  simp only[Brs]at h;subst h;cases e<;>simp[Brs]at h'<;>rfl
 |.bl b,e,v,h,h'=>by
  simp only[Brs]at h;subst h;cases e<;>simp[Brs]at h'<;>simp[h']
 |.int b,e,v,h,h'=>by
  simp only[Brs]at h;subst h;cases e<;>simp[Brs]at h'<;>simp[h']
 |.str b,e,v,h,h'=>by
  simp only[Brs]at h;subst h;cases e<;>simp[Brs]at h'<;>simp[h']
 |.lst ds,e,v,h,h'=>by
  simp only[Brs]at h;obtain⟨a,xs,rfl,N,U⟩:=h;cases e with
  |lst es=>
   simp only[Brs]at h';obtain⟨F,ys,e1,B,q⟩:=h';cases e1;have:=I.list_inj N B;subst this;rw[uv I ds es U q]
  |tup es=>
   simp only[Brs]at h';obtain⟨F,ys,e1,B,q⟩:=h';cases e1;exact(Bo I N B).elim
  |_=>simp[Brs]at h'
 |.tup ds,e,v,h,h'=>by
  simp only[Brs]at h;obtain⟨a,xs,rfl,N,U⟩:=h;cases e with
  |tup es=>
   simp only[Brs]at h';obtain⟨F,ys,e1,B,q⟩:=h';cases e1;have:=I.tuple_inj N B;subst this;rw[uv I ds es U q]
  |lst es=>
   simp only[Brs]at h';obtain⟨F,ys,e1,B,q⟩:=h';cases e1;exact(Bo I B N).elim
  |_=>simp[Brs]at h'
theorem uv(I:Inv X pins σ H s):∀(ds es:List Dt){xs:List V},gZ X.K H ds xs->gZ X.K H es xs->ds=es
 |[],es,xs,h,h'=>by
  simp only[gZ]at h;subst h;cases es with
  |nil=>rfl
  |cons e r=>simp[gZ]at h'
 |d::r,es,xs,h,h'=>by
  simp only[gZ]at h;obtain⟨x,ys,rfl,hd,O⟩:=h;cases es with
  |nil=>simp[gZ]at h'
  |cons e q=>
   simp only[gZ]at h';obtain⟨U,B,e1,F,N⟩:=h';cases e1;rw[yN I d e hd F,uv I r q O N]
end
open PySem.SeqAt in
mutual
theorem Tq(I:Inv X pins σ H s):∀(d e:Dt){A:Xk}{v u:V}{v' Z:Value},Brs X.K H d v->Brs X.K H e u->RelV v v'->RelV u Z->A.units+dp d<cLine->A.units+dp e<cLine->EqAt A s v' Z (eqD d e)
 |.non,e,A,v,u,v',Z,h,h',r,r',hu,hu'=>by
  have O:A.units<cLine:=by omega
  simp only[Brs]at h;subst h;cases (show v'=Wq from r);cases e with
  |non=>show 3;cases (show Z=Wq from r');exact ad5 _
  |bl b=>show 3;cases (show Z=W9 b from r');exact EqAt.none_bool b
  |int b=>show 3;obtain⟨t,q⟩:=(show ∃t,Z=Xc b t from r');cases q;exact EqAt.none_int b t
  |str b=>show 3;obtain⟨t,q⟩:=(show ∃t,Z=W7 b t from r');cases q;exact EqAt.none_str b t
  |lst es=>show 1;obtain⟨B,_,p,_⟩:=I.list N;exact EqAt.none_list p.isList O
  |tup es=>show 1;obtain⟨B,_,p,_⟩:=I.tuple N;exact EqAt.none_tuple p O
 |.bl c,e,A,v,u,v',Z,h,h',r,r',hu,hu'=>by
  have O:A.units<cLine:=by omega
  simp only[Brs]at h;subst h;cases (show v'=W9 c from r);cases e with
  |non=>show 3;cases (show Z=Wq from r');exact EqAt.bool_none c
  |bl b=>show 3;cases (show Z=W9 b from r');exact EqAt.bool_bool c b
  |int b=>show 3;obtain⟨t,q⟩:=(show ∃t,Z=Xc b t from r');cases q;exact EqAt.bool_int c b t
  |str b=>show 3;obtain⟨t,q⟩:=(show ∃t,Z=W7 b t from r');cases q;exact EqAt.bool_str c b t
  |lst es=>show 1;obtain⟨B,_,p,_⟩:=I.list N;exact EqAt.bool_list c p.isList O
  |tup es=>show 1;obtain⟨B,_,p,_⟩:=I.tuple N;exact EqAt.bool_tuple c p O
 |.int c,e,A,v,u,v',Z,h,h',r,r',hu,hu'=>by
  have O:A.units<cLine:=by omega
  simp only[Brs]at h;subst h;obtain⟨tc,q⟩:=(show ∃t,v'=Xc c t from r);cases q;cases e with
  |non=>show 3;cases (show Z=Wq from r');exact EqAt.int_none c tc
  |bl b=>show 3;cases (show Z=W9 b from r');exact EqAt.int_bool c tc b
  |int b=>show 3;obtain⟨t,q⟩:=(show ∃t,Z=Xc b t from r');cases q;exact EqAt.int_int c tc b t
  |str b=>show 3;obtain⟨t,q⟩:=(show ∃t,Z=W7 b t from r');cases q;exact EqAt.int_str c tc b t
  |lst es=>show 1;obtain⟨B,_,p,_⟩:=I.list N;exact EqAt.int_list c tc p.isList O
  |tup es=>show 1;obtain⟨B,_,p,_⟩:=I.tuple N;exact EqAt.int_tuple c tc p O
 |.str c,e,A,v,u,v',Z,h,h',r,r',hu,hu'=>by
  have O:A.units<cLine:=by omega
  simp only[Brs]at h;subst h;obtain⟨tc,q⟩:=(show ∃t,v'=W7 c t from r);cases q;cases e with
  |non=>show 3;cases (show Z=Wq from r');exact EqAt.str_none c tc
  |bl b=>show 3;cases (show Z=W9 b from r');exact EqAt.str_bool c tc b
  |int b=>show 3;obtain⟨t,q⟩:=(show ∃t,Z=Xc b t from r');cases q;exact EqAt.str_int c tc b t
  |str b=>show 3;obtain⟨t,q⟩:=(show ∃t,Z=W7 b t from r');cases q;exact EqAt.str_str c tc b t
  |lst es=>show 1;obtain⟨B,_,p,_⟩:=I.list N;exact EqAt.str_list c tc p.isList O
  |tup es=>show 1;obtain⟨B,_,p,_⟩:=I.tuple N;exact EqAt.str_tuple c tc p O
 |.lst ds,e,A,v,u,v',Z,h,h',r,r',hu,hu'=>by
  have O:A.units<cLine:=by omega
  have hd:A.in1.units+dpL ds<cLine:=by
   have:dp (.lst ds)=dpL ds+1:=by simp[dp]
   show A.units+1+dpL ds<cLine;omega
  have h0:=h;simp only[Brs]at h;obtain⟨b,ys,rfl,F,U⟩:=h;cases (show v'=Wb b from r);obtain⟨a0,a3,pw,_⟩:=I.list F;cases e with
  |non=>show 3;cases (show Z=Wq from r');exact EqAt.list_none pw.isList O
  |bl c=>show 3;cases (show Z=W9 c from r');exact EqAt.list_bool c pw.isList O
  |int c=>show 3;obtain⟨t,q⟩:=(show ∃t,Z=Xc c t from r');cases q;exact EqAt.list_int c t pw.isList O
  |str c=>show 3;obtain⟨t,q⟩:=(show ∃t,Z=W7 c t from r');cases q;exact EqAt.list_str c t pw.isList O
  |tup es=>show 1;obtain⟨B,_,p,_⟩:=I.tuple N;exact EqAt.list_tuple pw.isList p O
  |lst es=>
   have a4:=h';simp only[Brs]at h';obtain⟨a,xs,rfl,N,a2⟩:=h';cases (show Z=Wb a from r');obtain⟨B,J,p,_⟩:=I.list N;have he:A.in1.units+dpL es<cLine:=by
    have:dp (.lst es)=dpL es+1:=by simp[dp]
    show A.units+1+dpL es<cLine;omega
   by_cases a1:b=a
   .subst a1
    rw[yN I _ _ h0 a4,vG];exact ad5 _
   .refine EqAt.of_refs a1 ?_
    have l1:=U.length;have l2:=a2.length;have l3:=a3.length;have l4:=J.length;rw[show eqD (.lst ds) (.lst es)=eqL ds es by simp[eqD]];by_cases Y:ds.length=es.length
    .rw[←kO Y,show ds.length=a0.toArray.size by rw[List.size_toArray];omega]
     exact RcAt.lists pw.isList p.isList (by rw[List.size_toArray,List.size_toArray];omega) O (oE I ds es U a2 a3 J hd he)
    .rw[lB Y]
     exact adh pw.isList p.isList (by rw[List.size_toArray,List.size_toArray];exact bne_iff_ne.mpr 1.10) O
 |.tup ds,e,A,v,u,v',Z,h,h',r,r',hu,hu'=>by
  have O:A.units<cLine:=by omega
  have hd:A.in1.units+dpL ds<cLine:=by
   have:dp (.tup ds)=dpL ds+1:=by simp[dp]
   show A.units+1+dpL ds<cLine;omega
  have h0:=h;simp only[Brs]at h;obtain⟨b,ys,rfl,F,U⟩:=h;cases (show v'=Wb b from r);obtain⟨a0,a3,pw,_⟩:=I.tuple F;cases e with
  |non=>show 3;cases (show Z=Wq from r');exact EqAt.tuple_none pw O
  |bl c=>show 3;cases (show Z=W9 c from r');exact EqAt.tuple_bool c pw O
  |int c=>show 3;obtain⟨t,q⟩:=(show ∃t,Z=Xc c t from r');cases q;exact EqAt.tuple_int c t pw O
  |str c=>show 3;obtain⟨t,q⟩:=(show ∃t,Z=W7 c t from r');cases q;exact EqAt.tuple_str c t pw O
  |lst es=>show 1;obtain⟨B,_,p,_⟩:=I.list N;exact EqAt.tuple_list pw p.isList O
  |tup es=>
   have a4:=h';simp only[Brs]at h';obtain⟨a,xs,rfl,N,a2⟩:=h';cases (show Z=Wb a from r');obtain⟨B,J,p,_⟩:=I.tuple N;have he:A.in1.units+dpL es<cLine:=by
    have:dp (.tup es)=dpL es+1:=by simp[dp]
    show A.units+1+dpL es<cLine;omega
   by_cases a1:b=a
   .subst a1
    rw[yN I _ _ h0 a4,vG];exact ad5 _
   .refine EqAt.of_refs a1 ?_
    have l1:=U.length;have l2:=a2.length;have l3:=a3.length;have l4:=J.length;rw[show eqD (.tup ds) (.tup es)=((WD (min a0.toArray.size B.toArray.size)).all (eqJ ds es)&&a0.toArray.size==B.toArray.size)from ?_]
    .exact RcAt.tuples pw p O (oE I ds es U a2 a3 J hd he)
    .rw[show eqD (.tup ds) (.tup es)=eqL ds es by simp[eqD],List.size_toArray,List.size_toArray]
     by_cases Y:ds.length=es.length
     .rw[show min a0.length B.length=ds.length by omega,kO Y,show(a0.length==B.length)=true by simp;omega,acW]
     .rw[lB Y,show(a0.length==B.length)=false by simp;omega,aat]
theorem oE(I:Inv X pins σ H s):∀(ds es:List Dt){A:Xk}{ys xs:List V}{q B:List Value},gZ X.K H ds ys->gZ X.K H es xs->Vals ys q->Vals xs B->A.units+dpL ds<cLine->A.units+dpL es<cLine->
  ∀j (h1:j<q.toArray.size)(h2:j<B.toArray.size),EqAt A s q.toArray[j] B.toArray[j] (eqJ ds es j)
 |[],es,A,ys,xs,q,B,h,h',r,r',hu,hu',j,h1,h2=>by
  simp only[gZ]at h;subst h;cases r;simp at h1
 |d::ds,es,A,ys,xs,q,B,h,h',r,r',hu,hu',j,h1,h2=>by
  simp only[gZ]at h;obtain⟨y,a1,rfl,hd,O⟩:=h;cases r with
  |cons J rb=>
   cases es with
   |nil=>
    simp only[gZ]at h';subst h';cases r';simp at h2
   |cons e es=>
    simp only[gZ]at h';obtain⟨x,N,rfl,U,Y⟩:=h';cases r' with
    |cons Z a0=>
     have F:dpL (d::ds)=max (dp d) (dpL ds):=by simp[dpL]
     have m2:dpL (e::es)=max (dp e) (dpL es):=by simp[dpL]
     cases j with
     |zero=>exact Tq I d e hd U J Z 1.10 1.10
     |succ j=>exact oE I ds es O Y rb a0 1.10 1.10 j (by simpa using h1) (by simpa using h2)
end
open PySem.SeqAt in
theorem Sv(I:Inv X pins σ H s)(d e:Dt){A:Xk}{v u:V}{v' u':Value}(h1:Brs X.K H d v)(h2:Brs X.K H e u)(U:RelV v v')(Z:RelV u u')(F:A.units+dp d<cLine)(b1:A.units+dp e<cLine):RcAt A s v' u' (eqD d e):=by
 have O:A.units<cLine:=by omega
 cases d with
 |non=>
  simp only[Brs]at h1;subst h1;cases (show _=Wq from U);cases e with
  |non=>(simp only[Brs]at h2;subst h2;cases (show _=Wq from Z));exact RcAt.none_none
  |bl J=>(simp only[Brs]at h2;subst h2;cases (show _=W9 J from Z));exact RcAt.none_bool J
  |int J=>(simp only[Brs]at h2;subst h2;obtain⟨t2,q2⟩:=(show ∃t,_=Xc J t from Z);cases q2);exact RcAt.none_int J t2
  |str J=>(simp only[Brs]at h2;subst h2;obtain⟨t2,q2⟩:=(show ∃t,_=W7 J t from Z);cases q2);exact RcAt.none_str J t2
  |lst es=>(simp only[Brs]at h2;obtain⟨q,a5,rfl,a0,a3⟩:=h2;cases (show _=Wb q from Z);obtain⟨N,a4,p2,_⟩:=I.list a0);exact RcAt.none_list p2.isList O
  |tup es=>(simp only[Brs]at h2;obtain⟨q,a5,rfl,a0,a3⟩:=h2;cases (show _=Wb q from Z);obtain⟨N,a4,p2,_⟩:=I.tuple a0);exact RcAt.none_tuple p2 O
 |bl B=>
  simp only[Brs]at h1;subst h1;cases (show _=W9 B from U);cases e with
  |non=>(simp only[Brs]at h2;subst h2;cases (show _=Wq from Z));exact RcAt.bool_none B
  |bl J=>(simp only[Brs]at h2;subst h2;cases (show _=W9 J from Z));exact RcAt.bool_bool B J
  |int J=>(simp only[Brs]at h2;subst h2;obtain⟨t2,q2⟩:=(show ∃t,_=Xc J t from Z);cases q2);exact RcAt.bool_int B J t2
  |str J=>(simp only[Brs]at h2;subst h2;obtain⟨t2,q2⟩:=(show ∃t,_=W7 J t from Z);cases q2);exact RcAt.bool_str B J t2
  |lst es=>(simp only[Brs]at h2;obtain⟨q,a5,rfl,a0,a3⟩:=h2;cases (show _=Wb q from Z);obtain⟨N,a4,p2,_⟩:=I.list a0);exact RcAt.bool_list B p2.isList O
  |tup es=>(simp only[Brs]at h2;obtain⟨q,a5,rfl,a0,a3⟩:=h2;cases (show _=Wb q from Z);obtain⟨N,a4,p2,_⟩:=I.tuple a0);exact RcAt.bool_tuple B p2 O
 |int B=>
  simp only[Brs]at h1;subst h1;obtain⟨t1,q1⟩:=(show ∃t,_=Xc B t from U);cases q1;cases e with
  |non=>(simp only[Brs]at h2;subst h2;cases (show _=Wq from Z));exact RcAt.int_none B t1
  |bl J=>(simp only[Brs]at h2;subst h2;cases (show _=W9 J from Z));exact RcAt.int_bool B t1 J
  |int J=>(simp only[Brs]at h2;subst h2;obtain⟨t2,q2⟩:=(show ∃t,_=Xc J t from Z);cases q2);exact RcAt.int_int B t1 J t2
  |str J=>(simp only[Brs]at h2;subst h2;obtain⟨t2,q2⟩:=(show ∃t,_=W7 J t from Z);cases q2);exact RcAt.int_str B t1 J t2
  |lst es=>(simp only[Brs]at h2;obtain⟨q,a5,rfl,a0,a3⟩:=h2;cases (show _=Wb q from Z);obtain⟨N,a4,p2,_⟩:=I.list a0);exact RcAt.int_list B t1 p2.isList O
  |tup es=>(simp only[Brs]at h2;obtain⟨q,a5,rfl,a0,a3⟩:=h2;cases (show _=Wb q from Z);obtain⟨N,a4,p2,_⟩:=I.tuple a0);exact RcAt.int_tuple B t1 p2 O
 |str B=>
  simp only[Brs]at h1;subst h1;obtain⟨t1,q1⟩:=(show ∃t,_=W7 B t from U);cases q1;cases e with
  |non=>(simp only[Brs]at h2;subst h2;cases (show _=Wq from Z));exact RcAt.str_none B t1
  |bl J=>(simp only[Brs]at h2;subst h2;cases (show _=W9 J from Z));exact RcAt.str_bool B t1 J
  |int J=>(simp only[Brs]at h2;subst h2;obtain⟨t2,q2⟩:=(show ∃t,_=Xc J t from Z);cases q2);exact RcAt.str_int B t1 J t2
  |str J=>(simp only[Brs]at h2;subst h2;obtain⟨t2,q2⟩:=(show ∃t,_=W7 J t from Z);cases q2);exact RcAt.str_str B t1 J t2
  |lst es=>(simp only[Brs]at h2;obtain⟨q,a5,rfl,a0,a3⟩:=h2;cases (show _=Wb q from Z);obtain⟨N,a4,p2,_⟩:=I.list a0);exact RcAt.str_list B t1 p2.isList O
  |tup es=>(simp only[Brs]at h2;obtain⟨q,a5,rfl,a0,a3⟩:=h2;cases (show _=Wb q from Z);obtain⟨N,a4,p2,_⟩:=I.tuple a0);exact RcAt.str_tuple B t1 p2 O
 |lst ds=>
  simp only[Brs]at h1;obtain⟨a1,b0,rfl,a9,a8⟩:=h1;cases (show _=Wb a1 from U);obtain⟨a6,a7,p1,_⟩:=I.list a9;cases e with
  |non=>(simp only[Brs]at h2;subst h2;cases (show _=Wq from Z));exact RcAt.list_none p1.isList O
  |bl J=>(simp only[Brs]at h2;subst h2;cases (show _=W9 J from Z));exact RcAt.list_bool J p1.isList O
  |int J=>(simp only[Brs]at h2;subst h2;obtain⟨t2,q2⟩:=(show ∃t,_=Xc J t from Z);cases q2);exact RcAt.list_int J t2 p1.isList O
  |str J=>(simp only[Brs]at h2;subst h2;obtain⟨t2,q2⟩:=(show ∃t,_=W7 J t from Z);cases q2);exact RcAt.list_str J t2 p1.isList O
  |lst es=>
   simp only[Brs]at h2;obtain⟨q,a5,rfl,a0,a3⟩:=h2;cases (show _=Wb q from Z);obtain⟨N,a4,p2,_⟩:=I.list a0;have hd:A.in1.units+dpL ds<cLine:=by
    have:dp (.lst ds)=dpL ds+1:=by simp[dp]
    show A.units+1+dpL ds<cLine;omega
   have he:A.in1.units+dpL es<cLine:=by
    have:dp (.lst es)=dpL es+1:=by simp[dp]
    show A.units+1+dpL es<cLine;omega
   have l1:=a8.length;have l2:=a3.length;have l3:=a7.length;have l4:=a4.length;rw[show eqD (.lst ds) (.lst es)=eqL ds es by simp[eqD]];by_cases Y:ds.length=es.length
   .rw[←kO Y,show ds.length=a6.toArray.size by rw[List.size_toArray];omega]
    exact RcAt.lists p1.isList p2.isList (by rw[List.size_toArray,List.size_toArray];omega) O (oE I ds es a8 a3 a7 a4 hd he)
   .rw[lB Y]
    exact adh p1.isList p2.isList (by rw[List.size_toArray,List.size_toArray];exact bne_iff_ne.mpr 1.10) O
  |tup es=>(simp only[Brs]at h2;obtain⟨q,a5,rfl,a0,a3⟩:=h2;cases (show _=Wb q from Z);obtain⟨N,a4,p2,_⟩:=I.tuple a0);exact RcAt.list_tuple p1.isList p2 O
 |tup ds=>
  simp only[Brs]at h1;obtain⟨a1,b0,rfl,a9,a8⟩:=h1;cases (show _=Wb a1 from U);obtain⟨a6,a7,p1,_⟩:=I.tuple a9;cases e with
  |non=>(simp only[Brs]at h2;subst h2;cases (show _=Wq from Z));exact RcAt.tuple_none p1 O
  |bl J=>(simp only[Brs]at h2;subst h2;cases (show _=W9 J from Z));exact RcAt.tuple_bool J p1 O
  |int J=>(simp only[Brs]at h2;subst h2;obtain⟨t2,q2⟩:=(show ∃t,_=Xc J t from Z);cases q2);exact RcAt.tuple_int J t2 p1 O
  |str J=>(simp only[Brs]at h2;subst h2;obtain⟨t2,q2⟩:=(show ∃t,_=W7 J t from Z);cases q2);exact RcAt.tuple_str J t2 p1 O
  |lst es=>(simp only[Brs]at h2;obtain⟨q,a5,rfl,a0,a3⟩:=h2;cases (show _=Wb q from Z);obtain⟨N,a4,p2,_⟩:=I.list a0);exact RcAt.tuple_list p1 p2.isList O
  |tup es=>
   simp only[Brs]at h2;obtain⟨q,a5,rfl,a0,a3⟩:=h2;cases (show _=Wb q from Z);obtain⟨N,a4,p2,_⟩:=I.tuple a0;have hd:A.in1.units+dpL ds<cLine:=by
    have:dp (.tup ds)=dpL ds+1:=by simp[dp]
    show A.units+1+dpL ds<cLine;omega
   have he:A.in1.units+dpL es<cLine:=by
    have:dp (.tup es)=dpL es+1:=by simp[dp]
    show A.units+1+dpL es<cLine;omega
   have l1:=a8.length;have l2:=a3.length;have l3:=a7.length;have l4:=a4.length;rw[show eqD (.tup ds) (.tup es)=((WD (min a6.toArray.size N.toArray.size)).all (eqJ ds es)&&a6.toArray.size==N.toArray.size)from ?_]
   .exact RcAt.tuples p1 p2 O (oE I ds es a8 a3 a7 a4 hd he)
   .rw[show eqD (.tup ds) (.tup es)=eqL ds es by simp[eqD],List.size_toArray,List.size_toArray]
    by_cases Y:ds.length=es.length
    .rw[show min a6.length N.length=ds.length by omega,kO Y,show(a6.length==N.length)=true by simp;omega,acW]
    .rw[lB Y,show(a6.length==N.length)=false by simp;omega,aat]
open PySem.SeqAt in
theorem Ol(I:Inv X pins σ H s)(d e:Dt){A:Xk}{v u:V}{v' u':Value}(h1:Brs X.K H d v)(h2:Brs X.K H e u)(U:RelV v v')(Z:RelV u u')(F:A.units+dp d<cLine)(b1:A.units+dp e<cLine):RcNeAt A s v' u' (!eqD d e):=by
 have O:A.units<cLine:=by omega
 cases d with
 |non=>
  simp only[Brs]at h1;subst h1;cases (show _=Wq from U);cases e with
  |non=>(simp only[Brs]at h2;subst h2;cases (show _=Wq from Z));exact RcNeAt.none_none
  |bl J=>(simp only[Brs]at h2;subst h2;cases (show _=W9 J from Z));exact RcNeAt.none_bool J
  |int J=>(simp only[Brs]at h2;subst h2;obtain⟨t2,q2⟩:=(show ∃t,_=Xc J t from Z);cases q2);exact RcNeAt.none_int J t2
  |str J=>(simp only[Brs]at h2;subst h2;obtain⟨t2,q2⟩:=(show ∃t,_=W7 J t from Z);cases q2);exact RcNeAt.none_str J t2
  |lst es=>(simp only[Brs]at h2;obtain⟨q,a5,rfl,a0,a3⟩:=h2;cases (show _=Wb q from Z);obtain⟨N,a4,p2,_⟩:=I.list a0);exact RcNeAt.none_list p2.isList O
  |tup es=>(simp only[Brs]at h2;obtain⟨q,a5,rfl,a0,a3⟩:=h2;cases (show _=Wb q from Z);obtain⟨N,a4,p2,_⟩:=I.tuple a0);exact RcNeAt.none_tuple p2 O
 |bl B=>
  simp only[Brs]at h1;subst h1;cases (show _=W9 B from U);cases e with
  |non=>(simp only[Brs]at h2;subst h2;cases (show _=Wq from Z));exact RcNeAt.bool_none B
  |bl J=>(simp only[Brs]at h2;subst h2;cases (show _=W9 J from Z));exact RcNeAt.bool_bool B J
  |int J=>(simp only[Brs]at h2;subst h2;obtain⟨t2,q2⟩:=(show ∃t,_=Xc J t from Z);cases q2);exact RcNeAt.bool_int B J t2
  |str J=>(simp only[Brs]at h2;subst h2;obtain⟨t2,q2⟩:=(show ∃t,_=W7 J t from Z);cases q2);exact RcNeAt.bool_str B J t2
  |lst es=>(simp only[Brs]at h2;obtain⟨q,a5,rfl,a0,a3⟩:=h2;cases (show _=Wb q from Z);obtain⟨N,a4,p2,_⟩:=I.list a0);exact RcNeAt.bool_list B p2.isList O
  |tup es=>(simp only[Brs]at h2;obtain⟨q,a5,rfl,a0,a3⟩:=h2;cases (show _=Wb q from Z);obtain⟨N,a4,p2,_⟩:=I.tuple a0);exact RcNeAt.bool_tuple B p2 O
 |int B=>
  simp only[Brs]at h1;subst h1;obtain⟨t1,q1⟩:=(show ∃t,_=Xc B t from U);cases q1;cases e with
  |non=>(simp only[Brs]at h2;subst h2;cases (show _=Wq from Z));exact RcNeAt.int_none B t1
  |bl J=>(simp only[Brs]at h2;subst h2;cases (show _=W9 J from Z));exact RcNeAt.int_bool B t1 J
  |int J=>(simp only[Brs]at h2;subst h2;obtain⟨t2,q2⟩:=(show ∃t,_=Xc J t from Z);cases q2);exact RcNeAt.int_int B t1 J t2
  |str J=>(simp only[Brs]at h2;subst h2;obtain⟨t2,q2⟩:=(show ∃t,_=W7 J t from Z);cases q2);exact RcNeAt.int_str B t1 J t2
  |lst es=>(simp only[Brs]at h2;obtain⟨q,a5,rfl,a0,a3⟩:=h2;cases (show _=Wb q from Z);obtain⟨N,a4,p2,_⟩:=I.list a0);exact RcNeAt.int_list B t1 p2.isList O
  |tup es=>(simp only[Brs]at h2;obtain⟨q,a5,rfl,a0,a3⟩:=h2;cases (show _=Wb q from Z);obtain⟨N,a4,p2,_⟩:=I.tuple a0);exact RcNeAt.int_tuple B t1 p2 O
 |str B=>
  simp only[Brs]at h1;subst h1;obtain⟨t1,q1⟩:=(show ∃t,_=W7 B t from U);cases q1;cases e with
  |non=>(simp only[Brs]at h2;subst h2;cases (show _=Wq from Z));exact RcNeAt.str_none B t1
  |bl J=>(simp only[Brs]at h2;subst h2;cases (show _=W9 J from Z));exact RcNeAt.str_bool B t1 J
  |int J=>(simp only[Brs]at h2;subst h2;obtain⟨t2,q2⟩:=(show ∃t,_=Xc J t from Z);cases q2);exact RcNeAt.str_int B t1 J t2
  |str J=>(simp only[Brs]at h2;subst h2;obtain⟨t2,q2⟩:=(show ∃t,_=W7 J t from Z);cases q2);exact RcNeAt.str_str B t1 J t2
  |lst es=>(simp only[Brs]at h2;obtain⟨q,a5,rfl,a0,a3⟩:=h2;cases (show _=Wb q from Z);obtain⟨N,a4,p2,_⟩:=I.list a0);exact RcNeAt.str_list B t1 p2.isList O
  |tup es=>(simp only[Brs]at h2;obtain⟨q,a5,rfl,a0,a3⟩:=h2;cases (show _=Wb q from Z);obtain⟨N,a4,p2,_⟩:=I.tuple a0);exact RcNeAt.str_tuple B t1 p2 O
 |lst ds=>
  simp only[Brs]at h1;obtain⟨a1,b0,rfl,a9,a8⟩:=h1;cases (show _=Wb a1 from U);obtain⟨a6,a7,p1,_⟩:=I.list a9;cases e with
  |non=>(simp only[Brs]at h2;subst h2;cases (show _=Wq from Z));exact RcNeAt.list_none p1.isList O
  |bl J=>(simp only[Brs]at h2;subst h2;cases (show _=W9 J from Z));exact RcNeAt.list_bool J p1.isList O
  |int J=>(simp only[Brs]at h2;subst h2;obtain⟨t2,q2⟩:=(show ∃t,_=Xc J t from Z);cases q2);exact RcNeAt.list_int J t2 p1.isList O
  |str J=>(simp only[Brs]at h2;subst h2;obtain⟨t2,q2⟩:=(show ∃t,_=W7 J t from Z);cases q2);exact RcNeAt.list_str J t2 p1.isList O
  |lst es=>
   simp only[Brs]at h2;obtain⟨q,a5,rfl,a0,a3⟩:=h2;cases (show _=Wb q from Z);obtain⟨N,a4,p2,_⟩:=I.list a0;have hd:A.in1.units+dpL ds<cLine:=by
    have:dp (.lst ds)=dpL ds+1:=by simp[dp]
    show A.units+1+dpL ds<cLine;omega
   have he:A.in1.units+dpL es<cLine:=by
    have:dp (.lst es)=dpL es+1:=by simp[dp]
    show A.units+1+dpL es<cLine;omega
   have l1:=a8.length;have l2:=a3.length;have l3:=a7.length;have l4:=a4.length;rw[show eqD (.lst ds) (.lst es)=eqL ds es by simp[eqD]];by_cases Y:ds.length=es.length
   .rw[←kO Y,show ds.length=a6.toArray.size by rw[List.size_toArray];omega]
    exact RcNeAt.lists p1.isList p2.isList (by rw[List.size_toArray,List.size_toArray];omega) O (oE I ds es a8 a3 a7 a4 hd he)
   .rw[lB Y]
    exact RcNeAt.lists_lengths p1.isList p2.isList (by rw[List.size_toArray,List.size_toArray];exact bne_iff_ne.mpr 1.10) O
  |tup es=>(simp only[Brs]at h2;obtain⟨q,a5,rfl,a0,a3⟩:=h2;cases (show _=Wb q from Z);obtain⟨N,a4,p2,_⟩:=I.tuple a0);exact RcNeAt.list_tuple p1.isList p2 O
 |tup ds=>
  simp only[Brs]at h1;obtain⟨a1,b0,rfl,a9,a8⟩:=h1;cases (show _=Wb a1 from U);obtain⟨a6,a7,p1,_⟩:=I.tuple a9;cases e with
  |non=>(simp only[Brs]at h2;subst h2;cases (show _=Wq from Z));exact RcNeAt.tuple_none p1 O
  |bl J=>(simp only[Brs]at h2;subst h2;cases (show _=W9 J from Z));exact RcNeAt.tuple_bool J p1 O
  |int J=>(simp only[Brs]at h2;subst h2;obtain⟨t2,q2⟩:=(show ∃t,_=Xc J t from Z);cases q2);exact RcNeAt.tuple_int J t2 p1 O
  |str J=>(simp only[Brs]at h2;subst h2;obtain⟨t2,q2⟩:=(show ∃t,_=W7 J t from Z);cases q2);exact RcNeAt.tuple_str J t2 p1 O
  |lst es=>(simp only[Brs]at h2;obtain⟨q,a5,rfl,a0,a3⟩:=h2;cases (show _=Wb q from Z);obtain⟨N,a4,p2,_⟩:=I.list a0);exact RcNeAt.tuple_list p1 p2.isList O
  |tup es=>
   simp only[Brs]at h2;obtain⟨q,a5,rfl,a0,a3⟩:=h2;cases (show _=Wb q from Z);obtain⟨N,a4,p2,_⟩:=I.tuple a0;have hd:A.in1.units+dpL ds<cLine:=by
    have:dp (.tup ds)=dpL ds+1:=by simp[dp]
    show A.units+1+dpL ds<cLine;omega
   have he:A.in1.units+dpL es<cLine:=by
    have:dp (.tup es)=dpL es+1:=by simp[dp]
    show A.units+1+dpL es<cLine;omega
   have l1:=a8.length;have l2:=a3.length;have l3:=a7.length;have l4:=a4.length;rw[show eqD (.tup ds) (.tup es)=((WD (min a6.toArray.size N.toArray.size)).all (eqJ ds es)&&a6.toArray.size==N.toArray.size)from ?_]
   .exact RcNeAt.tuples p1 p2 O (oE I ds es a8 a3 a7 a4 hd he)
   .rw[show eqD (.tup ds) (.tup es)=eqL ds es by simp[eqD],List.size_toArray,List.size_toArray]
    by_cases Y:ds.length=es.length
    .rw[show min a6.length N.length=ds.length by omega,kO Y,show(a6.length==N.length)=true by simp;omega,acW]
    .rw[lB Y,show(a6.length==N.length)=false by simp;omega,aat]
def Uk(K:V8)(A:Xk):R2:=λx y H Q=>∃d e,Brs K H d x/\Brs K H e y/\A.units+dp d<cLine/\A.units+dp e<cLine/\Q (.bl (eqD d e)) H
def Ug(K:V8)(A:Xk):R2:=λx y H Q=>∃d e,Brs K H d x/\Brs K H e y/\A.units+dp d<cLine/\A.units+dp e<cLine/\Q (.bl (!eqD d e)) H
theorem Q3:OpR X (W8 .Eq) (Uk X.K X.A):=by
 intro pins s σ H x y v u Q I rx J h;obtain⟨d,e,h1,h2,F,B,q⟩:=h;exact Sv I d e h1 h2 rx J F B _ _ _ _ ⟨.bl (eqD d e),H,I,rfl,q⟩
theorem QD:OpR X (W8 .NotEq) (Ug X.K X.A):=by
 intro pins s σ H x y v u Q I rx J h;obtain⟨d,e,h1,h2,F,B,q⟩:=h;exact Ol I d e h1 h2 rx J F B _ _ _ _ ⟨.bl (!eqD d e),H,I,rfl,q⟩
end
section
variable{prog:Program}{w:World}{A:Around}{E:Value->Shared->Prop}{s:Shared}
theorem sH{sl:Addr}{Y J vs:Value}{lo hi st:Option Int}{n:Nat}{Q:Int×Int×Nat->V0->Prop}(hs:s.heap.IsSliceOf sl Y J vs)(F:ZS Y lo)(B:ZS J hi)(ps:ZS vs st)(N:st.getD 1≠0)
  (h:Q ((Xd lo hi (st.getD 1) (n:Int)).1,st.getD 1,W4 (Xd lo hi (st.getD 1) (n:Int)).1 (Xd lo hi (st.getD 1) (n:Int)).2 (st.getD 1)) s) :
  wpAny 1.14 A (Y4 (.ref sl) (pure (n:Int))) Q E s:=by
 obtain⟨os,q,I,O⟩:=id hs;unfold Y4;refine gD (gD (ZJ q O (x:=Y) rfl (gD (ZJ q O (x:=J) rfl (gD (ZJ q O (x:=vs) rfl (V3 ?_)))))));refine gD (HT.slicePart_ ps ?_);have h1:(st.getD 1==0)=false:=by simpa using N
 simp only[h1,WT,XD,pure_bind];exact gD (HT.slicePart_ F (gD (HT.slicePart_ B (V3 h))))
def mU{α:Type}(xs:List α)(l st:Int)(k:Nat):List α:=(WD k).filterMap λ(m:Nat)=>xs[(l+(m:Int)*st).toNat]?
theorem iI{t sl:Addr}{items:List Value}{Y J vs:Value}{lo hi st:Option Int}{Q:Value->V0->Prop}(F:IsTup s.heap t items.toArray)(hs:s.heap.IsSliceOf sl Y J vs)(pl:ZS Y lo)(pu:ZS J hi)(ps:ZS vs st)(N:st.getD 1≠0)
  {l h':Int} (U:Xd lo hi (st.getD 1) (items.length:Int)=(l,h')) {k:Nat} (ek:W4 l h' (st.getD 1)=k)
  (B:(l=0/\st.getD 1=1/\k=items.length)->Q (.ref t) s)
  (hn:¬(l=0/\st.getD 1=1/\k=items.length)->Q (.ref s.heap.objs.size) {s with heap:=s.heap.push {cls:=.type "tuple",data:=.seq (mU items l (st.getD 1) k).toArray}})
  (hsz:(mU items l (st.getD 1) k).length<=V6):wpAny 1.14 A (aa_ (.ref t) (.ref sl)) Q E s:=by
 have V:sizeOk (.seq (mU items l (st.getD 1) k).toArray):=by
  show(mU items l (st.getD 1) k).toArray.size<=V6;rw[List.size_toArray];exact hsz
 obtain⟨os,q,I,O⟩:=id hs;have a0:s.TypeIs (.ref sl) "slice":=⟨os,q,I⟩;unfold aa_
 try with_reducible refine Xf ?_
 first|refine gD (V3 ?_)|skip
 refine gD (wpAny_sequenceKey F.typeIs (by decide) ?_);refine gD (Yn (name:=YT "__getitem__") F.typeIs Xm
  (aaL Xm F.typeIs ac0 ?_ (args_tuple_getitem _ _)))
 show wpAny _ _ (abr (.ref t) >>=_) _ _ s;refine gD (tupleItemsOf_ F ?_);refine gD (Zf a0 ?_);rw[Wd (by decide)];rw[List.size_toArray];refine gD (sH hs pl pu ps N ?_);rw[U,ek];dsimp only;by_cases Z:(l=0/\st.getD 1=1/\k=items.length)
 .rw[Wd (by simp[Z])]
  refine gD ?_;unfold Builtin.Tuple.tupleIsExact;refine gD (Zf F.typeIs (V3 ?_));rw[Wd (by decide)];exact gD (aaq (V3 ⟨_,rfl,V3 (B Z)⟩))
 .rw[Wo (by simpa using Z)]
  have e:(List.filterMap (λ(k:Nat)=>items.toArray[(l+(k:Int)*st.getD 1).toNat]?) (WD k)).toArray=(mU items l (st.getD 1) k).toArray:=by
   unfold mU;simp
  rw[e];exact gD (m:=Yz _) (XC (V3 ⟨_,rfl,V3 (hn Z)⟩) V)
end
theorem vq{α:Type}(xs:List α)(l st:Int)(k:Nat):(mU xs l st k).length<=k:=by
 unfold mU;have:=List.length_filterMap_le (λ(m:Nat)=>xs[(l+(m:Int)*st).toNat]?) (WD k);rw[List.length_range]at this;exact this
theorem JR{α:Type}(xs:List α):mU xs ((xs.length:Int)-1) (-1) xs.length=xs.reverse:=by
 unfold mU;apply Y6;intro j;have Z:∀n,n<=xs.length->(WD n).filterMap (λ(m:Nat)=>xs[((xs.length:Int)-1+(m:Int)* -1).toNat]?)=(xs.reverse).take n:=by
  intro n
  induction n with
  |zero=>intro _;simp
  |succ n O=>
   intro hn;rw[List.range_succ,List.filterMap_append,O 1.10,Y7];congr 1;have e1:((xs.length:Int)-1+(n:Int)* -1).toNat=xs.length-1-n:=by omega
   rw[List.getElem?_reverse 1.10];simp only[aaa,List.filterMap_nil,e1];rw[Wh 1.10]
   try rfl
 rw[Z xs.length (Wa _),YM (by simp)]
section
variable{X:Cx}{e:Expr}{te:TE}{p2 pos:Pos}
def UV(K:V8):V->Option Int->Option Int->Hp->VK->Prop:=λx lo hi H Q=>∃a xs,x= .ref a/\SqT K H a xs/\(uA xs lo hi=xs->Q (.ref a) H)/\∀p,H p=none->Q (.ref p) (upd H p (.tup (uA xs lo hi)))
theorem QM:SlR X (UV X.K):=by
 intro pins s σ H x v Y vu lo hi sl Q I rx hs V N h;obtain⟨a,xs,rfl,J,q1,q2⟩:=h;by_cases q:(HT.sIx xs.length 0 lo=0/\HT.sIx xs.length xs.length hi=xs.length)
 .have rx0:=rx
  cases rx;obtain⟨B,r,F,O⟩:=I.tuple J;have U:=r.length;refine⟨"tuple",_,Xm.lookup,F.typeIs,?_⟩;have e1:Xd lo hi ((none:Option Int).getD 1) (B.length:Int)=(((0:Nat):Int),((xs.length:Nat):Int)):=by
   have e1:=HT.adjust_gen lo hi B.length;rw[←U,q.1,q.2]at e1;rw[←U];exact e1
  refine iI (items:=B) (st:=none) F hs V N .none (by decide) e1 rfl (λ_=>?_) (λZ=>?_) ?_
  .refine⟨.ref a,H,I,rfl,q1 ?_⟩
   unfold uA;rw[q.1,q.2];simp
  .refine absurd ⟨rfl,rfl,?_⟩ Z
   show W4 ((0:Nat):Int) ((xs.length:Nat):Int) 1=B.length;rw[HT.places_gen];omega
  .refine Xu (vq _ _ _ _) ?_
   show W4 ((0:Nat):Int) ((xs.length:Nat):Int) 1<=V6;rw[HT.places_gen];omega
 .exact R1 pins s σ H _ v Y vu lo hi sl Q I rx hs V N ⟨a,xs,rfl,J,q,q2⟩
def Va(K:V8):R2:=λx y H Q=>∃a xs,x= .ref a/\SqT K H a xs/\((y= .int 1/\Q (.ref a) H)∨(y= .int (-1)/\∀p,H p=none->Q (.ref p) (upd H p (.tup xs.reverse))))
def Jy(K:V8):R2:=λx y H Q=>∃a b xs ys,x= .ref a/\y= .ref b/\SqT K H a xs/\SqT K H b ys/\xs.length+ys.length<=V6/\
 (xs=[]->Q (.ref b) H)/\(xs≠[]->ys=[]->Q (.ref a) H)/\(xs≠[]->ys≠[]->∀p,H p=none->Q (.ref p) (upd H p (.tup (xs++ys))))
theorem Lh:OpR X (X6 .Add) (Jy X.K):=by
 intro pins s σ H x y v u Q I rx ry h;obtain⟨a,b,xs,ys,rfl,rfl,Y,U,O,q0,q1,q2⟩:=h;by_cases J:xs=[]
 .cases rx
  cases ry;obtain⟨B,r1,p1,_⟩:=I.tuple Y;obtain⟨a1,r2,p2,_⟩:=I.tuple U;obtain⟨⟨cls,dd,data,sl⟩,N,Z,n,hd⟩:=id p1;obtain⟨⟨a5,q,a3,a4⟩,a2,V,n2,a0⟩:=id p2;simp only at Z hd V a0;subst Z hd V a0;exact adb ⟨_,N,rfl⟩ ⟨_,a2,rfl⟩ abR acU aaD aau (aal _ _)
   (tuple_addW0 a b B.toArray a1.toArray n n2 dd q sl a4 (by rw[r1.nil_iff.mpr J];rfl)) ⟨N,a2,⟨.ref b,H,I,rfl,q0 J⟩⟩
 .exact Oq pins s σ H _ _ v u Q I rx ry ⟨a,b,xs,ys,rfl,rfl,Y,U,J,O,q1 J,q2 J⟩
end
section
variable{X:Cx}{pins:List (Addr×Obj)}{σ:L2.St}{H:Hp}{s:Shared}{h':Heap}
theorem oK{fp:List Addr}{t':Nat}{p:Addr}{o:HO}(I:Inv X pins σ H s)(O:∀b∈fp,jd X pins H b)(keep:∀b u,b∉fp->s.heap.get? b=some u->h'.get? b=some u)(F:s.heap.objs.size<=p)
  (new:cB X.prog X.w (upd H p o) h' p o):Inv X pins σ (upd H p o) {s with heap:=h',toks:=t'}:=by
 have hn:H p=none:=I.hok.fresh F;have N:∀b u,H b=some u->b∉fp:=λb u e U=>by rw[(O b U).1]at e;cases e
 have B:∀b u,s.heap.get? b=some u->b≠p:=λb u e=>Wj (Wg (V_ e) F);refine I.step (g':=s.gens) (d':=s.drawn) (ch:=fp) (λb U=>⟨(O b U).2.2.2.1,(O b U).2.1,(O b U).2.2.2.2.1,(O b U).2.2.2.2.2⟩) (λb u _ _ Z e _=>keep b u Z e) (λb u _ _ Z e _=>⟨u.slots,keep b u Z e⟩)
  (λb u _ e n=>by rw[aK (B b u e)];exact n) (λb u Z e=>⟨u,keep b u Z e⟩) (λb xs e=>by rw[aK (aO e hn)];exact e) (λb ob u e=>by rw[aK (aO e hn)];exact e)
  (λb ps e=>⟨#[],by rw[aK (aO e hn),e];simp⟩) (λm J=>?_) (λb u e=>?_) I.bare
 .obtain⟨ob,es,ep,ho,r⟩:=J
  exact⟨ob,es,ep,keep _ ob (λz=>(O _ z).2.1 rfl) ho,r⟩
 .by_cases U:b=p
  .subst U
   rw[aM]at e;cases e;exact new
  .rw[aK U]at e
   refine(I.hok b u e).stay (λc v Z q=>keep c v ?_ q) (λc q=>by rw[aK (aO q hn)];exact q) λc xs q=>by rw[aK (aO q hn)];exact q
   rcases Z with z|z
   .rw[z]
    exact N b u e
   .exact N c _ z
theorem ji{fp:List Addr}{t':Nat}(I:Inv X pins σ H s)(B:∀b∈fp,jd X pins H b)(keep:∀b u,b∉fp->s.heap.get? b=some u->h'.get? b=some u):Inv X pins σ H {s with heap:=h',toks:=t'}:=by
 have N:∀b u,H b=some u->b∉fp:=λb u e U=>by rw[(B b U).1]at e;cases e
 refine I.step (g':=s.gens) (d':=s.drawn) (ch:=fp) (λb U=>⟨(B b U).2.2.2.1,(B b U).2.1,(B b U).2.2.2.2.1,(B b U).2.2.2.2.2⟩) (λb u _ _ Z e _=>keep b u Z e) (λb u _ _ Z e _=>⟨u.slots,keep b u Z e⟩)
  (λb u _ e n=>n) (λb u Z e=>⟨u,keep b u Z e⟩) (λb xs e=>e) (λb ob u e=>e) (λb ps e=>⟨#[],by rw[e];simp⟩) (λm J=>?_) (λb u e=>?_) I.bare
 .obtain⟨ob,es,ep,ho,r⟩:=J
  exact⟨ob,es,ep,keep _ ob (λz=>(B _ z).2.1 rfl) ho,r⟩
 .refine(I.hok b u e).stay (λc v Z q=>keep c v ?_ q) (λc q=>q) λc xs q=>q
  rcases Z with z|z
  .rw[z]
   exact N b u e
  .exact N c _ z
end
def Ite(K:V8)(a:Addr):It:=
 ⟨λi H=>∃xs x,SqL K H a xs/\xs[i]? =some x,λi H x H'=>∃p v,H p=none/\x= .ref p/\(∀xs,SqL K H a xs->xs[i]? =some v)/\H'=upd H p (.tup [.int i,v]),λi H=>∃xs,SqL K H a xs/\xs.length<=i⟩
theorem Gb{P:WY}{w:World}{K:V8}{elts:List Expr}{x1}{pos:Pos}(a e it:Addr)(a4:e≠it) :
  Turn P w K (.Tuple elts x1 pos) (Ite K a) [e,it] e (λi h=>(∃a0,IsEnum h e it (i:Int) a0)/\h.IsListIter it a i)where
 mem:=by simp
 obj:=λi h st b U=>by
  obtain⟨⟨a0,V⟩,o,N,c,d⟩:=st;rcases V5.mp U with z|z
  .subst z
   exact⟨_,V,λv z=>by cases z⟩
  .have z:b=it:=by simpa using z
   subst z;exact⟨o,N,λv z=>by rw[d]at z;cases z⟩
 keep:=λi h h' st k=>by
  obtain⟨⟨a0,V⟩,a1⟩:=st;exact⟨⟨a0,k e (by simp) _ V⟩,a1.at λo q=>k it (by simp) o q⟩
 item:=by
  intro X hP hw hK Z i pins s σ H E I hf st hg;subst hP hw hK;obtain⟨xs,x,hq,J⟩:=hg;obtain⟨B,rv,p,O⟩:=I.list hq;obtain⟨u,F,ru⟩:=rv.get J;obtain⟨⟨a0,V⟩,a1⟩:=st;refine wpAny_pyNext_enum_item V a1 p.isList (x:=u) (by simpa using F) a4 λh1 a9 a5 a7 b1 k1=>?_;refine⟨.ref s.heap.objs.size,rfl,abu a9 λh2 b0 a2=>?_⟩;have a6:e<s.heap.objs.size:=V_ V;have a3:s.heap.objs.size≠e:=Yq a6;have a8:h2.get? s.heap.objs.size=some {cls:=.type "tuple",data:=.seq #[.int i s.toks,u]}:=a2.extBut _ _ a3 a7;have I2:Inv X pins σ (upd H s.heap.objs.size (.tup [.int i,x])) {s with heap:=h2,toks:=s.toks+1}:=by
   refine oK (fp:=[e,it]) (t':=s.toks+1) I hf (λb o U q=>?_) (Wa _) ?_
   .have n1:b≠e:=λz=>U 1.22
    have n2:b≠it:=λz=>U 1.22;exact a2.extBut b o n1 (k1 b o n1 n2 q)
   .exact⟨by show 2<=V6;decide,[.int i s.toks,u],.cons ⟨_,rfl⟩ (.cons ru .nil),_,a8,rfl,_,rfl,rfl⟩
  refine⟨.ref s.heap.objs.size,upd H s.heap.objs.size (.tup [.int i,x]),I2,rfl,⟨_,x,I.hok.fresh (Wa _),rfl,λys hy=>by rw[I.list_inj hy hq];exact J,rfl⟩,?_,λb U=>?_⟩
  .refine⟨⟨u,?_⟩,a5.extBut a2.extBut (WW a4)⟩
   have e1:(((i+1:Nat)):Int)=(i:Int)+1:=by omega
   rw[e1];exact b0
  .rw[aK]
   .exact(hf b U).1
   .intro z
    rw[z]at U;rcases V5.mp U with q|q
    .exact a3 q
    .have q:s.heap.objs.size=it:=by simpa using q
     obtain⟨o,N,_⟩:=a1;exact absurd (V_ N) (by rw[q];exact XF _)
 done:=by
  intro X hP hw hK Z i pins s σ H E I hf st hg;subst hP hw hK;obtain⟨xs,hq,J⟩:=hg;obtain⟨B,rv,p,O⟩:=I.list hq;obtain⟨⟨a0,V⟩,a1⟩:=st;have Y:=rv.length;refine wpAny_pyNext_enum_end (I.ok.hd Z) V a1 p.isList (by simp;omega) λh1 eb=>⟨rfl,?_⟩;exact ji (fp:=[e,it]) (t':=s.toks) I hf λb o U q=>eb b o (λz=>U 1.22) q
 self:=λA i s Q E st h=>by
  obtain⟨⟨a0,V⟩,_⟩:=st;exact aay V h
end Jb
namespace PySem
open Sem (wp)
theorem F.first_AttributeError:((Manifest.find? "AttributeError").elim false λt=>t.mro.contains "StopIteration"||t.mro.contains "SystemExit")=false:=by decide +kernel
theorem F.sub_AttributeError:isSubtype (.type "AttributeError") (.type "AttributeError")=pure true:=by rw[isSubtype_type];kernel_rfl
section
variable{prog:Program}{w:World}{A:Around}{E:Value->Shared->Prop}
theorem su{α:Type}{o:Value}{name a0:Str}{Q:α->V0->Prop}{h:Heap}{g:Array GenState}{d:Drawn}{t:Nat}{os:OsState}(Y:A.handled=none)(J:a0.length<=V6)
  (N:∀h' tk e,(∀b u,h.get? b=some u->h'.get? b=some u)->(∃Z,h'.get? e=some Z/\Z.cls= .type "AttributeError")->E (.ref e) ⟨h',g,d,tk,os⟩):wpAny 1.14 A (raiseAttrError o name a0:Sem α) Q E ⟨h,g,d,t,os⟩:=by
 unfold raiseAttrError;refine gD (wpAny_mkStr (gD ?_) J);unfold newExc newTuple;refine gD (XC ?_);refine gD (m:=firstArgMember _ _) (abf (a:=Wq) (by simp only[firstArgMember,F.first_AttributeError];rfl) ?_);refine XC ?_;refine gD (wpAny_mkText (gD ?_));dsimp only;generalize a1:h.push {cls:=.type "tuple",dict:=none,data:=.seq [W7 a0 t].toArray}=H1;generalize U:({cls:=.type "AttributeError",dict:=none,data:=.fields (#[.ref h.objs.size,.none,.none,.none,.bool false,.none]++ownMembersOf (.type "AttributeError") [W7 a0 t])}:Obj)=ob;have V:(H1.push ob).get? H1.objs.size=some ob:=Wx _ (by subst U;rfl);have I:(⟨H1.push ob,g,d,t+1+1,os⟩:V0).TypeIs (.ref H1.objs.size) "AttributeError":=⟨_,V,by subst U;rfl⟩;have f1:=F.sub_AttributeError;have B:∀b u,h.get? b=some u->(H1.push ob).get? b=some u:=λb u e=>V2 _ (a1▸V2 _ e);have q:ob.cls= .type "AttributeError":=by subst U;rfl
 obtain⟨vs,O,a4,a2⟩:∃vs,ob.data= .fields vs/\vs[6]? =some unsetMember/\vs[7]? =some unsetMember:=by subst U;exact⟨_,rfl,rfl,rfl⟩
 unfold noteAttr;dsimp only;refine gD ?_;unfold lacksNameAndObj;refine gD (aaN I f1 ?_);simp only[aaK,WT,XD];refine gD (acE V ?_);rw[O];dsimp only;rw[a4,a2];show wpAny 1.14 A (pure true) _ _ _;refine V3 ?_;rw[Wd rfl];refine gD (aaq (gD (Zf I ?_)));dsimp only;unfold layMembers;refine gD (acE V ?_);rw[O];dsimp only;refine wpAny_update V ?_;unfold raiseNew;refine gD (wpAny_handled ?_);rw[Y];dsimp only;have a3:h.objs.size<H1.objs.size:=by rw[←a1,Yu];exact Z0 _
 refine ach (N _ _ _ (λb u e=>?_) ⟨_,YZ _ V (acv (abl O _)),(adA ..).trans q⟩);exact(W5 (H1.push ob) _ (WW (Wj (Nat.lt_trans (V_ e) a3)))).trans (B b u e)
theorem F.lk_list_keys:abG (.type "list") "keys"=pure none:=by rw[aa2,ZV];kernel_rfl
theorem F.lk_list_getattr:abG (.type "list") "__getattr__"=pure none:=by rw[aa2,ZV];kernel_rfl
variable{h:Heap}{g:Array GenState}{d:Drawn}{t:Nat}{os:OsState}{a:Addr}{items:Array Value}{n:Nat}
def Cr(E:Value->V0->Prop)(h:Heap)(g:Array GenState)(d:Drawn)(os:OsState):Prop:=∀h' tk e,(∀b u,h.get? b=some u->h'.get? b=some u)->(∃Z,h'.get? e=some Z/\Z.cls= .type "AttributeError")->E (.ref e) ⟨h',g,d,tk,os⟩
theorem sW{tk:Tok}{Q:Fin->V0->Prop}(Y:A.handled=none)(J:h.get? a=some {cls:=.type "list",data:=.seq items n})(N:Cr E h g d os) :
  wpAny 1.14 A (Builtin.«object.__getattribute__» ⟨[.ref a,.str "keys" tk],[]⟩) Q E ⟨h,g,d,t,os⟩:=by
 have I:(⟨h,g,d,t,os⟩:V0).TypeIs (.ref a) "list":=⟨_,J,rfl⟩;have q:=F.lk_list_keys
 show 2
 exact su Y (by decide +kernel) N
theorem tM{tk:Tok}{R:Result->V0->Prop}(Y:A.handled=none)(J:h.get? a=some {cls:=.type "list",data:=.seq items n})(N:Cr (λe s=>R (.error e) s) h g d os) :
  Zw 1.14 A (.call (.builtin "list.__getattribute__") ⟨[.ref a,.str "keys" tk],[]⟩) R ⟨h,g,d,t,os⟩:=
 Za Zi.plain F.entry_list_ga (Zi.check _ _ _ _ _ _ _ _ (show(⟨h,g,d,t,os⟩:V0).TypeIs (.ref a) "list" from⟨_,J,rfl⟩) (F.args_list_getattribute_2 _ _) (sW Y J N))
theorem yc{tk:Tok}{Q:Value->V0->Prop}(Y:A.handled=none)(J:h.get? a=some {cls:=.type "list",data:=.seq items n})(N:Cr E h g d os):wpAny 1.14 A (getAttrBy (.ref a) (.str "keys" tk) false) Q E ⟨h,g,d,t,os⟩:=by
 have hT:(⟨h,g,d,t,os⟩:V0).TypeIs (.ref a) "list":=⟨_,J,rfl⟩;have I:=Zi.lookup;have f3:=Zi.bind (.ref a)
 show 2
 refine tM Y J λh' q e B V=>?_;obtain⟨Z,U,O⟩:=id V;have a0:(⟨h',g,d,q,os⟩:V0).TypeIs (.ref e) "AttributeError":=⟨Z,U,O⟩;dsimp only;unfold getattributeRaised;refine gD (aaN a0 F.sub_AttributeError ?_);rw[Wd rfl];refine gD (abf (show hookBehind (.type "list") none=pure none from F.lk_list_getattr) ?_);show wpAny 1.14 A (acK (.ref a) (.str "keys" tk) (.ref e) false false) Q E ⟨h',g,d,q,os⟩;unfold acK;dsimp only;rw[Wd (show(!false)=true from rfl)]
 first|exact ach (N h' q e B V)|exact gD (ach (N h' q e B V))
theorem mG{Q:Option Value->V0->Prop}(Y:A.handled=none)(J:h.get? a=some {cls:=.type "list",data:=.seq items n})
  (N:∀h' tk,(∀b u,h.get? b=some u->h'.get? b=some u)->Q none ⟨h',g,d,tk,os⟩):wpAny 1.14 A (getAttr? (.ref a) "keys") Q E ⟨h,g,d,t,os⟩:=by
 unfold getAttr? getAttrBy?;refine gD (wpAny_mkText (gD (acX (yc Y J λh' q e B V=>?_))));obtain⟨Z,U,O⟩:=id V;have I:(⟨h',g,d,q,os⟩:V0).TypeIs (.ref e) "AttributeError":=⟨Z,U,O⟩;dsimp only;refine gD (aaN I F.sub_AttributeError ?_);rw[Wd rfl];exact V3 (N h' q B)
end
namespace F
theorem entry_dict_update_loop:entryFor table "dict.update.loop"=some Builtin.«dict.update.loop»:=entryFor_of_tree (by kernel_rfl)
theorem plain_dict_update_loop:plainId "dict.update.loop"=true:=by decide +kernel
end F
end PySem
namespace Jb
open PySem PySem.Spec PyProof.Rows L2
section
variable{X:Cx}{pins:List (Addr×Obj)}{σ:L2.St}{A:Around}
def putAll(kvs:List (Key×V))(prs:List (Key×V)):List (Key×V):=prs.foldl (λacc N=>putK acc N.1 N.2) kvs
theorem uf:∀(prs kvs:List (Key×V)),(putAll kvs prs).length<=kvs.length+prs.length
 |[],kvs=>by simp[putAll]
 |p::r,kvs=>by
  have h1:=uf r (putK kvs p.1 p.2);have h2:=gq kvs p.1 p.2;have e:putAll kvs (p::r)=putAll (putK kvs p.1 p.2) r:=rfl;rw[e,WK];omega
theorem vV{D it l:Addr}{xs:List V}{prs:List (Key×V)}{R:Result->V0->Prop}(hh:A.handled=none)(a6:prs.length=xs.length):∀(m i:Nat)(kvs:List (Key×V))(H:Hp)(s:V0),xs.length-i=m->i<=xs.length->
  Inv X pins σ H s->H D=some (.dK kvs)->SqL X.K H l xs->jd X pins H it->s.heap.IsListIter it l i->(∀(j:Nat)(k:Key)(v:V),prs[j]? =some (k,v)->∃p:Addr,xs[j]? =some (V.ref p)/\H p=some (.tup [kV k,v]))->kvs.length+m<=100000->
  (∀s',Inv X pins σ (upd H D (.dK (putAll kvs (prs.drop i)))) s'->R (.ok (.ret .none)) s')->Zw 1.12 A (.builtin "dict.update.loop" ⟨[.ref D,.ref it,ZR i,.none],[]⟩) R s:=by
 intro m
 induction m with
 |zero=>
  intro i kvs H s J hi I hD N Z a0 hp O k;have e:i=xs.length:=by omega
  subst e;obtain⟨B,rv,p,_⟩:=I.list N;have Y:=rv.length;refine YC F.entry_dict_update_loop ?_;rw[X7 F.plain_dict_update_loop _];unfold Builtin.«dict.update.loop»;dsimp only;refine gD (acq (show A.in1.handled=none from hh) a0 p.isList (by simp;omega) λh' eb=>?_);dsimp only;have I1:Inv X pins σ H {s with heap:=h'}:=ji (fp:=[it]) (t':=s.toks) I (λb U=>by rw[Wl.mp U];exact Z) λb o U q=>eb b o (λz=>U 1.22) q;have e1:prs.drop xs.length=[]:=by rw[←a6,Yt]
  have k1:=k _ (by
   rw[e1];show Inv X pins σ (upd H D (.dK kvs)) {s with heap:=h'};have:upd H D (.dK kvs)=H:=by
    funext b;unfold upd;split
    .rename_i z
     rw[z,hD]
    .rfl
   rw[this];exact I1)
  show wpAny 1.12 A.in1 (Builtin.Dict.addKeywords D [] >>=λ_=>ret .none) _ _ _;exact gD (V3 (V3 k1))
 |succ m ih=>
  intro i kvs H s J hi I hD N Z a0 hp O k;have a7:i<xs.length:=by omega
  obtain⟨B,rv,p,_⟩:=I.list N;have Y:=rv.length;have a4:i<prs.length:=by omega
  obtain⟨t,ht,hT⟩:=hp i prs[i].1 prs[i].2 (by rw[Wh a4]);obtain⟨u,hu,ru⟩:=rv.get ht;cases ru;refine YC F.entry_dict_update_loop ?_;rw[X7 F.plain_dict_update_loop _];unfold Builtin.«dict.update.loop»;dsimp only;refine gD (aca a0 p.isList (x:=.ref t) (by simpa using hu) λh1 a5 a8=>?_);dsimp only;have I1:Inv X pins σ H {s with heap:=h1}:=ji (fp:=[it]) (t':=s.toks) I (λb U=>by rw[Wl.mp U];exact Z) λb o U q=>(a8.2 b (λz=>U 1.22)).trans q;obtain⟨_,b4,rj,oj,ej,cj,nj,dj,_⟩:=(show cB X.prog X.w H h1 t (.tup [kV prs[i].1,prs[i].2])from I1.hok t _ hT);obtain⟨ku,vu,rfl,rk,b3⟩:=vals2 rj;have b0:(({s with heap:=h1}:V0)).TypeIs (.ref t) "tuple":=⟨oj,ej,cj⟩;refine gD (Xf (gD (wpAny_tryCatch ?_)));unfold Builtin.Dict.pairItems;refine gD (Zf b0 ?_);rw[Wd (by decide)];refine gD (acw ej dj (V3 ?_));show wpAny 1.12 A.in1 (Zt [ku,vu] (dictSet D ku vu)) _ _ _;obtain⟨z,hd,vs,rel,dd⟩:=zE I1.hok hD;have a9:vs.length<=V6:=by rw[←rel.length];exact z
  have b5:200000<=V6:=by decide
  have b2:(putK kvs prs[i].1 prs[i].2).length<=V6:=by have:=gq kvs prs[i].1 prs[i].2;omega
  refine Xf (ac2 (hsz:=a9) (rA rk) dd λh2 a2 a3=>?_);have I2:Inv X pins σ (upd H D (.dK (putK kvs prs[i].1 prs[i].2))) {s with heap:=h2,toks:=s.toks+1}:=by
   have he:∃q,h2.get? D=some q:=let⟨q,_,_,N,_⟩:=a2;⟨q,N⟩;exact o6 (s:=({s with heap:=h1}:V0)) (t':=s.toks+1) I1 (by rw[hD];exact XM) a3 he (yW b2 hd (rel.put prs[i].1 b3) a2)
  have b1:∀p ys,H p=some (.tup ys)->p≠D:=λp ys e=>E_ e hD (by intro z;cases z);have a1:it≠D:=λz=>by have:=Z.1;rw[z,hD]at this;cases this
  show wpAny 1.12 A.in1 (again (.builtin "dict.update.loop" ⟨[.ref D,.ref it,ZR ((i:Int)+1),.none],[]⟩)) _ _ _;refine V3 ⟨Y5 F.plain_dict_update_loop _,?_⟩;have ei:((i:Int)+1)=((i+1:Nat):Int):=by omega
  rw[ei];have b6:=gq kvs prs[i].1 prs[i].2;refine ih (i+1) (putK kvs prs[i].1 prs[i].2) _ _ 1.10 a7 I2 aM ?_ ?_ (a5.extBut a3.extBut a1) ?_ 1.10 (λs' I'=>k s' ?_)
  .rcases N with(N|⟨o,N⟩)|N
   .exact .inl (.inl (by rw[aK (E_ N hD (by intro z;cases z))];exact N))
   .exact .inl (.inr ⟨o,by rw[aK (E_ N hD (by intro z;cases z))];exact N⟩)
   .exact .inr N
  .exact⟨by rw[aK a1];exact Z.1,Z.2⟩
  .intro j kk vv e
   obtain⟨p,h1,h2⟩:=hp j kk vv e;exact⟨p,h1,by rw[aK (b1 p _ h2)];exact h2⟩
  .rw[Fd]at I'
   rw[abH a4];exact I'
theorem sV(Z:X.calm=true):cY X (.type "dict") (λxs H Q=>∃l ys prs,xs=[.ref l]/\H l=some (.lst ys)/\Yl prs=Yl ys/\Yl prs<=50000/\
  (∀(j:Nat)(k:Key)(v:V),prs[j]? =some (k,v)->∃p:Addr,ys[j]? =some (V.ref p)/\H p=some (.tup [kV k,v]))/\∀D,H D=none->Q (.ref D) (upd H D (.dK (putAll [] prs)))):=by
 show 6;obtain⟨l,ys,prs,rfl,Y,U,hsz,hp,q⟩:=h;obtain⟨u,rfl,ru⟩:=vals1 r;cases ru;have hh:X.A.handled=none:=I.ok.hd Z;refine callType_codes (Q₁:=λobj J=>obj= .ref s.heap.objs.size/\J={s with heap:=s.heap.push {cls:=.type "dict",data:=.dict #[]}}) F.kt_called_dict (F.kt_typeCall_dict_1 _) F.entry_dict_init (kt_code_dict_new _ ⟨rfl,rfl⟩) ?_;rintro obj J ⟨rfl,rfl⟩;have a2:H s.heap.objs.size=none:=I.fresh;have I1:Inv X pins σ (upd H s.heap.objs.size (.dK [])) {s with heap:=s.heap.push {cls:=.type "dict",data:=.dict #[]}}:=I.laid (t':=s.toks) (λ_ _ z=>V2 _ z) (Wa _) (uH s.heap I.big);have a1:(s.heap.push {cls:=.type "dict",data:=.dict #[]}).DictOf (cg X.prog X.w) s.heap.objs.size []:=ab5 s.heap;have nl:l≠s.heap.objs.size:=aO Y a2;have a3:(upd H s.heap.objs.size (.dK [])) l=some (.lst ys):=by rw[aK nl];exact Y
 obtain⟨_,B,n,rv,el⟩:=(show cB X.prog X.w _ _ l (.lst ys)from I1.hok l _ a3);have a6:({s with heap:=s.heap.push {cls:=.type "dict",data:=.dict #[]}}:V0).TypeIs (.ref l) "list":=⟨_,el,rfl⟩;refine⟨a1.typeIs,F.args_dict_init_2 _ _,?_⟩;unfold Builtin.«dict.__init__»;refine gD ?_;unfold abT;refine gD (acx a1.typeIs ?_);show wpAny _ _ (pure (s.heap.objs.size,[Wb l])) _ _ _;refine V3 ?_;show wpAny _ _ (Zr "dict.__init__" s.heap.objs.size (.ref l) [] .none) _ _ _;unfold Zr;refine gD (Zf a6 ?_);rw[Wd (by decide)];refine gD (mG (show X.A.in1.in1.handled=none from hh) el λh2 a0 a4=>?_);rw[Wd (by rfl)];have O:Inv X pins σ (upd H s.heap.objs.size (.dK [])) {s with heap:=h2,toks:=a0}:=I1.kept (t':=a0) a4;obtain⟨N,a7,p2,_⟩:=O.list (SqL.of a3);refine gD (aaq (gD (aaz p2.isList ?_)));have I3:Inv X pins σ (upd H s.heap.objs.size (.dK [])) {s with heap:=h2.push {cls:=.type "list_iterator",data:=.fields #[.ref l,.int 0 0]},toks:=a0}:=O.kept (t':=a0) λb o e=>V2 _ e;have a5:jd X pins (upd H s.heap.objs.size (.dK [])) h2.objs.size:=O.fpOk (Wa _) (O.hok.fresh (Wa _));refine V3 ⟨Y5 F.plain_dict_update_loop _,?_⟩;refine vV (A:=X.A.in1) (l:=l) (xs:=ys) (prs:=prs) hh U ys.length 0 [] _ _ rfl (Ym _) I3 aM (SqL.of a3) a5 ⟨_,Wx _ rfl,rfl,rfl⟩ ?_ (by simp;omega) λs' I'=>?_
 .intro j k v e
  obtain⟨p,h1,h2⟩:=hp j k v e;exact⟨p,h1,by rw[aK (aO h2 a2)];exact h2⟩
 .rw[Fd,adZ]at I'
  exact⟨rfl,.ref _,_,I',rfl,q _ a2⟩
end
section
variable{prog:Program}{w:World}{A:Around}{R:Result->Shared->Prop}{s:Shared}
theorem vQ{kx vx target iter:Expr}{ifs:List Expr}{scope:Scope}{pos:Pos}{it:Value}{D:Addr}{env:Env}(I:Nat->V0->Prop)
  (turn:∀n s,I n s->wpAny 1.14 A (aa1 it) (λr J=>match r with
   |none=>R (.ok .next) J
   |some v=>wpAny 1.14 A (aad target it v) (λ_ O=>wpAny 1.14 A (aai target env v) (λ_ Y=>
    wpAny 1.14 A (forIn ifs true λc r=>if r=true then do let ok ←acp c env (eval c env);pure (Y0 ok)else pure (Y0 r)) (λok B=>
     if ok=true then wpAny 1.14 A (eval kx env) (λN F=>wpAny 1.14 A (eval vx env) (λvv Z=>wpAny 1.14 A (dictSet D N vv) (λ_ a0=>∃m,m<n/\I m a0) NoX Z) NoX F) NoX B
     else ∃m,m<n/\I m B) NoX Y) NoX O) NoX J) NoX s)
  (n:Nat) (h:I n s):Zw 1.14 A (.compLoop 1.17 0 it (.ref D) env) R s:=by
 refine codeAny_loop rfl I (λn s U=>?_) n h;show wpAny _ A ((compTurn 1.17 0 it (.ref D) env).onRaise (λx=>do noteFrame x env;theTreesLotGoes x)) _ _ s;refine wpAny_noted ?_;rw[compTurn_dict];refine gD (Zu (gD (Xy (turn n s U) (λr J q=>?_) λ_ _ h'=>h'.elim)));cases r with
 |none=>exact V3 q
 |some v=>
  refine gD (Xy q (λ_ O a1=>?_) λ_ _ h'=>h'.elim);refine gD (Xy a1 (λ_ Y a5=>gD (Xy a5 (λok B V=>?_) λ_ _ h'=>h'.elim)) λ_ _ h'=>h'.elim);cases ok with
  |false=>exact V3 ⟨rfl,V⟩
  |true=>
   exact gD (gD (Xy V (λN F a3=>gD (Xf (Xy a3 (λvv Z a4=>gD (Zu (Xf (Xy a4 (λ_ a0 a2=>V3 ⟨rfl,a2⟩) λ_ _ h'=>h'.elim)))) λ_ _ h'=>h'.elim))) λ_ _ h'=>h'.elim))
end
def Kw(J:It)(H:Hp)(g:TG)(tt:TT)(tk tv:TE)(σ:L2.St)(Q:List (Key×V)->Hp->Prop):Prop:=
 ∃W:Nat->Nat->List (Key×V)->Hp->Prop,(∃m,W 0 m [] H)/\∀i m ys H,W i m ys H->
  (J.stop i H/\Q ys H)∨(J.go i H/\ys.length<V6/\∃N:List (Key×V)->Hp->Prop,(∀B H',N B H'->∃O,O<m/\W (i+1) O B H')/\
   ∀x H',J.yld i H x H'->g x σ H' λσ2 H2=>Kp σ σ2/\tt σ2 H2 λb Y=>if b=true then tk σ2 Y λx q=>∃k,x=kV k/\tv σ2 q λv F=>N (putK ys k v) F else N ys Y)
def CW(cap:List (Option Nat))(wi:TI)(g:TG)(tt:TT)(tk tv:TE):TE:=λσ H Q=>wi σ H λJ H1=>
 Kw J H1 g tt tk tv (eV cap σ) λys H2=>ys.length<=V6/\∀D,H2 D=none->Q (.ref D) (upd H2 D (.dK ys))
section
variable{X:Cx}{kx vx target iter:Expr}{ifs:List Expr}{scope:Scope}{pos:Pos}{N':List Str}{cap:List (Option Nat)}{wi:TI}{g:TG}{tt:TT}{tk tv:TE}
structure DO(P:Program)(w:World)(vs:List (Key×Value))(o:Obj):Prop where
 ex:o.ExactDict
 es:∃es ep,o.data= .dict es ep/\KeysOf (cg P w) es/\Pairs (cg P w) es.toList vs/\(vs.map (·.1)).Nodup
theorem DO.at{P:WY}{w:World}{vs:List (Key×Value)}{o:Obj}(d:DO P w vs o){h:Heap}{a:Addr}(e:h.get? a=some o):h.DictOf (cg P w) a vs:=let⟨es,ep,h1,h2,h3,h4⟩:=d.es;⟨o,es,ep,e,d.ex,h1,h2,h3,h4⟩
theorem DO.of{P:WY}{w:World}{vs:List (Key×Value)}{h:Heap}{a:Addr}(d:h.DictOf (cg P w) a vs):∃o,h.get? a=some o/\DO P w vs o:=let⟨o,es,ep,e,x,h1,h2,h3,h4⟩:=d;⟨o,e,⟨x,es,ep,h1,h2,h3,h4⟩⟩
theorem DO.nc{P:WY}{w:World}{vs:List (Key×Value)}{o:Obj}(d:DO P w vs o):∀v,o.data≠.cell v:=λv z=>by
 obtain⟨es,ep,h1,_⟩:=d.es;rw[h1]at z;cases z
theorem rM{pins:List 1.23}{σ:L2.St}{H:Hp}{Y:V0}{it:Addr}{fp:List Addr}{tn:Nat->Heap->Prop}{J:It}{Q:List (Key×V)->Hp->Prop}{RR:Value->Addr->Result->V0->Prop}{E:Value->V0->Prop}
  (Z:X.calm=true) (O:bZ X.env.scope X.N N' scope cap) (I:Inv X pins σ H Y) (T:Turn X.prog X.w X.K target J fp it tn) (st:tn 0 Y.heap) (f2:∀b∈fp,jd X pins H b)
  (q:∀C,PG 1.13 target g) (ht:∀C,PTs 1.13 ifs tt) (hk:∀C,PE 1.13 kx tk) (he:∀C,PE 1.13 vx tv) (cw:Kw J H g tt tk tv (eV cap σ) Q)
  (d0:∀(D C:Addr)(s':V0)(H':Hp)(ys:List (Key×V))(B:List (Key×Value))(o:Obj)(F:L2.St),Y.heap.objs.size<=D->Y.heap.objs.size<=C->D≠C->Inv 1.13 [(D,o)] F H' s'->KV ys B->DO X.prog X.w B o->Q ys H'->
   RR (.ref D) C (.ok .next) s') :
  wpAny 1.12 X.A newDict (λacc c2=>wpAny 1.12 X.A (newFunctionEnv scope X.env.globals (n6 scope X.env) [] X.env.qual none .none (some X.env)) (λb0 b5=>
   Zw 1.12 X.A (.compStart 1.17 0 (.ref it) acc {b0 with scope:=adp scope X.env}) (RR acc b0.locals) b5) E c2) E Y:=by
 refine XC (acJ O.nocell (by intro y hy;simp at hy) (λa3 a1 a0=>?_) O.kind);dsimp only at a1 a0⊢;generalize b2:Y.heap.push {cls:=.type "dict",dict:=none,data:=.dict #[]}=H2 at a1 a0⊢;have hC:H2.objs.size=Y.heap.objs.size+1:=by rw[←b2,Yu]
 have a4:Y.heap.objs.size≠H2.objs.size:=by rw[hC];exact Wj (Z0 _)
 have a5:Y.heap.objs.size<=H2.objs.size:=by rw[hC];exact aaE _
 have b4:∀b o,Y.heap.get? b=some o->a3.get? b=some o:=λb o e=>a0.extBut b o (by rw[hC];exact Wj (Yp (V_ e))) (V2 _ (b2▸V2 _ e));have c3:H2.DictOf (cg X.prog X.w) Y.heap.objs.size []:=b2▸ab5 Y.heap;obtain⟨o0,d5,b7⟩:=DO.of c3;have c0:a3.get? Y.heap.objs.size=some o0:=a0.extBut _ _ a4 (V2 _ d5);have a9:∀b∈fp,b<Y.heap.objs.size:=λb U=>by
  obtain⟨o,e,_⟩:=T.obj 0 _ st b U;exact V_ e
 have I1:=zf (tk:=Y.toks+([]:List (Str×Value)).length) I O f2 a9 a5 (Wa _) a4 b4 a1 c0 b7.nc;have b6:tn 0 a3:=T.keep _ _ _ st λb _ o e=>b4 b o e;obtain⟨W,⟨m0,w0⟩,turn⟩:=cw;generalize hD:Y.heap.objs.size=D at *
 generalize d7:H2.objs.size=C at *
 have a8:∀{H':Hp}{o:Obj},(∀b∈fp,H' b=none)->∀b∈fp,jd 1.13 [(D,o)] H' b:=λ{H' o} hn b U=>by
  refine⟨hn b U,Wj (Wg (a9 b U) a5),I1.ok.exfs b U,.inl U,(I1.ok.exf b U).2,λp hp=>?_⟩;have e:p=(D,o):=by simpa[bj]using hp
  subst e;exact Yq (a9 b U)
 have b1:Zw 1.12 X.A (.compLoop 1.17 0 (.ref it) (.ref D) (compEnvC scope (n6 scope X.env) C X.env)) (RR (.ref D) C) {Y with heap:=a3,toks:=Y.toks+([]:List (Str×Value)).length}:=by
  refine vQ (λn s'=>∃i ys B k H',Inv 1.13 [(D,k)] (eV cap σ) H' s'/\(KV ys B/\DO X.prog X.w B k)/\tn i s'.heap/\(∀b∈fp,H' b=none)/\W i n ys H') ?_ m0 ⟨0,[],[],o0,H,I1,⟨.nil,b7⟩,b6,λb U=>(f2 b U).1,w0⟩;rintro n s3 ⟨i,ys,B,k,H3,I3,⟨rv,dk⟩,b3,c1,w3⟩;rcases turn i n ys H3 w3 with⟨stop,qn⟩|⟨go,hsz,N,hN,step⟩
  .refine thn (T.done 1.13 rfl rfl rfl Z i _ s3 _ H3 NoX I3 (a8 c1) b3 stop) λr s4 ⟨hr,I4⟩=>?_
   subst hr;exact d0 D C s4 H3 ys B k _ (Wa _) a5 a4 I4 rv dk qn
  .refine thn (T.item 1.13 rfl rfl rfl Z i _ s3 _ H3 NoX I3 (a8 c1) b3 go) λr s4 ⟨u,hr,h4⟩=>?_
   subst hr;refine thn h4 λ_ s5 ⟨x,H5,I5,r5,y5,a7,d2⟩=>?_;have c6:=I5.pinned (a8 d2) (T.obj _ _ a7);refine thn (q C _ s5 _ H5 x u _ c6 r5 (step x H5 y5)) λ_ s6 ⟨a2,H6,I6,c4,q6⟩=>?_;refine thn (ht C _ s6 a2 H6 _ I6 q6) λok s7 ⟨H7,I7,q7⟩=>?_;have a6:∀{s':V0}{H':Hp}{F:L2.St},Inv 1.13 ([(D,k)]++jW fp s5.heap) F H' s'->tn (i+1) s'.heap/\∀b∈fp,H' b=none:=λ{s' H' F} Ix=>by
    refine⟨T.keep _ _ _ a7 λb U o e=>(Ix.pin (b,o) (VR _ (VR _ (cX U e)))).1,λb U=>?_⟩;obtain⟨o,e,d⟩:=T.obj _ _ a7 b U;exact(Ix.pin (b,o) (VR _ (VR _ (cX U e)))).2.1
   have b8:(eV cap σ).length=a2.length:=by rw[I6.len,I1.len]
   cases ok with
   |false=>
    have n7:N ys H7:=by simpa using q7
    obtain⟨m',hm,w7⟩:=hN _ _ n7;exact⟨m',hm,i+1,ys,B,k,H7,I7.unpinned.weak b8 c4,⟨rv,dk⟩,(a6 I7).1,(a6 I7).2,w7⟩
   |true=>
    have q7:tk a2 H7 λx H4=>∃k',x=kV k'/\tv a2 H4 λv H5=>N (putK ys k' v) H5:=by simpa using q7
    refine thn (hk C _ s7 a2 H7 _ I7 q7) λuk d6 ⟨xk,c7,d1,c9,kk,ek,c5⟩=>?_;subst ek;refine thn (he C _ d6 a2 c7 _ d1 c5) λu8 s8 ⟨v,H8,I8,r8,n8⟩=>?_;obtain⟨eD,nD,_,d4,_⟩:=I8.pin (D,k) (VR _ (Wf _ WR));have lv:=rv.length;refine ac2 (rA c9) (dk.at eD) (λh9 d3 c8=>?_) 1.10;obtain⟨m',hm,w8⟩:=hN _ _ n8;obtain⟨o9,eN,b9⟩:=DO.of d3;have I9:Inv 1.13 (jW fp s5.heap) a2 H8 {s8 with heap:=h9,toks:=s8.toks+1}:=by
     refine Inv.turned (it:=D) (t':=s8.toks+1) (I8.pins_of λp hp=>I8.pin p (VR _ (VR _ hp))) (λb o U e=>c8.extBut b o U e) nD a4 (.inr (by rw[←hD];exact Wa _)) (λx c e z=>?_) (λp hp z=>?_)
     .obtain⟨vc,oc,h1,_⟩:=I.cell x c (iT I O e)
      have hh:=V_ h1;rw[z,hD]at hh;exact XF _ hh
     .have hp:p∈jW fp s5.heap:=hp
      have hh:=a9 p.1 (qe hp).1;rw[z]at hh;exact XF _ hh
    refine⟨m',hm,i+1,putK ys kk v,stored B kk u8,o9,H8,(I9.weak b8 c4).pins_of (λp hp=>?_),⟨rv.put kk r8,b9⟩,?_,λb U=>?_,w8⟩
    .have e:p=(D,o9):=Wl.mp hp
     rw[e];exact⟨eN,nD,a4,d4,b9.nc⟩
    .exact T.keep _ _ _ a7 λb U o e=>(I9.pin (b,o) (VR _ (cX U e))).1
    .obtain⟨o,e,d⟩:=T.obj _ _ a7 b U
     exact(I9.pin (b,o) (VR _ (cX U e))).2.1
 exact codeAny_compStart_dict b1 (T.self _ 0 _ _ _ b6 b1)
theorem Lq(hx:X.xe=NoX)(Z:X.calm=true)(O:bZ X.env.scope X.N N' scope cap)(hi:PI X target iter wi)
  (hg:∀C Y H fp,PG 1.13 target g) (ht:∀C Y H fp,PTs 1.13 ifs tt) (hk:∀C Y H fp,PE 1.13 kx tk) (V:∀C Y H fp,PE 1.13 vx tv)
  (hs:∀x,Xl iter X.env x=pure x:=by intro _;rfl):PE X 1.17 (CW cap wi g tt tk tv):=by
 intro pins s σ H Q I h;rw[arm_eval_DictComp];dsimp only;refine Zh (use:=none) rfl hs (iR λy hy hk=>I.ok.has y.1 (O.free y hy hk)) O.kind O.nm (thn (hi pins s σ H _ I h) λv s1 h1=>thn h1 λa4 s2 h2=>?_);obtain⟨it,fp,tn,J,H2,e,I2,T,a2,f2,cw⟩:=h2;subst e;refine rM (RR:=λacc C=>compPost 1.12 X.A X.xe none (EP X pins σ Q) acc C) Z O I2 T a2 f2 (λC=>hg C _ _ _) (λC=>ht C _ _ _) (λC=>hk C _ _ _) (λC=>V C _ _ _) cw ?_;intro D C s' H' ys B o F hD hC a3 I' rv dk q;obtain⟨hz,q⟩:=q;obtain⟨m,a1,_⟩:=I'.loc;refine⟨m,a1,λh' sb=>?_⟩;obtain⟨eD,nD,_,a5,_⟩:=I'.pin (D,o) (VR _ WR);have a0:Inv X pins σ (upd H' D (.dK ys)) {s' with heap:=h'}:=by
  refine I2.call' (ch:=fp) I'.os ?_ ?_ I'.bare (λb U=>⟨(f2 b U).2.2.2.1,(f2 b U).2.1,(f2 b U).2.2.2.2.1,(f2 b U).2.2.2.2.2⟩)
  .have ne:∀b o,s2.heap.get? b=some o->b≠C/\b≠D:=λb o e=>⟨Wj (Wg (V_ e) hC),Wj (Wg (V_ e) hD)⟩
   refine⟨λb o e n U V=>sb.extBut b o (ne b o e).1 (I'.base.keep b o e n U V),λb o e n U V=>?_,λb o e n V=>?_,λb o e V=>?_,λb xs e=>?_,λb o u e=>?_,λb ps e=>?_⟩
   .obtain⟨sl,e1⟩:=I'.base.slot b o e n U V
    exact⟨sl,sb.extBut b _ (ne b o e).1 e1⟩
   .rw[aK (ne b o e).2]
    exact I'.base.free b o e n V
   .obtain⟨o',e1⟩:=I'.base.there b o e V
    exact⟨o',sb.extBut b _ (ne b o e).1 e1⟩
   .have e1:=I'.base.tups b xs e
    rw[aK (aO e1 nD)];exact e1
   .have e1:=I'.base.frzs b o u e
    rw[aK (aO e1 nD)];exact e1
   .obtain⟨more,e1⟩:=I'.base.tbls b ps e
    refine⟨more,?_⟩;rw[aK (aO e1 nD)];exact e1
  .intro b u e
   by_cases U:b=D
   .subst U
    rw[aM]at e;cases e;exact⟨hz,beq_eq_false_iff_ne.mpr (WW (Wj (Wg I2.big hD))),B,rv,dk.at (sb.extBut _ _ a3 eD)⟩
   .rw[aK U]at e
    have nC:∀b u,H' b=some u->b≠C:=λb u e z=>by
     have hf:H' C=none:=I'.free;rw[z,hf]at e;cases e
    refine(I'.hok b u e).stay (λc v Z q=>sb.extBut c v ?_ q) (λc q=>by rw[aK (aO q nD)];exact q) λc xs q=>by rw[aK (aO q nD)];exact q
    rcases Z with z|z
    .rw[z]
     exact nC b u e
    .exact nC c _ z
 exact⟨.ref D,_,a0,rfl,q D nD⟩
end
theorem wZ{α β:Type}{F:α->β->Prop}:∀{xs:List α}{ys:List β},abN F xs ys->∀{i:Nat}{a:α}{b:β},xs[i]? =some a->ys[i]? =some b->F a b
 |_,_,.nil,i,a,b,h,_=>by simp at h
 |_,_,.cons p r,0,a,b,h1,h2=>by cases h1;cases h2;exact p
 |_,_,.cons p r,i+1,a,b,h1,h2=>wZ r (i:=i) (by simpa using h1) (by simpa using h2)
theorem Kv{X:Cx}{pins:List 1.23}{σ F:L2.St}{H2 H':Hp}{B s':V0}{fp:List Addr}{N':List Str}{scope:Scope}{D C:Addr}{o:Obj}{ob:HO}(O:Inv X pins σ H2 B)(I:∀b∈fp,jd X pins H2 b)
  (hD:B.heap.objs.size<=D) (N:B.heap.objs.size<=C) (J:D≠C) (Y:Inv (bj X N' scope C B H2 fp) [(D,o)] F H' s') (new:∀h',h'.get? D=some o->cB X.prog X.w (upd H' D ob) h' D ob)
  (h':Heap) (sb:aah C s'.heap h'):Inv X pins σ (upd H' D ob) {s' with heap:=h'}:=by
 obtain⟨eD,nD,_,a0,_⟩:=Y.pin (D,o) (VR _ WR);refine O.call' (ch:=fp) Y.os ?_ ?_ Y.bare (λb U=>⟨(I b U).2.2.2.1,(I b U).2.1,(I b U).2.2.2.2.1,(I b U).2.2.2.2.2⟩)
 .have ne:∀b o,B.heap.get? b=some o->b≠C/\b≠D:=λb o e=>⟨Wj (Wg (V_ e) N),Wj (Wg (V_ e) hD)⟩
  refine⟨λb o e n U V=>sb.extBut b o (ne b o e).1 (Y.base.keep b o e n U V),λb o e n U V=>?_,λb o e n V=>?_,λb o e V=>?_,λb xs e=>?_,λb o u e=>?_,λb ps e=>?_⟩
  .obtain⟨sl,e1⟩:=Y.base.slot b o e n U V
   exact⟨sl,sb.extBut b _ (ne b o e).1 e1⟩
  .rw[aK (ne b o e).2]
   exact Y.base.free b o e n V
  .obtain⟨o',e1⟩:=Y.base.there b o e V
   exact⟨o',sb.extBut b _ (ne b o e).1 e1⟩
  .have e1:=Y.base.tups b xs e
   rw[aK (aO e1 nD)];exact e1
  .have e1:=Y.base.frzs b o u e
   rw[aK (aO e1 nD)];exact e1
  .obtain⟨more,e1⟩:=Y.base.tbls b ps e
   refine⟨more,?_⟩;rw[aK (aO e1 nD)];exact e1
 .intro b u e
  by_cases U:b=D
  .subst U
   rw[aM]at e;cases e;exact new h' (sb.extBut _ _ J eD)
  .rw[aK U]at e
   have nC:∀b u,H' b=some u->b≠C:=λb u e z=>by
    have hf:H' C=none:=Y.free;rw[z,hf]at e;cases e
   refine(Y.hok b u e).stay (λc v Z q=>sb.extBut c v ?_ q) (λc q=>by rw[aK (aO q nD)];exact q) λc xs q=>by rw[aK (aO q nD)];exact q
   rcases Z with z|z
   .rw[z]
    exact nC b u e
   .exact nC c _ z
section
variable{X:Cx}{elt kx vx target iter:Expr}{ifs:List Expr}{scope:Scope}{pos pos' pos2:Pos}{N':List Str}{cap:List (Option Nat)}{wi:TI}{g:TG}{tt:TT}{te tk tv:TE}
theorem D_{pins:List 1.23}{σ F:L2.St}{H2 H':Hp}{B s':V0}{fp:List Addr}{D C:Addr}{o:Obj}{ob:HO}{i:Nat}{x:Str}{Dn:Ends}(O:Inv X pins σ H2 B)(I:∀b∈fp,jd X pins H2 b)
  (hD:B.heap.objs.size<=D) (hC:B.heap.objs.size<=C) (a3:D≠C) (Y:Inv (bj X N' scope C B H2 fp) [(D,o)] F H' s') (new:∀h',h'.get? D=some o->cB X.prog X.w (upd H' D ob) h' D ob)
  (hN:X.N.Nodup) (hi:X.N[i]? =some x) (J:Loc X.env.scope x) (Z:X.fn x=true∨X.env.scope.names.lookup x=some .local) (q:Dn.nx (σ.set i (some (.ref D))) (upd H' D ob)) :
  wpAny 1.12 X.A (assignAll (.ref D) ((Xz [.Name x pos'] X.env).map (·.2))) (λ_ a0=>∃m,a0.heap.Ns C m/\∀h',aah C a0.heap h'->SP X pins Dn .next {a0 with heap:=h'}) X.xe s':=by
 have I3:Inv X pins σ (upd H' D ob) s':=Kv O I hD hC a3 Y new s'.heap ⟨rfl,λ_ _=>rfl⟩;obtain⟨m,a1,_⟩:=Y.loc;obtain⟨a5,nD,_,a6,_⟩:=Y.pin (D,o) (VR _ WR);have a1:s'.heap.Ns C m:=a1;have a2:upd H' D ob C=none:=by
  rw[aK (WW a3)];exact Y.free
 obtain⟨f0,f1,a4,f3,f4,f5⟩:=O.fpOk hC (O.hok.fresh hC);have fC:jd X pins (upd H' D ob) C:=⟨a2,f1,a4,f3,f4,f5⟩;obtain⟨oC,es,ep,gC,dC,V,k2⟩:=a1;have I4:=I3.pinned (fp:=[C]) (λb U=>by rw[Wl.mp U];exact fC) λb U=>⟨oC,by rw[Wl.mp U];exact gC,λv z=>by rw[dC]at z;cases z⟩;have ea:assignAll (.ref D) ((Xz [.Name x pos'] X.env).map (·.2))=aai (.Name x pos') X.env (.ref D):=by
  unfold assignAll;simp[Xz]
 rw[ea];refine wpAny_assign_Name (lV I4 hN hi J (v:=.ref D) rfl (λa0 I5=>⟨m,?_,λh' sb=>?_⟩) Z)
 .exact⟨oC,es,ep,(I5.pin (C,oC) (VR _ (VR _ (cX (Wl.mpr rfl) gC)))).1,dC,V,k2⟩
 .exact⟨_,_,I5.unpinned.turned (t':=a0.toks) (λb o U e=>sb.extBut b o U e) a2 f1 f3 f4 f5,q⟩
theorem LC{i:Nat}{x:Str}(hx:X.xe=NoX)(Z:X.calm=true)(U:X.N.Nodup)(hi:X.N[i]? =some x)(hl:Loc X.env.scope x)(O:bZ X.env.scope X.N N' scope cap)(a0:PI X target iter wi)
  (hg:∀C Y H fp,PG 1.13 target g) (ht:∀C Y H fp,PTs 1.13 ifs tt) (V:∀C Y H fp,PE 1.13 elt te)
  (hw:Zd 1.15 (some (.Name x pos')) pos2.line X.env=pure true:=by rfl) (hs:∀x,Xl iter X.env x=pure x:=by intro _;rfl)
  (hf:X.fn x=true∨X.env.scope.names.lookup x=some .local:=by first|exact .inl rfl|exact .inr rfl|assumption):PS X (.Assign [.Name x pos'] 1.15 pos2) (Je (FQ cap wi g tt te) (rn i)):=by
 intro pins s σ H Dn I h;rw[ab4];refine gD (Zu ?_);rw[show Zv [.Name x pos'] 1.15 pos2.line X.env=pure true from hw];refine gD (V3 ?_);rw[Wd rfl,arm_evalThenUse_ListComp];refine gD (gD (Zh (use:=some _) rfl hs (iR λy hy hk=>I.ok.has y.1 (O.free y hy hk)) O.kind O.nm (thn (a0 pins s σ H _ I h) λv s1 h1=>thn h1 λa3 s2 h2=>?_)));obtain⟨it,fp,tn,J,H2,e,I2,T,a1,f2,cw⟩:=h2;subst e;refine uM (RR:=λacc C=>compPost 1.12 X.A X.xe (some _) _ acc C) Z O I2 T a1 f2 (λC=>hg C _ _ _) (λC=>ht C _ _ _) (λC=>V C _ _ _) cw ?_;intro D C s' H' ys B n F hD hC a2 I' rv q;obtain⟨hz,q⟩:=q;have nD:=(I'.pin (D,lobj B n) (VR _ WR)).2.1;refine thn (D_ (ob:=.lst ys) (Dn:=Dn) (pos':=pos') I2 f2 hD hC a2 I' (λh' e=>⟨hz,B,n,rv,e⟩) U hi hl hf (q D nD)) λ_ a4 ⟨m,h1,h2⟩=>⟨m,h1,λh' sb=>V3 (V3 (h2 h' sb))⟩
theorem N6{i:Nat}{x:Str}(hx:X.xe=NoX)(Z:X.calm=true)(U:X.N.Nodup)(hi:X.N[i]? =some x)(hl:Loc X.env.scope x)(O:bZ X.env.scope X.N N' scope cap)(a0:PI X target iter wi)
  (hg:∀C Y H fp,PG 1.13 target g) (ht:∀C Y H fp,PTs 1.13 ifs tt) (hk:∀C Y H fp,PE 1.13 kx tk) (V:∀C Y H fp,PE 1.13 vx tv)
  (hw:Zd 1.17 (some (.Name x pos')) pos2.line X.env=pure true:=by rfl) (hs:∀x,Xl iter X.env x=pure x:=by intro _;rfl)
  (hf:X.fn x=true∨X.env.scope.names.lookup x=some .local:=by first|exact .inl rfl|exact .inr rfl|assumption):PS X (.Assign [.Name x pos'] 1.17 pos2) (Je (CW cap wi g tt tk tv) (rn i)):=by
 intro pins s σ H Dn I h;rw[ab4];refine gD (Zu ?_);rw[show Zv [.Name x pos'] 1.17 pos2.line X.env=pure true from hw];refine gD (V3 ?_);rw[Wd rfl,arm_evalThenUse_DictComp];refine gD (gD (Zh (use:=some _) rfl hs (iR λy hy hk=>I.ok.has y.1 (O.free y hy hk)) O.kind O.nm (thn (a0 pins s σ H _ I h) λv s1 h1=>thn h1 λa3 s2 h2=>?_)));obtain⟨it,fp,tn,J,H2,e,I2,T,a1,f2,cw⟩:=h2;subst e;refine rM (RR:=λacc C=>compPost 1.12 X.A X.xe (some _) _ acc C) Z O I2 T a1 f2 (λC=>hg C _ _ _) (λC=>ht C _ _ _) (λC=>hk C _ _ _) (λC=>V C _ _ _) cw ?_;intro D C s' H' ys B o F hD hC a2 I' rv dk q;obtain⟨hz,q⟩:=q;have nD:=(I'.pin (D,o) (VR _ WR)).2.1;refine thn (D_ (ob:=.dK ys) (Dn:=Dn) (pos':=pos') I2 f2 hD hC a2 I' (λh' e=>⟨hz,beq_eq_false_iff_ne.mpr (WW (Wj (Wg I2.big hD))),B,rv,dk.at e⟩) U hi hl hf (q D nD)) λ_ a4 ⟨m,h1,h2⟩=>⟨m,h1,λh' sb=>V3 (V3 (h2 h' sb))⟩
end
section
variable{X:Cx}
theorem wU:∀(more:List (Key×V)){kvs:List (Key×V)}{vs B:List (Key×Value)},KV kvs vs->KV more B->KV (putAll kvs more) (merged vs B)
 |[],kvs,vs,_,r,.nil=>r
 |p::m,kvs,vs,_::B,r,.cons h q=>by
  have e1:putAll kvs (p::m)=putAll (putK kvs p.1 p.2) m:=rfl;rw[e1];have:=wU m (r.put p.1 h.2) q;rw[h.1]at this;rw[h.1];exact this
def FW:V->List V->Hp->VK->Prop:=λx vs H Q=>∃D kvs,x= .ref D/\H D=some (.dK kvs)/\
 ((∃l ys prs,vs=[.ref l]/\H l=some (.lst ys)/\Yl prs=Yl ys/\kvs.length+Yl prs<=50000/\(∀(j:Nat)(k:Key)(v:V),prs[j]? =some (k,v)->∃p:Addr,ys[j]? =some (V.ref p)/\H p=some (.tup [kV k,v]))/\Q .non (upd H D (.dK (putAll kvs prs))))∨
  (∃o more,vs=[.ref o]/\o≠D/\H o=some (.dK more)/\kvs.length+more.length<=50000/\Q .non (upd H D (.dK (putAll kvs more)))))
theorem Gp(Z:X.calm=true):MtM X "dict.update" FW:=by
 intro pins s σ H x vs v us Q I rx J h;obtain⟨D,kvs,rfl,hD,h⟩:=h;cases rx;have hh:X.A.handled=none:=I.ok.hd Z;have b2:200000<=V6:=by decide
 obtain⟨z,a4,ds,rel,dd⟩:=zE I.hok hD;rcases h with⟨l,ys,prs,rfl,Y,U,hsz,hp,q⟩|⟨o,more,rfl,N,hO,hsz,q⟩
 .obtain⟨u,rfl,ru⟩:=J.one
  cases ru;obtain⟨_,B,n,b1,el⟩:=(show cB X.prog X.w _ _ l (.lst ys)from I.hok l _ Y);have a7:s.TypeIs (.ref l) "list":=⟨_,el,rfl⟩;refine call_meetsIn adi dd.typeIs ac3 (acL _ _) (S:=λA R s'=>A=X.A/\s'=s/\∀s2,Inv X pins σ (upd H D (.dK (putAll kvs prs))) s2->R (.ok (.ret .none)) s2) ?_ ⟨rfl,rfl,λs2 O=>⟨.non,_,O,rfl,q⟩⟩;rintro A R s' ⟨rfl,rfl,k⟩;unfold Builtin.«dict.update»;refine gD ?_;unfold abT;refine gD (acx dd.typeIs ?_);show wpAny _ _ (pure (D,[Wb l])) _ _ _;refine V3 ?_;show wpAny _ _ (Zr "dict.update" D (.ref l) [] .none) _ _ _;unfold Zr;refine gD (Zf a7 ?_);rw[Wd (by decide)];refine gD (mG (show X.A.in1.handled=none from hh) el λh2 a0 a2=>?_);rw[Wd (by rfl)];have O:Inv X pins σ H {s' with heap:=h2,toks:=a0}:=I.kept (t':=a0) a2;obtain⟨a8,a9,p2,_⟩:=O.list (SqL.of Y);refine gD (aaq (gD (aaz p2.isList ?_)));have I3:Inv X pins σ H {s' with heap:=h2.push {cls:=.type "list_iterator",data:=.fields #[.ref l,.int 0 0]},toks:=a0}:=O.kept (t':=a0) λb o e=>V2 _ e;have a5:jd X pins H h2.objs.size:=O.fpOk (Wa _) (O.hok.fresh (Wa _));refine V3 ⟨Y5 F.plain_dict_update_loop _,?_⟩;refine vV (A:=X.A) (l:=l) (xs:=ys) (prs:=prs) hh U ys.length 0 kvs _ _ rfl (Ym _) I3 hD (SqL.of Y) a5 ⟨_,Wx _ rfl,rfl,rfl⟩ hp 1.10 λs2 I4=>?_;rw[adZ]at I4;exact k s2 I4
 .obtain⟨u,rfl,ru⟩:=J.one
  cases ru;obtain⟨z2,a3,ms,a1,a6⟩:=zE I.hok hO;have l1:=rel.length;have l2:=a1.length;refine call_meetsIn adi dd.typeIs ac3 (acL _ _) (meets_dict_update (cg X.prog X.w) D o (WW N) a3) ⟨ds,ms,dd,a6,by omega,λh' d1 d2 sb=>?_⟩;have V:∃q,h'.get? D=some q:=let⟨q,_,_,hq,_⟩:=d1;⟨q,hq⟩;have b0:=uf more kvs;exact⟨.non,_,o6 (t':=s.toks) I (by rw[hD];exact XM) sb V (yW 1.10 a4 (wU more rel a1) d1),rfl,q⟩
end
mutual
def pyD:Dt->PyData
 |.non=>.none
 |.bl b=>.bool b
 |.int i=>.int i
 |.str x=>.str x
 |.lst ds=>.list (pyL ds)
 |.tup ds=>.tuple (pyL ds)
def pyL:List Dt->List PyData
 |[]=>[]
 |d::r=>pyD d::pyL r
end
mutual
theorem noDict:∀d:Dt,Ze (pyD d)=false
 |.non=>by simp[pyD,Ze]
 |.bl _=>by simp[pyD,Ze]
 |.int _=>by simp[pyD,Ze]
 |.str _=>by simp[pyD,Ze]
 |.lst ds=>by simp[pyD,Ze,x_ ds]
 |.tup ds=>by simp[pyD,Ze,x_ ds]
theorem x_:∀ds:List Dt,abD (pyL ds)=false
 |[]=>by simp[pyL,abD]
 |d::r=>by simp[pyL,abD,noDict d,x_ r]
end
mutual
theorem Bc{X:Cx}{pins:List 1.23}{σ:L2.St}{H:Hp}{s:V0}(I:Inv X pins σ H s):∀(d:Dt)(x:V)(u:Value),Brs X.K H d x->RelV x u->∃F,Reads s.heap u (pyD d) F
 |.non,x,u,h,r=>by simp only[Brs]at h;subst h;cases (show u=Wq from r);exact⟨_,.none⟩
 |.bl b,x,u,h,r=>by simp only[Brs]at h;subst h;cases (show u=W9 b from r);exact⟨_,.bool b⟩
 |.int i,x,u,h,r=>by simp only[Brs]at h;subst h;obtain⟨t,rfl⟩:=(show ∃t,u=Xc i t from r);exact⟨_,.int i t⟩
 |.str y,x,u,h,r=>by simp only[Brs]at h;subst h;obtain⟨t,rfl⟩:=(show ∃t,u=W7 y t from r);exact⟨_,.str y t⟩
 |.lst ds,x,u,h,r=>by
  simp only[Brs]at h;obtain⟨a,xs,rfl,N,U⟩:=h;cases (show u=Wb a from r);obtain⟨B,J,p,_⟩:=I.list N;obtain⟨F,Y⟩:=qW I ds xs B U J;obtain⟨o,h1,h2,n,Z⟩:=p.isList;exact⟨_,.list h1 h2 Z Y⟩
 |.tup ds,x,u,h,r=>by
  simp only[Brs]at h;obtain⟨a,xs,rfl,N,U⟩:=h;cases (show u=Wb a from r);obtain⟨B,J,p,_⟩:=I.tuple N;obtain⟨F,Y⟩:=qW I ds xs B U J;obtain⟨o,h1,h2,n,Z⟩:=p;exact⟨_,.tuple h1 h2 Z Y⟩
theorem qW{X:Cx}{pins:List 1.23}{σ:L2.St}{H:Hp}{s:V0}(I:Inv X pins σ H s):∀(ds:List Dt)(xs:List V)(us:List Value),gZ X.K H ds xs->Vals xs us->∃F,ReadsAll s.heap us (pyL ds) F
 |[],xs,us,h,r=>by simp only[gZ]at h;subst h;cases r;exact⟨_,.nil⟩
 |d::ds,xs,us,h,r=>by
  simp only[gZ]at h;obtain⟨x,ys,rfl,h1,h2⟩:=h;cases r with
  |cons p q=>
   obtain⟨F,Y⟩:=Bc I d x _ h1 p;obtain⟨bs,U⟩:=qW I ds ys _ h2 q;exact⟨_,.cons Y U⟩
end
end Jb
namespace PySem
open PySem.Builtin PySem.Builtin.SmallTypes
def xT(id:String):Builtin:=λargs=>do
 let x ←slotArgs "__next__" 0 args
 match x with
 |(self,snd)=>do
  let seq ←field self 0
  let q:Unit->Sem ad6:=λ_=>do
   let y ←field self 1
   match y with
   |Xc i tok=>do
    let z ←seqItems? seq
    match z with
    |some xs=>
     match xs[i.toNat]? with
     |some v=>do
      setField self 1 (ZR (i+1))
      ret v
     |none=>do
      rule (toString id++toString ".end")
      setField self 0 Wq
      abv
    |_=>aci (toString "internal:"++toString id)
   |_=>aci (toString "internal:"++toString id)
  if(seq==Wq)=true then do
   rule (toString id++toString ".ended")
   let r ←abv
   q r
  else q ()
theorem rN:Builtin.«tuple_iterator.__next__»=xT "tuple_iterator.__next__":=rfl
section
variable{prog:Program}{w:World}{A:Around}{E:Value->Shared->Prop}{it t:Addr}{i:Nat}{items:Array Value}{h:Heap}{g:Array GenState}{d:Drawn}{tk:Nat}{os:OsState}
theorem pC{x:Value}{Q:Value->V0->Prop}(st:h.IsTupleIter it t i)(p:h.IsTuple t items)(J:items[i]? =some x)
  (q:∀h',h'.IsTupleIter it t (i+1)->aah it h h'->Q x ⟨h',g,d,tk,os⟩):wpAny 1.14 A (Zb (.ref it)) Q E ⟨h,g,d,tk,os⟩:=by
 have I:(⟨h,g,d,tk,os⟩:V0).TypeIs (.ref it) "tuple_iterator":=st.typeIs;unfold Zb;refine gD (Yn I X_ ?_);obtain⟨o,N,Z,hd⟩:=st;obtain⟨O,h1,h2,n,B⟩:=p
 show 2
 refine Za X_.plain abm (X_.check _ _ _ _ _ _ _ _ I (abb _) ?_);rw[rN];unfold xT
 show 2
 rw[hd];refine V3 (V3 ?_);show wpAny _ _ (if(Wb t==Wq)=true then _ else _) _ _ _;rw[show(Wb t==Wq)=false from rfl,Wo WL]
 show 2
 rw[hd];refine V3 (V3 ?_);show wpAny _ _ (seqItems? (Wb t) >>=_) _ _ _;refine gD (acw h1 B ?_);dsimp only;have hi:(i:Int).toNat=i:=Yo i;rw[hi,J];dsimp only;refine gD (abd N hd (by show 1<2;decide) ?_);refine V3 ?_;dsimp only;refine V3 (q _ ?_ ⟨X8 ..,λb U=>W5 h _ (WW U)⟩);refine⟨_,YZ _ N (acv (abl hd _)),(adA ..).trans Z,?_⟩;rw[abl hd];have e1:(((i+1:Nat)):Int)=(i:Int)+1:=by omega
 rw[e1];rfl
theorem IK{α:Type}{Q:α->V0->Prop}(Y:A.handled=none)
  (N:∀h' e,(∀b o,h.get? b=some o->h'.get? b=some o)->(∃o,h'.get? e=some o/\o.cls= .type "StopIteration")->E (.ref e) ⟨h',g,d,tk,os⟩):wpAny 1.14 A (abv:Sem α) Q E ⟨h,g,d,tk,os⟩:=by
 unfold abv
 show 2
 unfold raiseNew;refine gD (wpAny_handled ?_);rw[Y];dsimp only;exact ach (N _ _ (λb o e=>V2 _ (V2 _ e)) ⟨_,Wx _ rfl,rfl⟩)
theorem jZ{Q:Value->V0->Prop}(Y:A.handled=none)(st:h.IsTupleIter it t i)(p:h.IsTuple t items)(J:items[i]? =none)
  (hq:∀h' e,Heap.ExtBut it h h'->(∃o,h'.get? e=some o/\o.cls= .type "StopIteration")->E (.ref e) ⟨h',g,d,tk,os⟩):wpAny 1.14 A (Zb (.ref it)) Q E ⟨h,g,d,tk,os⟩:=by
 have I:(⟨h,g,d,tk,os⟩:V0).TypeIs (.ref it) "tuple_iterator":=st.typeIs;unfold Zb;refine gD (Yn I X_ ?_);obtain⟨o,N,Z,hd⟩:=st;obtain⟨O,h1,h2,n,h3⟩:=p
 show 2
 refine Za X_.plain abm (X_.check _ _ _ _ _ _ _ _ I (abb _) ?_);rw[rN];unfold xT
 show 2
 rw[hd];refine V3 (V3 ?_);show wpAny _ _ (if(Wb t==Wq)=true then _ else _) _ _ _;rw[show(Wb t==Wq)=false from rfl,Wo WL]
 show 2
 rw[hd];refine V3 (V3 ?_);show wpAny _ _ (seqItems? (Wb t) >>=_) _ _ _;refine gD (acw h1 h3 ?_);dsimp only;have hi:(i:Int).toNat=i:=Yo i;rw[hi,J];dsimp only;refine gD (aaq ?_);refine gD (abd N hd (by show 0<2;decide) ?_);refine IK (show A.in1.handled=none from Y) λh' e B V=>?_;exact hq h' e (λb ob U q=>B b ob ((W5 h _ (WW U)).trans q)) V
theorem Draws.tuple(Y:A.handled=none)(it t:Addr)(F:t≠it)(items:Array Value):Draws prog w A it [it,t] items.size (λi v=>items[i]? =some v) λi h=>h.IsTupleIter it t i/\h.IsTuple t items where
 live:=λi h st=>let⟨o,ho,_⟩:=st.1;⟨o,ho⟩
 frame:=λi h h' st k=>⟨st.1.at λo e=>k it (by simp) o e,let⟨o,h1,h2⟩:=st.2;⟨o,k t (by simp) o h1,h2⟩⟩
 item:=λi s Q E hi st k=>by
  obtain⟨h,g,d,tk,os⟩:=s;refine pC st.1 st.2 (x:=items[i]) (by simp[hi]) λh' O q=>k _ h' tk (by simp[hi]) ⟨O,?_⟩ q;obtain⟨o,h1,h2⟩:=st.2;exact⟨o,(q.2 t F).trans h1,h2⟩
 done:=λs Q E st k=>by
  obtain⟨h,g,d,tk,os⟩:=s;exact jZ Y st.1 st.2 (by simp) λh' e B V=>k h' e B V
theorem Draws.tupleEnd(Y:A.handled=none)(it t:Addr)(i:Nat)(items:Array Value)(J:items[i]? =none):Draws prog w A it [it,t] i (λ_ _=>False) λj h=>j=i/\h.IsTupleIter it t i/\h.IsTuple t items where
 live:=λj h st=>let⟨o,ho,_⟩:=st.2.1;⟨o,ho⟩
 frame:=λj h h' st k=>⟨st.1,st.2.1.at λo e=>k it (by simp) o e,let⟨o,h1,h2⟩:=st.2.2;⟨o,k t (by simp) o h1,h2⟩⟩
 item:=λj s Q E I st k=>absurd st.1 (Wj I)
 done:=λs Q E st k=>by
  obtain⟨h,g,d,tk,os⟩:=s;exact jZ Y st.2.1 st.2.2 J λh' e B V=>k h' e B V
theorem vB{Q:ad6->V0->Prop}(F:h.IsTuple t items)
  (N:Q (.done (.ret (.ref (h.objs.size+1)))) ⟨(h.push {cls:=.type "tuple_iterator",data:=.fields #[.ref t,.int 0 0]}).push {cls:=.type "enumerate",data:=.fields #[.none,.bool false,.ref h.objs.size,ZR 0,.none,.none]},g,d,tk,os⟩) :
  wpAny 1.14 A (Builtin.«enumerate.__new__» ⟨[.type "enumerate",.ref t],[]⟩) Q E ⟨h,g,d,tk,os⟩:=by
 have V:=sub_enumerate
 show 2
 refine wpAny_stack λst _ _ _=>?_;refine V3 ?_;have Z:wpAny 1.14 A (do let it ←pyIter (.ref t);let r ←ad0 (Zy "enumerate") (adt++[it,ZR 0,Wq,Wq]);ret r) Q E ⟨h,g,d,tk,os⟩:=by
  refine gD (wpAny_pyIter_tuple F ?_)
  show 2
  rw[Yu];exact N
 dsimp only;split
 .split
  .refine gD (abf (a:=(Wb t,none)) (by rfl) ?_)
   exact Z
  .refine gD (abf (a:=(Wb t,none)) (by rfl) ?_)
   exact Z
 .rw[Wo (by decide)]
  refine gD (abf (a:=(Wb t,none)) (by rfl) ?_);exact Z
theorem mH{Q:Value->V0->Prop}(I:h.IsTuple t items)
  (N:∀h',IsEnum h' (h.objs.size+1) h.objs.size 0 .none->h'.IsTupleIter h.objs.size t 0->h'.objs.size=h.objs.size+2->(∀b o,h.get? b=some o->h'.get? b=some o)->Q (.ref (h.objs.size+1)) ⟨h',g,d,tk,os⟩) :
  wpAny 1.14 A (call (.type "enumerate") [.ref t]) Q E ⟨h,g,d,tk,os⟩:=by
 have e1:((h.push {cls:=.type "tuple_iterator",data:=.fields #[.ref t,.int 0 0]}).push {cls:=.type "enumerate",data:=.fields #[.none,.bool false,.ref h.objs.size,ZR 0,.none,.none]}).get? (h.objs.size+1)=some {cls:=.type "enumerate",data:=.fields #[.none,.bool false,.ref h.objs.size,ZR 0,.none,.none]}:=by
  rw[←Yu h {cls:=.type "tuple_iterator",data:=.fields #[.ref t,.int 0 0]}];exact Wx _ rfl
 refine callType_newIn F.called_enumerate (by decide) (F.typeCall_enumerate_1 _) (F.newCall_enumerate_1 _) (λobj=>F.args_object_init_2 _ _) F.entry_enumerate_new (S:=λB R s'=>s'=⟨h,g,d,tk,os⟩/\R (.ok (.ret (.ref (h.objs.size+1)))) ⟨(h.push {cls:=.type "tuple_iterator",data:=.fields #[.ref t,.int 0 0]}).push {cls:=.type "enumerate",data:=.fields #[.none,.bool false,.ref h.objs.size,ZR 0,.none,.none]},g,d,tk,os⟩) ?_ ⟨rfl,⟨⟨_,e1,rfl⟩,N _ e1 ⟨_,V2 _ (Wx _ rfl),rfl,rfl⟩ (by rw[Yu,Yu]) λb o e=>V2 _ (V2 _ e)⟩⟩;rintro B R s' ⟨rfl,q⟩;exact vB I q
end
end PySem
namespace Jb
open PySem PySem.Spec PyProof.Rows L2
def UJ(K:V8)(a:Addr):It:=
 ⟨λi H=>∃xs x,SqT K H a xs/\xs[i]? =some x,λi H x H'=>∃p v,H p=none/\x= .ref p/\(∀xs,SqT K H a xs->xs[i]? =some v)/\H'=upd H p (.tup [.int i,v]),λi H=>∃xs,SqT K H a xs/\xs.length<=i⟩
theorem Cy{P:WY}{w:World}{K:V8}{elts:List Expr}{x1}{pos:Pos}(a e it:Addr)(a3:e≠it)(b1:e≠a)(a8:it≠a) :
  Turn P w K (.Tuple elts x1 pos) (UJ K a) [e,it] e (λi h=>(∃a0,IsEnum h e it (i:Int) a0)/\h.IsTupleIter it a i)where
 mem:=by simp
 obj:=λi h st b U=>by
  obtain⟨⟨a0,V⟩,o,N,c,d⟩:=st;rcases V5.mp U with z|z
  .subst z
   exact⟨_,V,λv z=>by cases z⟩
  .have z:b=it:=by simpa using z
   subst z;exact⟨o,N,λv z=>by rw[d]at z;cases z⟩
 keep:=λi h h' st k=>by
  obtain⟨⟨a0,V⟩,a1⟩:=st;exact⟨⟨a0,k e (by simp) _ V⟩,a1.at λo q=>k it (by simp) o q⟩
 item:=by
  intro X hP hw hK Z i pins s σ H E I hf st hg;subst hP hw hK;obtain⟨xs,x,hq,J⟩:=hg;obtain⟨B,rv,p,O⟩:=I.tuple hq;obtain⟨u,F,ru⟩:=rv.get J;obtain⟨⟨a0,V⟩,a1⟩:=st;have b0:i<B.toArray.size:=by simp;exact(Hq.mp F).1
  have p':s.heap.IsTuple a B.toArray:=p;refine wpAny_pyNext_enum_itemD (Draws.tuple (show X.A.in1.handled=none from I.ok.hd Z) it a (WW a8) B.toArray) V ⟨a1,p'⟩ b0 a3 (λz=>by rcases V5.mp z with q|q;exact a3 q;exact b1 (Wl.mp q)) λy h1 tk hy b2 a5 a7 b4 k1=>?_;have ey:y=u:=by
   have:B[i]? =some y:=by simpa using hy
   rw[F]at this;exact(Xj this).symm
  subst ey;refine⟨.ref s.heap.objs.size,rfl,abu b2 λh2 b3 a2=>?_⟩;have a6:e<s.heap.objs.size:=V_ V;have a4:s.heap.objs.size≠e:=Yq a6;have a9:h2.get? s.heap.objs.size=some {cls:=.type "tuple",data:=.seq #[.int i tk,y]}:=a2.extBut _ _ a4 a7;have I2:Inv X pins σ (upd H s.heap.objs.size (.tup [.int i,x])) {s with heap:=h2,toks:=tk+1}:=by
   refine oK (fp:=[e,it]) (t':=tk+1) I hf (λb o U q=>?_) (Wa _) ?_
   .have n1:b≠e:=λz=>U 1.22
    have n2:b≠it:=λz=>U 1.22;exact a2.extBut b o n1 (k1 b o n1 n2 q)
   .exact⟨by show 2<=V6;decide,[.int i tk,y],.cons ⟨_,rfl⟩ (.cons ru .nil),_,a9,rfl,_,rfl,rfl⟩
  refine⟨.ref s.heap.objs.size,upd H s.heap.objs.size (.tup [.int i,x]),I2,rfl,⟨_,x,I.hok.fresh (Wa _),rfl,λys hy=>by rw[I.tuple_inj hy hq];exact J,rfl⟩,?_,λb U=>?_⟩
  .refine⟨⟨y,?_⟩,a5.1.extBut a2.extBut (WW a3)⟩
   have e1:(((i+1:Nat)):Int)=(i:Int)+1:=by omega
   rw[e1];exact b3
  .rw[aK]
   .exact(hf b U).1
   .intro z
    rw[z]at U;rcases V5.mp U with q|q
    .exact a4 q
    .have q:s.heap.objs.size=it:=by simpa using q
     obtain⟨o,N,_⟩:=a1;exact absurd (V_ N) (by rw[q];exact XF _)
 done:=by
  intro X hP hw hK Z i pins s σ H E I hf st hg;subst hP hw hK;obtain⟨xs,hq,J⟩:=hg;obtain⟨B,rv,p,O⟩:=I.tuple hq;obtain⟨⟨a0,V⟩,a1⟩:=st;have Y:=rv.length;have p':s.heap.IsTuple a B.toArray:=p;refine wpAny_pyNext_enum_endD (Draws.tupleEnd (show X.A.in1.handled=none from I.ok.hd Z) it a i B.toArray (by simp;omega)) V ⟨rfl,a1,p'⟩ λh1 eb=>⟨rfl,?_⟩;exact ji (fp:=[e,it]) (t':=s.toks) I hf λb o U q=>eb b o (λz=>U 1.22) q
 self:=λA i s Q E st h=>by
  obtain⟨⟨a0,V⟩,_⟩:=st;exact aay V h
section
variable{X:Cx}{elts:List Expr}{x1:Nat}{tpos:Pos}{tg e:Expr}{te:TE}
def Lg(K:V8)(ta:TA):TI:=λσ H R=>ta σ H λvs H1=>∃a,vs=[.ref a]/\(((∃xs,SqL K H1 a xs)/\R (Ite K a) H1)∨((∃xs,SqT K H1 a xs)/\R (UJ K a) H1))
theorem JP{a:Expr}{ta:TA}{p pos:Pos}{x1}(hg:Gl X "enumerate")(J:X.mg "enumerate"=none)(Y:PA X [a] ta)(hs:We [a] X.env=[(false,eval a X.env)]:=by rfl):PI X (.Tuple elts x1 tpos) (.Call (.Name "enumerate" p) [a] [] pos) (Lg X.K ta):=by
 intro pins s σ H R I h;refine Call_ (mF I hg J boot_enumerate (X4 (thn (Y pos pins s σ H _ I h) λus O ⟨vs,H1,I1,r1,q1⟩=>?_) hs rfl));obtain⟨l,e,q⟩:=q1;subst e;obtain⟨u,rfl,ru⟩:=vals1 r1;cases ru;have fin:∀b∈[O.heap.objs.size+1,O.heap.objs.size],jd X pins H1 b:=λb U=>by
  have B:O.heap.objs.size<=b:=by
   rcases V5.mp U with z|z
   .rw[z];exact aaE _
   .have z:b=O.heap.objs.size:=by simpa using z
    rw[z];exact Wa _
  exact I1.fpOk B (I1.hok.fresh B)
 rcases q with⟨⟨xs,N⟩,q⟩|⟨⟨xs,N⟩,q⟩
 .obtain⟨its,rv,pl,hz⟩:=I1.list N
  refine call_enumerate_list pl.isList λh1 V Z hsz k1=>?_;have I2:Inv X pins σ H1 {O with heap:=h1}:=I1.kept (t':=O.toks) k1;refine aay V ?_;exact⟨O.heap.objs.size+1,[O.heap.objs.size+1,O.heap.objs.size],_,_,H1,rfl,I2,Gb l _ _ (adO _),⟨⟨_,V⟩,Z⟩,fin,q⟩
 .obtain⟨its,rv,pl,hz⟩:=I1.tuple N
  have a0:O.heap.IsTuple l its.toArray:=pl;have a1:l<O.heap.objs.size:=let⟨_,h1,_⟩:=a0;V_ h1;obtain⟨F,g,d,tk,os⟩:=O;refine mH a0 λh1 V Z hsz k1=>?_;have I2:Inv X pins σ H1 {heap:=h1,gens:=g,drawn:=d,toks:=tk,os:=os}:=I1.kept (t':=tk) k1;refine aay V ?_;exact⟨F.objs.size+1,[F.objs.size+1,F.objs.size],_,_,H1,rfl,I2,Cy l _ _ (adO _) (Yq (Yp a1)) (Yq a1),⟨⟨_,V⟩,Z⟩,fin,q⟩
def RL(K:V8)(te:TE):TI:=λσ H R=>te σ H λx H1=>∃a,x= .ref a/\(((∃xs,SqL K H1 a xs)/\R (Itl K a) H1)∨((∃xs,SqT K H1 a xs)/\R (Itt K a) H1))
theorem Ih(Y:PE X e te):PI X tg e (RL X.K te):=by
 intro pins s σ H R I h;refine thn (Y pins s σ H _ I h) λv O ⟨x,H1,F,B,q1⟩=>?_;obtain⟨a,ex,q⟩:=q1;subst ex;cases B;have fin:∀b∈[O.heap.objs.size],jd X pins H1 b:=λb U=>by
  rw[Wl.mp U];exact F.fpOk (Wa _) (F.hok.fresh (Wa _))
 rcases q with⟨⟨xs,N⟩,q⟩|⟨⟨xs,N⟩,q⟩
 .obtain⟨its,rv,p,hz⟩:=F.list N
  refine aaz p.isList ?_;exact⟨O.heap.objs.size,[O.heap.objs.size],_,_,H1,rfl,F.kept (t':=O.toks) λb o e=>V2 _ e,Ga a _,⟨_,Wx _ rfl,rfl,rfl⟩,fin,q⟩
 .obtain⟨its,rv,p,hz⟩:=F.tuple N
  refine wpAny_pyIter_tuple (show O.heap.IsTuple a its.toArray from p) ?_;exact⟨O.heap.objs.size,[O.heap.objs.size],_,_,H1,rfl,F.kept (t':=O.toks) λb o e=>V2 _ e,BP a _,⟨_,Wx _ rfl,rfl,rfl⟩,fin,q⟩
end
end Jb
namespace PySem
open PySem.Builtin PySem.Builtin.List
theorem F.jb_entry_ext:entryFor table "list.extend.loop"=some Builtin.«list.extend.loop»:=entryFor_of_tree (by kernel_rfl)
theorem F.jb_plain_ext:plainId "list.extend.loop"=true:=by decide +kernel
section
variable{prog:Program}{w:World}{A:Around}{E:Value->Shared->Prop}{it l D:Addr}{items:Array Value}{g:Array GenState}{d:Drawn}{tk:Nat}{os:OsState}
def LO(xs:Array Value)(c:Nat):Obj:={cls:=.type "list",data:=.seq xs c}
end
end PySem
namespace Jb
open PySem PySem.Spec PyProof.Rows L2
section
variable{X:Cx}
def Qd(K:V8)(A:Xk):List V->Hp->VK->Prop:=λxs H Q=>∃a d,xs=[.ref a]/\Brs K H d (.ref a)/\A.guards=some []/\A.units+((pyD d).depth+3)<cLine/\(pyD d).showable=true/\(pyD d).shown.length<=V6/\Q (.str (pyD d).shown) H
theorem G_:cY X (.type "str") (Qd X.K X.A):=by
 show 6;obtain⟨a,d,rfl,U,V,F,J,N,q⟩:=h;obtain⟨u,rfl,O⟩:=vals1 r;cases O;obtain⟨Z,Y⟩:=Bc I d (.ref a) (.ref a) U rfl;exact str_of_reads Y J (λz=>by rw[noDict d]at z;cases z) V F (λ_ _ e=>e) (λh' u tk B=>⟨.str _,H,I.kept (t':=tk) B,⟨_,rfl⟩,q⟩) N
end
inductive Mk where
 |own|frz|brw|bro|scr
 deriving DecidableEq,Repr
inductive D where
 |non|bl (b:Bool)|int (i:Int)|str (x:Str)|ty (n:String)
 |tup (ds:List D)
 |lst (m:Mk) (ds:List D)
 |dct (m:Mk) (ks:List Key) (ds:List D)
 |ins (m:Mk) (c:Str) (fs:List Str) (ds:List D)
structure Gc where
 K:V8
 mg:Str->Option Value
structure Wn where
 n:Addr->Prop
 s:Addr->Prop
 o:Addr->Prop
def Wn.free(W:Wn)(a:Addr):Prop:=¬W.n a/\¬W.s a/\¬W.o a
def KO(K:V8)(a:Addr)(o:HO):Prop:=∃xs,o= .lst xs/\∃(ob:Obj)(B:Array Value)(n:Nat),K.lookup a=some ob/\ob.cls= .type "list"/\ob.dict=none/\ob.data= .seq B n/\B.size<=V6/\Vals xs B.toList
def dg(F:Addr->HO->Prop)(H:Hp)(W:Wn)(a:Addr)(o:HO):Mk->List Addr->List Addr->Prop
 |.own,L,M=>H a=some o/\L=a::M
 |.frz,L,M=>H a=some o/\W.free a/\M=[]/\L=[]
 |.brw,L,M=>H a=some o/\W.s a/\M=[]/\L=[]
 |.bro,L,M=>H a=some o/\M=[]/\L=[]
 |.scr,L,M=>((Rd H a o/\W.free a)∨F a o)/\M=[]/\L=[]
theorem dg.sub{F:Addr->HO->Prop}{H:Hp}{W:Wn}{a:Addr}{o:HO}{m:Mk}{L M:List Addr}(h:dg F H W a o m L M):Yb M L:=by
 cases m with
 |own=>rw[h.2];exact List.sublist_cons_self a M
 |frz=>rw[h.2.2.1];exact aaO L
 |brw=>rw[h.2.2.1];exact aaO L
 |bro=>rw[h.2.1];exact aaO L
 |scr=>rw[h.2.1];exact aaO L
theorem dg.rx{F:Addr->HO->Prop}{H:Hp}{W:Wn}{a:Addr}{o:HO}{m:Mk}{L M:List Addr}(h:dg F H W a o m L M):Rd H a o∨F a o:=by
 cases m with
 |own=>exact .inl (.inl h.1)
 |frz=>exact .inl (.inl h.1)
 |brw=>exact .inl (.inl h.1)
 |bro=>exact .inl (.inl h.1)
 |scr=>exact h.1.imp (λz=>z.1) id
theorem dg.sq{K:V8}{H:Hp}{W:Wn}{a:Addr}{xs:List V}{m:Mk}{L M:List Addr}(h:dg (KO K) H W a (.lst xs) m L M):SqL K H a xs:=by
 rcases h.rx with z|⟨ys,e,z⟩
 .exact .inl z
 .cases e
  exact .inr z
theorem dg.rdD{K:V8}{H:Hp}{W:Wn}{a:Addr}{kvs:List (Key×V)}{m:Mk}{L M:List Addr}(h:dg (KO K) H W a (.dK kvs) m L M):Rd H a (.dK kvs):=by
 rcases h.rx with z|⟨ys,e,z⟩
 .exact z
 .cases e
theorem dg.at{F:Addr->HO->Prop}{H:Hp}{W:Wn}{a:Addr}{o:HO}{m:Mk}{L M:List Addr}(h:dg F H W a o m L M)(J:m≠.scr):H a=some o:=by
 cases m with
 |own=>exact h.1
 |frz=>exact h.1
 |brw=>exact h.1
 |bro=>exact h.1
 |scr=>exact absurd rfl J
mutual
def Rep(G:Gc)(H:Hp)(W:Wn):D->V->List Addr->Prop
 |.non,v,L=>v= .non/\L=[]
 |.bl b,v,L=>v= .bl b/\L=[]
 |.int i,v,L=>v= .int i/\L=[]
 |.str x,v,L=>v= .str x/\L=[]
 |.ty n,v,L=>v= .ty n/\L=[]
 |.tup ds,v,L=>∃a xs,v= .ref a/\H a=some (.tup xs)/\aD G H W ds xs L
 |.lst m ds,v,L=>∃a xs M,v= .ref a/\aD G H W ds xs M/\dg (KO G.K) H W a (.lst xs) m L M
 |.dct m ks ds,v,L=>∃a kvs M,v= .ref a/\(List.map (·.1) kvs=ks/\ks.Nodup)/\aD G H W ds (List.map (·.2) kvs) M/\dg (KO G.K) H W a (.dK kvs) m L M
 |.ins m c fs ds,v,L=>∃a C dx kvs M,v= .ref a/\G.mg c=some (.ref C)/\List.map (·.1) kvs=fs/\aD G H W ds (List.map (·.2) kvs) M/\dg (KO G.K) H W a (.ins C dx kvs) m L M
def aD(G:Gc)(H:Hp)(W:Wn):List D->List V->List Addr->Prop
 |[],xs,L=>xs=[]/\L=[]
 |d::r,xs,L=>∃x ys M M',xs=x::ys/\L=M++M'/\Rep G H W d x M/\aD G H W r ys M'
end
section
variable{G:Gc}{H:Hp}{W:Wn}
theorem aD.nil:aD G H W [] [] []:=by simp[aD]
theorem aD.cons{d:D}{r:List D}{x:V}{ys:List V}{M M':List Addr}(h:Rep G H W d x M)(t:aD G H W r ys M'):aD G H W (d::r) (x::ys) (M++M'):=by
 rw[aD];exact⟨x,ys,M,M',rfl,rfl,h,t⟩
theorem aD.one{d:D}{x:V}{M:List Addr}(h:Rep G H W d x M):aD G H W [d] [x] M:=by
 have:=aD.cons h aD.nil;rwa[Wm]at this
theorem aD.inv{d:D}{r:List D}{xs:List V}{L:List Addr}(h:aD G H W (d::r) xs L):∃x ys M M',xs=x::ys/\L=M++M'/\Rep G H W d x M/\aD G H W r ys M':=by
 rw[aD]at h;exact h
theorem aD.inv0{xs:List V}{L:List Addr}(h:aD G H W [] xs L):xs=[]/\L=[]:=by
 rw[aD]at h;exact h
theorem aD.length:∀{ds:List D}{xs:List V}{L:List Addr},aD G H W ds xs L->ds.length=xs.length
 |[],xs,L,h=>by rw[h.inv0.1];rfl
 |d::r,xs,L,h=>by
  obtain⟨x,ys,M,M',rfl,_,_,h⟩:=h.inv;simp[aD.length h]
theorem aD.append:∀{ds es:List D}{xs ys:List V}{L M:List Addr},aD G H W ds xs L->aD G H W es ys M->aD G H W (ds++es) (xs++ys) (L++M)
 |[],es,xs,ys,L,M,h,h'=>by obtain⟨rfl,rfl⟩:=h.inv0;exact h'
 |d::r,es,xs,ys,L,M,h,h'=>by
  obtain⟨x,zs,A,B,rfl,rfl,h1,h2⟩:=h.inv;rw[YD];exact .cons h1 (aD.append h2 h')
theorem aD.split:∀{ds es:List D}{xs:List V}{L:List Addr},aD G H W (ds++es) xs L->∃ys zs A B,xs=ys++zs/\L=A++B/\aD G H W ds ys A/\aD G H W es zs B
 |[],es,xs,L,h=>⟨[],xs,[],L,rfl,rfl,.nil,h⟩
 |d::r,es,xs,L,h=>by
  obtain⟨x,zs,A,B,rfl,rfl,h1,h2⟩:=aD.inv (r:=r++es) h;obtain⟨ys,Y,N,J,rfl,rfl,Z,U⟩:=aD.split h2;exact⟨x::ys,Y,A++N,J,rfl,by rw[YD],.cons h1 Z,U⟩
theorem aD.at{ds:List D}{xs:List V}{L:List Addr}{j:Nat}{d:D}(h:aD G H W ds xs L)(e:ds[j]? =some d) :
  ∃A B x ys zs F M J,ds=A++d::B/\A.length=j/\xs=ys++x::zs/\ys.length=j/\L=F++(M++J)/\aD G H W A ys F/\Rep G H W d x M/\aD G H W B zs J:=by
 have I:j<ds.length:=(Hq.mp e).1;have hd:ds=ds.take j++d::ds.drop (j+1):=by
  have:ds[j]=d:=(Hq.mp e).2;rw[←this,XQ,aaU]
 rw[hd]at h;obtain⟨ys,zs,A,B,rfl,rfl,h1,h2⟩:=aD.split h;obtain⟨x,q,M,M',rfl,rfl,Z,U⟩:=h2.inv;have Y:(ds.take j).length=j:=by rw[YJ];omega
 exact⟨_,_,x,ys,q,A,M,M',hd,Y,rfl,by rw[←h1.length];exact Y,rfl,h1,Z,U⟩
theorem aD.get{ds:List D}{xs:List V}{L:List Addr}{j:Nat}{d:D}(h:aD G H W ds xs L)(e:ds[j]? =some d):∃x M,xs[j]? =some x/\Rep G H W d x M/\Yb M L:=by
 obtain⟨A,B,x,ys,zs,F,M,J,_,_,rfl,Y,rfl,_,h,_⟩:=h.at e;exact⟨x,M,by rw[XH 1.10,Y,Zj];rfl,h,(Zk M J).trans (Yd F _)⟩
end
def muO:HO->Bool
 |.lst _=>true
 |.dK _=>true
 |.ins _ _ _=>true
 |_=>false
def Mu(H:Hp)(a:Addr):Prop:=∃o,H a=some o/\muO o=true
mutual
def az:D->Bool
 |.tup ds=>aA ds
 |.lst m ds=>m != .brw&&aA ds
 |.dct m _ ds=>m != .brw&&aA ds
 |.ins m _ _ ds=>m != .brw&&aA ds
 |_=>true
def aA:List D->Bool
 |[]=>true
 |d::r=>az d&&aA r
end
mutual
def aq:D->Bool
 |.tup ds=>aB ds
 |.lst m ds=>m != .bro&&aB ds
 |.dct m _ ds=>m != .bro&&aB ds
 |.ins m _ _ ds=>m != .bro&&aB ds
 |_=>true
def aB:List D->Bool
 |[]=>true
 |d::r=>aq d&&aB r
end
def clean(d:D):Bool:=az d&&aq d
structure Evo(H H':Hp)(W W':Wn):Prop where
 k:∀b u,H b=some u->W.free b->H' b=some u/\W'.free b
 t:∀b xs,H b=some (.tup xs)->H' b=some (.tup xs)
def Jk(H H':Hp)(W W':Wn):Prop:=∀b u,H b=some u->W.s b->H' b=some u/\W'.s b
theorem Evo.rd{H H':Hp}{W W':Wn}(e:Evo H H' W W'){a:Addr}{o:HO}(h:Rd H a o)(f:W.free a):Rd H' a o/\W'.free a:=by
 rcases h with h|⟨u,h⟩
 .exact⟨.inl (e.k a _ h f).1,(e.k a _ h f).2⟩
 .exact⟨.inr ⟨u,(e.k a _ h f).1⟩,(e.k a _ h f).2⟩
section
variable{G:Gc}{H H':Hp}{W W':Wn}
theorem dg.mono{F:Addr->HO->Prop}{a:Addr}{o:HO}{m:Mk}{L M:List Addr}(e:Evo H H' W W')(h:dg F H W a o m L M)(U:m≠.brw∨Jk H H' W W')(N:m≠.bro∨Same H H')(Y:∀c∈L,∀u,H c=some u->H' c=some u):dg F H' W' a o m L M:=by
 cases m with
 |own=>exact⟨Y a (by rw[h.2];simp) o h.1,h.2⟩
 |frz=>exact⟨(e.k a o h.1 h.2.1).1,(e.k a o h.1 h.2.1).2,h.2.2⟩
 |brw=>
  have q:=(U.resolve_left λz=>z rfl) a o h.1 h.2.1;exact⟨q.1,q.2,h.2.2⟩
 |bro=>exact⟨(N.resolve_left λz=>z rfl) a o h.1,h.2⟩
 |scr=>exact⟨h.1.imp (λz=>e.rd z.1 z.2) id,h.2⟩
theorem Same.rd{H H':Hp}{a:Addr}{o:HO}(s:Same H H')(h:Rd H a o):Rd H' a o:=h.imp (s _ _) λ⟨u,z⟩=>⟨u,s _ _ z⟩
mutual
theorem Rep.mono(e:Evo H H' W W'):∀{d:D}{v:V}{L:List Addr},Rep G H W d v L->(az d=true∨Jk H H' W W')->(aq d=true∨Same H H')->(∀c∈L,∀u,H c=some u->H' c=some u)->Rep G H' W' d v L
 |.non,v,L,h,_,_,_=>by rw[Rep]at h⊢;exact h
 |.bl _,v,L,h,_,_,_=>by rw[Rep]at h⊢;exact h
 |.int _,v,L,h,_,_,_=>by rw[Rep]at h⊢;exact h
 |.str _,v,L,h,_,_,_=>by rw[Rep]at h⊢;exact h
 |.ty _,v,L,h,_,_,_=>by rw[Rep]at h⊢;exact h
 |.tup ds,v,L,h,b,o,hl=>by
  rw[Rep]at h⊢;obtain⟨a,xs,rfl,F,O⟩:=h;exact⟨a,xs,rfl,e.t a xs F,aD.mono e O (by simpa[az]using b) (by simpa[aq]using o) hl⟩
 |.lst m ds,v,L,h,b,o,hl=>by
  rw[Rep]at h⊢;obtain⟨a,xs,M,rfl,O,hs⟩:=h;exact⟨a,xs,M,rfl,aD.mono e O (b.imp (λz=>by simp[az]at z;exact z.2) id) (o.imp (λz=>by simp[aq]at z;exact z.2) id) λc Z=>hl c (hs.sub.subset Z),hs.mono e (b.imp (λz=>by simp[az]at z;exact z.1) id) (o.imp (λz=>by simp[aq]at z;exact z.1) id) hl⟩
 |.dct m ks ds,v,L,h,b,o,hl=>by
  rw[Rep]at h⊢;obtain⟨a,xs,M,rfl,B,O,hs⟩:=h;exact⟨a,xs,M,rfl,B,aD.mono e O (b.imp (λz=>by simp[az]at z;exact z.2) id) (o.imp (λz=>by simp[aq]at z;exact z.2) id) λc Z=>hl c (hs.sub.subset Z),hs.mono e (b.imp (λz=>by simp[az]at z;exact z.1) id) (o.imp (λz=>by simp[aq]at z;exact z.1) id) hl⟩
 |.ins m c fs ds,v,L,h,b,o,hl=>by
  rw[Rep]at h⊢;obtain⟨a,C,dx,xs,M,rfl,N,B,O,hs⟩:=h;exact⟨a,C,dx,xs,M,rfl,N,B,aD.mono e O (b.imp (λz=>by simp[az]at z;exact z.2) id) (o.imp (λz=>by simp[aq]at z;exact z.2) id) λc Z=>hl c (hs.sub.subset Z),hs.mono e (b.imp (λz=>by simp[az]at z;exact z.1) id) (o.imp (λz=>by simp[aq]at z;exact z.1) id) hl⟩
theorem aD.mono(e:Evo H H' W W'):∀{ds:List D}{vs:List V}{L:List Addr},aD G H W ds vs L->(aA ds=true∨Jk H H' W W')->(aB ds=true∨Same H H')->(∀c∈L,∀u,H c=some u->H' c=some u)->aD G H' W' ds vs L
 |[],vs,L,h,_,_,_=>by rw[aD]at h⊢;exact h
 |d::r,vs,L,h,b,o,hl=>by
  obtain⟨x,ys,M,M',rfl,rfl,h1,h2⟩:=h.inv;exact .cons (Rep.mono e h1 (b.imp (λz=>by simp[aA]at z;exact z.1) id) (o.imp (λz=>by simp[aB]at z;exact z.1) id) λb U=>hl b (Wf _ U))
   (aD.mono e h2 (b.imp (λz=>by simp[aA]at z;exact z.2) id) (o.imp (λz=>by simp[aB]at z;exact z.2) id) λb U=>hl b (VR _ U))
end
structure Up(H H':Hp)(W W':Wn):Prop where
 s:Same H H'
 f:∀b u,H b=some u->W.free b->W'.free b
 n:∀b u,H b=some u->W.s b->W'.s b
theorem Up.evo(u:Up H H' W W'):Evo H H' W W':=⟨λb o h f=>⟨u.s b o h,u.f b o h f⟩,λb xs h=>u.s b _ h⟩
theorem Up.evoN(u:Up H H' W W'):Jk H H' W W':=λb o h f=>⟨u.s b o h,u.n b o h f⟩
theorem Up.refl:Up H H W W:=⟨Same.refl H,λ_ _ _ f=>f,λ_ _ _ f=>f⟩
theorem Up.trans{H2:Hp}{B:Wn}(a:Up H H' W W')(b:Up H' H2 W' B):Up H H2 W B:=⟨a.s.trans b.s,λc u h f=>b.f c u (a.s c u h) (a.f c u h f),λc u h f=>b.n c u (a.s c u h) (a.n c u h f)⟩
theorem Rep.up{d:D}{v:V}{L:List Addr}(h:Rep G H W d v L)(u:Up H H' W W'):Rep G H' W' d v L:=h.mono u.evo (.inr u.evoN) (.inr u.s) λc _ o e=>u.s c o e
theorem aD.up{d:List D}{v:List V}{L:List Addr}(h:aD G H W d v L)(u:Up H H' W W'):aD G H' W' d v L:=h.mono u.evo (.inr u.evoN) (.inr u.s) λc _ o e=>u.s c o e
def Wn.add(W:Wn)(L:List Addr):Wn:=⟨λa=>a∈L∨W.n a,W.s,W.o⟩
theorem Up.add{L:List Addr}(s:Same H H')(Y:∀a∈L,H a=none):Up H H' W (W.add L):=⟨s,λb u h f=>⟨λz=>z.elim (λz=>by rw[Y b z]at h;cases h) f.1,f.2⟩,λb u h f=>f⟩
theorem Up.same(s:Same H H'):Up H H' W W:=⟨s,λ_ _ _ f=>f,λ_ _ _ f=>f⟩
end
def mkV(ob:Bool):Mk->Mk
 |.own=>if ob then .bro else .brw
 |m=>m
def mkF:Mk->Mk
 |.scr=>.scr
 |_=>.frz
mutual
def view(ob:Bool):D->D
 |.tup ds=>.tup (eZ ob ds)
 |.lst m ds=>.lst (mkV ob m) (eZ ob ds)
 |.dct m ks ds=>.dct (mkV ob m) ks (eZ ob ds)
 |.ins m c fs ds=>.ins (mkV ob m) c fs (eZ ob ds)
 |d=>d
def eZ(ob:Bool):List D->List D
 |[]=>[]
 |d::r=>view ob d::eZ ob r
end
mutual
def fz:D->D
 |.tup ds=>.tup (fzL ds)
 |.lst m ds=>.lst (mkF m) (fzL ds)
 |.dct m ks ds=>.dct (mkF m) ks (fzL ds)
 |.ins m c fs ds=>.ins (mkF m) c fs (fzL ds)
 |d=>d
def fzL:List D->List D
 |[]=>[]
 |d::r=>fz d::fzL r
end
theorem bR(ob:Bool):∀ds:List D,eZ ob ds=ds.map (view ob)
 |[]=>rfl
 |d::r=>by rw[eZ,bR ob r];rfl
theorem dZ:∀ds:List D,fzL ds=ds.map fz
 |[]=>rfl
 |d::r=>by rw[fzL,dZ r];rfl
section
variable{G:Gc}{H:Hp}{W W':Wn}
theorem dg.view{F:Addr->HO->Prop}{ob:Bool}{a:Addr}{o:HO}{m:Mk}{L M:List Addr}(hn:ob=false->∀c∈L,W.s c)(h:dg F H W a o m L M):dg F H W a o (mkV ob m) [] []:=by
 cases m with
 |own=>
  cases ob with
  |false=>exact⟨h.1,hn rfl a (by rw[h.2];simp),rfl,rfl⟩
  |true=>exact⟨h.1,rfl,rfl⟩
 |frz=>exact⟨h.1,h.2.1,rfl,rfl⟩
 |brw=>exact⟨h.1,h.2.1,rfl,rfl⟩
 |bro=>exact⟨h.1,rfl,rfl⟩
 |scr=>exact⟨h.1,rfl,rfl⟩
mutual
theorem Rep.view{ob:Bool}:∀{d:D}{v:V}{L:List Addr},Rep G H W d v L->(ob=false->∀c∈L,W.s c)->Rep G H W (view ob d) v []
 |.non,v,L,h,_=>by rw[Rep]at h;simp[Jb.view,Rep,h]
 |.bl _,v,L,h,_=>by rw[Rep]at h;simp[Jb.view,Rep,h]
 |.int _,v,L,h,_=>by rw[Rep]at h;simp[Jb.view,Rep,h]
 |.str _,v,L,h,_=>by rw[Rep]at h;simp[Jb.view,Rep,h]
 |.ty _,v,L,h,_=>by rw[Rep]at h;simp[Jb.view,Rep,h]
 |.tup ds,v,L,h,hn=>by
  rw[Rep]at h;rw[Jb.view,Rep];obtain⟨a,xs,rfl,F,O⟩:=h;exact⟨a,xs,rfl,F,aD.view O hn⟩
 |.lst m ds,v,L,h,hn=>by
  rw[Rep]at h;rw[Jb.view,Rep];obtain⟨a,xs,M,rfl,O,hs⟩:=h;exact⟨a,xs,[],rfl,aD.view O λz c Z=>hn z c (hs.sub.subset Z),hs.view hn⟩
 |.dct m ks ds,v,L,h,hn=>by
  rw[Rep]at h;rw[Jb.view,Rep];obtain⟨a,xs,M,rfl,B,O,hs⟩:=h;exact⟨a,xs,[],rfl,B,aD.view O λz c Z=>hn z c (hs.sub.subset Z),hs.view hn⟩
 |.ins m c fs ds,v,L,h,hn=>by
  rw[Rep]at h;rw[Jb.view,Rep];obtain⟨a,C,dx,xs,M,rfl,N,B,O,hs⟩:=h;exact⟨a,C,dx,xs,[],rfl,N,B,aD.view O λz c Z=>hn z c (hs.sub.subset Z),hs.view hn⟩
theorem aD.view{ob:Bool}:∀{ds:List D}{vs:List V}{L:List Addr},aD G H W ds vs L->(ob=false->∀c∈L,W.s c)->aD G H W (eZ ob ds) vs []
 |[],vs,L,h,_=>by obtain⟨rfl,_⟩:=h.inv0;rw[eZ];exact .nil
 |d::r,vs,L,h,hn=>by
  obtain⟨x,ys,M,M',rfl,rfl,h1,h2⟩:=h.inv;rw[eZ];exact .cons (M:=[]) (M':=[]) (Rep.view h1 λz c Z=>hn z c (Wf _ Z)) (aD.view h2 λz c Z=>hn z c (VR _ Z))
end
structure Les(H:Hp)(W W':Wn)(L:List Addr):Prop where
 f:∀a,W.free a->W'.free a
 l:∀a∈L,W'.free a
theorem Les.sub{L M:List Addr}(h:Les H W W' L)(s:∀a∈M,a∈L):Les H W W' M:=⟨h.f,λa Y=>h.l a (s a Y)⟩
def mX(W:Wn):Prop:=∀a,W.free a
theorem dg.fz{F:Addr->HO->Prop}{a:Addr}{o:HO}{m:Mk}{L M:List Addr}(hs:Les H W W' L)(hn:(m≠.brw/\m≠.bro)∨mX W')(h:dg F H W a o m L M):dg F H W' a o (mkF m) [] []:=by
 cases m with
 |own=>exact⟨h.1,hs.l a (by rw[h.2];simp),rfl,rfl⟩
 |frz=>exact⟨h.1,hs.f a h.2.1,rfl,rfl⟩
 |brw=>exact⟨h.1,hn.elim (λz=>absurd rfl z.1) λz=>z a,rfl,rfl⟩
 |bro=>exact⟨h.1,hn.elim (λz=>absurd rfl z.2) λz=>z a,rfl,rfl⟩
 |scr=>exact⟨h.1.imp (λz=>⟨z.1,hs.f a z.2⟩) id,rfl,rfl⟩
mutual
theorem Rep.fz:∀{d:D}{v:V}{L:List Addr},Rep G H W d v L->Les H W W' L->(clean d=true∨mX W')->Rep G H W' (fz d) v []
 |.non,v,L,h,_,_=>by rw[Rep]at h;simp[Jb.fz,Rep,h]
 |.bl _,v,L,h,_,_=>by rw[Rep]at h;simp[Jb.fz,Rep,h]
 |.int _,v,L,h,_,_=>by rw[Rep]at h;simp[Jb.fz,Rep,h]
 |.str _,v,L,h,_,_=>by rw[Rep]at h;simp[Jb.fz,Rep,h]
 |.ty _,v,L,h,_,_=>by rw[Rep]at h;simp[Jb.fz,Rep,h]
 |.tup ds,v,L,h,hs,c=>by
  rw[Rep]at h;rw[Jb.fz,Rep];obtain⟨a,xs,rfl,F,O⟩:=h;exact⟨a,xs,rfl,F,aD.fz O hs (c.imp (λz=>by simpa[clean,az,aq]using z) id)⟩
 |.lst m ds,v,L,h,he,c=>by
  rw[Rep]at h;rw[Jb.fz,Rep];obtain⟨a,xs,M,rfl,O,hs⟩:=h;exact⟨a,xs,[],rfl,aD.fz O (he.sub λc Z=>hs.sub.subset Z) (c.imp (λz=>by simp[clean,az,aq]at z;exact⟨z.1.2,z.2.2⟩) id),hs.fz he (c.imp (λz=>by simp[clean,az,aq]at z;exact⟨z.1.1,z.2.1⟩) id)⟩
 |.dct m ks ds,v,L,h,he,c=>by
  rw[Rep]at h;rw[Jb.fz,Rep];obtain⟨a,xs,M,rfl,B,O,hs⟩:=h;exact⟨a,xs,[],rfl,B,aD.fz O (he.sub λc Z=>hs.sub.subset Z) (c.imp (λz=>by simp[clean,az,aq]at z;exact⟨z.1.2,z.2.2⟩) id),hs.fz he (c.imp (λz=>by simp[clean,az,aq]at z;exact⟨z.1.1,z.2.1⟩) id)⟩
 |.ins m c' fs ds,v,L,h,he,c=>by
  rw[Rep]at h;rw[Jb.fz,Rep];obtain⟨a,C,dx,xs,M,rfl,N,B,O,hs⟩:=h;exact⟨a,C,dx,xs,[],rfl,N,B,aD.fz O (he.sub λc Z=>hs.sub.subset Z) (c.imp (λz=>by simp[clean,az,aq]at z;exact⟨z.1.2,z.2.2⟩) id),hs.fz he (c.imp (λz=>by simp[clean,az,aq]at z;exact⟨z.1.1,z.2.1⟩) id)⟩
theorem aD.fz:∀{ds:List D}{vs:List V}{L:List Addr},aD G H W ds vs L->Les H W W' L->((aA ds=true/\aB ds=true)∨mX W')->aD G H W' (fzL ds) vs []
 |[],vs,L,h,_,_=>by obtain⟨rfl,_⟩:=h.inv0;rw[fzL];exact .nil
 |d::r,vs,L,h,he,c=>by
  obtain⟨x,ys,M,M',rfl,rfl,h1,h2⟩:=h.inv;rw[fzL];exact .cons (M:=[]) (M':=[]) (Rep.fz h1 (he.sub λc Z=>Wf _ Z) (c.imp (λz=>by simp[clean,aA,aB]at z⊢;exact⟨z.1.1,z.2.1⟩) id))
   (aD.fz h2 (he.sub λc Z=>VR _ Z) (c.imp (λz=>by simp[clean,aA,aB]at z⊢;exact⟨z.1.2,z.2.2⟩) id))
end
mutual
theorem zu:∀d:D,az (Jb.fz d)=true
 |.non=>rfl|.bl _=>rfl|.int _=>rfl|.str _=>rfl|.ty _=>rfl
 |.tup ds=>by simp[Jb.fz,az,gB ds]
 |.lst m ds=>by cases m<;>simp[Jb.fz,az,gB ds,mkF]
 |.dct m _ ds=>by cases m<;>simp[Jb.fz,az,gB ds,mkF]
 |.ins m _ _ ds=>by cases m<;>simp[Jb.fz,az,gB ds,mkF]
theorem gB:∀ds:List D,aA (fzL ds)=true
 |[]=>rfl
 |d::r=>by simp[fzL,aA,zu d,gB r]
end
mutual
theorem Al:∀d:D,aq (Jb.fz d)=true
 |.non=>rfl|.bl _=>rfl|.int _=>rfl|.str _=>rfl|.ty _=>rfl
 |.tup ds=>by simp[Jb.fz,aq,gA ds]
 |.lst m ds=>by cases m<;>simp[Jb.fz,aq,gA ds,mkF]
 |.dct m _ ds=>by cases m<;>simp[Jb.fz,aq,gA ds,mkF]
 |.ins m _ _ ds=>by cases m<;>simp[Jb.fz,aq,gA ds,mkF]
theorem gA:∀ds:List D,aB (fzL ds)=true
 |[]=>rfl
 |d::r=>by simp[fzL,aB,Al d,gA r]
end
theorem K9(d:D):clean (Jb.fz d)=true:=by simp[clean,zu,Al]
mutual
theorem Rep.dom:∀{d:D}{v:V}{L:List Addr},Rep G H W d v L->∀a∈L,Mu H a
 |.non,v,L,h=>by rw[Rep]at h;rw[h.2];simp
 |.bl _,v,L,h=>by rw[Rep]at h;rw[h.2];simp
 |.int _,v,L,h=>by rw[Rep]at h;rw[h.2];simp
 |.str _,v,L,h=>by rw[Rep]at h;rw[h.2];simp
 |.ty _,v,L,h=>by rw[Rep]at h;rw[h.2];simp
 |.tup ds,v,L,h=>by
  rw[Rep]at h;obtain⟨a,xs,rfl,F,O⟩:=h;exact aD.dom O
 |.lst m ds,v,L,h=>by
  rw[Rep]at h;obtain⟨a,xs,M,rfl,O,hs⟩:=h;intro b U;cases m with
  |own=>
   rw[hs.2]at U;rcases V5.mp U with z|z
   .rw[z];exact⟨_,hs.1,rfl⟩
   .exact aD.dom O b z
  |frz=>rw[hs.2.2.2]at U;cases U
  |brw=>rw[hs.2.2.2]at U;cases U
  |bro=>rw[hs.2.2]at U;cases U
  |scr=>rw[hs.2.2]at U;cases U
 |.dct m ks ds,v,L,h=>by
  rw[Rep]at h;obtain⟨a,xs,M,rfl,B,O,hs⟩:=h;intro b U;cases m with
  |own=>
   rw[hs.2]at U;rcases V5.mp U with z|z
   .rw[z];exact⟨_,hs.1,rfl⟩
   .exact aD.dom O b z
  |frz=>rw[hs.2.2.2]at U;cases U
  |brw=>rw[hs.2.2.2]at U;cases U
  |bro=>rw[hs.2.2]at U;cases U
  |scr=>rw[hs.2.2]at U;cases U
 |.ins m c fs ds,v,L,h=>by
  rw[Rep]at h;obtain⟨a,C,dx,xs,M,rfl,N,B,O,hs⟩:=h;intro b U;cases m with
  |own=>
   rw[hs.2]at U;rcases V5.mp U with z|z
   .rw[z];exact⟨_,hs.1,rfl⟩
   .exact aD.dom O b z
  |frz=>rw[hs.2.2.2]at U;cases U
  |brw=>rw[hs.2.2.2]at U;cases U
  |bro=>rw[hs.2.2]at U;cases U
  |scr=>rw[hs.2.2]at U;cases U
theorem aD.dom:∀{ds:List D}{vs:List V}{L:List Addr},aD G H W ds vs L->∀a∈L,Mu H a
 |[],vs,L,h=>by rw[h.inv0.2];simp
 |d::r,vs,L,h=>by
  obtain⟨x,ys,M,M',rfl,rfl,h1,h2⟩:=h.inv;intro a Y;rcases qb.mp Y with z|z
  .exact Rep.dom h1 a z
  .exact aD.dom h2 a z
end
end
abbrev En:=List (Option D)
abbrev Ad:=Nat->List Addr
def Rel(G:Gc)(H:Hp)(W:Wn)(ob:Nat->Bool)(ρ:En)(σ:L2.St):Prop:=∀(i:Nat)(d:D),ρ[i]? =some (some d)->∃v L,σ[i]? =some (some v)/\Rep G H W d v L/\(ob i=false->∀c∈L,W.s c)
def WOk(H:Hp)(W:Wn):Prop:=∀a,W.n a∨W.s a∨W.o a->Mu H a
theorem Rel.up{G:Gc}{H H':Hp}{W W':Wn}{ob:Nat->Bool}{ρ:En}{σ:L2.St}(r:Rel G H W ob ρ σ)(u:Up H H' W W'):Rel G H' W' ob ρ σ:=λi d e=>let⟨v,L,h1,h2,h3⟩:=r i d e;⟨v,L,h1,h2.up u,λz c Z=>let⟨o,ho,_⟩:=h2.dom c Z;u.n c o ho (h3 z c Z)⟩
theorem WOk.add{H H':Hp}{W:Wn}{L:List Addr}(h:WOk H W)(s:Same H H')(q:∀a∈L,Mu H' a):WOk H' (W.add L):=λa Y=>by
 rcases Y with(z|z)|z
 .exact q a z
 .obtain⟨o,h1,h2⟩:=h a (.inl z);exact⟨o,s a o h1,h2⟩
 .obtain⟨o,h1,h2⟩:=h a (.inr z);exact⟨o,s a o h1,h2⟩
def wn(ob:Nat->Bool)(S:Ad)(Fr:Addr->Prop):Wn:=⟨Fr,λa=>∃i,ob i=false/\a∈S i,λa=>∃i,ob i=true/\a∈S i⟩
def inS(S:Ad)(a:Addr):Prop:=∃i,a∈S i
def inO(ob:Nat->Bool)(S:Ad)(a:Addr):Prop:=∃i,ob i=true/\a∈S i
def plus(M:List Addr)(Fr:Addr->Prop):Addr->Prop:=λa=>a∈M∨Fr a
structure Sta(G:Gc)(H:Hp)(ob:Nat->Bool)(ρ:En)(σ:L2.St)(S:Ad)(Fr:Addr->Prop):Prop where
 len:ρ.length=σ.length
 sl:∀(i:Nat)(d:D),ρ[i]? =some (some d)->∃v,σ[i]? =some (some v)/\Rep G H (wn ob S Fr) d v (S i)/\clean d=true
 em:∀i,(∀d,ρ[i]?≠some (some d))->S i=[]
 nd:∀i,(S i).Nodup
 dj:∀i j a,a∈S i->a∈S j->i=j
 fdj:∀i a,Fr a->a∉S i
 fdm:∀a,Fr a->Mu H a
section
variable{G:Gc}{H H':Hp}{ob:Nat->Bool}{ρ:En}{σ:L2.St}{S S':Ad}{Fr Fr':Addr->Prop}
theorem Sta.mu(s:Sta G H ob ρ σ S Fr){i:Nat}{a:Addr}(h:a∈S i):Mu H a:=by
 by_cases e:∃d,ρ[i]? =some (some d)
 .obtain⟨d,e⟩:=e
  obtain⟨v,_,r,_⟩:=s.sl i d e;exact r.dom a h
 .rw[s.em i λd z=>e ⟨d,z⟩]at h
  cases h
theorem Sta.wok(s:Sta G H ob ρ σ S Fr):WOk H (wn ob S Fr):=λa Y=>by
 rcases Y with z|⟨i,_,z⟩|⟨i,_,z⟩
 .exact s.fdm a z
 .exact s.mu z
 .exact s.mu z
theorem Sta.rel(s:Sta G H ob ρ σ S Fr):Rel G H (wn ob S Fr) ob ρ σ:=λi d e=>by
 obtain⟨v,h1,h2,_⟩:=s.sl i d e;exact⟨v,S i,h1,h2,λz c Z=>⟨i,z,Z⟩⟩
theorem Sta.grow(s:Sta G H ob ρ σ S Fr)(I:Same H H')(h1:∀a,Fr' a->Fr a∨(H a=none/\Mu H' a)):Sta G H' ob ρ σ S Fr' where
 len:=s.len
 sl:=λi d e=>by
  obtain⟨v,q1,q2,O⟩:=s.sl i d e;have Z:az d=true/\aq d=true:=by simpa[clean]using O
  have J:Evo H H' (wn ob S Fr) (wn ob S Fr'):=⟨λb u h f=>⟨I b u h,⟨λz=>(h1 b z).elim f.1 (λz=>by rw[z.1]at h;cases h),f.2⟩⟩,λb xs h=>I b _ h⟩;exact⟨v,q1,q2.mono J (.inl Z.1) (.inl Z.2) λc _ u e=>I c u e,O⟩
 em:=s.em
 nd:=s.nd
 dj:=s.dj
 fdj:=λi a h z=>by
  rcases h1 a h with q|q
  .exact s.fdj i a q z
  .obtain⟨o,ho,_⟩:=s.mu z
   rw[q.1]at ho;cases ho
 fdm:=λa h=>by
  rcases h1 a h with q|q
  .obtain⟨o,ho,hm⟩:=s.fdm a q
   exact⟨o,I a o ho,hm⟩
  .exact q.2
theorem Sta.lessF(s:Sta G H ob ρ σ S Fr)(h1:∀a,Fr' a->Fr a):Sta G H ob ρ σ S Fr':=s.grow (Same.refl H) λa h=>.inl (h1 a h)
end
def RfE(G:Gc)(ob:Nat->Bool)(t:TE)(f:En->Option D):Prop:=∀(ρ:En)(d:D),f ρ=some d->∀(σ:L2.St)(H:Hp)(W:Wn),Rel G H W ob ρ σ->WOk H W->∀Q:VK,
 (∀v H' L,Same H H'->Rep G H' (W.add L) d v L->(∀a∈L,H a=none)->L.Nodup->Q v H')->t σ H Q
def RfT(G:Gc)(ob:Nat->Bool)(t:TT)(f:En->Option Bool):Prop:=∀(ρ:En)(b:Bool),f ρ=some b->∀(σ:L2.St)(H:Hp)(W:Wn),Rel G H W ob ρ σ->WOk H W->∀Q:Bool->Hp->Prop,
 (∀H',Same H H'->Q b H')->t σ H Q
def RfA(G:Gc)(ob:Nat->Bool)(t:TA)(f:En->Option (List D)):Prop:=∀(ρ:En)(ds:List D),f ρ=some ds->∀(σ:L2.St)(H:Hp)(W:Wn),Rel G H W ob ρ σ->WOk H W->∀Q:List V->Hp->Prop,
 (∀vs H' L,Same H H'->aD G H' (W.add L) ds vs L->(∀a∈L,H a=none)->L.Nodup->Q vs H')->t σ H Q
structure Eff(ob:Nat->Bool)(H H':Hp)(S S':Ad)(M:List Addr):Prop where
 kp:∀b u,H b=some u->¬inO ob S b->H' b=some u
 sn:∀i,ob i=false->S' i=S i
 gr:∀i a,ob i=true->a∈S' i->inO ob S a∨H a=none
 fm:∀a∈M,inO ob S a∨H a=none
def km(G:Gc)(ob:Nat->Bool)(t:TE)(f:En->Option (D×En)):Prop:=∀(ρ:En)(d:D)(B:En),f ρ=some (d,B)->∀(σ:L2.St)(H:Hp)(S:Ad)(Fr:Addr->Prop),Sta G H ob ρ σ S Fr->∀Q:VK,
 (∀v H' M S',Sta G H' ob B σ S' (plus M Fr)->Rep G H' (wn ob S' (plus M Fr)) d v M->M.Nodup->Eff ob H H' S S' M->Q v H')->t σ H Q
def yo(G:Gc)(ob:Nat->Bool)(t:TT)(f:En->Option (Bool×En)):Prop:=∀(ρ:En)(b:Bool)(B:En),f ρ=some (b,B)->∀(σ:L2.St)(H:Hp)(S:Ad)(Fr:Addr->Prop),Sta G H ob ρ σ S Fr->∀Q:Bool->Hp->Prop,
 (∀H' S',Sta G H' ob B σ S' Fr->Eff ob H H' S S' []->Q b H')->t σ H Q
def Ar(G:Gc)(ob:Nat->Bool)(t:TA)(f:En->Option (List D×En)):Prop:=∀(ρ:En)(ds:List D)(B:En),f ρ=some (ds,B)->∀(σ:L2.St)(H:Hp)(S:Ad)(Fr:Addr->Prop),Sta G H ob ρ σ S Fr->∀Q:List V->Hp->Prop,
 (∀vs H' M S',Sta G H' ob B σ S' (plus M Fr)->aD G H' (wn ob S' (plus M Fr)) ds vs M->M.Nodup->Eff ob H H' S S' M->Q vs H')->t σ H Q
inductive Fl where
 |nx (ρ:En)|ret (d:D) (ρ:En)|brk (ρ:En)|cnt (ρ:En)
def Dg(P:Nat->Bool)(σ F:L2.St):Prop:=∀i,P i=true->F[i]? =σ[i]?
theorem Dg.refl{P:Nat->Bool}{σ:L2.St}:Dg P σ σ:=λ_ _=>rfl
theorem Dg.trans{P:Nat->Bool}{σ N σ2:L2.St}(a:Dg P σ N)(b:Dg P N σ2):Dg P σ σ2:=λi h=>(b i h).trans (a i h)
structure Mv(P:Nat->Bool)(H H':Hp)(σ σ':L2.St)(S S':Ad)(M:List Addr):Prop where
 kp:∀b u,H b=some u->¬inS S b->b∉M->H' b=some u
 gr:∀i a,a∈S' i->inS S a∨a∈M∨H a=none
 pr:Dg P σ σ'
theorem Mv.trans{P:Nat->Bool}{H H1 H2:Hp}{σ N σ2:L2.St}{S S1 S2:Ad}{M:List Addr}(a:Mv P H H1 σ N S S1 M)(b:Mv P H1 H2 N σ2 S1 S2 []):Mv P H H2 σ σ2 S S2 M where
 kp:=λc u h n m=>b.kp c u (a.kp c u h n m) (λ⟨i,z⟩=>(a.gr i c z).elim n λz=>z.elim m λe=>by rw[h]at e;cases e) (by simp)
 gr:=λi c z=>by
  rcases b.gr i c z with⟨j,q⟩|q|q
  .exact a.gr j c q
  .cases q
  .by_cases h:inS S c
   .exact .inl h
   .by_cases hm:c∈M
    .exact .inr (.inl hm)
    .refine .inr (.inr ?_)
     cases e:H c with
     |none=>rfl
     |some u=>rw[a.kp c u e h hm]at q;cases q
 pr:=a.pr.trans b.pr
theorem Eff.mv{P:Nat->Bool}{ob:Nat->Bool}{H H':Hp}{σ:L2.St}{S S':Ad}{M:List Addr}(e:Eff ob H H' S S' M):Mv P H H' σ σ S S' []where
 kp:=λb u h n _=>e.kp b u h λ⟨i,_,z⟩=>n ⟨i,z⟩
 gr:=λi a z=>by
  cases h:ob i with
  |false=>rw[e.sn i h]at z;exact .inl ⟨i,z⟩
  |true=>exact(e.gr i a h z).imp (λ⟨j,_,q⟩=>⟨j,q⟩) .inr
 pr:=.refl
def Aft(G:Gc)(ob P:Nat->Bool)(H:Hp)(σ:L2.St)(S:Ad)(Fr:Addr->Prop)(E:Ends):Fl->Prop
 |.nx B=>∀F H' S',Sta G H' ob B F S' Fr->Mv P H H' σ F S S' []->E.nx F H'
 |.brk B=>∀F H' S',Sta G H' ob B F S' Fr->Mv P H H' σ F S S' []->E.bk F H'
 |.cnt B=>∀F H' S',Sta G H' ob B F S' Fr->Mv P H H' σ F S S' []->E.ct F H'
 |.ret d B=>∀v F H' M S',Sta G H' ob B F S' (plus M Fr)->Rep G H' (wn ob S' (plus M Fr)) d v M->clean d=true->M.Nodup->(∀a∈M,inS S a∨H a=none)->Mv P H H' σ F S S' []->E.rt v H'
def RfS(G:Gc)(ob P:Nat->Bool)(t:TS)(f:En->Option Fl):Prop:=∀(ρ:En)(r:Fl),f ρ=some r->∀(σ:L2.St)(H:Hp)(S:Ad)(Fr:Addr->Prop),Sta G H ob ρ σ S Fr->∀E:Ends,Aft G ob P H σ S Fr E r->t E σ H
def RfG(G:Gc)(ob P:Nat->Bool)(g:TG)(f:D->En->Option En):Prop:=∀(d:D)(ρ B:En),f d ρ=some B->∀(v:V)(σ:L2.St)(H:Hp)(S:Ad)(M:List Addr)(Fr:Addr->Prop),Sta G H ob ρ σ S (plus M Fr)->Rep G H (wn ob S (plus M Fr)) d v M->M.Nodup->(∀a∈M,¬Fr a)->
 ∀Q:L2.St->Hp->Prop,(∀F H' S',Sta G H' ob B F S' Fr->Mv P H H' σ F S S' M->Q F H')->g v σ H Q
def VJ(G:Gc)(ob P:Nat->Bool)(g:TGs)(f:List D->En->Option En):Prop:=∀(ds:List D)(ρ B:En),f ds ρ=some B->∀(vs:List V)(σ:L2.St)(H:Hp)(S:Ad)(M:List Addr)(Fr:Addr->Prop),Sta G H ob ρ σ S (plus M Fr)->aD G H (wn ob S (plus M Fr)) ds vs M->M.Nodup->(∀a∈M,¬Fr a)->
 ∀Q:L2.St->Hp->Prop,(∀F H' S',Sta G H' ob B F S' Fr->Mv P H H' σ F S S' M->Q F H')->g vs σ H Q
structure PV{ι:Type}(X:ι->Cx)(G:Gc)(ob:Nat->Bool)(e:Expr)(f:En->Option D):Prop where
 mk::(ex:∃t,(∀c,PE (X c) e t)/\RfE G ob t f)
structure PVT{ι:Type}(X:ι->Cx)(G:Gc)(ob:Nat->Bool)(e:Expr)(f:En->Option Bool):Prop where
 mk::(ex:∃t,(∀c,PT (X c) e t)/\RfT G ob t f)
structure PVW{ι:Type}(X:ι->Cx)(G:Gc)(ob:Nat->Bool)(e:Expr)(f:En->Option Bool):Prop where
 mk::(ex:∃t,(∀c,PW (X c) e t)/\RfT G ob t f)
structure PVA{ι:Type}(X:ι->Cx)(G:Gc)(ob:Nat->Bool)(es:List Expr)(f:En->Option (List D)):Prop where
 mk::(ex:∃t,(∀c,PA (X c) es t)/\RfA G ob t f)
structure PVe{ι:Type}(X:ι->Cx)(G:Gc)(ob:Nat->Bool)(e:Expr)(f:En->Option (D×En)):Prop where
 mk::(ex:∃t,(∀c,PE (X c) e t)/\km G ob t f)
structure BK{ι:Type}(X:ι->Cx)(G:Gc)(ob:Nat->Bool)(e:Expr)(f:En->Option (Bool×En)):Prop where
 mk::(ex:∃t,(∀c,PT (X c) e t)/\yo G ob t f)
structure Oj{ι:Type}(X:ι->Cx)(G:Gc)(ob:Nat->Bool)(e:Expr)(f:En->Option (Bool×En)):Prop where
 mk::(ex:∃t,(∀c,PW (X c) e t)/\yo G ob t f)
structure uZ{ι:Type}(X:ι->Cx)(G:Gc)(ob:Nat->Bool)(es:List Expr)(f:En->Option (List D×En)):Prop where
 mk::(ex:∃t,(∀c,PA (X c) es t)/\Ar G ob t f)
structure PVS{ι:Type}(X:ι->Cx)(G:Gc)(ob P:Nat->Bool)(st:Stmt)(f:En->Option Fl):Prop where
 mk::(ex:∃t,(∀c,PS (X c) st t)/\RfS G ob P t f)
structure mK{ι:Type}(X:ι->Cx)(G:Gc)(ob P:Nat->Bool)(st:List Stmt)(f:En->Option Fl):Prop where
 mk::(ex:∃t,(∀c,PSs (X c) st t)/\RfS G ob P t f)
structure PVG{ι:Type}(X:ι->Cx)(G:Gc)(ob P:Nat->Bool)(tg:Expr)(f:D->En->Option En):Prop where
 mk::(ex:∃t,(∀c,PG (X c) tg t)/\RfG G ob P t f)
theorem cP{L M:List Addr}(h1:L.Nodup)(h2:M.Nodup)(Z:∀a∈L,a∉M):(L++M).Nodup:=Wi.mpr ⟨h1,h2,λa Y b U e=>Z a Y (e▸U)⟩
def Wn.drop(W:Wn)(L:List Addr):Wn:=⟨λa=>W.n a/\a∉L,W.s,W.o⟩
def Wn.tmp(W:Wn)(a:Addr):Prop:=W.n a/\¬W.s a/\¬W.o a
theorem WOk.tmp{H:Hp}{W:Wn}{L:List Addr}(w:WOk H W)(fr:∀a∈L,H a=none):∀a∈L,(W.add L).tmp a:=λa Y=>by
 refine⟨.inl Y,λz=>?_,λz=>?_⟩
 .obtain⟨o,ho,_⟩:=w a (.inr (.inl z));rw[fr a Y]at ho;cases ho
 .obtain⟨o,ho,_⟩:=w a (.inr (.inr z));rw[fr a Y]at ho;cases ho
def Done(G:Gc)(H:Hp)(W:Wn)(Z:List Addr)(d:D)(Q:VK):Prop:=∀v H' L,Same H H'->Rep G H' ((W.drop Z).add L) d v L->(∀a∈L,a∈Z∨H a=none)->L.Nodup->Q v H'
def OpV(G:Gc)(r:R2)(g:D->D->Option D):Prop:=∀(dx N d:D),g dx N=some d->∀(x y:V)(H:Hp)(W:Wn)(B Y:List Addr),Rep G H W dx x B->Rep G H W N y Y->(B++Y).Nodup->(∀a∈B++Y,W.tmp a)->WOk H W->∀Q:VK,Done G H W (B++Y) d Q->r x y H Q
def UnV(G:Gc)(r:V->Hp->VK->Prop)(g:D->Option D):Prop:=∀(dx d:D),g dx=some d->∀(x:V)(H:Hp)(W:Wn)(B:List Addr),Rep G H W dx x B->B.Nodup->(∀a∈B,W.tmp a)->WOk H W->∀Q:VK,Done G H W B d Q->r x H Q
def CaV(G:Gc)(r:List V->Hp->VK->Prop)(g:List D->Option D):Prop:=∀(ds:List D)(d:D),g ds=some d->∀(xs:List V)(H:Hp)(W:Wn)(Z:List Addr),aD G H W ds xs Z->Z.Nodup->(∀a∈Z,W.tmp a)->WOk H W->∀Q:VK,Done G H W Z d Q->r xs H Q
def MtV(G:Gc)(r:V->List V->Hp->VK->Prop)(g:D->List D->Option D):Prop:=∀(dx:D)(ds:List D)(d:D),g dx ds=some d->∀(x:V)(xs:List V)(H:Hp)(W:Wn)(B Z:List Addr),Rep G H W dx x B->aD G H W ds xs Z->(B++Z).Nodup->(∀a∈B++Z,W.tmp a)->WOk H W->∀Q:VK,Done G H W (B++Z) d Q->r x xs H Q
theorem WOk.new{H:Hp}{W:Wn}{L:List Addr}(w:WOk H W)(fr:∀a∈L,H a=none){a:Addr}(h:W.n a):a∉L:=λz=>by
 obtain⟨o,N,_⟩:=w a (.inl h);rw[fr a z]at N;cases N
theorem Done.scal{G:Gc}{H:Hp}{W:Wn}{Z:List Addr}{d:D}{Q:VK}{v:V}(h:Done G H W Z d Q)(r:∀W,Rep G H W d v []):Q v H:=h v H [] (Same.refl H) (r _) (by simp) List.nodup_nil
section
variable{G:Gc}{ob:Nat->Bool}{ta tb:TE}
theorem _root_.L2.Same.none'{H H':Hp}(s:Same H H'){a:Addr}(h:H' a=none):H a=none:=Same.free s h
theorem RfE.two{fa fb:En->Option D}(Y:RfE G ob ta fa)(U:RfE G ob tb fb){ρ:En}{dx dy:D}(e1:fa ρ=some dx)(e2:fb ρ=some dy){σ:L2.St}{H:Hp}{W:Wn}(r:Rel G H W ob ρ σ)(w:WOk H W){R:V->V->Hp->Prop}
  (h:∀x y H' L M,Same H H'->Rep G H' (W.add (L++M)) dx x L->Rep G H' (W.add (L++M)) dy y M->(∀a∈L++M,H a=none)->(L++M).Nodup->WOk H' (W.add (L++M))->R x y H'):ta σ H λx H1=>tb σ H1 λy H2=>R x y H2:=by
 refine Y ρ dx e1 σ H W r w _ λx H1 L O rx Z nx=>?_;have q:Up H H1 W (W.add L):=.add O Z;have F:WOk H1 (W.add L):=w.add O rx.dom;refine U ρ dy e2 σ H1 (W.add L) (r.up q) F _ λy H2 M B J I ny=>?_;have a1:∀a∈L,a∉M:=λa h1 h2=>by
  obtain⟨o,N,_⟩:=rx.dom a h1;rw[I a h2]at N;cases N
 have eW:∀a,((W.add L).add M).n a↔(W.add (L++M)).n a:=λa=>by
  show(a∈M∨a∈L∨W.n a)↔(a∈L++M∨W.n a);rw[qb];constructor
  .rintro(z|z|z)
   .exact .inl (.inr z)
   .exact .inl (.inl z)
   .exact .inr z
  .rintro((z|z)|z)
   .exact .inr (.inl z)
   .exact .inl z
   .exact .inr (.inr z)
 have a0:(W.add L).add M=W.add (L++M):=by
  show Wn.mk _ _ _=Wn.mk _ _ _;congr 1;funext a;exact propext (eW a)
 have u2:Up H1 H2 (W.add L) (W.add (L++M)):=by rw[←a0];exact .add B I
 rw[a0]at J;refine h x y H2 L M (O.trans B) (rx.up u2) J (λa Y=>?_) (cP nx ny a1) ?_
 .rcases qb.mp Y with z|z
  .exact Z a z
  .exact O.none' (I a z)
 .rw[←a0]
  exact F.add B J.dom
end
def au(b:Bool)(i:Nat):En->Option D:=λρ=>match ρ[i]? with
 |some (some d)=>some (view b d)
 |_=>none
def eC(d:D):En->Option D:=λ_=>some d
section
variable{ι:Type}{X:ι->Cx}{G:Gc}{ob:Nat->Bool}
theorem p_(W:Wn):W.add []=W:=by
 cases W;simp[Wn.add]
theorem Qp{i:Nat}:RfE G ob (By i) (au (ob i) i):=λρ d e σ H W r w Q q=>by
 unfold au at e;split at e
 .rename_i d0 e0
  cases e;obtain⟨v,L,h1,h2,Z⟩:=r i d0 e0;refine⟨v,h1,q v H [] (Same.refl H) ?_ (by simp) List.nodup_nil⟩;rw[p_];exact h2.view Z
 .cases e
theorem aj(b:Bool)(i:Nat){x:Str}{pos:Pos}(U:ob i=b:=by rfl)(q:∀c,(X c).N[i]? =some x:=by intro _;rfl)(F:∀c,Vis (X c).env.scope x:=by intro _;first|exact Yk rfl|exact Xv (Yk rfl)|exact Xv (Xv rfl))(hd:1.20=false:=by decide)(B:(x==("__classdict__":Str))=false:=by decide):PV X G ob (.Name x pos) (au b i):=⟨_,λc=>pv i (q c) (F c) hd B,by rw[←U];exact Qp⟩
theorem Lr{d:D}{v:V}(h:∀H W,Rep G H W d v []):RfE G ob (tC v) (eC d):=λρ d' e σ H W r w Q q=>by
 cases e;exact q v H [] (Same.refl H) (h _ _) (by simp) List.nodup_nil
theorem aF{i j pos}:PV X G ob (.Constant (.int i) j pos) (eC (.int i)):=⟨_,λc=>Qq,Lr λ_ _=>by simp[Rep]⟩
theorem Ex{b j pos}:PV X G ob (.Constant (.bool b) j pos) (eC (.bl b)):=⟨_,λc=>SX,Lr λ_ _=>by simp[Rep]⟩
theorem Qm{j pos}:PV X G ob (.Constant .none j pos) (eC .non):=⟨_,λc=>Rk,Lr λ_ _=>by simp[Rep]⟩
theorem uh{x j pos}:PV X G ob (.Constant (.str x) j pos) (eC (.str x)):=⟨_,λc=>RN,Lr λ_ _=>by simp[Rep]⟩
theorem lH{x:Str}{n:String}{pos:Pos}(q:∀c,Gl (X c) x)(J:∀c,(X c).mg x=none)(N:Yi x=some (.type n))(hn:x≠"__name__":=by decide)(hd:1.20=false:=by decide):PV X G ob (.Name x pos) (eC (.ty n)):=⟨_,λc=>Sx (q c) (J c) N hn hd,Lr λ_ _=>by simp[Rep]⟩
structure OpB{ι:Type}(X:ι->Cx)(G:Gc)(f:Value->Value->Sem Value)(g:D->D->Option D):Prop where
 ex:∃r,(∀c,OpR (X c) f r)/\OpV G r g
structure UnB{ι:Type}(X:ι->Cx)(G:Gc)(f:Value->Sem Value)(g:D->Option D):Prop where
 ex:∃r,(∀c,UnR (X c) f r)/\UnV G r g
structure IxB{ι:Type}(X:ι->Cx)(G:Gc)(g:D->D->Option D):Prop where
 ex:∃r,(∀c,IxR (X c) r)/\OpV G r g
structure CaB{ι:Type}(X:ι->Cx)(G:Gc)(f:Value)(g:List D->Option D):Prop where
 ex:∃r,(∀c,cY (X c) f r)/\CaV G r g
structure MtB{ι:Type}(X:ι->Cx)(G:Gc)(T id:String)(g:D->List D->Option D):Prop where
 ex:∃r,(∀c,MtR (X c) id r)/\MtV G r g/\∀dx ds d,g dx ds=some d->∀(x:V)(H:Hp)(W:Wn)(Lx:List Addr),Rep G H W dx x Lx->tyV G.K T x H
def e2(g:D->D->Option D)(fa fb:En->Option D):En->Option D:=λρ=>(fa ρ).bind λx=>(fb ρ).bind λy=>g x y
def e1(g:D->Option D)(fa:En->Option D):En->Option D:=λρ=>(fa ρ).bind g
theorem zR{r:R2}{g:D->D->Option D}{ta tb:TE}{fa fb:En->Option D}(N:OpV G r g)(Y:RfE G ob ta fa)(U:RfE G ob tb fb):RfE G ob (tOp r ta tb) (e2 g fa fb):=λρ d e σ H W F w Q q=>by
 unfold e2 at e;cases h1:fa ρ with
 |none=>rw[h1]at e;cases e
 |some dx=>
  rw[h1]at e;cases h2:fb ρ with
  |none=>simp[h2]at e
  |some O=>
   have e:g dx O=some d:=by simpa[h2]using e
   refine RfE.two Y U h1 h2 F w λx y H' L M s rx J fr nd V=>?_;refine N dx O d e x y H' _ L M rx J nd (w.tmp fr) V Q λv H2 L2 B Z I n2=>?_;refine q v H2 L2 (s.trans B) ?_ (λa Y=>(I a Y).elim (fr a) λz=>s.none' z) n2;exact Z.up ⟨Same.refl _,λb u U f=>⟨λz=>z.elim (λz=>f.1 (.inl z)) λz=>f.1 (.inr ⟨.inr z,WOk.new w fr z⟩),f.2⟩,λ_ _ _ f=>f⟩
theorem Ur{r:V->Hp->VK->Prop}{g:D->Option D}{ta:TE}{fa:En->Option D}(N:UnV G r g)(Y:RfE G ob ta fa):RfE G ob (tUn r ta) (e1 g fa):=λρ d e σ H W F w Q q=>by
 unfold e1 at e;cases h1:fa ρ with
 |none=>rw[h1]at e;cases e
 |some dx=>
  rw[h1]at e;have e:g dx=some d:=by simpa using e
  refine Y ρ dx h1 σ H W F w _ λx H' L s rx fr nd=>?_;refine N dx d e x H' _ L rx nd (w.tmp fr) (w.add s rx.dom) Q λv H2 L2 B Z I J=>?_;refine q v H2 L2 (s.trans B) ?_ (λa Y=>(I a Y).elim (fr a) λz=>s.none' z) J;exact Z.up ⟨Same.refl _,λb u U f=>⟨λz=>z.elim (λz=>f.1 (.inl z)) λz=>f.1 (.inr ⟨.inr z,WOk.new w fr z⟩),f.2⟩,λ_ _ _ f=>f⟩
def aH:En->Option (List D):=λ_=>some []
def ao(fa:En->Option D)(fr:En->Option (List D)):En->Option (List D):=λρ=>(fa ρ).bind λx=>(fr ρ).bind λxs=>some (x::xs)
theorem BV:RfA G ob Ra aH:=λρ ds e σ H W F w Q q=>by
 cases e;exact q [] H [] (Same.refl H) .nil (by simp) List.nodup_nil
theorem Nf{ta:TE}{t:TA}{fa:En->Option D}{fr:En->Option (List D)}(Y:RfE G ob ta fa)(O:RfA G ob t fr):RfA G ob (zz ta t) (ao fa fr):=λρ ds e σ H W F w Q q=>by
 unfold ao at e;cases h1:fa ρ with
 |none=>rw[h1]at e;cases e
 |some dx=>
  rw[h1]at e;cases h2:fr ρ with
  |none=>simp[h2]at e
  |some es=>
   have e:dx::es=ds:=by simpa[h2]using e
   subst e;refine Y ρ dx h1 σ H W F w _ λx H1 L s1 rx Z nx=>?_;have u1:Up H H1 W (W.add L):=.add s1 Z;have w1:WOk H1 (W.add L):=w.add s1 rx.dom;refine O ρ es h2 σ H1 (W.add L) (F.up u1) w1 _ λys H2 M B J I ny=>?_;have V:∀a∈L,a∉M:=λa h1 h2=>by
    obtain⟨o,N,_⟩:=rx.dom a h1;rw[I a h2]at N;cases N
   have u2:Up H1 H2 (W.add L) (W.add (L++M)):=⟨B,λb u U f=>⟨λz=>z.elim (λz=>(qb.mp z).elim (λz=>f.1 (.inl z)) λz=>by rw[I b z]at U;cases U) λz=>f.1 (.inr z),f.2⟩,λ_ _ _ f=>f⟩;refine q (x::ys) H2 (L++M) (s1.trans B) (.cons (rx.up u2) (J.up ⟨Same.refl _,λb u U f=>⟨λz=>?_,f.2⟩,λ_ _ _ f=>f⟩)) (λa Y=>?_) (cP nx ny V)
   .rcases z with z|z
    .exact(qb.mp z).elim (λz=>f.1 (.inr (.inl z))) λz=>f.1 (.inl z)
    .exact f.1 (.inr (.inr z))
   .rcases qb.mp Y with z|z
    .exact Z a z
    .exact s1.none' (I a z)
theorem t_{r:List V->Hp->VK->Prop}{g:List D->Option D}{t:TA}{f:En->Option (List D)}(N:CaV G r g)(h:RfA G ob t f):RfE G ob (λσ H Q=>t σ H λvs H1=>r vs H1 Q) (λρ=>(f ρ).bind g):=λρ d e σ H W F w Q q=>by
 cases h1:f ρ with
 |none=>simp[h1]at e
 |some ds=>
  have e:g ds=some d:=by simpa[h1]using e
  refine h ρ ds h1 σ H W F w _ λxs H' L s rx fr nd=>?_;refine N ds d e xs H' _ L rx nd (w.tmp fr) (w.add s rx.dom) Q λv H2 L2 B Z I J=>?_;refine q v H2 L2 (s.trans B) ?_ (λa Y=>(I a Y).elim (fr a) λz=>s.none' z) J;exact Z.up ⟨Same.refl _,λb u U f=>⟨λz=>z.elim (λz=>f.1 (.inl z)) λz=>f.1 (.inr ⟨.inr z,WOk.new w fr z⟩),f.2⟩,λ_ _ _ f=>f⟩
def eAp(g:List D->Option D)(f:En->Option (List D)):En->Option D:=λρ=>(f ρ).bind g
theorem T_{r:V->List V->Hp->VK->Prop}{g:D->List D->Option D}{T:String}{to:TE}{t:TA}{fo:En->Option D}{f:En->Option (List D)}(N:MtV G r g)(Z:∀dx ds d,g dx ds=some d->∀(x:V)(H:Hp)(W:Wn)(Lx:List Addr),Rep G H W dx x Lx->tyV G.K T x H)
  (h0:RfE G ob to fo) (h:RfA G ob t f):RfE G ob (tBM G.K T r to t) (λρ=>(fo ρ).bind λx=>(f ρ).bind λds=>g x ds):=λρ d e σ H W F w Q q=>by
 cases h1:fo ρ with
 |none=>simp[h1]at e
 |some dx=>
  cases h2:f ρ with
  |none=>simp[h1,h2]at e
  |some ds=>
   have e:g dx ds=some d:=by simpa[h1,h2]using e
   refine h0 ρ dx h1 σ H W F w _ λx H1 L O rx fx nx=>⟨Z dx ds d e x H1 _ L rx,?_⟩;have u1:Up H H1 W (W.add L):=.add O fx;have w1:WOk H1 (W.add L):=w.add O rx.dom;refine h ρ ds h2 σ H1 (W.add L) (F.up u1) w1 _ λys H2 M B J fy ny=>?_;have a0:∀a∈L,a∉M:=λa h1 h2=>by
    obtain⟨o,N,_⟩:=rx.dom a h1;rw[fy a h2]at N;cases N
   have u2:Up H1 H2 (W.add L) (W.add (L++M)):=⟨B,λb u U f=>⟨λz=>z.elim (λz=>(qb.mp z).elim (λz=>f.1 (.inl z)) λz=>by rw[fy b z]at U;cases U) λz=>f.1 (.inr z),f.2⟩,λ_ _ _ f=>f⟩;have u3:Up H2 H2 ((W.add L).add M) (W.add (L++M)):=⟨Same.refl _,λb u U f=>⟨λz=>by
    rcases z with z|z
    .exact(qb.mp z).elim (λz=>f.1 (.inr (.inl z))) λz=>f.1 (.inl z)
    .exact f.1 (.inr (.inr z)),f.2⟩,λ_ _ _ f=>f⟩
   have w2:WOk H2 (W.add (L++M)):=w.add (O.trans B) λa Y=>(qb.mp Y).elim (λz=>let⟨o,h,m⟩:=rx.dom a z;⟨o,B a o h,m⟩) (J.dom a);refine N dx ds d e x ys H2 (W.add (L++M)) L M (rx.up u2) (J.up u3) (cP nx ny a0) (w.tmp λa Y=>(qb.mp Y).elim (fx a) λz=>O.none' (fy a z)) w2 Q λv H3 L3 I r3 f3 n3=>?_;refine q v H3 L3 ((O.trans B).trans I) ?_ (λa Y=>(f3 a Y).elim (λz=>?_) λz=>(O.trans B).none' z) n3
   .exact r3.up ⟨Same.refl _,λb u U f=>⟨λz=>z.elim (λz=>f.1 (.inl z)) λz=>f.1 (.inr ⟨.inr z,WOk.new w (λa Y=>(qb.mp Y).elim (fx a) λz=>O.none' (fy a z)) z⟩),f.2⟩,λ_ _ _ f=>f⟩
   .rcases qb.mp z with z|z
    .exact fx a z
    .exact O.none' (fy a z)
variable{a b:Expr}{fa fb:En->Option D}{pos:Pos}
theorem cA{op:Operator}{g:D->D->Option D}(o:OpB X G (X6 op) g)(Y:PV X G ob a fa)(U:PV X G ob b fb):PV X G ob (.BinOp a op b pos) (e2 g fa fb):=let⟨r,o1,o2⟩:=o.ex;let⟨t,a1,a2⟩:=Y.ex;let⟨u,b1,b2⟩:=U.ex;⟨_,λc=>P0 (o1 c) (a1 c) (b1 c),zR o2 a2 b2⟩
theorem nO{op:CmpOp}{g:D->D->Option D}(o:OpB X G (W8 op) g)(Y:PV X G ob a fa)(U:PV X G ob b fb)(J:Z6 op b=false:=by with_unfolding_all rfl):PV X G ob (.Compare a [op] [b] pos) (e2 g fa fb):=let⟨r,o1,o2⟩:=o.ex;let⟨t,a1,a2⟩:=Y.ex;let⟨u,b1,b2⟩:=U.ex;⟨_,λc=>DX (o1 c) (a1 c) (b1 c) J,zR o2 a2 b2⟩
theorem wG{op:UnaryOp}{g:D->Option D}(o:UnB X G (unaryOp op) g)(Y:PV X G ob a fa):PV X G ob (.UnaryOp op a pos) (e1 g fa):=let⟨r,o1,o2⟩:=o.ex;let⟨t,a1,a2⟩:=Y.ex;⟨_,λc=>T4 (o1 c) (a1 c),Ur o2 a2⟩
theorem fQ{g:D->D->Option D}(o:IxB X G g)(Y:PV X G ob a fa)(U:PV X G ob b fb)(hs:sZ b:=by exact λ_ _=>rfl):PV X G ob (.Subscript a b pos) (e2 g fa fb):=let⟨r,o1,o2⟩:=o.ex;let⟨t,a1,a2⟩:=Y.ex;let⟨u,b1,b2⟩:=U.ex;⟨_,λc=>HB (o1 c) (a1 c) (b1 c) hs,zR o2 a2 b2⟩
theorem ak:PVA X G ob [] aH:=⟨_,λc=>Ku,BV⟩
theorem aa{e:Expr}{es:List Expr}{f:En->Option D}{fr:En->Option (List D)}(Y:PV X G ob e f)(O:PVA X G ob es fr)(hs:∀c,We (e::es) (X c).env=(false,eval e (X c).env)::We es (X c).env:=by intro _;rfl):PVA X G ob (e::es) (ao f fr):=let⟨t,a1,a2⟩:=Y.ex;let⟨u,b1,b2⟩:=O.ex;⟨_,λc=>pU (a1 c) (b1 c) (hs c),Nf a2 b2⟩
section
variable{e:Expr}{es:List Expr}{f:En->Option (List D)}{p:Pos}{x:Str}
theorem bc{id:String}{g:List D->Option D}(o:CaB X G (.builtin id) g)(q:∀c,Gl (X c) x)(J:∀c,(X c).mg x=none)(N:Yi x=some (.builtin id))(Y:PVA X G ob (e::es) f)(hn:x≠"__name__":=by decide)(Z:1.20=false:=by decide)(V:∀c,We (e::es) (X c).env=(false,eval e (X c).env)::We es (X c).env:=by intro _;rfl)(B:∀c,(Yj pos (We es (X c).env)).any (·.1)=false:=by intro _;rfl):PV X G ob (.Call (.Name x p) (e::es) [] pos) (eAp g f):=let⟨r,o1,o2⟩:=o.ex;let⟨t,a1,a2⟩:=Y.ex;⟨_,λc=>Bl (o1 c) (q c) (J c) N (a1 c) hn Z (V c) (B c),t_ o2 a2⟩
theorem j9{T:String}{g:List D->Option D}(o:CaB X G (.type T) g)(q:∀c,Gl (X c) x)(J:∀c,(X c).mg x=none)(N:Yi x=some (.type T))(Y:PVA X G ob (e::es) f)(hn:x≠"__name__":=by decide)(Z:1.20=false:=by decide)(V:∀c,We (e::es) (X c).env=(false,eval e (X c).env)::We es (X c).env:=by intro _;rfl)(B:∀c,(Yj pos (We es (X c).env)).any (·.1)=false:=by intro _;rfl):PV X G ob (.Call (.Name x p) (e::es) [] pos) (eAp g f):=let⟨r,o1,o2⟩:=o.ex;let⟨t,a1,a2⟩:=Y.ex;⟨_,λc=>wz (o1 c) (q c) (J c) N (a1 c) hn Z (V c) (B c),t_ o2 a2⟩
end
def bT(ds:List D):Option D:=if ds.length<=1000 then some (.tup ds)else none
def bB(ds:List D):Option D:=if ds.length<=1000 then some (.lst .own ds)else none
theorem An{n:Nat}(h:n<=1000):n<=V6:=Xu h (by decide)
theorem Eu:CaV G (λxs H Q=>xs.length<=V6/\∀p,H p=none->Q (.ref p) (upd H p (.tup xs))) bT:=λds d e xs H W Z r nd hn w Q q=>by
 unfold bT at e;split at e
 .rename_i hl
  cases e;refine⟨An (by rw[←r.length];exact hl),λp F=>?_⟩;have I:Same H (upd H p (.tup xs)):=Same.new F;refine q (.ref p) _ Z I ?_ (λa Y=>.inl Y) nd;rw[Rep];exact⟨p,xs,rfl,aM,r.up ⟨I,λb u U f=>⟨λz=>z.elim (λz=>f.1 (hn b z).1) λz=>f.1 z.1,f.2⟩,λ_ _ _ f=>f⟩⟩
 .cases e
theorem Er:CaV G (λxs H Q=>xs.length<=V6/\∀p,H p=none->Q (.ref p) (upd H p (.lst xs))) bB:=λds d e xs H W Z r nd hn w Q q=>by
 unfold bB at e;split at e
 .rename_i hl
  cases e;refine⟨An (by rw[←r.length];exact hl),λp F=>?_⟩;have I:Same H (upd H p (.lst xs)):=Same.new F;refine q (.ref p) _ (p::Z) I ?_ (λa Y=>(V5.mp Y).elim (λz=>.inr (by rw[z];exact F)) .inl) (List.nodup_cons.mpr ⟨λz=>?_,nd⟩)
  .rw[Rep]
   exact⟨p,xs,Z,rfl,r.up ⟨I,λb u U f=>⟨λz=>z.elim (λz=>(V5.mp z).elim (λz=>by rw[z,F]at U;cases U) λz=>f.1 (hn b z).1) λz=>f.1 z.1,f.2⟩,λ_ _ _ f=>f⟩,aM,rfl⟩
  .obtain⟨o,ho,_⟩:=r.dom p z
   rw[F]at ho;cases ho
 .cases e
theorem jB{es:List Expr}{k:Nat}{f:En->Option (List D)}(h:PVA X G ob es f):PV X G ob (.Tuple es k pos) (eAp bT f):=let⟨t,a1,a2⟩:=h.ex;⟨_,λc=>Cw (a1 c),t_ Eu a2⟩
theorem dN{es:List Expr}{f:En->Option (List D)}(h:PVA X G ob es f):PV X G ob (.List es pos) (eAp bB f):=let⟨t,a1,a2⟩:=h.ex;⟨_,λc=>Ji (a1 c),t_ Er a2⟩
end
section
variable{G:Gc}{ob:Nat->Bool}{H H1 H2:Hp}{S S1 S2:Ad}{L M:List Addr}{ρ ρ1:En}{σ:L2.St}{Fr:Addr->Prop}
theorem Eff.refl:Eff ob H H S S []:=⟨λ_ _ h _=>h,λ_ _=>rfl,λi a h z=>.inl ⟨i,h,z⟩,by simp⟩
theorem Eff.back(e:Eff ob H H1 S S1 L){a:Addr}(h:H1 a=none):inO ob S a∨H a=none:=by
 by_cases z:inO ob S a
 .exact .inl z
 .refine .inr ?_
  cases q:H a with
  |none=>rfl
  |some u=>rw[e.kp a u q z]at h;cases h
theorem Eff.inO(e:Eff ob H H1 S S1 L){a:Addr}(h:inO ob S1 a):inO ob S a∨H a=none:=let⟨i,h1,h2⟩:=h;e.gr i a h1 h2
theorem Eff.notO(e:Eff ob H H1 S S1 L){a:Addr}{u:HO}(h:H a=some u)(n:¬Jb.inO ob S a):¬Jb.inO ob S1 a:=λz=>(e.inO z).elim n λz=>by rw[h]at z;cases z
theorem Eff.trans(a:Eff ob H H1 S S1 L)(b:Eff ob H1 H2 S1 S2 M):Eff ob H H2 S S2 (L++M)where
 kp:=λc u h n=>b.kp c u (a.kp c u h n) (a.notO h n)
 sn:=λi h=>(b.sn i h).trans (a.sn i h)
 gr:=λi c h z=>(b.gr i c h z).elim a.inO a.back
 fm:=λc Z=>(qb.mp Z).elim (a.fm c) λz=>(b.fm c z).elim a.inO a.back
theorem Eff.same(a:Eff ob H H1 S S1 L)(s:Same H1 H2)(h:∀c∈M,c∈L∨H1 c=none):Eff ob H H2 S S1 M where
 kp:=λc u Z n=>s c u (a.kp c u Z n)
 sn:=a.sn
 gr:=a.gr
 fm:=λc Z=>(h c Z).elim (a.fm c) a.back
theorem Sta.notO(s:Sta G H ob ρ σ S Fr){a:Addr}(h:Fr a):¬inO ob S a:=λ⟨i,_,z⟩=>s.fdj i a h z
theorem Sta.tmp(s:Sta G H ob ρ σ S Fr){a:Addr}(h:Fr a):(wn ob S Fr).tmp a:=⟨h,λ⟨i,_,z⟩=>s.fdj i a h z,λ⟨i,_,z⟩=>s.fdj i a h z⟩
theorem Eff.evo(s:Sta G H ob ρ σ S Fr)(e:Eff ob H H1 S S1 M):Evo H H1 (wn ob S Fr) (wn ob S1 (plus M Fr))where
 k:=λb u h f=>⟨e.kp b u h f.2.2,λz=>z.elim (λz=>(e.fm b z).elim f.2.2 λq=>by rw[h]at q;cases q) f.1,λ⟨i,h1,h2⟩=>f.2.1 ⟨i,h1,by rw[←e.sn i h1];exact h2⟩,e.notO h f.2.2⟩
 t:=λb xs h=>by
  have O:∀u,H b=some u->muO u=false->H1 b=some u:=λu F m=>e.kp b u F λ⟨i,_,z⟩=>by
   obtain⟨o,N,J⟩:=s.mu z;rw[F]at N;cases N;rw[m]at J;cases J
  exact O _ h rfl
theorem Eff.evoN(s:Sta G H ob ρ σ S Fr)(e:Eff ob H H1 S S1 M):Jk H H1 (wn ob S Fr) (wn ob S1 (plus M Fr)):=λb u h ⟨i,h1,h2⟩=>
 ⟨e.kp b u h (λ⟨j,q1,q2⟩=>by rw[s.dj i j b h2 q2,q1]at h1;cases h1),⟨i,h1,by rw[e.sn i h1];exact h2⟩⟩
theorem Eff.keepsF(s:Sta G H ob ρ σ S Fr)(e:Eff ob H H1 S S1 M){a:Addr}(h:Fr a):∀u,H a=some u->H1 a=some u:=λu F=>e.kp a u F (s.notO h)
theorem m5{L M:List Addr}:plus M (plus L Fr)=plus (L++M) Fr:=by
 funext a;simp only[plus,qb,eq_iff_iff];constructor
 .rintro(z|z|z)
  .exact .inl (.inr z)
  .exact .inl (.inl z)
  .exact .inr z
 .rintro((z|z)|z)
  .exact .inr (.inl z)
  .exact .inl z
  .exact .inr (.inr z)
theorem KC{F:List Addr}{d:D}{v:V}(s:Sta G H1 ob ρ1 σ S1 (plus L Fr))(e:Eff ob H H1 S S1 L)(I:Same H1 H2)(r:Rep G H2 (((wn ob S1 (plus L Fr)).drop L).add F) d v F)(f:∀a∈F,a∈L∨H1 a=none)(B:Sta G H ob ρ σ S Fr) :
  Sta G H2 ob ρ1 σ S1 (plus F Fr)/\Rep G H2 (wn ob S1 (plus F Fr)) d v F/\Eff ob H H2 S S1 F:=by
 refine⟨s.grow I λa h=>?_,r.up ⟨Same.refl _,λb u U q=>⟨λz=>?_,q.2⟩,λ_ _ _ q=>q⟩,e.same I f⟩
 .rcases h with h|h
  .exact(f a h).imp .inl λz=>⟨z,r.dom a h⟩
  .exact .inl (.inr h)
 .rcases z with z|z
  .exact q.1 (.inl z)
  .refine q.1 (.inr ⟨.inr z,λh=>?_⟩)
   rcases e.fm b h with y|y
   .exact B.notO z y
   .obtain⟨o,ho,_⟩:=B.fdm b z
    rw[y]at ho;cases ho
end
section
variable{ι:Type}{X:ι->Cx}{G:Gc}{ob:Nat->Bool}{ta tb:TE}
def eUp(f:En->Option D):En->Option (D×En):=λρ=>(f ρ).map λd=>(d,ρ)
theorem v_{f:En->Option D}(h:RfE G ob ta f):km G ob ta (eUp f):=λρ d B e σ H S Fr s Q q=>by
 unfold eUp at e;cases h1:f ρ with
 |none=>rw[h1]at e;cases e
 |some d0=>
  rw[h1]at e;cases e;refine h ρ d h1 σ H _ s.rel s.wok Q λv H' L I r fr nd=>?_;exact q v H' L S (s.grow I λa z=>z.elim (λz=>.inr ⟨fr a z,r.dom a z⟩) .inl) r nd ⟨λb u U _=>I b u U,λ_ _=>rfl,λi a h z=>.inl ⟨i,h,z⟩,λa Y=>.inr (fr a Y)⟩
def vA(f:En->Option Bool):En->Option (Bool×En):=λρ=>(f ρ).map λd=>(d,ρ)
theorem J2{t:TT}{f:En->Option Bool}(h:RfT G ob t f):yo G ob t (vA f):=λρ d B e σ H S Fr s Q q=>by
 unfold vA at e;cases h1:f ρ with
 |none=>rw[h1]at e;cases e
 |some d0=>
  rw[h1]at e;cases e;refine h ρ d h1 σ H _ s.rel s.wok Q λH' I=>?_;exact q H' S (s.grow I λa z=>.inl z) ⟨λb u U _=>I b u U,λ_ _=>rfl,λi a h z=>.inl ⟨i,h,z⟩,by simp⟩
def cO(f:En->Option (List D)):En->Option (List D×En):=λρ=>(f ρ).map λd=>(d,ρ)
theorem Rx{t:TA}{f:En->Option (List D)}(h:RfA G ob t f):Ar G ob t (cO f):=λρ d B e σ H S Fr s Q q=>by
 unfold cO at e;cases h1:f ρ with
 |none=>rw[h1]at e;cases e
 |some d0=>
  rw[h1]at e;cases e;refine h ρ d h1 σ H _ s.rel s.wok Q λv H' L I r fr nd=>?_;exact q v H' L S (s.grow I λa z=>z.elim (λz=>.inr ⟨fr a z,r.dom a z⟩) .inl) r nd ⟨λb u U _=>I b u U,λ_ _=>rfl,λi a h z=>.inl ⟨i,h,z⟩,λa Y=>.inr (fr a Y)⟩
theorem bU{e:Expr}{f:En->Option D}(h:PV X G ob e f):PVe X G ob e (eUp f):=let⟨t,a1,a2⟩:=h.ex;⟨t,a1,v_ a2⟩
theorem yE{e:Expr}{f:En->Option Bool}(h:PVT X G ob e f):BK X G ob e (vA f):=let⟨t,a1,a2⟩:=h.ex;⟨t,a1,J2 a2⟩
theorem aQ{e:List Expr}{f:En->Option (List D)}(h:PVA X G ob e f):uZ X G ob e (cO f):=let⟨t,a1,a2⟩:=h.ex;⟨t,a1,Rx a2⟩
theorem km.two{fa fb:En->Option (D×En)}(Y:km G ob ta fa)(U:km G ob tb fb){ρ ρ1 ρ2:En}{dx N:D}(e1:fa ρ=some (dx,ρ1))(e2:fb ρ1=some (N,ρ2))(J:aq dx=true){σ:L2.St}{H:Hp}{S:Ad}{Fr:Addr->Prop}(s:Sta G H ob ρ σ S Fr){R:V->V->Hp->Prop}
  (h:∀x y H' L M S',Sta G H' ob ρ2 σ S' (plus (L++M) Fr)->Rep G H' (wn ob S' (plus (L++M) Fr)) dx x L->Rep G H' (wn ob S' (plus (L++M) Fr)) N y M->(L++M).Nodup->Eff ob H H' S S' (L++M)->R x y H'):ta σ H λx H1=>tb σ H1 λy H2=>R x y H2:=by
 refine Y ρ dx ρ1 e1 σ H S Fr s _ λx H1 L S1 O rx nx f1=>?_;refine U ρ1 N ρ2 e2 σ H1 S1 (plus L Fr) O _ λy H2 M S2 B ry q I=>?_;have a0:=rx.mono (I.evo O) (.inr (I.evoN O)) (.inl J) λc Z u F=>I.keepsF O (.inl Z) u F;rw[m5]at B ry a0;refine h x y H2 L M S2 B a0 ry (cP nx q λa h1 h2=>?_) (f1.trans I);rcases I.fm a h2 with z|z
 .exact O.notO (.inl h1) z
 .obtain⟨o,ho,_⟩:=rx.dom a h1
  rw[z]at ho;cases ho
def ee2(g:D->D->Option D)(fa fb:En->Option (D×En)):En->Option (D×En):=λρ=>(fa ρ).bind λp=>(fb p.2).bind λq=>if aq p.1 then(g p.1 q.1).map λd=>(d,q.2)else none
theorem yX{r:R2}{g:D->D->Option D}{fa fb:En->Option (D×En)}(N:OpV G r g)(Y:km G ob ta fa)(U:km G ob tb fb):km G ob (tOp r ta tb) (ee2 g fa fb):=λρ d B e σ H S Fr s Q q=>by
 unfold ee2 at e;cases h1:fa ρ with
 |none=>simp[h1]at e
 |some p=>
  obtain⟨dx,ρ1⟩:=p;cases h2:fb ρ1 with
  |none=>simp[h1,h2]at e
  |some p=>
   obtain⟨V,ρ2⟩:=p;cases J:aq dx with
   |false=>simp[h1,h2,J]at e
   |true=>
    cases Z:g dx V with
    |none=>simp[h1,h2,J,Z]at e
    |some d'=>
     obtain⟨rfl,rfl⟩:d'=d/\ρ2=B:=by simpa[h1,h2,J,Z]using e
     refine km.two Y U h1 h2 J s λx y H' L M S' s' rx ry nd F=>?_;refine N dx V _ Z x y H' _ L M rx ry nd (λa Y=>s'.tmp (.inl Y)) s'.wok Q λv H3 L3 I r3 f3 n3=>?_;obtain⟨q1,q2,O⟩:=KC s' F I r3 f3 s;exact q v H3 L3 S' q1 q2 n3 O
def ee1(g:D->Option D)(fa:En->Option (D×En)):En->Option (D×En):=λρ=>(fa ρ).bind λp=>(g p.1).map λd=>(d,p.2)
def bW(fa:En->Option (D×En))(fr:En->Option (List D×En)):En->Option (List D×En):=λρ=>(fa ρ).bind λp=>(fr p.2).bind λq=>if aq p.1 then some (p.1::q.1,q.2)else none
theorem K7{t:TA}{fa:En->Option (D×En)}{fr:En->Option (List D×En)}(Y:km G ob ta fa)(O:Ar G ob t fr):Ar G ob (zz ta t) (bW fa fr):=λρ ds B e σ H S Fr s Q q=>by
 unfold bW at e;cases h1:fa ρ with
 |none=>simp[h1]at e
 |some p=>
  obtain⟨dx,ρ1⟩:=p;cases h2:fr ρ1 with
  |none=>simp[h1,h2]at e
  |some p=>
   obtain⟨es,ρ2⟩:=p;cases J:aq dx with
   |false=>simp[h1,h2,J]at e
   |true=>
    obtain⟨rfl,rfl⟩:dx::es=ds/\ρ2=B:=by simpa[h1,h2,J]using e
    refine Y ρ dx ρ1 h1 σ H S Fr s _ λx H1 L S1 U rx nx V=>?_;refine O ρ1 es _ h2 σ H1 S1 (plus L Fr) U _ λys H2 M S2 s2 ry ny I=>?_;have N:=rx.mono (I.evo U) (.inr (I.evoN U)) (.inl J) λc Z u F=>I.keepsF U (.inl Z) u F;rw[m5]at s2 ry N;refine q (x::ys) H2 (L++M) S2 s2 (.cons N ry) (cP nx ny λa h1 h2=>?_) (V.trans I);rcases I.fm a h2 with z|z
    .exact U.notO (.inl h1) z
    .obtain⟨o,ho,_⟩:=rx.dom a h1
     rw[z]at ho;cases ho
def lJ(g:List D->Option D)(f:En->Option (List D×En)):En->Option (D×En):=λρ=>(f ρ).bind λp=>(g p.1).map λd=>(d,p.2)
theorem yt{r:List V->Hp->VK->Prop}{g:List D->Option D}{t:TA}{f:En->Option (List D×En)}(N:CaV G r g)(h:Ar G ob t f):km G ob (λσ H Q=>t σ H λvs H1=>r vs H1 Q) (lJ g f):=λρ d B e σ H S Fr s Q q=>by
 unfold lJ at e;cases h1:f ρ with
 |none=>simp[h1]at e
 |some p=>
  obtain⟨ds,ρ1⟩:=p;cases Z:g ds with
  |none=>simp[h1,Z]at e
  |some d'=>
   obtain⟨rfl,rfl⟩:d'=d/\ρ1=B:=by simpa[h1,Z]using e
   refine h ρ ds _ h1 σ H S Fr s _ λxs H' L S' s' rx nd F=>?_;refine N ds _ Z xs H' _ L rx nd (λa Y=>s'.tmp (.inl Y)) s'.wok Q λv H3 L3 I r3 J U=>?_;obtain⟨q1,q2,O⟩:=KC s' F I r3 J s;exact q v H3 L3 S' q1 q2 U O
variable{a b:Expr}{fa fb:En->Option (D×En)}{pos:Pos}
theorem jc{op:Operator}{g:D->D->Option D}(o:OpB X G (X6 op) g)(Y:PVe X G ob a fa)(U:PVe X G ob b fb):PVe X G ob (.BinOp a op b pos) (ee2 g fa fb):=let⟨r,o1,o2⟩:=o.ex;let⟨t,a1,a2⟩:=Y.ex;let⟨u,b1,b2⟩:=U.ex;⟨_,λc=>P0 (o1 c) (a1 c) (b1 c),yX o2 a2 b2⟩
theorem pve_cmp{op:CmpOp}{g:D->D->Option D}(o:OpB X G (W8 op) g)(Y:PVe X G ob a fa)(U:PVe X G ob b fb)(J:Z6 op b=false:=by with_unfolding_all rfl):PVe X G ob (.Compare a [op] [b] pos) (ee2 g fa fb):=let⟨r,o1,o2⟩:=o.ex;let⟨t,a1,a2⟩:=Y.ex;let⟨u,b1,b2⟩:=U.ex;⟨_,λc=>DX (o1 c) (a1 c) (b1 c) J,yX o2 a2 b2⟩
theorem iH{g:D->D->Option D}(o:IxB X G g)(Y:PVe X G ob a fa)(U:PVe X G ob b fb)(hs:sZ b:=by exact λ_ _=>rfl):PVe X G ob (.Subscript a b pos) (ee2 g fa fb):=let⟨r,o1,o2⟩:=o.ex;let⟨t,a1,a2⟩:=Y.ex;let⟨u,b1,b2⟩:=U.ex;⟨_,λc=>HB (o1 c) (a1 c) (b1 c) hs,yX o2 a2 b2⟩
theorem a_{e:Expr}{es:List Expr}{f:En->Option (D×En)}{fr:En->Option (List D×En)}(Y:PVe X G ob e f)(O:uZ X G ob es fr)(hs:∀c,We (e::es) (X c).env=(false,eval e (X c).env)::We es (X c).env:=by intro _;rfl):uZ X G ob (e::es) (bW f fr):=let⟨t,a1,a2⟩:=Y.ex;let⟨u,b1,b2⟩:=O.ex;⟨_,λc=>pU (a1 c) (b1 c) (hs c),K7 a2 b2⟩
section
variable{e:Expr}{es:List Expr}{f:En->Option (List D×En)}{p:Pos}{x:Str}
theorem Hg{id:String}{g:List D->Option D}(o:CaB X G (.builtin id) g)(q:∀c,Gl (X c) x)(J:∀c,(X c).mg x=none)(N:Yi x=some (.builtin id))(Y:uZ X G ob (e::es) f)(hn:x≠"__name__":=by decide)(Z:1.20=false:=by decide)(V:∀c,We (e::es) (X c).env=(false,eval e (X c).env)::We es (X c).env:=by intro _;rfl)(B:∀c,(Yj pos (We es (X c).env)).any (·.1)=false:=by intro _;rfl):PVe X G ob (.Call (.Name x p) (e::es) [] pos) (lJ g f):=let⟨r,o1,o2⟩:=o.ex;let⟨t,a1,a2⟩:=Y.ex;⟨_,λc=>Bl (o1 c) (q c) (J c) N (a1 c) hn Z (V c) (B c),yt o2 a2⟩
theorem vo{T:String}{g:List D->Option D}(o:CaB X G (.type T) g)(q:∀c,Gl (X c) x)(J:∀c,(X c).mg x=none)(N:Yi x=some (.type T))(Y:uZ X G ob (e::es) f)(hn:x≠"__name__":=by decide)(Z:1.20=false:=by decide)(V:∀c,We (e::es) (X c).env=(false,eval e (X c).env)::We es (X c).env:=by intro _;rfl)(B:∀c,(Yj pos (We es (X c).env)).any (·.1)=false:=by intro _;rfl):PVe X G ob (.Call (.Name x p) (e::es) [] pos) (lJ g f):=let⟨r,o1,o2⟩:=o.ex;let⟨t,a1,a2⟩:=Y.ex;⟨_,λc=>wz (o1 c) (q c) (J c) N (a1 c) hn Z (V c) (B c),yt o2 a2⟩
end
theorem oM{es:List Expr}{k:Nat}{f:En->Option (List D×En)}(h:uZ X G ob es f):PVe X G ob (.Tuple es k pos) (lJ bT f):=let⟨t,a1,a2⟩:=h.ex;⟨_,λc=>Cw (a1 c),yt Eu a2⟩
theorem Ng{es:List Expr}{f:En->Option (List D×En)}(h:uZ X G ob es f):PVe X G ob (.List es pos) (lJ bB f):=let⟨t,a1,a2⟩:=h.ex;⟨_,λc=>Ji (a1 c),yt Er a2⟩
end
def truth:D->Option Bool
 |.non=>some false
 |.bl b=>some b
 |.int i=>some (i !=0)
 |.str y=>if y.length<=V6 then some ((y.length:Int)!=0)else none
 |.lst _ ds=>some (!ds.isEmpty)
 |.tup ds=>some (!ds.isEmpty)
 |.dct m _ ds=>if m= .scr then none else some (!ds.isEmpty)
 |_=>none
theorem qJ{G:Gc}{H:Hp}{W:Wn}{ds:List D}{xs:List V}{L:List Addr}(r:aD G H W ds xs L):ds.isEmpty=xs.isEmpty:=by
 have:=r.length;cases ds<;>cases xs<;>simp_all
theorem KQ{G:Gc}{H:Hp}{W:Wn}{d:D}{v:V}{L:List Addr}{k:Bool}(r:Rep G H W d v L)(h:truth d=some k):Oi G.K v H k:=by
 cases d with
 |non=>rw[Rep]at r;obtain⟨rfl,_⟩:=r;cases h;rfl
 |bl b=>rw[Rep]at r;obtain⟨rfl,_⟩:=r;cases h;rfl
 |int i=>rw[Rep]at r;obtain⟨rfl,_⟩:=r;cases h;rfl
 |str y=>
  rw[Rep]at r;obtain⟨rfl,_⟩:=r;simp only[truth]at h;split at h
  .cases h;exact⟨‹_›,rfl⟩
  .cases h
 |ty n=>cases h
 |tup ds=>
  rw[Rep]at r;obtain⟨a,xs,rfl,F,O⟩:=r;cases h;exact .inr (.inl ⟨xs,SqT.of F,by rw[qJ O]⟩)
 |lst m ds=>
  rw[Rep]at r;obtain⟨a,xs,M,rfl,O,hs⟩:=r;cases h;exact .inl ⟨xs,hs.sq,by rw[qJ O]⟩
 |dct m ks ds=>
  rw[Rep]at r;obtain⟨a,kvs,M,rfl,B,O,hs⟩:=r;simp only[truth]at h;split at h
  .cases h
  .cases h
   refine .inr (.inr ⟨kvs,hs.at ‹_›,?_⟩);rw[qJ O];cases kvs<;>rfl
 |ins m c fs ds=>cases h
section
variable{ι:Type}{X:ι->Cx}{G:Gc}{ob:Nat->Bool}{a b:Expr}{pos:Pos}
def lK(f:En->Option D):En->Option Bool:=λρ=>(f ρ).bind truth
def U5(f:En->Option (D×En)):En->Option (Bool×En):=λρ=>(f ρ).bind λp=>(truth p.1).map λb=>(b,p.2)
theorem Qv{ta:TE}{f:En->Option D}(h:RfE G ob ta f):RfT G ob (λσ H Q=>ta σ H λx H'=>∃k,Oi G.K x H' k/\Q k H') (lK f):=λρ k e σ H W F w Q q=>by
 unfold lK at e;cases h1:f ρ with
 |none=>simp[h1]at e
 |some d=>
  have e:truth d=some k:=by simpa[h1]using e
  exact h ρ d h1 σ H W F w _ λx H' L s r fr nd=>⟨k,KQ r e,q H' s⟩
theorem jg{f:En->Option D}(h:PV X G ob a f)(V:∀c,∀q,acp a (X c).env q=(do let v ←q;standAt a.pos;Zt [v] (truthy v)):=by intro _;intro _;rfl)(I:∀c,(X c).K=G.K:=by intro _;rfl):PVT X G ob a (lK f):=let⟨t,a1,a2⟩:=h.ex;⟨_,λc=>(by have h:=KN (a1 c) (V c);rw[I c]at h;exact h),Qv a2⟩
def isB:D->Option Bool
 |.bl b=>some b
 |_=>none
def eB(f:En->Option D):En->Option Bool:=λρ=>(f ρ).bind isB
def eeB(f:En->Option (D×En)):En->Option (Bool×En):=λρ=>(f ρ).bind λp=>(isB p.1).map λb=>(b,p.2)
theorem uO{d:D}{k:Bool}(h:isB d=some k):d= .bl k:=by
 cases d<;>simp[isB]at h;rw[h]
theorem Vs{ta:TE}{f:En->Option D}(h:RfE G ob ta f):RfT G ob (JN ta) (eB f):=λρ k e σ H W F w Q q=>by
 unfold eB at e;cases h1:f ρ with
 |none=>simp[h1]at e
 |some d=>
  have e:isB d=some k:=by simpa[h1]using e
  have:=uO e;subst this;refine h ρ _ h1 σ H W F w _ λx H' L s r fr nd=>⟨k,?_,q H' s⟩;rw[Rep]at r;exact r.1
theorem Vc{ta:TE}{f:En->Option (D×En)}(h:km G ob ta f):yo G ob (JN ta) (eeB f):=λρ k B e σ H S Fr s Q q=>by
 unfold eeB at e;cases h1:f ρ with
 |none=>simp[h1]at e
 |some p=>
  obtain⟨d,ρ1⟩:=p;cases h2:isB d with
  |none=>simp[h1,h2]at e
  |some U=>
   obtain⟨rfl,rfl⟩:U=k/\ρ1=B:=by simpa[h1,h2]using e
   have:=uO h2;subst this;refine h ρ _ _ h1 σ H S Fr s _ λx H' M S' s' r nd F=>⟨U,?_,q H' S' (s'.lessF λa z=>.inr z) (F.same (Same.refl _) (by simp))⟩;rw[Rep]at r;exact r.1
theorem cJ{fa fb:En->Option D}{op:CmpOp}{g:D->D->Option D}(o:OpB X G (W8 op) g)(Y:PV X G ob a fa)(U:PV X G ob b fb)(J:Z6 op b=false:=by with_unfolding_all rfl):PVT X G ob (.Compare a [op] [b] pos) (eB (e2 g fa fb)):=let⟨r,o1,o2⟩:=o.ex;let⟨t,a1,a2⟩:=Y.ex;let⟨u,b1,b2⟩:=U.ex;⟨_,λc=>Fq (o1 c) (a1 c) (b1 c) J,Vs (zR o2 a2 b2)⟩
theorem Bp{fa fb:En->Option (D×En)}{op:CmpOp}{g:D->D->Option D}(o:OpB X G (W8 op) g)(Y:PVe X G ob a fa)(U:PVe X G ob b fb)(J:Z6 op b=false:=by with_unfolding_all rfl):BK X G ob (.Compare a [op] [b] pos) (eeB (ee2 g fa fb)):=let⟨r,o1,o2⟩:=o.ex;let⟨t,a1,a2⟩:=Y.ex;let⟨u,b1,b2⟩:=U.ex;⟨_,λc=>Fq (o1 c) (a1 c) (b1 c) J,Vc (yX o2 a2 b2)⟩
def vL(f g:En->Option Bool):En->Option Bool:=λρ=>(f ρ).bind λc=>if c then g ρ else some false
def eOr(f g:En->Option Bool):En->Option Bool:=λρ=>(f ρ).bind λc=>if c then some true else g ρ
def qT(f:En->Option Bool):En->Option Bool:=λρ=>(f ρ).map λc=>!c
def vZ(f g:En->Option (Bool×En)):En->Option (Bool×En):=λρ=>(f ρ).bind λp=>if p.1 then g p.2 else some (false,p.2)
def Vk(f g:En->Option (Bool×En)):En->Option (Bool×En):=λρ=>(f ρ).bind λp=>if p.1 then some (true,p.2)else g p.2
def Tc(f:En->Option (Bool×En)):En->Option (Bool×En):=λρ=>(f ρ).map λp=>(!p.1,p.2)
theorem Rc{t u:TT}{f g:En->Option Bool}(h:RfT G ob t f)(h':RfT G ob u g):RfT G ob (QZ t u) (vL f g):=λρ k e σ H W F w Q q=>by
 unfold vL at e;cases h1:f ρ with
 |none=>simp[h1]at e
 |some c=>
  refine h ρ c h1 σ H W F w _ λH1 O=>?_;cases c with
  |false=>
   have:false=k:=by simpa[h1]using e
   subst this;exact vU (q H1 O)
  |true=>
   have e:g ρ=some k:=by simpa[h1]using e
   exact qw (h' ρ k e σ H1 W (F.up (Up.same O)) (λa Y=>let⟨o,z,m⟩:=w a Y;⟨o,O a o z,m⟩) Q λH2 B=>q H2 (O.trans B))
theorem S8{t u:TT}{f g:En->Option Bool}(h:RfT G ob t f)(h':RfT G ob u g):RfT G ob (tOr t u) (eOr f g):=λρ k e σ H W F w Q q=>by
 unfold eOr at e;cases h1:f ρ with
 |none=>simp[h1]at e
 |some c=>
  refine h ρ c h1 σ H W F w _ λH1 O=>?_;cases c with
  |true=>
   have:true=k:=by simpa[h1]using e
   subst this;exact qw (q H1 O)
  |false=>
   have e:g ρ=some k:=by simpa[h1]using e
   exact vU (h' ρ k e σ H1 W (F.up (Up.same O)) (λa Y=>let⟨o,z,m⟩:=w a Y;⟨o,O a o z,m⟩) Q λH2 B=>q H2 (O.trans B))
theorem Rv{t:TT}{f:En->Option Bool}(h:RfT G ob t f):RfT G ob (Us t) (qT f):=λρ k e σ H W F w Q q=>by
 unfold qT at e;cases h1:f ρ with
 |none=>simp[h1]at e
 |some c=>
  have:(!c)=k:=by simpa[h1]using e
  subst this;exact h ρ c h1 σ H W F w _ λH1 O=>q H1 O
theorem Np{t u:TT}{f g:En->Option (Bool×En)}(h:yo G ob t f)(h':yo G ob u g):yo G ob (QZ t u) (vZ f g):=λρ k B e σ H S Fr s Q q=>by
 unfold vZ at e;cases h1:f ρ with
 |none=>simp[h1]at e
 |some p=>
  obtain⟨c,ρ1⟩:=p;refine h ρ c ρ1 h1 σ H S Fr s _ λH1 S1 O V=>?_;cases c with
  |false=>
   obtain⟨rfl,rfl⟩:false=k/\ρ1=B:=by simpa[h1]using e
   exact vU (q H1 S1 O V)
  |true=>
   have e:g ρ1=some (k,B):=by simpa[h1]using e
   exact qw (h' ρ1 k B e σ H1 S1 Fr O Q λH2 S2 F I=>q H2 S2 F (V.trans I))
variable{rest:List Expr}{fa fb:En->Option Bool}{ga gb:En->Option (Bool×En)}
theorem yg(Y:PVT X G ob a fa)(U:PVW X G ob (.BoolOp .And (b::rest) pos) fb):PVW X G ob (.BoolOp .And (a::b::rest) pos) (vL fa fb):=let⟨t,a1,a2⟩:=Y.ex;let⟨u,b1,b2⟩:=U.ex;⟨_,λc=>J9 (a1 c) (b1 c),Rc a2 b2⟩
theorem tY(Y:PVT X G ob a fa)(U:PVW X G ob (.BoolOp .Or (b::rest) pos) fb):PVW X G ob (.BoolOp .Or (a::b::rest) pos) (eOr fa fb):=let⟨t,a1,a2⟩:=Y.ex;let⟨u,b1,b2⟩:=U.ex;⟨_,λc=>Ua (a1 c) (b1 c),S8 a2 b2⟩
theorem ug(Y:PVT X G ob a fa):PVW X G ob (.BoolOp .And [a] pos) fa:=let⟨t,a1,a2⟩:=Y.ex;⟨_,λc=>Fi (a1 c),a2⟩
theorem o5(Y:PVT X G ob a fa):PVW X G ob (.BoolOp .Or [a] pos) fa:=let⟨t,a1,a2⟩:=Y.ex;⟨_,λc=>Qn (a1 c),a2⟩
theorem rB(h:PVW X G ob a fa):PVT X G ob a fa:=let⟨t,a1,a2⟩:=h.ex;⟨_,λc=>PW.pt (a1 c),a2⟩
theorem mZ(Y:PVT X G ob a fa):PVT X G ob (.UnaryOp .Not a pos) (qT fa):=let⟨t,a1,a2⟩:=Y.ex;⟨_,λc=>Ru (a1 c),Rv a2⟩
theorem Ax(Y:BK X G ob a ga)(U:Oj X G ob (.BoolOp .And (b::rest) pos) gb):Oj X G ob (.BoolOp .And (a::b::rest) pos) (vZ ga gb):=let⟨t,a1,a2⟩:=Y.ex;let⟨u,b1,b2⟩:=U.ex;⟨_,λc=>J9 (a1 c) (b1 c),Np a2 b2⟩
theorem wg(Y:BK X G ob a ga):Oj X G ob (.BoolOp .And [a] pos) ga:=let⟨t,a1,a2⟩:=Y.ex;⟨_,λc=>Fi (a1 c),a2⟩
theorem JD(h:Oj X G ob a ga):BK X G ob a ga:=let⟨t,a1,a2⟩:=h.ex;⟨_,λc=>PW.pt (a1 c),a2⟩
def zm(f g:En->Option D):En->Option D:=λρ=>(f ρ).bind λx=>(isB x).bind λc=>if c then g ρ else some (.bl false)
def vOr(f g:En->Option D):En->Option D:=λρ=>(f ρ).bind λx=>(isB x).bind λc=>if c then some (.bl true)else g ρ
def VP(c:En->Option Bool)(f g:En->Option D):En->Option D:=λρ=>(c ρ).bind λb=>if b then f ρ else g ρ
def U6(c:En->Option (Bool×En))(f g:En->Option (D×En)):En->Option (D×En):=λρ=>(c ρ).bind λp=>if p.1 then f p.2 else g p.2
theorem WOk.up{H H':Hp}{W:Wn}(w:WOk H W)(s:Same H H'):WOk H' W:=λa Y=>let⟨o,z,m⟩:=w a Y;⟨o,s a o z,m⟩
theorem Rw{G:Gc}{H:Hp}{W:Wn}{b:Bool}:Rep G H W (.bl b) (.bl b) []:=by rw[Rep];exact⟨rfl,rfl⟩
theorem Oc{ta tb:TE}{f g:En->Option D}(h:RfE G ob ta f)(h':RfE G ob tb g):RfE G ob (P_ ta tb) (zm f g):=λρ d e σ H W F w Q q=>by
 unfold zm at e;cases h1:f ρ with
 |none=>simp[h1]at e
 |some x=>
  cases h2:isB x with
  |none=>simp[h1,h2]at e
  |some c=>
   have:=uO h2;subst this;refine h ρ _ h1 σ H W F w _ λv H1 L O r fr nd=>?_;rw[Rep]at r;refine⟨c,r.1,?_⟩;cases c with
   |false=>
    have:D.bl false=d:=by simpa[h1,isB]using e
    subst this;exact vU (q _ H1 [] O Rw (by simp) List.nodup_nil)
   |true=>
    have e:g ρ=some d:=by simpa[h1,isB]using e
    exact qw (h' ρ d e σ H1 W (F.up (Up.same O)) (w.up O) Q λv H2 L B r fr nd=>q v H2 L (O.trans B) r (λa Y=>O.none' (fr a Y)) nd)
section
variable{c:Expr}{fa fb:En->Option D}{fc:En->Option Bool}
theorem yQ(Y:PV X G ob a fa)(U:PV X G ob (.BoolOp .And (b::rest) pos) fb):PV X G ob (.BoolOp .And (a::b::rest) pos) (zm fa fb):=let⟨t,a1,a2⟩:=Y.ex;let⟨u,b1,b2⟩:=U.ex;⟨_,λc=>RM (a1 c) (b1 c),Oc a2 b2⟩
theorem CK{op}(Y:PV X G ob a fa):PV X G ob (.BoolOp op [a] pos) fa:=let⟨t,a1,a2⟩:=Y.ex;⟨_,λc=>Q4 (a1 c),a2⟩
end
end
section
variable{G:Gc}{ob P:Nat->Bool}{H H1 H2:Hp}{S S1 S2:Ad}{L M:List Addr}{ρ ρ1:En}{σ:L2.St}{Fr:Addr->Prop}
def cz(S:Ad)(i:Nat)(M:List Addr):Ad:=λj=>if j=i then M else S j
theorem cM{i:Nat}:cz S i M i=M:=Wd rfl
theorem cU{i j:Nat}(h:j≠i):cz S i M j=S j:=Wo h
theorem bL{i j:Nat}{a:Addr}(h:a∈cz S i M j):(j=i/\a∈M)∨(j≠i/\a∈S j):=by
 by_cases e:j=i
 .rw[e,cM]at h;exact .inl ⟨e,h⟩
 .rw[cU e]at h;exact .inr ⟨e,h⟩
theorem Mv.refl:Mv P H H σ σ S S M:=⟨λ_ _ h _ _=>h,λi a z=>.inl ⟨i,z⟩,.refl⟩
theorem Sta.store{i:Nat}{d:D}{v:V}(s:Sta G H ob ρ σ S (plus M Fr))(r:Rep G H (wn ob S (plus M Fr)) d v M)(Z:clean d=true)(nd:M.Nodup)(O:∀a∈M,¬Fr a) :
  ∃S',Sta G H ob (ρ.set i (some d)) (σ.set i (some v)) S' Fr/\∀j a,a∈S' j->inS S a∨a∈M:=by
 by_cases hi:i<ρ.length
 .refine⟨cz S i M,⟨by simp[s.len],λj e F=>?_,λj I=>?_,λj=>?_,λj k a h1 h2=>?_,λj a h1 h2=>?_,λa h=>s.fdm a (.inr h)⟩,λj a h=>?_⟩
  .have ev:Evo H H (wn ob S (plus M Fr)) (wn ob (cz S i M) Fr):=⟨λb u h f=>⟨h,⟨λz=>f.1 (.inr z),λ⟨k,h1,h2⟩=>?_,λ⟨k,h1,h2⟩=>?_⟩⟩,λ_ _ h=>h⟩
   .by_cases e:j=i
    .subst e
     have:d=e:=by simpa[hi]using F
     have:d=e:=this;subst this;have Y:j<σ.length:=by rw[←s.len];exact hi
     refine⟨v,by simp[Y],?_,Z⟩;rw[cM];have q:az d=true/\aq d=true:=by simpa[clean]using Z
     exact r.mono ev (.inl q.1) (.inl q.2) λ_ _ _ h=>h
    .rw[List.getElem?_set_ne (WW e)]at F
     obtain⟨B,h1,h2,N⟩:=s.sl j _ F;refine⟨B,by rw[List.getElem?_set_ne (WW e)];exact h1,?_,N⟩;rw[cU e];have q:=(by simpa[clean]using N:az _=true/\aq _=true);exact h2.mono ev (.inl q.1) (.inl q.2) λ_ _ _ h=>h
   .rcases bL h2 with⟨_,z⟩|⟨_,z⟩
    .exact f.1 (.inl z)
    .exact f.2.1 ⟨k,h1,z⟩
   .rcases bL h2 with⟨_,z⟩|⟨_,z⟩
    .exact f.1 (.inl z)
    .exact f.2.2 ⟨k,h1,z⟩
  .by_cases e:j=i
   .subst e
    exact absurd (by simp[hi]) (I d)
   .rw[cU e]
    exact s.em j λd'=>by have:=I d';rwa[List.getElem?_set_ne (WW e)]at this
  .by_cases e:j=i
   .rw[e,cM];exact nd
   .rw[cU e];exact s.nd j
  .rcases bL h1 with⟨e1,z1⟩|⟨e1,z1⟩<;>rcases bL h2 with⟨e2,J⟩|⟨e2,J⟩
   .rw[e1,e2]
   .exact absurd J (s.fdj k a (.inl z1))
   .exact absurd z1 (s.fdj j a (.inl J))
   .exact s.dj j k a z1 J
  .rcases bL h2 with⟨_,z⟩|⟨_,z⟩
   .exact O a z h1
   .exact s.fdj j a (.inr h1) z
  .rcases bL h with⟨_,z⟩|⟨_,z⟩
   .exact .inr z
   .exact .inl ⟨j,z⟩
 .have h1:ρ.set i (some d)=ρ:=aap 1.10
  have h2:σ.set i (some v)=σ:=aap (by rw[←s.len];omega);rw[h1,h2];exact⟨S,s.lessF λa z=>.inr z,λj a h=>.inl ⟨j,h⟩⟩
end
section
variable{ι:Type}{X:ι->Cx}{G:Gc}{ob P:Nat->Bool}
def iQ:En->Option Fl:=λρ=>some (.nx ρ)
def bC(f g:En->Option Fl):En->Option Fl:=λρ=>match f ρ with
 |some (.nx ρ')=>g ρ'
 |r=>r
theorem Aft.from{G:Gc}{H H1:Hp}{σ N:L2.St}{S S1:Ad}{Fr:Addr->Prop}{E:Ends}(m:Mv P H H1 σ N S S1 []):∀{r:Fl},Aft G ob P H σ S Fr E r->Aft G ob P H1 N S1 Fr E r
 |.nx ρ',h=>λF H' S' s O=>h F H' S' s (m.trans O)
 |.brk ρ',h=>λF H' S' s O=>h F H' S' s (m.trans O)
 |.cnt ρ',h=>λF H' S' s O=>h F H' S' s (m.trans O)
 |.ret d ρ',h=>λv F H' M S' s r c n f O=>h v F H' M S' s r c n (λa Y=>by
  rcases f a Y with⟨i,z⟩|z
  .exact(m.gr i a z).elim .inl λz=>z.elim (λz=>by cases z) .inr
  .by_cases q:inS S a
   .exact .inl q
   .refine .inr ?_
    cases e:H a with
    |none=>rfl
    |some u=>rw[m.kp a u e q (by simp)]at z;cases z) (m.trans O)
theorem MT:RfS G ob P Qe iQ:=λρ r e σ H S Fr s E h=>by
 cases e;exact h σ H S s .refl
theorem DP{t u:TS}{f g:En->Option Fl}(h1:RfS G ob P t f)(h2:RfS G ob P u g):RfS G ob P (Nb t u) (bC f g):=λρ r e σ H S Fr s E h=>by
 unfold bC at e;cases Z:f ρ with
 |none=>rw[Z]at e;cases e
 |some J=>
  rw[Z]at e;refine h1 ρ J Z σ H S Fr s _ ?_;cases J with
  |nx B=>exact λF H' S' s' m=>h2 B r e F H' S' Fr s' E (h.from m)
  |brk B=>cases e;exact h
  |cnt B=>cases e;exact h
  |ret d B=>cases e;exact h
theorem dD:mK X G ob P [] iQ:=⟨_,λc=>Ob,MT⟩
theorem aG{st:Stmt}{rest:List Stmt}{f g:En->Option Fl}(h1:PVS X G ob P st f)(h2:mK X G ob P rest g):mK X G ob P (st::rest) (bC f g):=let⟨t,a1,a2⟩:=h1.ex;let⟨u,b1,b2⟩:=h2.ex;⟨_,λc=>Ka (a1 c) (b1 c),DP a2 b2⟩
theorem aX{st:Stmt}{f:En->Option Fl}(h1:PVS X G ob P st f):mK X G ob P [st] f:=let⟨t,a1,a2⟩:=h1.ex;⟨_,λc=>Nr (a1 c),a2⟩
def VD:En->Option Fl:=λρ=>some (.brk ρ)
def VM:En->Option Fl:=λρ=>some (.cnt ρ)
def tgN(i:Nat):D->En->Option En:=λd ρ=>if clean d then some (ρ.set i (some d))else none
theorem jC{i:Nat}(Y:P i=false):RfG G ob P (rn i) (tgN i):=λd ρ B e v σ H S M Fr s r nd J Q q=>by
 unfold tgN at e;split at e
 .rename_i hc
  cases e;obtain⟨S',s',h⟩:=s.store r hc nd J (i:=i);refine q _ H S' s' ⟨λb u h _ _=>h,λj a z=>(h j a z).imp id .inl,λj I=>?_⟩;have:j≠i:=λz=>by rw[z,Y]at I;cases I
  rw[List.getElem?_set_ne (WW this)]
 .cases e
def dq:List D->En->Option En:=λds ρ=>match ds with
 |[]=>some ρ
 |_=>none
def aU(f:D->En->Option En)(g:List D->En->Option En):List D->En->Option En:=λds ρ=>match ds with
 |d::r=>(f d ρ).bind λρ1=>g r ρ1
 |[]=>none
def tgT(n:Nat)(g:List D->En->Option En):D->En->Option En:=λd ρ=>match d with
 |.tup ds=>if ds.length=n/\aB ds=true/\aA ds=true then g ds ρ else none
 |_=>none
theorem Hw:VJ G ob P MN dq:=λds ρ B e vs σ H S M Fr s r nd J Q q=>by
 cases ds with
 |nil=>
  cases e;obtain⟨rfl,rfl⟩:=r.inv0;exact⟨rfl,q σ H S (s.lessF λa z=>.inr z) .refl⟩
 |cons d r=>cases e
def K3(G:Gc)(ob P:Nat->Bool)(g:TGs)(f:List D->En->Option En):Prop:=∀(ds:List D)(ρ B:En),aA ds=true->aB ds=true->f ds ρ=some B->∀(vs:List V)(σ:L2.St)(H:Hp)(S:Ad)(M:List Addr)(Fr:Addr->Prop),Sta G H ob ρ σ S (plus M Fr)->aD G H (wn ob S (plus M Fr)) ds vs M->M.Nodup->(∀a∈M,¬Fr a)->
 ∀Q:L2.St->Hp->Prop,(∀F H' S',Sta G H' ob B F S' Fr->Mv P H H' σ F S S' M->Q F H')->g vs σ H Q
theorem zZ:K3 G ob P MN dq:=λds ρ B _ _ e=>Hw ds ρ B e
theorem qx{t:TG}{u:TGs}{f:D->En->Option En}{g:List D->En->Option En}(h1:RfG G ob P t f)(h2:K3 G ob P u g):K3 G ob P (HY t u) (aU f g):=λds ρ B c1 c2 e vs σ H S M Fr s r nd hF Q q=>by
 cases ds with
 |nil=>cases e
 |cons d ds=>
  obtain⟨x,ys,M1,M2,rfl,rfl,J,O⟩:=r.inv;simp only[aA,aB,Wr]at c1 c2;simp only[aU]at e;cases h3:f d ρ with
  |none=>rw[h3]at e;cases e
  |some ρ1=>
   have e:g ds ρ1=some B:=by simpa[h3]using e
   have a0:=Wi.mp nd;have a1:plus (M1++M2) Fr=plus M1 (plus M2 Fr):=by
    funext a;simp only[plus,qb,or_assoc]
   rw[a1]at s J O;refine⟨x,ys,rfl,h1 d ρ ρ1 h3 x σ H S M1 (plus M2 Fr) s J a0.1 (λa Y z=>?_) _ λa2 H1 S1 s1 m1=>?_⟩
   .rcases z with z|z
    .exact a0.2.2 a Y a z rfl
    .exact hF a (Wf _ Y) z
   .have ev:Evo H H1 (wn ob S (plus M1 (plus M2 Fr))) (wn ob S1 (plus M2 Fr)):=⟨λb u U f=>?_,λb xs h=>?_⟩
    .have hr1:aD G H1 (wn ob S1 (plus M2 Fr)) ds ys M2:=O.mono ev (.inl c1.2) (.inl c2.2) λc Z u F=>m1.kp c u F (λ⟨i,z⟩=>s.fdj i c (.inr (.inl Z)) z) λz=>a0.2.2 c z c Z rfl
     refine h2 ds ρ1 B c1.2 c2.2 e ys a2 H1 S1 M2 Fr s1 hr1 a0.2.1 (λa Y=>hF a (VR _ Y)) Q λσ2 H2 S2 s2 V=>q σ2 H2 S2 s2 ⟨λb u U n1 I=>?_,λi a z=>?_,m1.pr.trans V.pr⟩
     .have n3:b∉M1:=λz=>I (Wf _ z)
      exact V.kp b u (m1.kp b u U n1 n3) (λ⟨i,z⟩=>(m1.gr i b z).elim n1 λz=>z.elim n3 λz=>by rw[U]at z;cases z) λz=>I (VR _ z)
     .rcases V.gr i a z with⟨j,z⟩|z|z
      .exact(m1.gr j a z).imp id λz=>z.imp (Wf _) id
      .exact .inr (.inl (VR _ z))
      .by_cases q1:inS S a
       .exact .inl q1
       .by_cases q2:a∈M1
        .exact .inr (.inl (Wf _ q2))
        .refine .inr (.inr ?_)
         cases e:H a with
         |none=>rfl
         |some u=>rw[m1.kp a u e q1 q2]at z;cases z
    .have n1:¬inS S b:=λ⟨i,z⟩=>by
      cases N:ob i with
      |false=>exact f.2.1 ⟨i,N,z⟩
      |true=>exact f.2.2 ⟨i,N,z⟩
     have I:b∉M1:=λz=>f.1 (.inl z);refine⟨m1.kp b u U n1 I,λz=>f.1 (.inr z),λ⟨i,_,z⟩=>?_,λ⟨i,_,z⟩=>?_⟩
     .exact(m1.gr i b z).elim n1 λz=>z.elim I λz=>by rw[U]at z;cases z
     .exact(m1.gr i b z).elim n1 λz=>z.elim I λz=>by rw[U]at z;cases z
    .have no:∀u,H b=some u->muO u=false->H1 b=some u:=λu F m=>m1.kp b u F (λ⟨i,z⟩=>by
       obtain⟨o,N,hm⟩:=s.mu z;rw[F]at N;cases N;rw[m]at hm;cases hm) λz=>by
       obtain⟨o,N,hm⟩:=J.dom b z;rw[F]at N;cases N;rw[m]at hm;cases hm
     exact no _ h rfl
theorem Ox{n:Nat}{t:TGs}{g:List D->En->Option En}(h:K3 G ob P t g):RfG G ob P (Qs G.K n t) (tgT n g):=λd ρ B e v σ H S M Fr s r nd J Q q=>by
 cases d with
 |tup ds=>
  simp only[tgT]at e;split at e
  .rename_i hl
   rw[Rep]at r;obtain⟨a,xs,rfl,F,O⟩:=r;exact⟨a,xs,rfl,SqT.of F,by rw[←O.length];exact hl.1,h ds ρ B hl.2.2 hl.2.1 e xs σ H S M Fr s O nd J Q q⟩
  .cases e
 |_=>cases e
structure O6{ι:Type}(X:ι->Cx)(G:Gc)(ob P:Nat->Bool)(tg:List Expr)(f:List D->En->Option En):Prop where
 mk::(ex:∃t,(∀c,PGs (X c) tg t)/\K3 G ob P t f)
theorem bO(i:Nat){x:Str}{pos:Pos}(U:∀c,(X c).N.Nodup)(Y:P i=false:=by rfl)(hi:∀c,(X c).N[i]? =some x:=by intro _;rfl)(J:∀c,Loc (X c).env.scope x:=by intro _;first|exact Yk rfl|exact Xv rfl)(Z:∀c,(X c).fn x=true∨(X c).env.scope.names.lookup x=some .local:=by intro _;first|exact .inl rfl|exact .inr rfl):PVG X G ob P (.Name x pos) (tgN i):=⟨_,λc=>tE (U c) (hi c) (J c) (Z c),jC Y⟩
theorem i_:O6 X G ob P [] dq:=⟨_,λc=>Ft,zZ⟩
theorem bN{e:Expr}{es:List Expr}{f:D->En->Option En}{g:List D->En->Option En}(h1:PVG X G ob P e f)(h2:O6 X G ob P es g)(hs:∀c,(Xz (e::es) (X c).env).map (·.2)=aai e (X c).env::(Xz es (X c).env).map (·.2):=by intro _;rfl):O6 X G ob P (e::es) (aU f g):=let⟨t,a1,a2⟩:=h1.ex;let⟨u,b1,b2⟩:=h2.ex;⟨_,λc=>zK (a1 c) (b1 c) (hs c),qx a2 b2⟩
theorem jO{es:List Expr}{k n:Nat}{pos:Pos}{g:List D->En->Option En}(Z:∀c,(X c).calm=true)(h:O6 X G ob P es g)(hn:∀c,(Xz es (X c).env).length=n:=by intro _;rfl)(V:∀c,(Xz es (X c).env).findIdx? (·.1)=none:=by intro _;rfl)(I:∀c,(X c).K=G.K:=by intro _;rfl):PVG X G ob P (.Tuple es k pos) (tgT n g):=let⟨t,a1,a2⟩:=h.ex;⟨_,λc=>(by rw[←I c];exact Im (Z c) (a1 c) (hn c) (V c)),Ox a2⟩
def cI(f:En->Option D)(g:D->En->Option En):En->Option Fl:=λρ=>(f ρ).bind λd=>(g d ρ).map .nx
def dR(f:En->Option (D×En))(g:D->En->Option En):En->Option Fl:=λρ=>(f ρ).bind λp=>(g p.1 p.2).map .nx
theorem jn{Fr:Addr->Prop}:plus [] Fr=Fr:=by funext a;simp[plus]
theorem j7{te:TE}{t:TG}{f:En->Option (D×En)}{g:D->En->Option En}(h:km G ob te f)(Z:RfG G ob P t g):RfS G ob P (Je te t) (dR f g):=λρ r e σ H S Fr s E q=>by
 unfold dR at e;cases h1:f ρ with
 |none=>simp[h1]at e
 |some p=>
  obtain⟨d,ρ1⟩:=p;cases h2:g d ρ1 with
  |none=>simp[h1,h2]at e
  |some ρ2=>
   have:Fl.nx ρ2=r:=by simpa[h1,h2]using e
   subst this;refine h ρ d ρ1 h1 σ H S Fr s _ λv H1 M S1 O r1 nd V=>?_;have J:∀a∈M,¬Fr a:=λa Y z=>by
    rcases V.fm a Y with q|q
    .exact s.notO z q
    .obtain⟨o,N,_⟩:=s.fdm a z
     rw[q]at N;cases N
   refine Z d ρ1 ρ2 h2 v σ H1 S1 M Fr O r1 nd J _ λF H' S' s' m=>q F H' S' s' ⟨λb u U B I=>?_,λi a z=>?_,m.pr⟩
   .have hno:¬inO ob S b:=λ⟨i,_,z⟩=>B ⟨i,z⟩
    refine m.kp b u (V.kp b u U hno) (λ⟨i,z⟩=>?_) λz=>(V.fm b z).elim hno λz=>by rw[U]at z;cases z
    cases N:ob i with
    |false=>rw[V.sn i N]at z;exact B ⟨i,z⟩
    |true=>exact(V.gr i b N z).elim hno λz=>by rw[U]at z;cases z
   .rcases m.gr i a z with⟨j,z⟩|z|z
    .cases N:ob j with
     |false=>rw[V.sn j N]at z;exact .inl ⟨j,z⟩
     |true=>exact(V.gr j a N z).imp (λ⟨k,_,z⟩=>⟨k,z⟩) .inr
    .exact(V.fm a z).imp (λ⟨k,_,z⟩=>⟨k,z⟩) .inr
    .exact(V.back z).imp (λ⟨k,_,z⟩=>⟨k,z⟩) .inr
theorem xJ{f:En->Option D}{g:D->En->Option En}:dR (eUp f) g=cI f g:=by
 funext ρ;unfold dR cI eUp;cases f ρ<;>rfl
section
variable{tg e:Expr}{pos:Pos}{g:D->En->Option En}
theorem xn{f:En->Option D}(V:PV X G ob e f)(q:PVG X G ob P tg g)(hs:∀c,Zv [tg] e pos.line (X c).env=pure false:=by intro _;rfl)(B:∀c,aaH [tg] e (X c).env=pure none:=by intro _;rfl)(h1:∀c,(Xz [tg] (X c).env).map (·.2)=[aai tg (X c).env]:=by intro _;rfl):PVS X G ob P (.Assign [tg] e pos) (cI f g):=let⟨t,a1,a2⟩:=V.ex;let⟨u,b1,b2⟩:=q.ex;⟨_,λc=>HX (a1 c) (b1 c) (hs c) (B c) (h1 c),by rw[←xJ];exact j7 (v_ a2) b2⟩
theorem uT{f:En->Option (D×En)}(V:PVe X G ob e f)(q:PVG X G ob P tg g)(hs:∀c,Zv [tg] e pos.line (X c).env=pure false:=by intro _;rfl)(B:∀c,aaH [tg] e (X c).env=pure none:=by intro _;rfl)(h1:∀c,(Xz [tg] (X c).env).map (·.2)=[aai tg (X c).env]:=by intro _;rfl):PVS X G ob P (.Assign [tg] e pos) (dR f g):=let⟨t,a1,a2⟩:=V.ex;let⟨u,b1,b2⟩:=q.ex;⟨_,λc=>HX (a1 c) (b1 c) (hs c) (B c) (h1 c),j7 a2 b2⟩
theorem bM(i:Nat){x:Str}{pos':Pos}{f:En->Option D}(U:∀c,(X c).N.Nodup)(V:PV X G ob e f)(Y:P i=false:=by rfl)(hi:∀c,(X c).N[i]? =some x:=by intro _;rfl)(J:∀c,Loc (X c).env.scope x:=by intro _;first|exact Yk rfl|exact Xv rfl)(hs:∀c,Zd e (some (.Name x pos')) pos.line (X c).env=pure false:=by intro _;rfl)(Z:∀c,(X c).fn x=true∨(X c).env.scope.names.lookup x=some .local:=by intro _;first|exact .inl rfl|exact .inr rfl):PVS X G ob P (.Assign [.Name x pos'] e pos) (cI f (tgN i)):=let⟨t,a1,a2⟩:=V.ex;⟨_,λc=>Lk (U c) (hi c) (J c) (a1 c) (hs c) (Z c),by rw[←xJ];exact j7 (v_ a2) (jC Y)⟩
theorem dF(i:Nat){x:Str}{pos':Pos}{f:En->Option (D×En)}(U:∀c,(X c).N.Nodup)(V:PVe X G ob e f)(Y:P i=false:=by rfl)(hi:∀c,(X c).N[i]? =some x:=by intro _;rfl)(J:∀c,Loc (X c).env.scope x:=by intro _;first|exact Yk rfl|exact Xv rfl)(hs:∀c,Zd e (some (.Name x pos')) pos.line (X c).env=pure false:=by intro _;rfl)(Z:∀c,(X c).fn x=true∨(X c).env.scope.names.lookup x=some .local:=by intro _;first|exact .inl rfl|exact .inr rfl):PVS X G ob P (.Assign [.Name x pos'] e pos) (dR f (tgN i)):=let⟨t,a1,a2⟩:=V.ex;⟨_,λc=>Lk (U c) (hi c) (J c) (a1 c) (hs c) (Z c),j7 a2 (jC Y)⟩
end
def uw(f:En->Option (List D×En))(g:List D->En->Option En):En->Option Fl:=λρ=>(f ρ).bind λp=>if aA p.1/\aB p.1 then(g p.1 p.2).map .nx else none
def U_(f:En->Option (List D))(g:List D->En->Option En):En->Option Fl:=λρ=>(f ρ).bind λp=>if aA p/\aB p then(g p ρ).map .nx else none
theorem HH{ta:TA}{i j:Nat}(hi:P i=false)(I:P j=false){f:En->Option (List D×En)}(h:Ar G ob ta f):RfS G ob P (S7 i j ta) (uw f (aU (tgN i) (aU (tgN j) dq))):=λρ r e σ H S Fr s E q=>by
 unfold uw at e;cases h1:f ρ with
 |none=>simp[h1]at e
 |some p=>
  obtain⟨ds,ρ1⟩:=p;by_cases Z:aA ds/\aB ds
  .cases h2:(aU (tgN i) (aU (tgN j) dq)) ds ρ1 with
   |none=>simp[h1,h2,Z]at e
   |some ρ2=>
    have:Fl.nx ρ2=r:=by simpa[h1,h2,Z]using e
    subst this;refine h ρ ds ρ1 h1 σ H S Fr s _ λvs H1 M S1 O r1 nd V=>?_;have J:∀a∈M,¬Fr a:=λa Y z=>by
     rcases V.fm a Y with q|q
     .exact s.notO z q
     .obtain⟨o,N,_⟩:=s.fdm a z
      rw[q]at N;cases N
    have a0:=qx (jC (G:=G) (ob:=ob) hi) (qx (jC I) zZ) ds ρ1 ρ2 Z.1 Z.2 h2 vs σ H1 S1 M Fr O r1 nd J (λF H'=>E.nx F H') λF H' S' s' m=>q F H' S' s' ⟨λb u U B n2=>?_,λi a z=>?_,m.pr⟩
    .obtain⟨v,rr,e1,v2,r2,e2,e3,k⟩:=a0
     subst e3;exact⟨v,v2,by rw[e1,e2],k⟩
    .have hno:¬inO ob S b:=λ⟨i,_,z⟩=>B ⟨i,z⟩
     refine m.kp b u (V.kp b u U hno) (λ⟨i,z⟩=>?_) λz=>(V.fm b z).elim hno λz=>by rw[U]at z;cases z
     cases N:ob i with
     |false=>rw[V.sn i N]at z;exact B ⟨i,z⟩
     |true=>exact(V.gr i b N z).elim hno λz=>by rw[U]at z;cases z
    .rcases m.gr i a z with⟨j,z⟩|z|z
     .cases N:ob j with
      |false=>rw[V.sn j N]at z;exact .inl ⟨j,z⟩
      |true=>exact(V.gr j a N z).imp (λ⟨k,_,z⟩=>⟨k,z⟩) .inr
     .exact(V.fm a z).imp (λ⟨k,_,z⟩=>⟨k,z⟩) .inr
     .exact(V.back z).imp (λ⟨k,_,z⟩=>⟨k,z⟩) .inr
  .simp[h1,Z]at e
section
variable{x y:Str}{a b:Expr}{px py pt pos:Pos}{kt k2 pt2}
theorem JB(i j:Nat){f:En->Option (List D×En)}(Z:∀c,(X c).calm=true)(U:∀c,(X c).N.Nodup)(Y:uZ X G ob [a,b] f)(F:P i=false:=by rfl)(q:P j=false:=by rfl)(hi:∀c,(X c).N[i]? =some x:=by intro _;rfl)(I:∀c,(X c).N[j]? =some y:=by intro _;rfl)(O:i≠j:=by decide)(J:∀c,(X c).env.scope.names.lookup x=some .local:=by intro _;rfl)(V:∀c,(X c).env.scope.names.lookup y=some .local:=by intro _;rfl)(B:∀c,aaH [.Tuple [.Name x px,.Name y py] kt pt] (.Tuple [a,b] k2 pt2) (X c).env=pure (some [x,y]):=by intro _;rfl)(hs:∀c,Zv [.Tuple [.Name x px,.Name y py] kt pt] (.Tuple [a,b] k2 pt2) pos.line (X c).env=pure false:=by intro _;rfl) :
 PVS X G ob P (.Assign [.Tuple [.Name x px,.Name y py] kt pt] (.Tuple [a,b] k2 pt2) pos) (uw f (aU (tgN i) (aU (tgN j) dq))):=let⟨t,a1,a2⟩:=Y.ex;⟨_,λc=>Qx (Z c) (U c) (hi c) (I c) O (J c) (V c) (a1 c) (B c) (hs c),HH F q a2⟩
end
def sIf(c:En->Option Bool)(f g:En->Option Fl):En->Option Fl:=λρ=>(c ρ).bind λb=>if b then f ρ else g ρ
def Bm(c:En->Option (Bool×En))(f g:En->Option Fl):En->Option Fl:=λρ=>(c ρ).bind λp=>if p.1 then f p.2 else g p.2
theorem Uo{c:En->Option Bool}{f g:En->Option Fl}:Bm (vA c) f g=sIf c f g:=by
 funext ρ;unfold Bm sIf vA;cases c ρ<;>rfl
theorem El{tc:TT}{t u:TS}{c:En->Option (Bool×En)}{f g:En->Option Fl}(Z:yo G ob tc c)(h1:RfS G ob P t f)(h2:RfS G ob P u g):RfS G ob P (Tp tc t u) (Bm c f g):=λρ r e σ H S Fr s E q=>by
 unfold Bm at e;cases B:c ρ with
 |none=>simp[B]at e
 |some p=>
  obtain⟨b,ρ1⟩:=p;refine Z ρ b ρ1 B σ H S Fr s _ λH1 S1 O V=>?_;have m:Mv P H H1 σ σ S S1 []:=V.mv;cases b with
  |true=>exact qw (h1 ρ1 r (by simpa[B]using e) σ H1 S1 Fr O E (q.from m))
  |false=>exact vU (h2 ρ1 r (by simpa[B]using e) σ H1 S1 Fr O E (q.from m))
theorem gm{c:Expr}{a b:List Stmt}{pos:Pos}{fc:En->Option Bool}{f g:En->Option Fl}(Z:PVT X G ob c fc)(Y:mK X G ob P a f)(U:mK X G ob P b g):PVS X G ob P (.If c a b pos) (sIf fc f g):=let⟨v,c1,c2⟩:=Z.ex;let⟨t,a1,a2⟩:=Y.ex;let⟨u,b1,b2⟩:=U.ex;⟨_,λc=>Qg (c1 c) (a1 c) (b1 c),by rw[←Uo];exact El (J2 c2) a2 b2⟩
theorem FZ{c:Expr}{a b:List Stmt}{pos:Pos}{fc:En->Option (Bool×En)}{f g:En->Option Fl}(Z:BK X G ob c fc)(Y:mK X G ob P a f)(U:mK X G ob P b g):PVS X G ob P (.If c a b pos) (Bm fc f g):=let⟨v,c1,c2⟩:=Z.ex;let⟨t,a1,a2⟩:=Y.ex;let⟨u,b1,b2⟩:=U.ex;⟨_,λc=>Qg (c1 c) (a1 c) (b1 c),El c2 a2 b2⟩
def sEx(f:En->Option (D×En)):En->Option Fl:=λρ=>(f ρ).map λp=>.nx p.2
def t7(f:En->Option (D×En)):En->Option Fl:=λρ=>(f ρ).bind λp=>if clean p.1 then some (.ret p.1 p.2)else none
def kj(f:En->Option D):En->Option Fl:=λρ=>(f ρ).bind λd=>if clean d then some (.ret d ρ)else none
theorem Ry{f:En->Option D}:t7 (eUp f)=kj f:=by
 funext ρ;unfold t7 kj eUp;cases f ρ<;>rfl
theorem zT{te:TE}{f:En->Option (D×En)}(h:km G ob te f):RfS G ob P (Nx te) (t7 f):=λρ r e σ H S Fr s E q=>by
 unfold t7 at e;cases h1:f ρ with
 |none=>simp[h1]at e
 |some p=>
  obtain⟨d,ρ1⟩:=p;cases Z:clean d with
  |false=>simp[h1,Z]at e
  |true=>
   have:Fl.ret d ρ1=r:=by simpa[h1,Z]using e
   subst this;exact h ρ d ρ1 h1 σ H S Fr s _ λv H1 M S1 O U nd V=>q v σ H1 M S1 O U Z nd (λa Y=>(V.fm a Y).imp (λ⟨i,_,z⟩=>⟨i,z⟩) id) V.mv
theorem fW{e:Expr}{pos:Pos}{f:En->Option D}(V:PV X G ob e f):PVS X G ob P (.Return (some e) pos) (kj f):=let⟨t,a1,a2⟩:=V.ex;⟨_,λc=>xx (a1 c),by rw[←Ry];exact zT (v_ a2)⟩
theorem Li{e:Expr}{pos:Pos}{f:En->Option (D×En)}(V:PVe X G ob e f):PVS X G ob P (.Return (some e) pos) (t7 f):=let⟨t,a1,a2⟩:=V.ex;⟨_,λc=>xx (a1 c),zT a2⟩
def Sy:En->Option Fl:=λρ=>some (.ret .non ρ)
theorem Sta.move{G:Gc}{H:Hp}{ρ:En}{σ:L2.St}{S:Ad}{Fr:Addr->Prop}{i:Nat}{d:D}(s:Sta G H ob ρ σ S Fr)(e:ρ[i]? =some (some d)) :
  ∃v,σ[i]? =some (some v)/\clean d=true/\Sta G H ob (ρ.set i none) σ (cz S i []) (plus (S i) Fr)/\Rep G H (wn ob (cz S i []) (plus (S i) Fr)) d v (S i):=by
 obtain⟨v,h1,h2,Z⟩:=s.sl i d e;have J:Evo H H (wn ob S Fr) (wn ob (cz S i []) (plus (S i) Fr)):=⟨λb u h f=>⟨h,⟨λz=>z.elim (λz=>?_) f.1,λ⟨k,q1,q2⟩=>?_,λ⟨k,q1,q2⟩=>?_⟩⟩,λ_ _ h=>h⟩
 .have q:=(by simpa[clean]using Z:az d=true/\aq d=true)
  refine⟨v,h1,Z,⟨by simp[s.len],λj d' V=>?_,λj I=>?_,λj=>?_,λj k a q1 q2=>?_,λj a q1 q2=>?_,λa h=>?_⟩,h2.mono J (.inl q.1) (.inl q.2) λ_ _ _ h=>h⟩
  .by_cases e':j=i
   .subst e'
    rw[List.getElem?_set]at V;split at V
    .split at V
     .simp at V
     .cases V
    .exact absurd rfl ‹_›
   .rw[List.getElem?_set_ne (WW e')]at V
    obtain⟨B,q1,q2,O⟩:=s.sl j _ V;refine⟨B,q1,?_,O⟩;rw[cU e'];have q:=(by simpa[clean]using O:az d'=true/\aq d'=true);exact q2.mono J (.inl q.1) (.inl q.2) λ_ _ _ h=>h
  .by_cases e':j=i
   .rw[e',cM]
   .rw[cU e']
    exact s.em j λd'=>by have:=I d';rwa[List.getElem?_set_ne (WW e')]at this
  .by_cases e':j=i
   .rw[e',cM];exact List.nodup_nil
   .rw[cU e'];exact s.nd j
  .rcases bL q1 with⟨_,z⟩|⟨_,z⟩
   .cases z
   .rcases bL q2 with⟨_,z'⟩|⟨_,z'⟩
    .cases z'
    .exact s.dj j k a z z'
  .rcases bL q2 with⟨_,z⟩|⟨n,z⟩
   .cases z
   .rcases q1 with q1|q1
    .exact n (s.dj j i a z q1)
    .exact s.fdj j a q1 z
  .rcases h with h|h
   .exact s.mu h
   .exact s.fdm a h
 .cases ho:ob i with
  |false=>exact f.2.1 ⟨i,ho,z⟩
  |true=>exact f.2.2 ⟨i,ho,z⟩
 .rcases bL q2 with⟨_,z⟩|⟨_,z⟩
  .cases z
  .exact f.2.1 ⟨k,q1,z⟩
 .rcases bL q2 with⟨_,z⟩|⟨_,z⟩
  .cases z
  .exact f.2.2 ⟨k,q1,z⟩
def j_(i:Nat):En->Option Fl:=λρ=>match ρ[i]? with
 |some (some d)=>some (.ret d (ρ.set i none))
 |_=>none
theorem Jw{i:Nat}:RfS G ob P (Nx (By i)) (j_ i):=λρ r e σ H S Fr s E q=>by
 unfold j_ at e;split at e
 .rename_i d h1
  cases e;obtain⟨v,h2,Z,U,V⟩:=s.move h1;exact⟨v,h2,q v σ H (S i) (cz S i []) U V Z (s.nd i) (λa Y=>.inl ⟨i,Y⟩) ⟨λ_ _ h _ _=>h,λj a z=>(bL z).elim (λz=>by cases z.2) λz=>.inl ⟨j,z.2⟩,.refl⟩⟩
 .cases e
theorem mq(i:Nat){x:Str}{pos pos':Pos}(U:∀c,(X c).N[i]? =some x:=by intro _;rfl)(q:∀c,Vis (X c).env.scope x:=by intro _;first|exact Yk rfl|exact Xv (Yk rfl)|exact Xv (Xv rfl))(hd:1.20=false:=by decide)(B:(x==("__classdict__":Str))=false:=by decide):PVS X G ob P (.Return (some (.Name x pos)) pos') (j_ i):=⟨_,λc=>xx (pv i (U c) (q c) hd B),Jw⟩
end
def mkO:Mk->Mk
 |.own=>.frz
 |m=>m
mutual
def fzo:D->D
 |.tup ds=>.tup (iU ds)
 |.lst m ds=>.lst (mkO m) (iU ds)
 |.dct m ks ds=>.dct (mkO m) ks (iU ds)
 |.ins m c fs ds=>.ins (mkO m) c fs (iU ds)
 |d=>d
def iU:List D->List D
 |[]=>[]
 |d::r=>fzo d::iU r
end
theorem dU:∀ds:List D,iU ds=ds.map fzo
 |[]=>rfl
 |d::r=>by rw[iU,dU r];rfl
section
variable{G:Gc}{H:Hp}{W W':Wn}
theorem dg.fzo{F:Addr->HO->Prop}{a:Addr}{o:HO}{m:Mk}{L M:List Addr}(hs:Les H W W' L)(hn:∀a,W.s a->W'.s a)(h:dg F H W a o m L M):dg F H W' a o (mkO m) [] []:=by
 cases m with
 |own=>exact⟨h.1,hs.l a (by rw[h.2];simp),rfl,rfl⟩
 |frz=>exact⟨h.1,hs.f a h.2.1,rfl,rfl⟩
 |brw=>exact⟨h.1,hn a h.2.1,rfl,rfl⟩
 |bro=>exact⟨h.1,rfl,rfl⟩
 |scr=>exact⟨h.1.imp (λz=>⟨z.1,hs.f a z.2⟩) id,rfl,rfl⟩
mutual
theorem Rep.fzo(hn:∀a,W.s a->W'.s a):∀{d:D}{v:V}{L:List Addr},Rep G H W d v L->Les H W W' L->Rep G H W' (fzo d) v []
 |.non,v,L,h,_=>by rw[Rep]at h;simp[Jb.fzo,Rep,h]
 |.bl _,v,L,h,_=>by rw[Rep]at h;simp[Jb.fzo,Rep,h]
 |.int _,v,L,h,_=>by rw[Rep]at h;simp[Jb.fzo,Rep,h]
 |.str _,v,L,h,_=>by rw[Rep]at h;simp[Jb.fzo,Rep,h]
 |.ty _,v,L,h,_=>by rw[Rep]at h;simp[Jb.fzo,Rep,h]
 |.tup ds,v,L,h,hs=>by
  rw[Rep]at h;rw[Jb.fzo,Rep];obtain⟨a,xs,rfl,F,O⟩:=h;exact⟨a,xs,rfl,F,aD.fzo hn O hs⟩
 |.lst m ds,v,L,h,he=>by
  rw[Rep]at h;rw[Jb.fzo,Rep];obtain⟨a,xs,M,rfl,O,hs⟩:=h;exact⟨a,xs,[],rfl,aD.fzo hn O (he.sub λc Z=>hs.sub.subset Z),hs.fzo he hn⟩
 |.dct m ks ds,v,L,h,he=>by
  rw[Rep]at h;rw[Jb.fzo,Rep];obtain⟨a,xs,M,rfl,B,O,hs⟩:=h;exact⟨a,xs,[],rfl,B,aD.fzo hn O (he.sub λc Z=>hs.sub.subset Z),hs.fzo he hn⟩
 |.ins m c' fs ds,v,L,h,he=>by
  rw[Rep]at h;rw[Jb.fzo,Rep];obtain⟨a,C,dx,xs,M,rfl,N,B,O,hs⟩:=h;exact⟨a,C,dx,xs,[],rfl,N,B,aD.fzo hn O (he.sub λc Z=>hs.sub.subset Z),hs.fzo he hn⟩
theorem aD.fzo(hn:∀a,W.s a->W'.s a):∀{ds:List D}{vs:List V}{L:List Addr},aD G H W ds vs L->Les H W W' L->aD G H W' (iU ds) vs []
 |[],vs,L,h,_=>by obtain⟨rfl,_⟩:=h.inv0;rw[iU];exact .nil
 |d::r,vs,L,h,he=>by
  obtain⟨x,ys,M,M',rfl,rfl,h1,h2⟩:=h.inv;rw[iU];exact .cons (M:=[]) (M':=[]) (Rep.fzo hn h1 (he.sub λc Z=>Wf _ Z)) (aD.fzo hn h2 (he.sub λc Z=>VR _ Z))
end
mutual
theorem GP:∀{d:D},az d=true->az (Jb.fzo d)=true
 |.non,_=>rfl|.bl _,_=>rfl|.int _,_=>rfl|.str _,_=>rfl|.ty _,_=>rfl
 |.tup ds,h=>by simp[az]at h;simp[Jb.fzo,az,fJ h]
 |.lst m ds,h=>by simp[az]at h;cases m<;>simp[Jb.fzo,az,fJ h.2,mkO]<;>simp at h
 |.dct m _ ds,h=>by simp[az]at h;cases m<;>simp[Jb.fzo,az,fJ h.2,mkO]<;>simp at h
 |.ins m _ _ ds,h=>by simp[az]at h;cases m<;>simp[Jb.fzo,az,fJ h.2,mkO]<;>simp at h
theorem fJ:∀{ds:List D},aA ds=true->aA (iU ds)=true
 |[],_=>rfl
 |d::r,h=>by simp[aA]at h;simp[iU,aA,GP h.1,fJ h.2]
end
mutual
theorem Hf:∀{d:D},aq d=true->aq (Jb.fzo d)=true
 |.non,_=>rfl|.bl _,_=>rfl|.int _,_=>rfl|.str _,_=>rfl|.ty _,_=>rfl
 |.tup ds,h=>by simp[aq]at h;simp[Jb.fzo,aq,fO h]
 |.lst m ds,h=>by simp[aq]at h;cases m<;>simp[Jb.fzo,aq,fO h.2,mkO]<;>simp at h
 |.dct m _ ds,h=>by simp[aq]at h;cases m<;>simp[Jb.fzo,aq,fO h.2,mkO]<;>simp at h
 |.ins m _ _ ds,h=>by simp[aq]at h;cases m<;>simp[Jb.fzo,aq,fO h.2,mkO]<;>simp at h
theorem fO:∀{ds:List D},aB ds=true->aB (iU ds)=true
 |[],_=>rfl
 |d::r,h=>by simp[aB]at h;simp[iU,aB,Hf h.1,fO h.2]
end
end
structure Wk(G:Gc)(J:It)(Lt:Hp->Wn->Prop)(items:List D):Prop where
 go:∀(i:Nat)(d:D),items[i]? =some d->∀H W,Lt H W->J.go i H
 yld:∀(i:Nat)(d:D),items[i]? =some d->∀H W,Lt H W->∀x H',J.yld i H x H'->Same H H'/\Rep G H' W d x []
 stop:∀H W,Lt H W->J.stop items.length H
def LtB(b:Bool)(H:Hp)(W:Wn):Hp->Wn->Prop:=λH2 B=>if b=true then Evo H H2 W B else Up H H2 W B
theorem LtB.up{b:Bool}{H H2:Hp}{W B:Wn}(u:Up H H2 W B):LtB b H W H2 B:=by
 cases b with
 |true=>exact qw u.evo
 |false=>exact vU u
def RfI(G:Gc)(ob:Nat->Bool)(wi:TI)(f:En->Option (Bool×List D)):Prop:=∀(ρ:En)(b:Bool)(items:List D),f ρ=some (b,items)->∀(σ:L2.St)(H:Hp)(W:Wn),Rel G H W ob ρ σ->WOk H W->∀R:It->Hp->Prop,
 (∀J H',Same H H'->Wk G J (LtB b H' W) items->R J H')->wi σ H R
structure PVI{ι:Type}(X:ι->Cx)(G:Gc)(ob:Nat->Bool)(tg it:Expr)(f:En->Option (Bool×List D)):Prop where
 mk::(ex:∃t,(∀c,PI (X c) tg it t)/\RfI G ob t f)
section
variable{ι:Type}{X:ι->Cx}{G:Gc}{ob P:Nat->Bool}
def iu(lo:Int)(n:Nat):List D:=(WD n).map λ(k:Nat)=>D.int (lo+(k:Int))
def o8(f:En->Option (List D)):En->Option (Bool×List D):=λρ=>(f ρ).bind λds=>match ds with
 |[.int j]=>if -(2 ^ 62)<=j/\j<2 ^ 62 then some (true,iu 0 j.toNat)else none
 |_=>none
def Vq(f:En->Option (List D)):En->Option (Bool×List D):=λρ=>(f ρ).bind λds=>match ds with
 |[.int i,.int j]=>if -(2 ^ 62)<=i/\i<2 ^ 62/\-(2 ^ 62)<=j/\j<2 ^ 62 then some (true,iu i (j-i).toNat)else none
 |_=>none
theorem J7{q:Hp->Wn->Prop}{lo:Int}{n:Nat}:Wk G (Itr lo n) q (iu lo n)where
 go:=λi d e H W _=>by
  have:=(Hq.mp e).1;show i<n;simpa[iu]using this
 yld:=λi d e H W _ x H' h=>by
  obtain⟨rfl,rfl⟩:=h;have:d= .int (lo+(i:Int)):=by
   unfold iu at e;rw[List.getElem?_map]at e;have hi:i<n:=by
    have:=(Hq.mp (show(iu lo n)[i]? =some d by unfold iu;rw[List.getElem?_map];exact e)).1;simpa[iu]using this
   rw[ac4 hi]at e;simpa using e.symm
  subst this;exact⟨Same.refl _,by rw[Rep];exact⟨rfl,rfl⟩⟩
 stop:=λH W _=>by
  show n<=(iu lo n).length;simp[iu]
theorem Qz{t:TA}{f:En->Option (List D)}(h:RfA G ob t f):RfI G ob (La t) (o8 f):=λρ b items e σ H W F w R q=>by
 unfold o8 at e;cases h1:f ρ with
 |none=>simp[h1]at e
 |some ds=>
  rw[h1]at e;simp only[V1]at e;split at e
  .rename_i j
   split at e
   .rename_i hj
    cases e;refine h ρ _ h1 σ H W F w _ λvs H' L s r fr nd=>?_;obtain⟨x,ys,M,M',rfl,_,J,V⟩:=r.inv;obtain⟨rfl,_⟩:=V.inv0;rw[Rep]at J;obtain⟨rfl,_⟩:=J;exact⟨j,rfl,hj.1,hj.2,q _ H' s J7⟩
   .cases e
  .cases e
def cH:D->Option (Bool×List D)
 |.lst m ds=>some (clean (.lst m ds),iU ds)
 |.tup ds=>some (clean (.tup ds),iU ds)
 |_=>none
def itS(f:En->Option D):En->Option (Bool×List D):=λρ=>(f ρ).bind cH
theorem wH{F:Addr->HO->Prop}{H H2:Hp}{W W1 B:Wn}{b:Bool}{a:Addr}{o:HO}{m:Mk}{L M:List Addr}(h:dg F H W1 a o m L M)(V:Les H W1 W L)(hn:W1.s a->W.s a)(U:b=true->m≠.brw/\m≠.bro)(l:LtB b H W H2 B):Rd H2 a o∨F a o:=by
 cases b with
 |false=>
  have u:Up H H2 W B:=(Wo WL).mp l;exact h.rx.imp (Same.rd u.s) id
 |true=>
  have e:Evo H H2 W B:=(Wd rfl).mp l;cases m with
  |own=>exact .inl (.inl (e.k a o h.1 (V.l a (by rw[h.2];simp))).1)
  |frz=>exact .inl (.inl (e.k a o h.1 (V.f a h.2.1)).1)
  |brw=>exact absurd rfl (U rfl).1
  |bro=>exact absurd rfl (U rfl).2
  |scr=>exact h.1.imp (λz=>(e.rd z.1 (V.f a z.2)).1) id
theorem Px{K:V8}{H:Hp}{a:Addr}{xs:List V}(h:Rd H a (.lst xs)∨KO K a (.lst xs)):SqL K H a xs:=by
 rcases h with z|⟨ys,e,z⟩
 .exact .inl z
 .cases e
  exact .inr z
theorem LtB.rep{G:Gc}{H H2:Hp}{W B:Wn}{b:Bool}{d:D}{v:V}(l:LtB b H W H2 B)(U:b=true->az d=true/\aq d=true)(r:Rep G H W d v []):Rep G H2 B d v []:=by
 cases b with
 |false=>exact r.up ((Wo WL).mp l)
 |true=>exact r.mono ((Wd rfl).mp l) (.inl (U rfl).1) (.inl (U rfl).2) (by simp)
theorem LtB.tup{H H2:Hp}{W B:Wn}{b:Bool}{K:V8}{a:Addr}{xs:List V}(l:LtB b H W H2 B)(h:H a=some (.tup xs)):SqT K H2 a xs:=by
 cases b with
 |false=>exact SqT.of (((Wo WL).mp l).s a _ h)
 |true=>exact SqT.of (((Wd rfl).mp l).t a xs h)
theorem iJ{ds:List D}{i:Nat}{d:D}(h:aA ds=true)(e:ds[i]? =some d):az d=true:=by
 induction ds generalizing i with
 |nil=>simp at e
 |cons a r O=>
  simp only[aA,Wr]at h;cases i with
  |zero=>
   have:a=d:=by simpa using e
   rw[←this];exact h.1
  |succ i=>exact O h.2 (by simpa using e)
theorem iw{ds:List D}{i:Nat}{d:D}(h:aB ds=true)(e:ds[i]? =some d):aq d=true:=by
 induction ds generalizing i with
 |nil=>simp at e
 |cons a r O=>
  simp only[aB,Wr]at h;cases i with
  |zero=>
   have:a=d:=by simpa using e
   rw[←this];exact h.1
  |succ i=>exact O h.2 (by simpa using e)
structure Parts(G:Gc)(H:Hp)(W:Wn)(b:Bool)(es:List D)(xs:List V):Prop where
 r:aD G H W es xs []
 c:b=true->aA es=true/\aB es=true
theorem Parts.at{G:Gc}{H H2:Hp}{W B:Wn}{b:Bool}{es:List D}{xs:List V}(p:Parts G H W b es xs)(l:LtB b H W H2 B){i:Nat}{d:D}{x:V}(e:es[i]? =some d)(J:xs[i]? =some x):Rep G H2 B d x []:=by
 obtain⟨y,M,h1,h2,Z⟩:=p.r.get e;rw[J]at h1;cases h1;have:M=[]:=by simpa using Z
 subst this;exact l.rep (λz=>⟨iJ (p.c z).1 e,iw (p.c z).2 e⟩) h2
theorem Ek{G:Gc}{H H':Hp}{W:Wn}{d:D}{v:V}{L:List Addr}{b:Bool}{es:List D}(w:WOk H W)(s:Same H H')(r:Rep G H' (W.add L) d v L)(fr:∀a∈L,H a=none)(e:cH d=some (b,es)) :
  ∃a xs,v= .ref a/\Parts G H' W b es xs/\((∀H2 B,LtB b H' W H2 B->SqL G.K H2 a xs)∨(∀H2 B,LtB b H' W H2 B->SqT G.K H2 a xs)):=by
 have free:∀a∈L,W.free a:=λa Y=>⟨λz=>?_,λz=>?_,λz=>?_⟩
 .have les:Les H' (W.add L) W L:=⟨λa f=>⟨λz=>f.1 (.inr z),f.2⟩,free⟩
  cases d with
  |lst m ds=>
   simp only[cH,ZM,acY]at e;obtain⟨rfl,rfl⟩:=e;rw[Rep]at r;obtain⟨a,xs,M,rfl,O,hs⟩:=r;refine⟨a,xs,rfl,⟨aD.fzo (W:=W.add L) (W':=W) (λ_ z=>z) O (les.sub λc Z=>hs.sub.subset Z),λz=>?_⟩,.inl λH2 B l=>Px (wH hs les (λz=>z) (λz=>?_) l)⟩
   .simp[clean,az,aq]at z
    exact⟨fJ z.1.2,fO z.2.2⟩
   .simp[clean,az,aq]at z
    exact⟨z.1.1,z.2.1⟩
  |tup ds=>
   simp only[cH,ZM,acY]at e;obtain⟨rfl,rfl⟩:=e;rw[Rep]at r;obtain⟨a,xs,rfl,F,O⟩:=r;refine⟨a,xs,rfl,⟨aD.fzo (W:=W.add L) (W':=W) (λ_ z=>z) O les,λz=>?_⟩,.inr λH2 B l=>l.tup F⟩;simp[clean,az,aq]at z;exact⟨fJ z.1,fO z.2⟩
  |_=>simp[cH]at e
 .obtain⟨o,ho,_⟩:=w a (.inl z);rw[fr a Y]at ho;cases ho
 .obtain⟨o,ho,_⟩:=w a (.inr (.inl z));rw[fr a Y]at ho;cases ho
 .obtain⟨o,ho,_⟩:=w a (.inr (.inr z));rw[fr a Y]at ho;cases ho
theorem aD.getV{G:Gc}{H:Hp}{W:Wn}{ds:List D}{xs:List V}{L:List Addr}{i:Nat}{d:D}(h:aD G H W ds xs L)(e:ds[i]? =some d):∃x,xs[i]? =some x:=let⟨x,_,h,_⟩:=h.get e;⟨x,h⟩
theorem NQ{te:TE}{f:En->Option D}(h:RfE G ob te f):RfI G ob (RL G.K te) (itS f):=λρ b items e σ H W F w R q=>by
 unfold itS at e;cases h1:f ρ with
 |none=>simp[h1]at e
 |some d=>
  have e:cH d=some (b,items):=by simpa[h1]using e
  refine h ρ d h1 σ H W F w _ λv H' L s r fr nd=>?_;obtain⟨a,xs,rfl,p,hs⟩:=Ek w s r fr e;refine⟨a,rfl,?_⟩;rcases hs with hs|hs
  .refine .inl ⟨⟨xs,hs H' W (LtB.up Up.refl)⟩,q _ H' s ⟨λi d e H2 B l=>?_,λi d e H2 B l x Y y=>?_,λH2 B l=>?_⟩⟩
   .obtain⟨x,hx⟩:=p.r.getV e
    exact⟨xs,x,hs H2 B l,hx⟩
   .obtain⟨rfl,y⟩:=y
    exact⟨Same.refl _,p.at l e (y xs (hs _ B l))⟩
   .exact⟨xs,hs H2 B l,by rw[p.r.length];exact Wa _⟩
  .refine .inr ⟨⟨xs,hs H' W (LtB.up Up.refl)⟩,q _ H' s ⟨λi d e H2 B l=>?_,λi d e H2 B l x Y y=>?_,λH2 B l=>?_⟩⟩
   .obtain⟨x,hx⟩:=p.r.getV e
    exact⟨xs,x,hs H2 B l,hx⟩
   .obtain⟨rfl,y⟩:=y
    exact⟨Same.refl _,p.at l e (y xs (hs _ B l))⟩
   .exact⟨xs,hs H2 B l,by rw[p.r.length];exact Wa _⟩
def lF:Nat->List D->List D
 |_,[]=>[]
 |i,d::r=>.tup [.int (i:Int),d]::lF (i+1) r
theorem nq:∀(ds:List D)(k i:Nat),(lF k ds)[i]? =(ds[i]?).map λd=>.tup [.int ((k+i:Nat):Int),d]
 |[],k,i=>by simp[lF]
 |d::r,k,i=>by
  cases i with
  |zero=>simp[lF]
  |succ i=>
   simp only[lF,W3];rw[nq r (k+1) i,show k+1+i=k+(i+1)by omega]
theorem mW:∀(ds:List D)(k:Nat),(lF k ds).length=ds.length
 |[],k=>rfl
 |d::r,k=>by simp[lF,mW r (k+1)]
def itE(f:En->Option (List D)):En->Option (Bool×List D):=λρ=>(f ρ).bind λds=>match ds with
 |[d]=>(cH d).map λp=>(p.1,lF 0 p.2)
 |_=>none
theorem JW{t:TA}{f:En->Option (List D)}(h:RfA G ob t f):RfI G ob (Lg G.K t) (itE f):=λρ b items e σ H W rl w R q=>by
 unfold itE at e;cases h1:f ρ with
 |none=>simp[h1]at e
 |some ds=>
  rw[h1]at e;simp only[V1]at e;split at e
  .rename_i d
   cases h2:cH d with
   |none=>simp[h2]at e
   |some p=>
    obtain⟨U,es⟩:=p;obtain⟨rfl,rfl⟩:U=b/\lF 0 es=items:=by simpa[h2]using e
    refine h ρ _ h1 σ H W rl w _ λvs H' L s r fr nd=>?_;obtain⟨v,ys,M,M',rfl,rfl,N,hy⟩:=r.inv;obtain⟨rfl,rfl⟩:=hy.inv0;rw[Wm]at N fr;obtain⟨a,xs,rfl,p,hs⟩:=Ek w s N fr h2;have a1:∀(i:Nat)(d':D)(O:Addr)(x:V)(H2:Hp)(B:Wn),(lF 0 es)[i]? =some d'->LtB U H' W H2 B->H2 O=none->xs[i]? =some x->Same H2 (upd H2 O (.tup [.int i,x]))/\Rep G (upd H2 O (.tup [.int i,x])) B d' (.ref O) []:=λi d' O x H2 B e l F J=>by
     rw[nq]at e;cases Z:es[i]? with
     |none=>rw[Z]at e;cases e
     |some d0=>
      rw[Z]at e;have e:D.tup [.int (i:Int),d0]=d':=by simpa using e
      subst e;have I:Same H2 (upd H2 O (.tup [.int i,x])):=Same.new F;refine⟨I,?_⟩;rw[Rep];refine⟨O,_,rfl,aM,.cons (M:=[]) (M':=[]) (by rw[Rep];exact⟨rfl,rfl⟩) (.one ((p.at l Z J).up (Up.same I)))⟩
    refine⟨a,rfl,?_⟩;have a0:∀(i:Nat)(d':D),(lF 0 es)[i]? =some d'->∃x,xs[i]? =some x:=λi d' e=>by
     rw[nq]at e;cases Z:es[i]? with
     |none=>rw[Z]at e;cases e
     |some d0=>exact p.r.getV Z
    rcases hs with hs|hs
    .refine .inl ⟨⟨xs,hs H' W (LtB.up Up.refl)⟩,q _ H' s ⟨λi d e H2 B l=>?_,λi d e H2 B l x Y y=>?_,λH2 B l=>?_⟩⟩
     .obtain⟨x,J⟩:=a0 i d e
      exact⟨xs,x,hs H2 B l,J⟩
     .obtain⟨O,v,F,rfl,N,rfl⟩:=y
      exact a1 i d O v H2 B e l F (N xs (hs _ B l))
     .exact⟨xs,hs H2 B l,by rw[mW,p.r.length];exact Wa _⟩
    .refine .inr ⟨⟨xs,hs H' W (LtB.up Up.refl)⟩,q _ H' s ⟨λi d e H2 B l=>?_,λi d e H2 B l x Y y=>?_,λH2 B l=>?_⟩⟩
     .obtain⟨x,J⟩:=a0 i d e
      exact⟨xs,x,hs H2 B l,J⟩
     .obtain⟨O,v,F,rfl,N,rfl⟩:=y
      exact a1 i d O v H2 B e l F (N xs (hs _ B l))
     .exact⟨xs,hs H2 B l,by rw[mW,p.r.length];exact Wa _⟩
  .cases e
section
variable{tg a b:Expr}{p pos tpos:Pos}{elts:List Expr}{x1:Nat}
theorem xP{f:En->Option (List D)}(q:∀c,Gl (X c) "range")(J:∀c,(X c).mg "range"=none)(Y:PVA X G ob [a] f)(hs:∀c,We [a] (X c).env=[(false,eval a (X c).env)]:=by intro _;rfl):PVI X G ob tg (.Call (.Name "range" p) [a] [] pos) (o8 f):=let⟨t,a1,a2⟩:=Y.ex;⟨_,λc=>wK (q c) (J c) (a1 c) (hs c),Qz a2⟩
theorem d7{f:En->Option D}(Y:PV X G ob a f)(I:∀c,(X c).K=G.K:=by intro _;rfl):PVI X G ob tg a (itS f):=let⟨t,a1,a2⟩:=Y.ex;⟨_,λc=>(by rw[←I c];exact Ih (a1 c)),NQ a2⟩
theorem Ja{f:En->Option (List D)}(q:∀c,Gl (X c) "enumerate")(J:∀c,(X c).mg "enumerate"=none)(Y:PVA X G ob [a] f)(hs:∀c,We [a] (X c).env=[(false,eval a (X c).env)]:=by intro _;rfl)(I:∀c,(X c).K=G.K:=by intro _;rfl):PVI X G ob (.Tuple elts x1 tpos) (.Call (.Name "enumerate" p) [a] [] pos) (itE f):=let⟨t,a1,a2⟩:=Y.ex;⟨_,λc=>(by rw[←I c];exact JP (q c) (J c) (a1 c) (hs c)),JW a2⟩
end
def forL(tg:D->En->Option En)(V:En->Option Fl):List D->En->Option Fl
 |[],ρ=>some (.nx ρ)
 |d::r,ρ=>(tg d ρ).bind λρ1=>match V ρ1 with
  |some (.nx ρ2)=>forL tg V r ρ2
  |some (.cnt ρ2)=>forL tg V r ρ2
  |some (.brk ρ2)=>some (.nx ρ2)
  |o=>o
def lM(it:En->Option (Bool×List D))(tg:D->En->Option En)(V:En->Option Fl):En->Option Fl:=λρ=>(it ρ).bind λp=>if p.1=true then forL tg V p.2 ρ else none
theorem tO{G:Gc}{H H2:Hp}{ρ:En}{σ σ2:L2.St}{S S2:Ad}{Fr:Addr->Prop}(s:Sta G H ob ρ σ S Fr)(m:Mv P H H2 σ σ2 S S2 []):Evo H H2 (wn ob S Fr) (wn ob S2 Fr)where
 k:=λb u U f=>by
  have B:¬inS S b:=λ⟨i,z⟩=>by
   cases N:ob i with
   |false=>exact f.2.1 ⟨i,N,z⟩
   |true=>exact f.2.2 ⟨i,N,z⟩
  have I:¬inS S2 b:=λ⟨i,z⟩=>(m.gr i b z).elim B λz=>z.elim (λz=>by cases z) λz=>by rw[U]at z;cases z
  exact⟨m.kp b u U B (by simp),f.1,λ⟨i,_,z⟩=>I ⟨i,z⟩,λ⟨i,_,z⟩=>I ⟨i,z⟩⟩
 t:=λb xs h=>by
  have O:∀u,H b=some u->muO u=false->H2 b=some u:=λu F mu=>m.kp b u F (λ⟨i,z⟩=>by
   obtain⟨o,N,J⟩:=s.mu z;rw[F]at N;cases N;rw[mu]at J;cases J) (by simp)
  exact O _ h rfl
theorem NZ{wi:TI}{g:TG}{tb:TS}{it:En->Option (Bool×List D)}{tg:D->En->Option En}{V:En->Option Fl}(hi:RfI G ob wi it)(hg:RfG G ob P g tg)(U:RfS G ob P tb V):RfS G ob P (Mi wi g tb) (lM it tg V):=λρ r e σ H S Fr s E q=>by
 unfold lM at e;cases h1:it ρ with
 |none=>simp[h1]at e
 |some p=>
  obtain⟨b,items⟩:=p;cases b with
  |false=>simp[h1]at e
  |true=>
   have e:forL tg V items ρ=some r:=by simpa[h1]using e
   refine hi ρ true items h1 σ H _ s.rel s.wok _ λJ H1 sm wk=>?_;have O:Sta G H1 ob ρ σ S Fr:=s.grow sm λa z=>.inl z;have m1:Mv P H H1 σ σ S S []:=⟨λb u h _ _=>sm b u h,λi a z=>.inl ⟨i,z⟩,.refl⟩;show 5
   .refine .inr ⟨wk.go i items[i] (by simp[N]) H2 _ (a1 (ρ2:=ρ2) m2),λF H'=>(i+1)+(m-1)=items.length/\∃ρ2 S2,Sta G H' ob ρ2 F S2 Fr/\Mv P H1 H' σ F S S2 []/\forL tg V (items.drop (i+1)) ρ2=some r,λF H' h=>⟨m-1,by omega,h⟩,λx Y hy=>?_⟩
    obtain⟨I,rx⟩:=wk.yld i items[i] (by simp[N]) H2 _ (a1 (ρ2:=ρ2) m2) x Y hy;rw[←XQ N,forL]at e2;cases Z:tg items[i] ρ2 with
    |none=>simp[Z]at e2
    |some a3=>
     rw[Z]at e2;simp only[V1]at e2;have a5:Sta G Y ob ρ2 σ2 S2 Fr:=B.grow I λa z=>.inl z;refine hg items[i] ρ2 a3 Z x σ2 Y S2 [] Fr (by rw[jn];exact a5) (by rw[jn];exact rx) List.nodup_nil (by simp) _ λa4 H4 S4 s4 m4=>?_;have a2:Mv P H1 H4 σ a4 S S4 []:=(m2.trans (S2:=S2) ⟨λb u h _ _=>I b u h,λi a z=>.inl ⟨i,z⟩,.refl⟩).trans m4;cases h5:V a3 with
     |none=>rw[h5]at e2;cases e2
     |some fl=>
      rw[h5]at e2;refine U a3 fl h5 a4 H4 S4 Fr s4 _ ?_;cases fl with
      |nx a0=>exact λF H' S' s' m'=>⟨by omega,a0,S',s',a2.trans m',e2⟩
      |cnt a0=>exact λF H' S' s' m'=>⟨by omega,a0,S',s',a2.trans m',e2⟩
      |brk a0=>cases e2;exact λF H' S' s' m'=>q1 F H' S' s' (a2.trans m')
      |ret d a0=>cases e2;exact q1.from a2
   .have hl:i=items.length:=by omega
    rw[hl,Yt,forL]at e2;cases e2;subst hl;exact .inl ⟨wk.stop H2 _ (a1 (ρ2:=ρ2) m2),q1 σ2 H2 S2 B m2⟩
theorem k_{tg iter:Expr}{V:List Stmt}{pos:Pos}{it:En->Option (Bool×List D)}{g:D->En->Option En}{f:En->Option Fl}(F:∀c,abh (model (X c).prog (X c).w) (X c).A (X c).env (X c).xe)(Z:∀c,(X c).calm=true)(hi:PVI X G ob tg iter it)(q:PVG X G ob P tg g)(U:mK X G ob P V f)(hs:∀c,∀x,Xl iter (X c).env x=pure x:=by intro _;intro _;rfl):PVS X G ob P (.For tg iter V [] pos) (lM it g f):=let⟨v,c1,c2⟩:=hi.ex;let⟨t,a1,a2⟩:=q.ex;let⟨u,b1,b2⟩:=U.ex;⟨_,λc=>Cm (F c) (Z c) (c1 c) (a1 c) (b1 c) (hs c),NZ c2 a2 b2⟩
def jY(c:En->Option (Bool×En))(V:En->Option Fl):Nat->En->Option Fl
 |0,_=>none
 |n+1,ρ=>(c ρ).bind λp=>if p.1=true then(match V p.2 with
  |some (.nx ρ2)=>jY c V n ρ2
  |some (.cnt ρ2)=>jY c V n ρ2
  |some (.brk ρ2)=>some (.nx ρ2)
  |o=>o)else some (.nx p.2)
theorem Hj{tc:TT}{tb:TS}{c:En->Option (Bool×En)}{V:En->Option Fl}(n:Nat)(Z:yo G ob tc c)(U:RfS G ob P tb V):RfS G ob P (Ke tc tb) (jY c V n):=λρ r e σ H S Fr s E q=>by
 refine⟨λm σ2 H2=>∃ρ2 S2,Sta G H2 ob ρ2 σ2 S2 Fr/\Mv P H H2 σ σ2 S S2 []/\jY c V m ρ2=some r,⟨n,ρ,S,s,.refl,e⟩,?_⟩;rintro m σ2 H2 ⟨ρ2,S2,B,m2,e2⟩;cases m with
 |zero=>cases e2
 |succ m=>
  rw[jY]at e2;cases h1:c ρ2 with
  |none=>simp[h1]at e2
  |some p=>
   obtain⟨b,a0⟩:=p;rw[h1]at e2;simp only[V1]at e2;refine Z ρ2 b a0 h1 σ2 H2 S2 Fr B _ λY S3 I f3=>?_;have m3:Mv P H Y σ σ2 S S3 []:=m2.trans f3.mv;cases b with
   |false=>
    simp only[WT,XD]at e2;cases e2;exact vU (q σ2 Y S3 I m3)
   |true=>
    simp only[WM]at e2;refine qw ⟨λF H'=>∃ρ2 S2,Sta G H' ob ρ2 F S2 Fr/\Mv P H H' σ F S S2 []/\jY c V m ρ2=some r,λF H' h=>⟨m,Z0 m,h⟩,?_⟩;cases h5:V a0 with
    |none=>rw[h5]at e2;cases e2
    |some J=>
     rw[h5]at e2;refine U a0 J h5 σ2 Y S3 Fr I _ ?_;cases J with
     |nx N=>exact λF H' S' s' O=>⟨N,S',s',m3.trans O,e2⟩
     |cnt N=>exact λF H' S' s' O=>⟨N,S',s',m3.trans O,e2⟩
     |brk N=>cases e2;exact λF H' S' s' O=>q F H' S' s' (m3.trans O)
     |ret d N=>cases e2;exact q.from m3
theorem Hb(n:Nat){c:Expr}{V:List Stmt}{pos:Pos}{fc:En->Option (Bool×En)}{f:En->Option Fl}(F:∀c,abh (model (X c).prog (X c).w) (X c).A (X c).env (X c).xe)(Z:BK X G ob c fc)(U:mK X G ob P V f):PVS X G ob P (.While c V [] pos) (jY fc f n):=let⟨v,c1,c2⟩:=Z.ex;let⟨u,b1,b2⟩:=U.ex;⟨_,λc=>Jd (F c) (c1 c) (b1 c),Hj n c2 b2⟩
def lU(i:Nat)(ρ:En):Option En:=match ρ[i]? with
 |some (some d)=>some (ρ.set i (some (fz d)))
 |_=>none
theorem Sta.freeze{G:Gc}{H:Hp}{ρ B:En}{σ:L2.St}{S:Ad}{Fr:Addr->Prop}{i:Nat}(s:Sta G H ob ρ σ S Fr)(e:lU i ρ=some B):Sta G H ob B σ (cz S i []) Fr:=by
 unfold lU at e;split at e
 .rename_i d h1
  cases e;obtain⟨v,h2,Z,U,F⟩:=s.move h1;have J:Sta G H ob (ρ.set i none) σ (cz S i []) Fr:=U.lessF λa z=>.inr z;have N:i<ρ.length:=(Hq.mp h1).1;have q:Rep G H (wn ob (cz S i []) Fr) (fz d) v []:=by
   refine F.fz ⟨λa f=>⟨λz=>f.1 (.inr z),f.2⟩,λa Y=>⟨λz=>s.fdj i a z Y,λ⟨j,q1,q2⟩=>?_,λ⟨j,q1,q2⟩=>?_⟩⟩ (.inl Z)
   .rcases bL q2 with⟨_,z⟩|⟨n,z⟩
    .cases z
    .exact n (s.dj j i a z Y)
   .rcases bL q2 with⟨_,z⟩|⟨n,z⟩
    .cases z
    .exact n (s.dj j i a z Y)
  refine⟨by simp[s.len],λj d' V=>?_,λj I=>?_,J.nd,J.dj,J.fdj,J.fdm⟩
  .by_cases e':j=i
   .subst e'
    have:fz d=d':=by simpa[N]using V
    subst this;exact⟨v,h2,by rw[cM];exact q,K9 d⟩
   .rw[List.getElem?_set_ne (WW e')]at V
    exact J.sl j d' (by rw[List.getElem?_set_ne (WW e')];exact V)
  .by_cases e':j=i
   .rw[e',cM]
   .exact J.em j λd'=>by have:=I d';rw[List.getElem?_set_ne (WW e')]at this⊢;exact this
 .cases e
def sFz(i:Nat)(f:En->Option Fl):En->Option Fl:=λρ=>(lU i ρ).bind f
theorem Q7{t:TS}{f:En->Option Fl}{i:Nat}(h:RfS G ob P t f):RfS G ob P t (sFz i f):=λρ r e σ H S Fr s E q=>by
 unfold sFz at e;cases h1:lU i ρ with
 |none=>simp[h1]at e
 |some ρ1=>
  have e:f ρ1=some r:=by simpa[h1]using e
  have m:Mv P H H σ σ S (cz S i []) []:=⟨λ_ _ h _ _=>h,λj a z=>(bL z).elim (λz=>by cases z.2) λz=>.inl ⟨j,z.2⟩,.refl⟩;exact h ρ1 r e σ H (cz S i []) Fr (s.freeze h1) E (q.from m)
theorem qC(i:Nat){st:Stmt}{f:En->Option Fl}(h:PVS X G ob P st f):PVS X G ob P st (sFz i f):=let⟨t,a1,a2⟩:=h.ex;⟨t,a1,Q7 a2⟩
end
mutual
def bJ:D->Bool
 |.tup ds=>aW ds
 |.lst m ds=>m== .own&&aW ds
 |.dct m _ ds=>m== .own&&aW ds
 |.ins m _ _ ds=>m== .own&&aW ds
 |_=>true
def aW:List D->Bool
 |[]=>true
 |d::r=>bJ d&&aW r
end
section
variable{G:Gc}{H:Hp}{W W':Wn}
mutual
theorem Rep.own:∀{d:D}{v:V}{L:List Addr},Rep G H W d v L->bJ d=true->Rep G H W' d v L
 |.non,v,L,h,_=>by rw[Rep]at h⊢;exact h
 |.bl _,v,L,h,_=>by rw[Rep]at h⊢;exact h
 |.int _,v,L,h,_=>by rw[Rep]at h⊢;exact h
 |.str _,v,L,h,_=>by rw[Rep]at h⊢;exact h
 |.ty _,v,L,h,_=>by rw[Rep]at h⊢;exact h
 |.tup ds,v,L,h,o=>by
  rw[Rep]at h⊢;obtain⟨a,xs,rfl,F,O⟩:=h;exact⟨a,xs,rfl,F,aD.own O (by simpa[bJ]using o)⟩
 |.lst m ds,v,L,h,o=>by
  rw[Rep]at h⊢;obtain⟨a,xs,M,rfl,O,hs⟩:=h;simp[bJ]at o;obtain⟨rfl,o⟩:=o;exact⟨a,xs,M,rfl,aD.own O o,hs⟩
 |.dct m ks ds,v,L,h,o=>by
  rw[Rep]at h⊢;obtain⟨a,xs,M,rfl,B,O,hs⟩:=h;simp[bJ]at o;obtain⟨rfl,o⟩:=o;exact⟨a,xs,M,rfl,B,aD.own O o,hs⟩
 |.ins m c fs ds,v,L,h,o=>by
  rw[Rep]at h⊢;obtain⟨a,C,dx,xs,M,rfl,N,B,O,hs⟩:=h;simp[bJ]at o;obtain⟨rfl,o⟩:=o;exact⟨a,C,dx,xs,M,rfl,N,B,aD.own O o,hs⟩
theorem aD.own:∀{ds:List D}{vs:List V}{L:List Addr},aD G H W ds vs L->aW ds=true->aD G H W' ds vs L
 |[],vs,L,h,_=>by rw[aD]at h⊢;exact h
 |d::r,vs,L,h,o=>by
  obtain⟨x,ys,M,M',rfl,rfl,h1,h2⟩:=h.inv;simp[aW]at o;exact .cons (Rep.own h1 o.1) (aD.own h2 o.2)
end
end
def W1(Fr:Addr->Prop):Wn:=⟨Fr,λ_=>False,λ_=>False⟩
def spP(G:Gc)(F:List D->Option D):Sp:=λvs H Q _=>∃(ds:List D)(Fr:Addr->Prop),aD G H (W1 Fr) ds vs []/\aA ds=true/\aB ds=true/\(∀a,Fr a->Mu H a)/\∃d,F ds=some d/\
 ∀v H' L,Same H H'->Rep G H' (W1 (plus L Fr)) d v L->(∀a∈L,H a=none)->L.Nodup->clean d=true->Q v H'
def en0(n:Nat)(ds:List D):En:=ds.map some++XX (n-ds.length) none
def fnP(B n:Nat)(V:En->Option Fl):List D->Option D:=λds=>if ds.length=B then(V (en0 n ds)).bind λr=>match r with
 |.ret d _=>some d
 |.nx _=>some .non
 |_=>none else none
theorem FN{n:Nat}{ds:List D}{i:Nat}{d:D}(h:(en0 n ds)[i]? =some (some d)):ds[i]? =some d:=by
 unfold en0 at h;by_cases hi:i<ds.length
 .rw[WX (by simpa using hi)]at h
  simpa using h
 .rw[XH (by simpa using Nat.le_of_not_lt hi)]at h
  rw[ab0]at h;split at h
  .simp at h
  .cases h
theorem VH{G:Gc}{H:Hp}{ob:Nat->Bool}{ds:List D}{vs:List V}{N:List Str}{Fr:Addr->Prop}(r:aD G H (W1 Fr) ds vs [])(B:aA ds=true)(J:aB ds=true)(fm:∀a,Fr a->Mu H a):Sta G H ob (en0 N.length ds) (L2.start N vs) (λ_=>[]) Fr where
 len:=by simp[en0,L2.start,r.length]
 sl:=λi d e=>by
  have e:=FN e;obtain⟨x,M,h1,h2,Z⟩:=r.get e;have:M=[]:=by simpa using Z
  subst this;refine⟨x,?_,h2.up ⟨Same.refl _,λb u U f=>⟨f.1,λ⟨j,_,z⟩=>(by cases z),λ⟨j,_,z⟩=>(by cases z)⟩,λb u U f=>f.elim⟩,by simp[clean,iJ B e,iw J e]⟩;unfold L2.start;have hi:i<vs.length:=(Hq.mp h1).1;rw[WX (by simpa using hi)];simp[h1]
 em:=λ_ _=>rfl
 nd:=λ_=>List.nodup_nil
 dj:=λi j a h=>by cases h
 fdj:=λi a _ h=>by cases h
 fdm:=fm
section
variable{P:Program}{w:World}{K:PySem.W.Frag}{mg:Str->Option Value}{base:Heap}
theorem Q6{a:Addr}:¬inS (λ_=>[]) a:=λ⟨_,z⟩=>by cases z
theorem okP{x Z:Str}{st:Stmt}{f:Addr}{fd:Xq}{N ps:List Str}{k:Nat}{ob Pr:Nat->Bool}{V:En->Option Fl}(F:Fun K x Z st f fd)(S:di N ps (aL st))
  (U:∀(J:Value)(A:Xk)(outer:List Env)(s:V0)(H:Hp)(E:XK),je k (A.deeper (aaC Z (aL st) s.heap.objs.size f J))->mK (λ_:Unit=>(Bd CX0 P w K mg base N Z (aL st) f J A outer s H E).nox) ⟨K,mg⟩ ob Pr (cG st) V) :
  gJ P w K mg base CX0 (k+1) f fd ps (spP ⟨K,mg⟩ (fnP ps.length N.length V)):=by
 refine F.ok S (λvs H Q E h=>?_) (λJ A outer s H vs Q E O h=>?_)
 .obtain⟨ds,Fr,r,_,_,_,d,e,_⟩:=h
  unfold fnP at e;split at e
  .rename_i hl
   rw[←r.length];exact hl
  .cases e
 .obtain⟨ds,Fr,r,c1,c2,fm,d,e,q⟩:=h
  obtain⟨t,a1,a2⟩:=(U J A outer s H E O).ex;refine⟨t,a1 (),?_⟩;unfold fnP at e;split at e
  .cases h1:V (en0 N.length ds)with
   |none=>simp[h1]at e
   |some fl=>
    rw[h1]at e;simp only[V1]at e;refine a2 _ fl h1 (L2.start N vs) H (λ_=>[]) Fr (VH (ob:=ob) r c1 c2 fm) _ ?_;have I:∀{S':Ad}{M:List Addr}{b:Addr},(wn ob S' (plus M Fr)).free b->(W1 (plus M Fr)).free b:=λz=>⟨z.1,id,id⟩;cases fl with
    |nx B=>
     cases e;exact λa3 H' S' s' m=>q .non H' [] (λb o h=>m.kp b o h Q6 (by simp)) (by rw[Rep];exact⟨rfl,rfl⟩) (by simp) List.nodup_nil rfl
    |ret d' B=>
     cases e;exact λv a3 H' M S' s' r' c n f m=>q v H' M (λb o h=>m.kp b o h Q6 (by simp)) (by
      have a0:=(by simpa[clean]using c:az d=true/\aq d=true);have ev:Evo H' H' (wn ob S' (plus M Fr)) (W1 (plus M Fr)):=⟨λb u h z=>⟨h,I z⟩,λ_ _ h=>h⟩;exact r'.mono ev (.inl a0.1) (.inl a0.2) λ_ _ _ h=>h) (λa Y=>(f a Y).resolve_left Q6) n c
    |brk B=>cases e
    |cnt B=>cases e
  .cases e
end
def cD(F:List D->Option D)(ds:List D):Option D:=(F (fzL ds)).bind λd=>if(aA ds&&aB ds)||bJ d then some d else none
theorem JS{G:Gc}{F:List D->Option D}{E:XK}:CaV G (λvs H Q=>spP G F (vs++[]) H Q E) (cD F):=λds d e xs H W Z r nd hn w Q q=>by
 unfold cD at e;cases h1:F (fzL ds)with
 |none=>simp[h1]at e
 |some d'=>
  rw[h1]at e;simp only[V1]at e;split at e
  .rename_i hc
   cases e;rw[Wm];by_cases V:aA ds=true/\aB ds=true
   .refine⟨fzL ds,λa=>(W.n a∨W.s a∨W.o a)/\a∉Z,r.fz ⟨λa f=>⟨λz=>z.1.elim f.1 λz=>z.elim f.2.1 f.2.2,id,id⟩,λa Y=>⟨λz=>z.2 Y,id,id⟩⟩ (.inl V),gB ds,gA ds,λa h=>w a h.1,d,h1,λv H' L s O fr n c=>?_⟩
    refine q v H' L s ?_ (λa Y=>.inr (fr a Y)) n;have B:=(by simpa[clean]using c:az d=true/\aq d=true);have I:∀a∈L,a∉Z:=λa Y z=>by
     obtain⟨o,N,_⟩:=r.dom a z;rw[fr a Y]at N;cases N
    have J:Evo H' H' (W1 (plus L λa=>(W.n a∨W.s a∨W.o a)/\a∉Z)) ((W.drop Z).add L):=⟨λb u h f=>⟨h,⟨λz=>z.elim (λz=>f.1 (.inl z)) λz=>f.1 (.inr ⟨.inl z.1,z.2⟩),λz=>f.1 (.inr ⟨.inr (.inl z),λy=>?_⟩),λz=>f.1 (.inr ⟨.inr (.inr z),λy=>?_⟩)⟩⟩,λ_ _ h=>h⟩
    .exact O.mono J (.inl B.1) (.inl B.2) λ_ _ _ h=>h
    .exact(hn b y).2.1 z
    .exact(hn b y).2.2 z
   .have N:bJ d=true:=by
     simp only[Bool.or_eq_true,Wr]at hc;exact hc.resolve_left V
    refine⟨fzL ds,λ_=>False,r.fz ⟨λa f=>⟨id,id,id⟩,λa Y=>⟨id,id,id⟩⟩ (.inr λa=>⟨id,id,id⟩),gB ds,gA ds,λa h=>h.elim,d,h1,λv H' L s O fr n c=>?_⟩;exact q v H' L s (O.own N) (λa Y=>.inr (fr a Y)) n
  .cases e
section
variable{ι:Type}{X:ι->Cx}{G:Gc}{ob:Nat->Bool}{e:Expr}{es:List Expr}{p pos:Pos}
theorem eG{k:Nat}{x:Str}{ps:List Str}{F:List D->Option D}{f:En->Option (List D)}(C:∀c,Cal (X c).prog (X c).w (X c).K (X c).mg (X c).base k x ps (spP G F))(O:∀c,je k (X c).A)(Y:PVA X G ob (e::es) f)(q:∀c,Gl (X c) x:=by intro _;rfl)(Z:1.20=false:=by decide)(V:∀c,We (e::es) (X c).env=(false,eval e (X c).env)::We es (X c).env:=by intro _;rfl)(B:∀c,(Yj pos (We es (X c).env)).any (·.1)=false:=by intro _;rfl) :
 PV X G ob (.Call (.Name x p) (e::es) [] pos) (eAp (cD F) f):=let⟨t,a1,a2⟩:=Y.ex;⟨_,λc=>Jx (C c) (O c) (q c) (a1 c) Z (V c) (B c),t_ JS a2⟩
end
section
variable{G:Gc}{H:Hp}{W W':Wn}
theorem dg.fz2{F:Addr->HO->Prop}{a:Addr}{o:HO}{m:Mk}{L M:List Addr}(hs:Les H W W' L)(U:m≠.brw∨∀a,W.s a->W'.free a)(N:m≠.bro∨mX W')(h:dg F H W a o m L M):dg F H W' a o (mkF m) [] []:=by
 cases m with
 |own=>exact⟨h.1,hs.l a (by rw[h.2];simp),rfl,rfl⟩
 |frz=>exact⟨h.1,hs.f a h.2.1,rfl,rfl⟩
 |brw=>exact⟨h.1,U.elim (λz=>absurd rfl z) λz=>z a h.2.1,rfl,rfl⟩
 |bro=>exact⟨h.1,N.elim (λz=>absurd rfl z) λz=>z a,rfl,rfl⟩
 |scr=>exact⟨h.1.imp (λz=>⟨z.1,hs.f a z.2⟩) id,rfl,rfl⟩
mutual
theorem Rep.fz2:∀{d:D}{v:V}{L:List Addr},Rep G H W d v L->Les H W W' L->(az d=true∨∀a,W.s a->W'.free a)->(aq d=true∨mX W')->Rep G H W' (fz d) v []
 |.non,v,L,h,_,_,_=>by rw[Rep]at h;simp[Jb.fz,Rep,h]
 |.bl _,v,L,h,_,_,_=>by rw[Rep]at h;simp[Jb.fz,Rep,h]
 |.int _,v,L,h,_,_,_=>by rw[Rep]at h;simp[Jb.fz,Rep,h]
 |.str _,v,L,h,_,_,_=>by rw[Rep]at h;simp[Jb.fz,Rep,h]
 |.ty _,v,L,h,_,_,_=>by rw[Rep]at h;simp[Jb.fz,Rep,h]
 |.tup ds,v,L,h,hs,c,o=>by
  rw[Rep]at h;rw[Jb.fz,Rep];obtain⟨a,xs,rfl,F,O⟩:=h;exact⟨a,xs,rfl,F,aD.fz2 O hs (by simpa[az]using c) (by simpa[aq]using o)⟩
 |.lst m ds,v,L,h,he,c,o=>by
  rw[Rep]at h;rw[Jb.fz,Rep];obtain⟨a,xs,M,rfl,O,hs⟩:=h;exact⟨a,xs,[],rfl,aD.fz2 O (he.sub λc Z=>hs.sub.subset Z) (c.imp (λz=>by simp[az]at z;exact z.2) id) (o.imp (λz=>by simp[aq]at z;exact z.2) id),hs.fz2 he (c.imp (λz=>by simp[az]at z;exact z.1) id) (o.imp (λz=>by simp[aq]at z;exact z.1) id)⟩
 |.dct m ks ds,v,L,h,he,c,o=>by
  rw[Rep]at h;rw[Jb.fz,Rep];obtain⟨a,xs,M,rfl,B,O,hs⟩:=h;exact⟨a,xs,[],rfl,B,aD.fz2 O (he.sub λc Z=>hs.sub.subset Z) (c.imp (λz=>by simp[az]at z;exact z.2) id) (o.imp (λz=>by simp[aq]at z;exact z.2) id),hs.fz2 he (c.imp (λz=>by simp[az]at z;exact z.1) id) (o.imp (λz=>by simp[aq]at z;exact z.1) id)⟩
 |.ins m c' fs ds,v,L,h,he,c,o=>by
  rw[Rep]at h;rw[Jb.fz,Rep];obtain⟨a,C,dx,xs,M,rfl,N,B,O,hs⟩:=h;exact⟨a,C,dx,xs,[],rfl,N,B,aD.fz2 O (he.sub λc Z=>hs.sub.subset Z) (c.imp (λz=>by simp[az]at z;exact z.2) id) (o.imp (λz=>by simp[aq]at z;exact z.2) id),hs.fz2 he (c.imp (λz=>by simp[az]at z;exact z.1) id) (o.imp (λz=>by simp[aq]at z;exact z.1) id)⟩
theorem aD.fz2:∀{ds:List D}{vs:List V}{L:List Addr},aD G H W ds vs L->Les H W W' L->(aA ds=true∨∀a,W.s a->W'.free a)->(aB ds=true∨mX W')->aD G H W' (fzL ds) vs []
 |[],vs,L,h,_,_,_=>by obtain⟨rfl,_⟩:=h.inv0;rw[fzL];exact .nil
 |d::r,vs,L,h,he,c,o=>by
  obtain⟨x,ys,M,M',rfl,rfl,h1,h2⟩:=h.inv;rw[fzL];exact .cons (M:=[]) (M':=[]) (Rep.fz2 h1 (he.sub λc Z=>Wf _ Z) (c.imp (λz=>by simp[aA]at z;exact z.1) id) (o.imp (λz=>by simp[aB]at z;exact z.1) id))
   (aD.fz2 h2 (he.sub λc Z=>VR _ Z) (c.imp (λz=>by simp[aA]at z;exact z.2) id) (o.imp (λz=>by simp[aB]at z;exact z.2) id))
end
end
def spI(G:Gc)(ob pr:Nat->Bool)(F:List D->Option (D×List D)):Sp:=λvs H Q _=>∃(ds:List D)(S:Ad)(Fr:Addr->Prop),Sta G H ob (ds.map some) (vs.map some) S Fr/\(∀i,pr i=false->S i=[])/\∃d I,F ds=some (d,I)/\
 ∀v H' M S',Sta G H' ob (I.map some) (vs.map some) S' (plus M Fr)->Rep G H' (wn ob S' (plus M Fr)) d v M->clean d=true->M.Nodup->(∀a∈M,inS S a∨H a=none)->Mv (λ_=>false) H H' [] [] S S' []->Q v H'
def outs(pr:Nat->Bool)(ρ:En):Nat->List D->Option (List D)
 |_,[]=>some []
 |i,d::r=>(if pr i=true then(match ρ[i]? with
  |some (some e)=>some e
  |_=>none)else some d).bind λe=>(outs pr ρ (i+1) r).map λt=>e::t
def fnI(pr:Nat->Bool)(B n:Nat)(V:En->Option Fl):List D->Option (D×List D):=λds=>if ds.length=B then(V (en0 n ds)).bind λr=>match r with
 |.ret d ρ=>(outs pr ρ 0 ds).map λo=>(d,o)
 |.nx ρ=>(outs pr ρ 0 ds).map λo=>(.non,o)
 |_=>none else none
theorem Fg{pr:Nat->Bool}{ρ:En}:∀{ds I:List D}{k:Nat},outs pr ρ k ds=some I->I.length=ds.length/\∀i d,I[i]? =some d->(pr (k+i)=true/\ρ[k+i]? =some (some d))∨(pr (k+i)=false/\ds[i]? =some d)
 |[],I,k,e=>by
  cases e;exact⟨rfl,λi d h=>by simp at h⟩
 |d0::r,I,k,e=>by
  rw[outs]at e;cases h2:outs pr ρ (k+1) r with
  |none=>
   rw[h2]at e;simp at e
  |some t=>
   rw[h2]at e;obtain⟨l1,l2⟩:=Fg h2;have Z:∃U,I=U::t/\((pr k=true/\ρ[k]? =some (some U))∨(pr k=false/\d0=U)):=by
    split at e
    .rename_i hp
     split at e
     .rename_i U h0
      exact⟨U,by simpa using e.symm,.inl ⟨hp,h0⟩⟩
     .simp at e
    .rename_i hp
     exact⟨d0,by simpa using e.symm,.inr ⟨by simpa using hp,rfl⟩⟩
   obtain⟨U,rfl,B⟩:=Z;refine⟨by simp[l1],λi d h=>?_⟩;cases i with
   |zero=>
    have:U=d:=by simpa using h
    subst this;exact B.imp id λz=>⟨z.1,by simp[z.2]⟩
   |succ i=>
    have:=l2 i d (by simpa using h);rw[show k+1+i=k+(i+1)by omega]at this;simpa using this
theorem lg{α:Type}{xs:List α}{i:Nat}{x:α}(h:(xs.map some)[i]? =some (some x)):xs[i]? =some x:=by
 rw[List.getElem?_map]at h;cases e:xs[i]? with
 |none=>rw[e]at h;cases h
 |some y=>rw[e]at h;simpa using h
theorem d9{α:Type}{xs:List α}{i:Nat}{x:α}(h:xs[i]? =some x):(xs.map some)[i]? =some (some x):=by rw[List.getElem?_map,h];rfl
theorem Vl{G:Gc}{H:Hp}{ob:Nat->Bool}{ds:List D}{vs:List V}{N:List Str}{S:Ad}{Fr:Addr->Prop}(s:Sta G H ob (ds.map some) (vs.map some) S Fr):Sta G H ob (en0 N.length ds) (L2.start N vs) S Fr where
 len:=by have:=s.len;simp at this;simp[en0,L2.start,this]
 sl:=λi d e=>by
  obtain⟨v,h1,h2,Z⟩:=s.sl i d (d9 (FN e));refine⟨v,?_,h2,Z⟩;unfold L2.start;have hi:i<(vs.map some).length:=(Hq.mp h1).1;rw[WX hi];exact h1
 em:=λi h=>s.em i λd e=>h d (by
  unfold en0;have hi:i<(ds.map some).length:=(Hq.mp e).1;rw[WX hi];exact e)
 nd:=s.nd
 dj:=s.dj
 fdj:=s.fdj
 fdm:=s.fdm
section
variable{P:Program}{w:World}{K:PySem.W.Frag}{mg:Str->Option Value}{base:Heap}
theorem Ak{G:Gc}{H H':Hp}{ob pr:Nat->Bool}{ds I:List D}{vs:List V}{N:List Str}{S S1:Ad}{Fr:Addr->Prop}{ρ:En}{σ:L2.St}{M:List Addr}(s:Sta G H ob (ds.map some) (vs.map some) S Fr)(F:∀i,pr i=false->S i=[])(O:Sta G H' ob ρ σ S1 (plus M Fr))
  (m:Mv pr H H' (L2.start N vs) σ S S1 []) (hM:∀a∈M,inS S a∨H a=none) (e:outs pr ρ 0 ds=some I) :
  Sta G H' ob (I.map some) (vs.map some) (λi=>if pr i=true/\i<ds.length then S1 i else[]) (plus M Fr):=by
 obtain⟨Y,q⟩:=Fg e;have lv:ds.length=vs.length:=by have:=s.len;simpa using this
 have sub:∀{i a},a∈(if pr i=true/\i<ds.length then S1 i else[])->a∈S1 i:=λ{i a} z=>by
  split at z
  .exact z
  .cases z
 refine⟨by simp[Y,lv],λi d h=>?_,λi h=>?_,λi=>?_,λi j a h1 h2=>O.dj i j a (sub h1) (sub h2),λi a h z=>O.fdj i a h (sub z),O.fdm⟩
 .have h:=lg h
  have hi:i<ds.length:=by rw[←Y];exact(Hq.mp h).1
  rcases q i d h with⟨h1,h2⟩|⟨h1,h2⟩
  .rw[Zm]at h1 h2
   obtain⟨v,q1,q2,q3⟩:=O.sl i d h2;have e1:=m.pr i h1;rw[q1]at e1;refine⟨v,?_,?_,q3⟩
   .unfold L2.start at e1
    rw[WX (by simp;omega)]at e1;exact e1.symm
   .rw[Wd ⟨h1,hi⟩]
    have a0:=(by simpa[clean]using q3:az d=true/\aq d=true);have ev:Evo H' H' (wn ob S1 (plus M Fr)) (wn ob (λi=>if pr i=true/\i<ds.length then S1 i else[]) (plus M Fr)):=⟨λb u U f=>⟨U,⟨f.1,λ⟨j,B,J⟩=>f.2.1 ⟨j,B,sub J⟩,λ⟨j,B,J⟩=>f.2.2 ⟨j,B,sub J⟩⟩⟩,λ_ _ h=>h⟩;exact q2.mono ev (.inl a0.1) (.inl a0.2) λ_ _ _ h=>h
  .rw[Zm]at h1
   obtain⟨v,q1,q2,q3⟩:=s.sl i d (d9 h2);refine⟨v,q1,?_,q3⟩;rw[Wo λz=>by rw[h1]at z;cases z.1];rw[F i h1]at q2;have a0:=(by simpa[clean]using q3:az d=true/\aq d=true);have Z:=tO s (σ2:=σ) (H2:=H') (S2:=S1) (P:=λ_=>false) ⟨m.kp,m.gr,λi h=>by cases h⟩;have ev:Evo H H' (wn ob S Fr) (wn ob (λi=>if pr i=true/\i<ds.length then S1 i else[]) (plus M Fr)):=⟨λb u U f=>?_,Z.t⟩
   .exact q2.mono ev (.inl a0.1) (.inl a0.2) (by simp)
   .obtain⟨k1,k2⟩:=Z.k b u U f
    refine⟨k1,λz=>z.elim (λz=>?_) f.1,λ⟨j,B,J⟩=>k2.2.1 ⟨j,B,sub J⟩,λ⟨j,B,J⟩=>k2.2.2 ⟨j,B,sub J⟩⟩;rcases hM b z with⟨j,y⟩|y
    .cases ho:ob j with
     |false=>exact f.2.1 ⟨j,ho,y⟩
     |true=>exact f.2.2 ⟨j,ho,y⟩
    .rw[U]at y;cases y
 .split
  .rename_i z
   exfalso;have hi:i<I.length:=by rw[Y];exact z.2
   exact h I[i] (d9 (by simp[hi]))
  .rfl
 .show(if pr i=true/\i<ds.length then S1 i else[]).Nodup
  split
  .exact O.nd i
  .exact List.nodup_nil
theorem okI{x Z:Str}{st:Stmt}{f:Addr}{fd:Xq}{N ps:List Str}{k:Nat}{ob pr:Nat->Bool}{V:En->Option Fl}(F:Fun K x Z st f fd)(S:di N ps (aL st))
  (U:∀(J:Value)(A:Xk)(outer:List Env)(s:V0)(H:Hp)(E:XK),je k (A.deeper (aaC Z (aL st) s.heap.objs.size f J))->mK (λ_:Unit=>(Bd CX0 P w K mg base N Z (aL st) f J A outer s H E).nox) ⟨K,mg⟩ ob pr (cG st) V) :
  gJ P w K mg base CX0 (k+1) f fd ps (spI ⟨K,mg⟩ ob pr (fnI pr ps.length N.length V)):=by
 refine F.ok S (λvs H Q E h=>?_) (λJ A outer s H vs Q E O h=>?_)
 .obtain⟨ds,S,Fr,st,_,d,ds',e,_⟩:=h
  unfold fnI at e;split at e
  .rename_i hl
   have:=st.len;simp at this;rw[←this];exact hl
  .cases e
 .obtain⟨ds,S0,Fr,st,hp,d,ds',e,q⟩:=h
  obtain⟨t,a1,a2⟩:=(U J A outer s H E O).ex;refine⟨t,a1 (),?_⟩;unfold fnI at e;split at e
  .cases h1:V (en0 N.length ds)with
   |none=>simp[h1]at e
   |some fl=>
    rw[h1]at e;simp only[V1]at e;refine a2 _ fl h1 (L2.start N vs) H S0 Fr (Vl st) _ ?_;have sub:∀{S1:Ad}{i a},a∈(if pr i=true/\i<ds.length then S1 i else[])->a∈S1 i:=λ{S1 i a} z=>by
     split at z
     .exact z
     .cases z
    cases fl with
    |nx B=>
     cases h2:outs pr B 0 ds with
     |none=>simp[h2]at e
     |some o=>
      obtain⟨rfl,rfl⟩:D.non=d/\o=ds':=by simpa[h2]using e
      refine λa0 H' S1 Y m=>q .non H' [] _ (Ak st hp (M:=[]) (by rw[jn];exact Y) m (by simp) h2) (by rw[Rep];exact⟨rfl,rfl⟩) rfl List.nodup_nil (by simp) ⟨m.kp,λi a z=>m.gr i a (sub z),λi h=>by cases h⟩
    |ret d' B=>
     cases h2:outs pr B 0 ds with
     |none=>simp[h2]at e
     |some o=>
      obtain⟨rfl,rfl⟩:d'=d/\o=ds':=by simpa[h2]using e
      refine λv a0 H' M S1 Y r c n f m=>q v H' M _ (Ak st hp Y m f h2) ?_ c n f ⟨m.kp,λi a z=>m.gr i a (sub z),λi h=>by cases h⟩;have I:=(by simpa[clean]using c:az d'=true/\aq d'=true);have ev:Evo H' H' (wn ob S1 (plus M Fr)) (wn ob (λi=>if pr i=true/\i<ds.length then S1 i else[]) (plus M Fr)):=⟨λb u U f=>⟨U,⟨f.1,λ⟨j,z1,z2⟩=>f.2.1 ⟨j,z1,sub z2⟩,λ⟨j,z1,z2⟩=>f.2.2 ⟨j,z1,sub z2⟩⟩⟩,λ_ _ h=>h⟩;exact r.mono ev (.inl I.1) (.inl I.2) λ_ _ _ h=>h
    |brk B=>cases e
    |cnt B=>cases e
  .cases e
end
def RfM(G:Gc)(ob:Nat->Bool)(t:TA)(js:List Nat)(f:En->Option (List D×En)):Prop:=∀(ρ:En)(ds:List D)(B:En),f ρ=some (ds,B)->∀(σ:L2.St)(H:Hp)(S:Ad)(Fr:Addr->Prop),Sta G H ob ρ σ S Fr->
 ∀us:List V,js.map (λj=>σ[j]?)=us.map (λu=>some (some u))->∀Q:List V->Hp->Prop,
 (∀vs H' M S',Sta G H' ob B σ S' (plus M Fr)->aD G H' (wn ob S' (plus M Fr)) ds vs M->M.Nodup->Eff ob H H' S S' M->Q (us++vs) H')->t σ H Q
structure PVM{ι:Type}(X:ι->Cx)(G:Gc)(ob:Nat->Bool)(es:List Expr)(js:List Nat)(f:En->Option (List D×En)):Prop where
 mk::(ex:∃t,(∀c,PA (X c) es t)/\RfM G ob t js f)
section
variable{ι:Type}{X:ι->Cx}{G:Gc}{ob:Nat->Bool}
theorem bF{es:List Expr}{f:En->Option (List D×En)}(h:uZ X G ob es f):PVM X G ob es [] f:=by
 obtain⟨t,V,I⟩:=h.ex;refine⟨t,V,λρ ds B e σ H S Fr s us F Q q=>?_⟩;have:us=[]:=by simpa using F
 subst this;exact I ρ ds B e σ H S Fr s Q q
theorem bG(i:Nat){x:Str}{pos:Pos}{es:List Expr}{js:List Nat}{f:En->Option (List D×En)}(h:PVM X G ob es js f)(U:∀c,(X c).N[i]? =some x:=by intro _;rfl)(J:∀c,Vis (X c).env.scope x:=by intro _;first|exact Yk rfl|exact Xv (Yk rfl)|exact Xv (Xv rfl))(hd:1.20=false:=by decide)(I:(x==("__classdict__":Str))=false:=by decide)(hs:∀c,We (.Name x pos::es) (X c).env=(false,eval (.Name x pos) (X c).env)::We es (X c).env:=by intro _;rfl):PVM X G ob (.Name x pos::es) (i::js) f:=by
 obtain⟨t,V,O⟩:=h.ex;refine⟨_,λc=>pU (pv i (U c) (J c) hd I) (V c) (hs c),λρ ds B e σ H S Fr s us F Q q=>?_⟩;cases us with
 |nil=>simp at F
 |cons u us=>
  rw[V7,V7]at F;injection F with h1 h2;exact⟨u,h1,O ρ ds B e σ H S Fr s us h2 _ λvs H' M S' s' r n Y=>q vs H' M S' s' r n Y⟩
def objs(js:List Nat)(ρ:En):Option (List D):=js.mapM λj=>ρ[j]?.bind id
def mQ:List Nat->List D->En->En
 |j::js,d::ds,ρ=>mQ js ds (ρ.set j (some d))
 |_,_,ρ=>ρ
def eIo(F:List D->Option (D×List D))(js:List Nat)(f:En->Option (List D×En)):En->Option (D×En):=λρ=>if(objs js ρ).isSome=true then(f ρ).bind λp=>(objs js p.2).bind λos=>if aB p.1=true then(F (os++fzL p.1)).bind λq=>
 if aA p.1=true∨(bJ q.1=true/\aW (q.2.take js.length)=true)then some (q.1,mQ js q.2 p.2)else none else none else none
theorem yO{ρ:En}:∀{js:List Nat}{os:List D},objs js ρ=some os->os.length=js.length/\∀(k j:Nat),js[k]? =some j->∃d,os[k]? =some d/\ρ[j]? =some (some d)
 |[],os,h=>by
  have:os=[]:=by simpa[objs]using h.symm
  subst this;exact⟨rfl,λk j h=>by simp at h⟩
 |j::js,os,h=>by
  unfold objs at h;rw[List.mapM_cons]at h;cases h1:ρ[j]?.bind id with
  |none=>simp[h1]at h
  |some d=>
   cases h2:js.mapM (λj=>ρ[j]?.bind id)with
   |none=>simp[h1,h2]at h
   |some t=>
    have:os=d::t:=by simpa[h1,h2]using h.symm
    subst this;obtain⟨l,g⟩:=yO (js:=js) (os:=t) h2;refine⟨by simp[l],λk i e=>?_⟩;cases k with
    |zero=>
     have:j=i:=by simpa using e
     subst this;refine⟨d,rfl,?_⟩;cases Z:ρ[j]? with
     |none=>rw[Z]at h1;cases h1
     |some o=>rw[Z]at h1;simpa using h1
    |succ k=>simpa using g k i (by simpa using e)
theorem wI:∀(js:List Nat)(ds:List D)(ρ:En),(mQ js ds ρ).length=ρ.length
 |[],ds,ρ=>by cases ds<;>rfl
 |_::_,[],ρ=>rfl
 |j::js,d::ds,ρ=>by rw[mQ,wI js ds];simp
theorem mz:∀{js:List Nat}{ds:List D}{ρ:En}{j:Nat},j∉js->(mQ js ds ρ)[j]? =ρ[j]?
 |[],ds,ρ,j,_=>by cases ds<;>rfl
 |_::_,[],ρ,j,_=>rfl
 |i::js,d::ds,ρ,j,h=>by
  rw[mQ,mz (λz=>h (Ws _ z)),List.getElem?_set_ne λz=>h (by rw[z];exact WR)]
theorem uP:∀{js:List Nat}{ds:List D}{ρ:En}{k j:Nat}{d:D},js.Nodup->js[k]? =some j->ds[k]? =some d->j<ρ.length->(mQ js ds ρ)[j]? =some (some d)
 |[],ds,ρ,k,j,d,_,h,_,_=>by simp at h
 |_::_,[],ρ,k,j,d,_,_,h,_=>by simp at h
 |i::js,d0::ds,ρ,k,j,d,n,h1,h2,hl=>by
  rw[mQ];cases k with
  |zero=>
   have e1:i=j:=by simpa using h1
   have e2:d0=d:=by simpa using h2
   subst e1 e2;rw[mz (W_.mp n).1];simp[hl]
  |succ k=>exact uP (W_.mp n).2 (by simpa using h1) (by simpa using h2) (by simpa using hl)
def pick(S:Ad)(js:List Nat):Ad:=λi=>match js[i]? with
 |some j=>S j
 |none=>[]
theorem iV{S:Ad}{js:List Nat}{i:Nat}{a:Addr}(h:a∈pick S js i):∃j,js[i]? =some j/\a∈S j:=by
 unfold pick at h;split at h
 .rename_i j e;exact⟨j,e,h⟩
 .cases h
def back(S:Ad)(js:List Nat)(q:Ad):Ad:=λj=>match js.idxOf? j with
 |some i=>q i
 |none=>S j
theorem vp{js:List Nat}{j i:Nat}(h:js.idxOf? j=some i):js[i]? =some j:=by
 obtain⟨h1,h2,Z⟩:=W6.mp h;have:js[i]=j:=by simpa using h2
 rw[Wh h1,this]
theorem Az{js:List Nat}{j:Nat}(h:js.idxOf? j=none):j∉js:=by
 intro z;have:=Ye.mp h j z;simp at this
theorem Qk{js:List Nat}(n:js.Nodup){i j:Nat}(h:js[i]? =some j):js.idxOf? j=some i:=by
 cases e:js.idxOf? j with
 |none=>exact absurd (Wu h) (Az e)
 |some k=>
  have:=vp e;have B:k<js.length:=(Hq.mp this).1;rw[(abE B n).mp (this.trans h.symm)]
theorem Nz{S q:Ad}{js:List Nat}(n:js.Nodup){i j:Nat}(h:js[i]? =some j):back S js q j=q i:=by unfold back;rw[Qk n h]
theorem xj{S q:Ad}{js:List Nat}{j:Nat}(h:j∉js):back S js q j=S j:=by
 unfold back;split
 .rename_i i e;exact absurd (Wu (vp e)) h
 .rfl
theorem j8{S q:Ad}{js:List Nat}{j:Nat}{a:Addr}(h:a∈back S js q j):(∃i,js[i]? =some j/\a∈q i)∨(j∉js/\a∈S j):=by
 unfold back at h;split at h
 .rename_i i e;exact .inl ⟨i,vp e,h⟩
 .rename_i e;exact .inr ⟨Az e,h⟩
theorem xX{ds:List D}{k i:Nat}{d:D}(h:aW (ds.take k)=true)(e:ds[i]? =some d)(hi:i<k):bJ d=true:=by
 induction ds generalizing k i with
 |nil=>simp at e
 |cons a r O=>
  cases k with
  |zero=>omega
  |succ k=>
   rw[List.take_succ_cons,aW,Wr]at h;cases i with
   |zero=>
    have:a=d:=by simpa using e
    rw[←this];exact h.1
   |succ i=>exact O h.2 (by simpa using e) 1.10
theorem Ed{σ:L2.St}:∀{js:List Nat},(∀j∈js,∃u,σ[j]? =some (some u))->∃us:List V,js.map (λj=>σ[j]?)=us.map (λu=>some (some u))
 |[],_=>⟨[],rfl⟩
 |j::js,h=>by
  obtain⟨us,F⟩:=Ed (js:=js) λi hi=>h i (Ws _ hi);obtain⟨u,q⟩:=h j WR;exact⟨u::us,by rw[V7,V7,F,q]⟩
theorem QT{oc pr:Nat->Bool}{F:List D->Option (D×List D)}{t:TA}{js:List Nat}{f:En->Option (List D×En)}(I:js.Nodup)(N:∀j∈js,ob j=true)(hp:∀i,i<js.length->pr i=true)(h:RfM G ob t js f){E:XK} :
  km G ob (λσ H Q=>t σ H λvs H1=>spI G oc pr F (vs++[]) H1 Q E) (eIo F js f):=λρ d B e σ H S Fr s Q q=>by
 unfold eIo at e;split at e
 .rename_i hsome
  cases h0:objs js ρ with
  |none=>rw[h0]at hsome;cases hsome
  |some d4=>
   cases h1:f ρ with
   |none=>simp[h1]at e
   |some p=>
    obtain⟨ds,ρ1⟩:=p;rw[h1]at e;simp only[V1]at e;cases h2:objs js ρ1 with
    |none=>simp[h2]at e
    |some os=>
     rw[h2]at e;simp only[V1]at e;split at e
     .rename_i hbro
      cases h3:F (os++fzL ds)with
      |none=>simp[h3]at e
      |some z=>
       obtain⟨d1,a2⟩:=z;rw[h3]at e;simp only[V1]at e;split at e
       .rename_i b5
        obtain⟨rfl,rfl⟩:d1=d/\mQ js a2 ρ1=B:=by simpa using e
        obtain⟨l0,g0⟩:=yO h0;obtain⟨l1,g1⟩:=yO h2;have a8:∃us:List V,js.map (λj=>σ[j]?)=us.map (λu=>some (some u)):=by
         have:∀j∈js,∃u,σ[j]? =some (some u):=λj I=>by
          obtain⟨k,hk⟩:=aaV.mp I;obtain⟨d0,_,q2⟩:=g0 k j hk;obtain⟨v,q3,_⟩:=s.sl j d0 q2;exact⟨v,q3⟩
         exact Ed this
        obtain⟨us,a8⟩:=a8;have b6:us.length=js.length:=by have:=congrArg Yl a8;simpa using this.symm
        have c6:∀(k j:Nat)(u:V),js[k]? =some j->us[k]? =some u->σ[j]? =some (some u):=λk j u h1 h2=>by
         have:=congrArg (λl=>l[k]?) a8;simp only[List.getElem?_map,h1,h2,W2,ZM]at this;exact this
        refine h ρ ds ρ1 h1 σ H S Fr s us a8 _ λvs H1 M S1 O r1 nd1 c3=>?_;rw[Wm];have b1:∀{i a},a∈pick S1 js i->inO ob S1 a:=λ{i a} z=>by
         obtain⟨j,e,y⟩:=iV z;exact⟨j,N j (Wu e),y⟩
        have a1:∀{a},inS (pick S1 js) a->inO ob S1 a:=λ⟨i,z⟩=>b1 z;have b2:∀{i a},a∈S1 i->¬(wn ob S1 (plus M Fr)).free a:=λ{i a} z f=>by
         cases a9:ob i with
         |false=>exact f.2.1 ⟨i,a9,z⟩
         |true=>exact f.2.2 ⟨i,a9,z⟩
        let a4:Addr->Prop:=λa=>aA ds=true/\((Fr a∨inS S1 a)/\¬inS (pick S1 js) a)
        have b0:∀a,(wn ob S1 (plus M Fr)).free a->(wn oc (pick S1 js) a4).free a:=λa f=>by
         refine⟨λz=>?_,λ⟨i,_,z⟩=>?_,λ⟨i,_,z⟩=>?_⟩
         .rcases z.2.1 with y|⟨i,y⟩
          .exact f.1 (.inr y)
          .exact b2 y f
         .exact f.2.2 (b1 z)
         .exact f.2.2 (b1 z)
        have c8:∀a∈M,¬Fr a:=λa Y z=>by
         rcases c3.fm a Y with y|y
         .exact s.notO z y
         .obtain⟨o,N,_⟩:=s.fdm a z
          rw[y]at N;cases N
        have b7:∀a∈M,(wn oc (pick S1 js) a4).free a:=λa Y=>by
         refine⟨λz=>?_,λ⟨i,_,z⟩=>?_,λ⟨i,_,z⟩=>?_⟩
         .rcases z.2.1 with y|⟨i,y⟩
          .exact c8 a Y y
          .exact O.fdj i a (.inl Y) y
         .obtain⟨j,_,y⟩:=iV z;exact O.fdj j a (.inl Y) y
         .obtain⟨j,_,y⟩:=iV z;exact O.fdj j a (.inl Y) y
        have c7:aD G H1 (wn oc (pick S1 js) a4) (fzL ds) vs []:=by
         refine r1.fz2 ⟨b0,b7⟩ ?_ (.inl hbro);by_cases c4:aA ds=true
         .exact .inl c4
         .refine .inr λa Y=>⟨λz=>c4 z.1,λ⟨i,_,z⟩=>?_,λ⟨i,_,z⟩=>?_⟩
          .obtain⟨i1,o1,y1⟩:=Y
           obtain⟨i2,o2,y2⟩:=b1 z;rw[O.dj i1 i2 a y1 y2,o2]at o1;cases o1
          .obtain⟨i1,o1,y1⟩:=Y
           obtain⟨i2,o2,y2⟩:=b1 z;rw[O.dj i1 i2 a y1 y2,o2]at o1;cases o1
        have sc:Sta G H1 oc ((os++fzL ds).map some) ((us++vs).map some) (pick S1 js) a4:=by
         refine⟨by simp[l1,b6,c7.length],λi d0 hi=>?_,λi hi=>?_,λi=>?_,λi k a h1 h2=>?_,λi a h1 h2=>h1.2.2 ⟨i,h2⟩,λa Y=>?_⟩
         .have hi:=lg hi
          by_cases b4:i<js.length
          .obtain⟨dd,q1,q2⟩:=g1 i js[i] (by simp[b4])
           rw[WX 1.10,q1]at hi;cases hi;obtain⟨v,q3,q4,q5⟩:=O.sl _ _ q2;have a3:=(by simpa[clean]using q5:az d0=true/\aq d0=true);have c9:∃u,us[i]? =some u:=⟨us[i],by simp[b6,b4]⟩;obtain⟨u,hu⟩:=c9;have:=c6 i js[i] u (by simp[b4]) hu;rw[q3]at this;cases this;refine⟨v,d9 (by rw[WX 1.10];exact hu),?_,q5⟩;have:pick S1 js i=S1 js[i]:=by unfold pick;rw[Wh b4]
           rw[this];have ev:Evo H1 H1 (wn ob S1 (plus M Fr)) (wn oc (pick S1 js) a4):=⟨λb u h f=>⟨h,b0 b f⟩,λ_ _ h=>h⟩;exact q4.mono ev (.inl a3.1) (.inl a3.2) λ_ _ _ h=>h
          .rw[XH 1.10]at hi
           obtain⟨x,M',q1,q2,q3⟩:=c7.get hi;have:M'=[]:=by simpa using q3
           subst this;refine⟨x,d9 (by rw[XH 1.10,b6,←l1];exact q1),?_,by simp[clean,iJ (gB ds) hi,iw (gA ds) hi]⟩;have:pick S1 js i=[]:=by unfold pick;rw[aaW 1.10]
           rw[this];exact q2
         .unfold pick
          split
          .rename_i j hj'
           exfalso;obtain⟨dd,q1,q2⟩:=g1 i j hj';exact hi dd (d9 (by rw[WX (by rw[l1];exact(Hq.mp hj').1)];exact q1))
          .rfl
         .unfold pick
          split
          .exact O.nd _
          .exact List.nodup_nil
         .obtain⟨j1,e1,y1⟩:=iV h1
          obtain⟨j2,e2,y2⟩:=iV h2;have:=O.dj j1 j2 a y1 y2;rw[this,←e2]at e1;exact(abE (by
           cases hh:js[i]? with
           |none=>rw[hh,e2]at e1;cases e1
           |some _=>exact(Hq.mp hh).1) I).mp e1
         .rcases Y.2.1 with y|⟨i,y⟩
          .exact O.fdm a (.inr y)
          .exact O.mu y
        refine⟨os++fzL ds,pick S1 js,a4,sc,λi hi=>?_,d1,a2,h3,λv H2 Mc Sc s2 r2 c2 n2 b9 m2=>?_⟩
        .unfold pick
         split
         .rename_i j hj'
          rw[hp i (Hq.mp hj').1]at hi;cases hi
         .rfl
        .have l2:a2.length=(os++fzL ds).length:=by
          have h1:=s2.len;have h2:=sc.len;simp only[Wc]at h1 h2;rw[h1,←h2]
         have kept:∀b u,H1 b=some u->¬inS (pick S1 js) b->H2 b=some u:=λb u U n=>m2.kp b u U n (by simp);have a6:∀{i b},b∈Sc i->inS (pick S1 js) b∨H1 b=none:=λ{i b} z=>(m2.gr i b z).imp id λy=>y.resolve_left (by simp);have c1:∀{b},Fr b->¬inS (pick S1 js) b:=λ{b} z ⟨i,y⟩=>by obtain⟨j,_,y⟩:=iV y;exact O.fdj j b (.inr z) y
         have a0:∀{j b},j∉js->b∈S1 j->¬inS (pick S1 js) b:=λ{j b} hn z ⟨i,y⟩=>by
          obtain⟨k,e,y⟩:=iV y;rw[O.dj j k b z y]at hn;exact hn (Wu e)
         have b8:∀{i b},b∈S1 i->H1 b≠none:=λ{i b} z y=>by obtain⟨o,N,_⟩:=O.mu z;rw[y]at N;cases N
         have ev:Evo H1 H2 (wn ob S1 (plus M Fr)) (wn ob (back S1 js Sc) (plus Mc Fr)):=by
          refine⟨λb u U f=>?_,λb xs h=>?_⟩
          .have n1:¬inS (pick S1 js) b:=λz=>f.2.2 (a1 z)
           have n2:∀i,b∉back S1 js Sc i:=λi z=>by
            rcases j8 z with⟨k,_,y⟩|⟨_,y⟩
            .rcases a6 y with y|y
             .exact n1 y
             .rw[U]at y;cases y
            .exact b2 y f
           refine⟨kept b u U n1,λz=>?_,λ⟨i,_,z⟩=>n2 i z,λ⟨i,_,z⟩=>n2 i z⟩;rcases z with z|z
           .rcases b9 b z with y|y
            .exact n1 y
            .rw[U]at y;cases y
           .exact f.1 (.inr z)
          .have no:∀u,H1 b=some u->muO u=false->H2 b=some u:=λu hu mu=>kept b u hu λ⟨i,z⟩=>by
            obtain⟨j,_,z⟩:=iV z;obtain⟨o,N,J⟩:=O.mu z;rw[hu]at N;cases N;rw[mu]at J;cases J
           exact no _ h rfl
         have conv:∀(e:D)(x:V)(L:List Addr),(aA ds=true∨bJ e=true)->clean e=true->Rep G H2 (wn oc Sc (plus Mc a4)) e x L->Rep G H2 (wn ob (back S1 js Sc) (plus Mc Fr)) e x L:=λe x L Z b5 r=>by
          rcases Z with Z|Z
          .have a3:=(by simpa[clean]using b5:az e=true/\aq e=true)
           have d3:Evo H2 H2 (wn oc Sc (plus Mc a4)) (wn ob (back S1 js Sc) (plus Mc Fr)):=⟨λb u U f=>?_,λ_ _ h=>h⟩
           .exact r.mono d3 (.inl a3.1) (.inl a3.2) λ_ _ _ h=>h
           .have nSc:∀i,b∉Sc i:=λi z=>by
             cases a9:oc i with
             |false=>exact f.2.1 ⟨i,a9,z⟩
             |true=>exact f.2.2 ⟨i,a9,z⟩
            have nb:∀j,b∉back S1 js Sc j:=λj z=>by
             rcases j8 z with⟨k,_,y⟩|⟨hn,y⟩
             .exact nSc k y
             .exact f.1 (.inr ⟨Z,.inr ⟨j,y⟩,a0 hn y⟩)
            refine⟨U,λz=>?_,λ⟨i,_,z⟩=>nb i z,λ⟨i,_,z⟩=>nb i z⟩;rcases z with z|z
            .exact f.1 (.inl z)
            .exact f.1 (.inr ⟨Z,.inl z,c1 z⟩)
          .exact r.own Z
         have d2:∀(j:Nat)(d0:D),(mQ js a2 ρ1)[j]? =some (some d0)->∃v,σ[j]? =some (some v)/\Rep G H2 (wn ob (back S1 js Sc) (plus Mc Fr)) d0 v (back S1 js Sc j)/\clean d0=true:=λj d0 a7=>by
          by_cases a5:j∈js
          .obtain⟨k,hk⟩:=aaV.mp a5
           have c5:k<js.length:=(Hq.mp hk).1;obtain⟨dd,q1,q2⟩:=g1 k j hk;have c0:j<ρ1.length:=(Hq.mp q2).1;have b3:k<a2.length:=by rw[l2,Xn];omega
           rw[uP I hk (d:=a2[k]) (by simp[b3]) c0]at a7;cases a7;obtain⟨v,q3,q4,q5⟩:=s2.sl k a2[k] (d9 (by simp[b3]));have q3:=lg q3;rw[WX 1.10]at q3;refine⟨v,c6 k j v hk q3,?_,q5⟩;rw[Nz I hk];refine conv _ _ _ (b5.imp id λz=>xX z.2 (by simp[b3]) c5) q5 q4
          .rw[mz a5]at a7
           obtain⟨v,q1,q2,q3⟩:=O.sl j d0 a7;have a3:=(by simpa[clean]using q3:az d0=true/\aq d0=true);refine⟨v,q1,?_,q3⟩;rw[xj a5];exact q2.mono ev (.inl a3.1) (.inl a3.2) λc Z u hu=>kept c u hu (a0 a5 Z)
         refine q v H2 Mc (back S1 js Sc) ⟨?_,d2,?_,?_,?_,?_,?_⟩ (conv _ _ _ (b5.imp id λz=>z.1) c2 r2) n2 ?_
         .rw[wI];exact O.len
         .intro j a7
          by_cases a5:j∈js
          .obtain⟨k,hk⟩:=aaV.mp a5
           obtain⟨dd,q1,q2⟩:=g1 k j hk;have c0:j<ρ1.length:=(Hq.mp q2).1;have c5:k<js.length:=(Hq.mp hk).1;have b3:k<a2.length:=by rw[l2,Xn];omega
           exact absurd (uP I hk (d:=a2[k]) (by simp[b3]) c0) (a7 _)
          .rw[xj a5]
           exact O.em j λd0=>by have:=a7 d0;rwa[mz a5]at this
         .intro j
          unfold back;split
          .exact s2.nd _
          .exact O.nd j
         .intro i k a y1 y2
          rcases j8 y1 with⟨i1,e1,z1⟩|⟨e1,z1⟩<;>rcases j8 y2 with⟨i2,e2,z2⟩|⟨e2,z2⟩
          .have:=s2.dj i1 i2 a z1 z2
           rw[this,e2]at e1;exact(Xj e1).symm
          .rcases a6 z1 with y|y
           .exact absurd y (a0 e2 z2)
           .exact absurd y (b8 z2)
          .rcases a6 z2 with y|y
           .exact absurd y (a0 e1 z1)
           .exact absurd y (b8 z1)
          .exact O.dj i k a z1 z2
         .intro j a Y z
          rcases j8 z with⟨i,_,y⟩|⟨hn,y⟩
          .rcases Y with Y|Y
           .exact s2.fdj i a (.inl Y) y
           .rcases a6 y with y|y
            .exact c1 Y y
            .obtain⟨o,N,_⟩:=O.fdm a (.inr Y)
             rw[y]at N;cases N
          .rcases Y with Y|Y
           .rcases b9 a Y with y'|y'
            .exact a0 hn y y'
            .exact b8 y y'
           .exact O.fdj j a (.inr Y) y
         .intro a Y
          rcases Y with Y|Y
          .exact r2.dom a Y
          .obtain⟨o,N,J⟩:=O.fdm a (.inr Y)
           exact⟨o,kept a o N (c1 Y),J⟩
         .have ef2:Eff ob H1 H2 S1 (back S1 js Sc) Mc:=by
           refine⟨λb u U n=>kept b u U λz=>n (a1 z),λi hi=>xj (λz=>by rw[N i z]at hi;cases hi),λi a hi z=>?_,λa Y=>(b9 a Y).imp (λy=>a1 y) id⟩;rcases j8 z with⟨k,_,y⟩|⟨_,y⟩
           .exact(a6 y).imp (λy=>a1 y) id
           .exact .inl ⟨i,hi,y⟩
          exact(c3.trans ef2).same (Same.refl _) λc Z=>.inl (VR _ Z)
       .cases e
     .cases e
 .cases e
theorem cu(js:List Nat){e:Expr}{es:List Expr}{p pos:Pos}{k:Nat}{x:Str}{ps:List Str}{U pr:Nat->Bool}{F:List D->Option (D×List D)}{f:En->Option (List D×En)}(C:∀c,Cal (X c).prog (X c).w (X c).K (X c).mg (X c).base k x ps (spI G U pr F))(O:∀c,je k (X c).A)(Y:PVM X G ob (e::es) js f)(I:js.Nodup:=by decide)(N:∀j∈js,ob j=true:=by decide)(J:∀i,i<js.length->pr i=true:=by decide)(q:∀c,Gl (X c) x:=by intro _;rfl)(Z:1.20=false:=by decide)(V:∀c,We (e::es) (X c).env=(false,eval e (X c).env)::We es (X c).env:=by intro _;rfl)(B:∀c,(Yj pos (We es (X c).env)).any (·.1)=false:=by intro _;rfl) :
 PVe X G ob (.Call (.Name x p) (e::es) [] pos) (eIo F js f):=let⟨t,a1,a2⟩:=Y.ex;⟨_,λc=>Jx (C c) (O c) (q c) (a1 c) Z (V c) (B c),QT I N J a2⟩
end
def kids:D->List D
 |.tup ds=>ds
 |.lst _ ds=>ds
 |.dct _ _ ds=>ds
 |.ins _ _ _ ds=>ds
 |_=>[]
def Hi:D->List D->D
 |.tup _,es=>.tup es
 |.lst m _,es=>.lst m es
 |.dct m ks _,es=>.dct m ks es
 |.ins m c fs _,es=>.ins m c fs es
 |d,_=>d
def fY:List Nat->D->Option D
 |[],d=>some d
 |j::p,d=>((kids d)[j]?).bind (fY p)
def fj:List Nat->D->D->D
 |[],e,_=>e
 |j::p,e,d=>match(kids d)[j]? with
  |some c=>Hi d ((kids d).set j (fj p e c))
  |none=>d
theorem Evo.trans{H H1 H2:Hp}{W W1 B:Wn}(a:Evo H H1 W W1)(b:Evo H1 H2 W1 B):Evo H H2 W B:=⟨λc u h f=>let⟨h1,f1⟩:=a.k c u h f;b.k c u h1 f1,λc xs h=>b.t c xs (a.t c xs h)⟩
structure Foc(G:Gc)(H:Hp)(W:Wn)(d0:D)(v0:V)(L:List Addr)(p:List Nat)(d:D)(v:V)(M:List Addr):Prop where
 r:Rep G H W d v M
 b:∃A B,L=A++(M++B)/\∀H' W' d' M',Evo H H' W W'->(∀c∈A++B,∀u,H c=some u->H' c=some u)->Rep G H' W' d' v M'->Rep G H' W' (fj p d' d0) v0 (A++(M'++B))
theorem Foc.nil{G:Gc}{H:Hp}{W:Wn}{d:D}{v:V}{L:List Addr}(r:Rep G H W d v L):Foc G H W d v L [] d v L:=⟨r,[],[],by simp,λH' W' d' M' _ _ h=>by simpa[fj]using h⟩
theorem Foc.mono{G:Gc}{H H1:Hp}{W W1:Wn}{d0 d:D}{q v:V}{L M:List Addr}{p:List Nat}(f:Foc G H W d0 q L p d v M)(Z:clean d=true∨Up H H1 W W1)(e:Evo H H1 W W1)(k:∀c∈L,∀u,H c=some u->H1 c=some u):Foc G H1 W1 d0 q L p d v M:=by
 obtain⟨A,B,Y,U⟩:=f.b;refine⟨?_,A,B,Y,λH' W' d' M' N I O=>U H' W' d' M' (e.trans N) (λc Z u F=>I c Z u (k c ?_ u F)) O⟩
 .rcases Z with Z|Z
  .have hcc:=(by simpa[clean]using Z:az d=true/\aq d=true)
   exact f.r.mono e (.inl hcc.1) (.inl hcc.2) λc Z u F=>k c (by rw[Y];simp[Z]) u F
  .exact f.r.up Z
 .rw[Y]
  simp only[qb]at Z⊢;rcases Z with z|z<;>simp[z]
theorem Lz(p:List Nat)(j:Nat)(e:D):∀(d0:D){d:D},fY p d0=some d->(kids d)[j]?≠none->fj (p++[j]) e d0=fj p (fj [j] e d) d0:=by
 induction p with
 |nil=>intro d0 d h _;cases h;rfl
 |cons k p O=>
  intro d0 d h hn;simp only[fY]at h;cases h1:(kids d0)[k]? with
  |none=>simp[h1]at h
  |some c=>
   have h:fY p c=some d:=by simpa[h1]using h
   rw[W0,fj,fj,h1];simp only;rw[O c h hn]
theorem J0(p:List Nat)(j:Nat):∀(d0:D){d:D},fY p d0=some d->fY (p++[j]) d0=(kids d)[j]?:=by
 induction p with
 |nil=>
  intro d0 d h;cases h;simp only[List.nil_append,fY];cases (kids d0)[j]?<;>rfl
 |cons k p O=>
  intro d0 d h;simp only[fY]at h;cases h1:(kids d0)[k]? with
  |none=>simp[h1]at h
  |some c=>
   have h:fY p c=some d:=by simpa[h1]using h
   rw[W0,fY,h1];exact O c h
theorem j5{m:Mk}{ds:List D}(h:clean (.lst m ds)=true):aA ds=true/\aB ds=true:=by simp[clean,az,aq]at h;exact⟨h.1.2,h.2.2⟩
theorem jw{a b:List D}:aA (a++b)=(aA a&&aA b):=by
 induction a with
 |nil=>rfl
 |cons d r O=>rw[W0,aA,aA,O,ad1]
theorem jq{a b:List D}:aB (a++b)=(aB a&&aB b):=by
 induction a with
 |nil=>rfl
 |cons d r O=>rw[W0,aB,aB,O,ad1]
theorem aD.kid{G:Gc}{H:Hp}{W:Wn}{ds:List D}{xs:List V}{L:List Addr}{j:Nat}{c:D}(O:aD G H W ds xs L)(U:aA ds=true)(N:aB ds=true)(e:ds[j]? =some c) :
  ∃x A M B,xs[j]? =some x/\L=A++(M++B)/\Rep G H W c x M/\∀H' W' d' M',Evo H H' W W'->(∀b∈A++B,∀u,H b=some u->H' b=some u)->Rep G H' W' d' x M'->aD G H' W' (ds.set j d') xs (A++(M'++B)):=by
 obtain⟨P,Q,x,ys,zs,LA,M1,Y,rfl,q,rfl,I,rfl,h1,h2,Z⟩:=O.at e;simp only[jw,jq,aA,aB,Wr]at U N;refine⟨x,LA,M1,Y,by rw[XH 1.10,I,Zj];rfl,rfl,h2,λH' W' d' M' J kp r'=>?_⟩;rw[←q,aaX _ _ (Wa _),Zj];exact aD.append (h1.mono J (.inl U.1) (.inl N.1) λb U u F=>kp b (Wf _ U) u F) (aD.cons r' (Z.mono J (.inl U.2.2) (.inl N.2.2) λb U u F=>kp b (VR _ U) u F))
section
variable{G:Gc}{H:Hp}{W:Wn}{c:D}{v:V}{L:List Addr}{j:Nat}
theorem Foc.lst{ds:List D}(r:Rep G H W (.lst .own ds) v L)(Z:clean (.lst .own ds)=true)(e:ds[j]? =some c):∃a xs x M,v= .ref a/\H a=some (.lst xs)/\xs.length=ds.length/\xs[j]? =some x/\Foc G H W (.lst .own ds) v L [j] c x M:=by
 rw[Rep]at r;obtain⟨a,xs,N,rfl,O,Y,rfl⟩:=r;obtain⟨h1,h2⟩:=j5 Z;obtain⟨x,A,M,B,J,rfl,rx,U⟩:=O.kid h1 h2 e;refine⟨a,xs,x,M,rfl,Y,O.length.symm,J,rx,a::A,B,by simp,λH' W' d' M' q kp V=>?_⟩;have I:fj [j] d' (.lst .own ds)= .lst .own (ds.set j d'):=by simp only[fj,kids,e,Hi]
 rw[I,Rep];exact⟨a,xs,A++(M'++B),rfl,U H' W' d' M' q (λb U u F=>kp b (Ws _ U) u F) V,kp a (by simp) _ Y,by simp⟩
theorem Foc.tup{ds:List D}(r:Rep G H W (.tup ds) v L)(Z:clean (.tup ds)=true)(e:ds[j]? =some c):∃a xs x M,v= .ref a/\H a=some (.tup xs)/\xs.length=ds.length/\xs[j]? =some x/\Foc G H W (.tup ds) v L [j] c x M:=by
 rw[Rep]at r;obtain⟨a,xs,rfl,Y,O⟩:=r;have q:aA ds=true/\aB ds=true:=by simpa[clean,az,aq]using Z
 obtain⟨x,A,M,B,J,rfl,rx,U⟩:=O.kid q.1 q.2 e;refine⟨a,xs,x,M,rfl,Y,O.length.symm,J,rx,A,B,rfl,λH' W' d' M' F kp N=>?_⟩;have I:fj [j] d' (.tup ds)= .tup (ds.set j d'):=by simp only[fj,kids,e,Hi]
 rw[I,Rep];exact⟨a,xs,rfl,F.t a xs Y,U H' W' d' M' F kp N⟩
theorem Foc.dct{ks:List Key}{ds:List D}(r:Rep G H W (.dct .own ks ds) v L)(Z:clean (.dct .own ks ds)=true)(e:ds[j]? =some c):∃a kvs x M,v= .ref a/\H a=some (.dK kvs)/\(kvs.map (·.1)=ks/\ks.Nodup)/\(kvs.map (·.2))[j]? =some x/\Foc G H W (.dct .own ks ds) v L [j] c x M:=by
 rw[Rep]at r;obtain⟨a,kvs,N,rfl,V,O,Y,rfl⟩:=r;have q:aA ds=true/\aB ds=true:=by simp[clean,az,aq]at Z;exact Z
 obtain⟨x,A,M,B,J,rfl,rx,U⟩:=O.kid q.1 q.2 e;refine⟨a,kvs,x,M,rfl,Y,V,J,rx,a::A,B,by simp,λH' W' d' M' ev kp r'=>?_⟩;have I:fj [j] d' (.dct .own ks ds)= .dct .own ks (ds.set j d'):=by simp only[fj,kids,e,Hi]
 rw[I,Rep];exact⟨a,kvs,A++(M'++B),rfl,V,U H' W' d' M' ev (λb U u F=>kp b (Ws _ U) u F) r',kp a (by simp) _ Y,by simp⟩
theorem Foc.ins{V:Str}{fs:List Str}{ds:List D}(r:Rep G H W (.ins .own V fs ds) v L)(Z:clean (.ins .own V fs ds)=true)(e:ds[j]? =some c):∃a C dx kvs x M,v= .ref a/\G.mg V=some (.ref C)/\H a=some (.ins C dx kvs)/\kvs.map (·.1)=fs/\(kvs.map (·.2))[j]? =some x/\Foc G H W (.ins .own V fs ds) v L [j] c x M:=by
 rw[Rep]at r;obtain⟨a,C,dx,kvs,N,rfl,hC,hk,O,Y,rfl⟩:=r;have q:aA ds=true/\aB ds=true:=by simp[clean,az,aq]at Z;exact Z
 obtain⟨x,A,M,B,J,rfl,rx,U⟩:=O.kid q.1 q.2 e;refine⟨a,C,dx,kvs,x,M,rfl,hC,Y,hk,J,rx,a::A,B,by simp,λH' W' d' M' ev kp r'=>?_⟩;have I:fj [j] d' (.ins .own V fs ds)= .ins .own V fs (ds.set j d'):=by simp only[fj,kids,e,Hi]
 rw[I,Rep];exact⟨a,C,dx,kvs,A++(M'++B),rfl,hC,hk,U H' W' d' M' ev (λb U u F=>kp b (Ws _ U) u F) r',kp a (by simp) _ Y,by simp⟩
theorem Foc.trans{d0 d:D}{v0 x:V}{Z M:List Addr}{p:List Nat}(f:Foc G H W d0 v0 Z p d v L)(g:Foc G H W d v L [j] c x M)(F:fY p d0=some d)(I:(kids d)[j]?≠none):Foc G H W d0 v0 Z (p++[j]) c x M:=by
 obtain⟨A,B,Y,U⟩:=f.b;obtain⟨N,B',a0,q⟩:=g.b;refine⟨g.r,A++N,B'++B,by rw[Y,a0];simp,λH' W' d' M' J kp O=>?_⟩;rw[Lz p j d' d0 F I];have:=U H' W' (fj [j] d' d) (N++(M'++B')) J (λb U u hu=>kp b ?_ u hu) (q H' W' d' M' J (λb U u hu=>kp b ?_ u hu) O)
 .simpa using this
 .simp only[qb]at U⊢
  rcases U with z|z<;>simp[z]
 .simp only[qb]at U⊢
  rcases U with z|z<;>simp[z]
end
def RfP(G:Gc)(ob:Nat->Bool)(t:TE)(i:Nat)(pf:En->Option (List Nat)):Prop:=∀(ρ:En)(p:List Nat),pf ρ=some p->∀(σ:L2.St)(H:Hp)(S:Ad)(Fr:Addr->Prop),Sta G H ob ρ σ S Fr->∃d0 d,ρ[i]? =some (some d0)/\fY p d0=some d/\∀Q:VK,
 (∀v q H' M,Same H H'->σ[i]? =some (some q)->Foc G H' (wn ob S Fr) d0 q (S i) p d v M->Q v H')->t σ H Q
structure PVP{ι:Type}(X:ι->Cx)(G:Gc)(ob:Nat->Bool)(e:Expr)(i:Nat)(pf:En->Option (List Nat)):Prop where
 mk::(ex:∃t,(∀c,PE (X c) e t)/\RfP G ob t i pf)
def gk(i:Nat):En->Option (List Nat):=λρ=>match ρ[i]? with
 |some (some _)=>some []
 |_=>none
section
variable{ι:Type}{X:ι->Cx}{G:Gc}{ob P:Nat->Bool}
theorem d8(i:Nat){x:Str}{pos:Pos}(I:∀c,(X c).N[i]? =some x:=by intro _;rfl)(F:∀c,Vis (X c).env.scope x:=by intro _;first|exact Yk rfl|exact Xv (Yk rfl)|exact Xv (Xv rfl))(hd:1.20=false:=by decide)
  (B:(x==("__classdict__":Str))=false:=by decide):PVP X G ob (.Name x pos) i (gk i):=by
 refine⟨_,λc=>pv i (I c) (F c) hd B,λρ p e σ H S Fr s=>?_⟩;unfold gk at e;split at e
 .rename_i d h1
  cases e;obtain⟨v,h2,Z,U⟩:=s.sl i d h1;exact⟨d,d,h1,rfl,λQ q=>⟨v,h2,q v v H _ (Same.refl H) h2 (.nil Z)⟩⟩
 .cases e
theorem m_{d0:D}:∀{p:List Nat}{d:D},clean d0=true->fY p d0=some d->clean d=true:=by
 intro p
 induction p generalizing d0 with
 |nil=>intro d h e;cases e;exact h
 |cons j p O=>
  intro d h e;simp only[fY]at e;cases h1:(kids d0)[j]? with
  |none=>simp[h1]at e
  |some c=>
   have e:fY p c=some d:=by simpa[h1]using e
   refine O ?_ e;have B:aA (kids d0)=true/\aB (kids d0)=true:=by
    cases d0<;>simp[kids,clean,az,aq,aA,aB]at h h1⊢<;>(try exact h)<;>exact⟨h.1.2,h.2.2⟩
   simp[clean,iJ B.1 h1,iw B.2 h1]
def fG:D->Option Key
 |.int i=>some (.inl i)
 |.str x=>some (.inr x)
 |_=>none
def fU(ks:List Key)(k:Key):Option Nat:=ks.findIdx? λx=>decide (x=k)
def ixP:D->D->Option Nat
 |.lst .own ds,.int i=>ixN ds.length i
 |.tup ds,.int i=>ixN ds.length i
 |.dct .own ks ds,k=>(fG k).bind λk=>(fU ks k).bind λj=>if j<ds.length then some j else none
 |_,_=>none
def yf(i:Nat)(pf:En->Option (List Nat))(fk:En->Option D):En->Option (List Nat):=λρ=>(pf ρ).bind λp=>(fk ρ).bind λk=>match ρ[i]? with
 |some (some d0)=>(fY p d0).bind λd=>(ixP d k).bind λj=>if j<(kids d).length then some (p++[j])else none
 |_=>none
end
section
variable{ι:Type}{X:ι->Cx}{G:Gc}{ob P:Nat->Bool}
def Ou:R2:=λx y H Q=>∃a v,x= .ref a/\oA H a y (some v)/\Q v H
theorem OD{Y:Cx}(U:Y.A.units+1<cLine):IxR Y Ou:=by
 intro O B pins s σ H x y v u Q I rx J h hs;obtain⟨a,z,rfl,g,q⟩:=h;cases rx;exact acF (zN I g) PySem.F.slot_dict_getitem.lookup (GF U I g J λZ s3 V N=>⟨z,H,V,N,q⟩) hs
theorem Ir{Y:Cx}(F:Y.A.units+1<cLine):IxR Y (λx y H Q=>rIx Y.K x y H Q∨Ou x y H Q):=Q0.or (OD F)
theorem pR:∀{kvs:List (Key×V)}{k:Key}{j:Nat},fU (kvs.map (·.1)) k=some j->kJ kvs k=(kvs.map (·.2))[j]?
 |[],k,j,h=>by simp[fU]at h
 |(k0,v)::r,k,j,h=>by
  simp only[V7,fU,adk]at h;by_cases e:k0=k
  .subst e
   simp at h;subst h;simp[kJ]
  .rw[WQ e]at h
   simp only[WT,XD]at h;cases h1:(r.map (·.1)).findIdx? (λx=>decide (x=k))with
   |none=>rw[h1]at h;cases h
   |some i=>
    rw[h1]at h;have:i+1=j:=by simpa using h
    subst this;have O:=pR (kvs:=r) (k:=k) (j:=i) h1;simp only[kJ,YB,WQ e,V7,W3];exact O
theorem wL:∀{kvs:List (Key×V)}{k:Key},fU (kvs.map (·.1)) k=none->kJ kvs k=none
 |[],k,h=>rfl
 |(k0,v)::r,k,h=>by
  simp only[V7,fU,adk]at h;by_cases e:k0=k
  .subst e
   simp at h
  .rw[WQ e]at h
   simp only[WT,XD]at h;have h1:(r.map (·.1)).findIdx? (λx=>decide (x=k))=none:=by
    cases h1:(r.map (·.1)).findIdx? (λx=>decide (x=k))with
    |none=>rfl
    |some i=>rw[h1]at h;cases h
   have O:=wL (kvs:=r) (k:=k) h1;simp only[kJ,YB,WQ e];exact O
theorem lX{G:Gc}{H:Hp}{W:Wn}{d:D}{v:V}{L:List Addr}{k:Key}(r:Rep G H W d v L)(h:fG d=some k):v=kV k:=by
 cases d<;>simp[fG]at h<;>subst h<;>rw[Rep]at r<;>exact r.1
theorem Mr{to ti:TE}{i0:Nat}{pf:En->Option (List Nat)}{fk:En->Option D}(N:RfP G ob to i0 pf)(hi:RfE G ob ti fk):RfP G ob (tOp (λx y H Q=>rIx G.K x y H Q∨Ou x y H Q) to ti) i0 (yf i0 pf fk):=λρ p e σ H S Fr s=>by
 unfold yf at e;cases h1:pf ρ with
 |none=>simp[h1]at e
 |some p0=>
  cases h2:fk ρ with
  |none=>simp[h1,h2]at e
  |some k=>
   rw[h1,h2]at e;simp only[V1]at e;split at e
   .rename_i d0 h3
    cases U:fY p0 d0 with
    |none=>simp[U]at e
    |some d=>
     cases V:ixP d k with
     |none=>simp[U,V]at e
     |some j=>
      by_cases h6:j<(kids d).length
      .obtain rfl:p0++[j]=p:=by simpa[U,V,h6]using e
       obtain⟨a7,d',Z,g2,g3⟩:=N ρ p0 h1 σ H S Fr s;rw[h3]at Z;cases Z;rw[U]at g2;cases g2;have a1:clean d=true:=m_ (let⟨_,_,_,h⟩:=s.sl i0 d0 h3;h) U;refine⟨d0,(kids d)[j],h3,by rw[J0 p0 j d0 U,Wh h6],λQ q=>?_⟩;refine g3 _ λv v0 H1 M O a4 a6=>?_;have a2:Sta G H1 ob ρ σ S Fr:=s.grow O λa z=>.inl z;refine hi ρ k h2 σ H1 _ a2.rel a2.wok _ λy H2 L2 s2 ry fy ny=>?_;have up:Up H1 H2 (wn ob S Fr) (wn ob S Fr):=Up.same s2;have a0:=a6.mono (.inr up) up.evo λc _ u F=>s2 c u F;have I:(kids d)[j]? =some (kids d)[j]:=Wh h6;have fin:∀x M',Foc G H2 (wn ob S Fr) d v M [j] (kids d)[j] x M'->Q x H2:=λx M' f=>q x v0 H2 M' (O.trans s2) a4 (a0.trans f U (by rw[I];simp));cases d with
       |lst m ds=>
        cases m<;>(try(simp[ixP]at V));cases k<;>(try(simp[ixP]at V));rename_i n;rw[Rep]at ry;obtain⟨a,xs,x,M',rfl,Y,hl,J,f⟩:=Foc.lst a0.r a1 I;refine .inl (.inl ⟨a,xs,n,x,rfl,ry.1,SqL.of Y,?_,fin x M' f⟩);unfold atI;rw[hl,V];exact J
       |tup ds=>
        cases k<;>(try(simp[ixP]at V));rename_i n;rw[Rep]at ry;obtain⟨a,xs,x,M',rfl,Y,hl,J,f⟩:=Foc.tup a0.r a1 I;refine .inl (.inr (.inl ⟨a,xs,n,x,rfl,ry.1,SqT.of Y,?_,fin x M' f⟩));unfold atI;rw[hl,V];exact J
       |dct m ks ds=>
        cases m<;>(try(simp[ixP]at V));cases B:fG k with
        |none=>simp[B]at V
        |some kk=>
         cases J:fU ks kk with
         |none=>simp[B,J]at V
         |some j'=>
          have:j'=j:=by
           have:=V;simp[B,J]at this;exact this.2
          subst this;obtain⟨a,kvs,x,M',rfl,Y,a5,a3,f⟩:=Foc.dct a0.r a1 I;refine .inr ⟨a,x,rfl,?_,fin x M' f⟩;have:=lX ry B;subst this;have hv:=pR (kvs:=kvs) (k:=kk) (j:=j') (by rw[a5.1];exact J);rw[a3]at hv;rw[←hv];exact oA.k Y
       |_=>simp[ixP]at V
      .simp[U,V,h6]at e
   .cases e
theorem Eb{o i:Expr}{pos:Pos}{q:Nat}{pf:En->Option (List Nat)}{fk:En->Option D}(F:∀c,(X c).A.units+1<cLine)(N:PVP X G ob o q pf)(hi:PV X G ob i fk)(hs:sZ i:=by exact λ_ _=>rfl)(I:∀c,(X c).K=G.K:=by intro _;rfl):PVP X G ob (.Subscript o i pos) q (yf q pf fk):=let⟨t,a1,a2⟩:=N.ex;let⟨u,b1,b2⟩:=hi.ex;⟨_,λc=>(by rw[←I c];exact HB (Ir (F c)) (a1 c) (b1 c) hs),Mr a2 b2⟩
def MuV(G:Gc)(r:V->List V->Hp->VK->Prop)(op:D->List D->Option (D×D)):Prop:=∀(d:D)(es:List D)(d' res:D),op d es=some (d',res)->∀(v:V)(xs:List V)(H:Hp)(W:Wn)(M N:List Addr),Rep G H W d v M->aD G H W es xs N->(M++N).Nodup->(∀a∈M,¬W.free a)->
 clean d=true->aA es=true->aB es=true->∀Q:VK,(∀x H' M' R,(∀b u,H b=some u->b∉M->H' b=some u)->(∀W',Evo H H' W W'->Rep G H' W' d' v M'/\Rep G H' W' res x R)->(M'++R).Nodup->(∀a∈M'++R,a∈M∨a∈N∨H a=none)->clean d'=true->clean res=true->Q x H')->r v xs H Q
theorem Cp{d0 e:D}:∀{p:List Nat},clean d0=true->clean e=true->clean (fj p e d0)=true:=by
 intro p
 induction p generalizing d0 with
 |nil=>intro _ h;exact h
 |cons j p O=>
  intro h V;simp only[fj];cases h1:(kids d0)[j]? with
  |none=>exact h
  |some c=>
   have Z:clean c=true:=m_ (p:=[j]) h (by simp[fY,h1]);have:=O (d0:=c) Z V;have I:∀{ds:List D}{j:Nat}{x:D},aA ds=true->aB ds=true->clean x=true->aA (ds.set j x)=true/\aB (ds.set j x)=true:=λ{ds}=>by
    induction ds with
    |nil=>intro j x a b _;simp[a,b]
    |cons y r q=>
     intro j x a b B;simp only[aA,aB,Wr]at a b;have F:=(by simpa[clean]using B:az x=true/\aq x=true);cases j with
     |zero=>simp[aA,aB,F,a,b]
     |succ j=>simp only[XN,aA,aB,Wr];exact⟨⟨a.1,(q a.2 b.2 B).1⟩,⟨b.1,(q a.2 b.2 B).2⟩⟩
   cases d0<;>simp only[kids,List.getElem?_nil]at h1<;>(try cases h1)<;>simp only[Hi,kids]<;>simp[clean,az,aq]at h⊢
   .exact⟨(I h.1 h.2 this).1,(I h.1 h.2 this).2⟩
   .exact⟨⟨h.1.1,(I h.1.2 h.2.2 this).1⟩,h.2.1,(I h.1.2 h.2.2 this).2⟩
   .exact⟨⟨h.1.1,(I h.1.2 h.2.2 this).1⟩,h.2.1,(I h.1.2 h.2.2 this).2⟩
   .exact⟨⟨h.1.1,(I h.1.2 h.2.2 this).1⟩,h.2.1,(I h.1.2 h.2.2 this).2⟩
theorem Sta.mut{G:Gc}{H H':Hp}{ρ:En}{σ:L2.St}{S:Ad}{Fr:Addr->Prop}{i:Nat}{p:List Nat}{d0 d d' res:D}{v v0 x:V}{M N M' R:List Addr}(s:Sta G H ob ρ σ S (plus N Fr))(e:ρ[i]? =some (some d0))(b3:σ[i]? =some (some v0))(b4:Foc G H (wn ob S (plus N Fr)) d0 v0 (S i) p d v M)
  (hF:∀a∈N,¬Fr a) (kp:∀b u,H b=some u->b∉M->H' b=some u) (O:∀W',Evo H H' (wn ob S (plus N Fr)) W'->Rep G H' W' d' v M'/\Rep G H' W' res x R) (nd:(M'++R).Nodup) (gr:∀a∈M'++R,a∈M∨a∈N∨H a=none) (Z:clean d'=true) :
  ∃S',Sta G H' ob (ρ.set i (some (fj p d' d0))) σ S' (plus R Fr)/\Rep G H' (wn ob S' (plus R Fr)) res x R/\(∀j,j≠i->S' j=S j)/\(∀a∈S' i,a∈S i∨a∈N∨H a=none)/\(∀a∈R,a∈S i∨a∈N∨H a=none)/\(∀b u,H b=some u->b∉S i->H' b=some u):=by
 obtain⟨A,B,hL,U⟩:=b4.b;have a9:i<ρ.length:=(Hq.mp e).1;have a1:∀a∈M,a∈S i:=λa Y=>by rw[hL];simp[Y]
 have a2:∀a∈A++B,a∈S i/\a∉M:=λa Y=>by
  have hn:=s.nd i;rw[hL]at hn;have h1:=Wi.mp hn;have h2:=Wi.mp h1.2.1;rcases qb.mp Y with z|z
  .exact⟨by rw[hL];simp[z],λy=>h1.2.2 a z a (by simp[y]) rfl⟩
  .exact⟨by rw[hL];simp[z],λy=>h2.2.2 a y a z rfl⟩
 have b0:∀a∈M'++R,∀j,j≠i->a∉S j:=λa Y j I z=>by
  rcases gr a Y with y|y|y
  .exact I (s.dj j i a z (a1 a y))
  .exact s.fdj j a (.inl y) z
  .obtain⟨o,ho,_⟩:=s.mu z;rw[y]at ho;cases ho
 have b2:∀a∈M'++R,¬Fr a:=λa Y z=>by
  rcases gr a Y with y|y|y
  .exact s.fdj i a (.inr z) (a1 a y)
  .exact hF a y z
  .obtain⟨o,ho,_⟩:=s.fdm a (.inr z);rw[y]at ho;cases ho
 have a3:∀a∈M'++R,a∉A++B:=λa Y z=>by
  obtain⟨z1,z2⟩:=a2 a z;rcases gr a Y with y|y|y
  .exact z2 y
  .exact s.fdj i a (.inl y) z1
  .obtain⟨o,ho,_⟩:=s.mu z1;rw[y]at ho;cases ho
 let S':=cz S i (A++(M'++B))
 have a5:∀a∈S' i,a∈S i∨a∈N∨H a=none:=λa Y=>by
  have Y:a∈cz S i (A++(M'++B)) i:=Y;rw[cM]at Y;simp only[qb]at Y;rcases Y with z|z|z
  .exact .inl (a2 a (Wf _ z)).1
  .exact(gr a (Wf _ z)).imp (a1 a) id
  .exact .inl (a2 a (VR _ z)).1
 have a6:∀b u,H b=some u->(wn ob S (plus N Fr)).free b->H' b=some u/\(wn ob S' (plus R Fr)).free b:=λb u U f=>by
  have nS:∀j,b∉S j:=λj z=>by
   cases ho:ob j with
   |false=>exact f.2.1 ⟨j,ho,z⟩
   |true=>exact f.2.2 ⟨j,ho,z⟩
  have a7:∀j,b∉S' j:=λj z=>by
   by_cases I:j=i
   .subst I
    rcases a5 b z with y|y|y
    .exact nS j y
    .exact f.1 (.inl y)
    .rw[U]at y;cases y
   .have z:b∈cz S i (A++(M'++B)) j:=z
    rw[cU I]at z;exact nS j z
  refine⟨kp b u U λz=>nS i (a1 b z),λz=>?_,λ⟨j,_,z⟩=>a7 j z,λ⟨j,_,z⟩=>a7 j z⟩;rcases z with z|z
  .rcases gr b (VR _ z)with y|y|y
   .exact nS i (a1 b y)
   .exact f.1 (.inl y)
   .rw[U]at y;cases y
  .exact f.1 (.inr z)
 have ev:Evo H H' (wn ob S (plus N Fr)) (wn ob S' (plus R Fr)):=⟨a6,λb xs h=>by
  have no:∀u,H b=some u->muO u=false->H' b=some u:=λu F mu=>kp b u F λz=>by
   obtain⟨o,ho,J⟩:=s.mu (a1 b z);rw[F]at ho;cases ho;rw[mu]at J;cases J
  exact no _ h rfl⟩
 obtain⟨r1,r2⟩:=O _ ev;have a8:=Wi.mp nd;refine⟨S',⟨by simp[s.len],λj dj I=>?_,λj I=>?_,λj=>?_,λj k a h1 h2=>?_,λj a h1 h2=>?_,λa Y=>?_⟩,r2,λj I=>cU I,a5,λa Y=>(gr a (VR _ Y)).imp (a1 a) id,λb u U n=>kp b u U λz=>n (a1 b z)⟩
 .by_cases a0:j=i
  .subst a0
   have:fj p d' d0=dj:=by simpa[a9]using I
   subst this;have b1:clean d0=true:=let⟨_,_,_,h⟩:=s.sl j d0 e;h;refine⟨v0,b3,?_,Cp b1 Z⟩;show Rep G H' _ _ v0 (cz S j (A++(M'++B)) j);rw[cM];exact U H' _ d' M' ev (λc Z u F=>kp c u F (a2 c Z).2) r1
  .rw[List.getElem?_set_ne (WW a0)]at I
   obtain⟨w,q1,q2,q3⟩:=s.sl j dj I;have q:=(by simpa[clean]using q3:az dj=true/\aq dj=true);refine⟨w,q1,?_,q3⟩;show Rep G H' _ dj w (cz S i (A++(M'++B)) j);rw[cU a0];exact q2.mono ev (.inl q.1) (.inl q.2) λc Z u F=>kp c u F λz=>a0 (s.dj j i c Z (a1 c z))
 .by_cases a0:j=i
  .subst a0
   exact absurd (by simp[a9]) (I (fj p d' d0))
  .show cz S i (A++(M'++B)) j=[]
   rw[cU a0];exact s.em j λd1=>by have:=I d1;rwa[List.getElem?_set_ne (WW a0)]at this
 .by_cases a0:j=i
  .subst a0
   show(cz S j (A++(M'++B)) j).Nodup;rw[cM];have hn:=s.nd j;rw[hL]at hn;have h1:=Wi.mp hn;have h2:=Wi.mp h1.2.1;refine cP h1.1 (cP a8.1 h2.2.1 λa Y z=>a3 a (Wf _ Y) (VR _ z)) λa Y z=>?_;rcases qb.mp z with z|z
   .exact a3 a (Wf _ z) (Wf _ Y)
   .exact h1.2.2 a Y a 1.22 rfl
  .show(cz S i (A++(M'++B)) j).Nodup
   rw[cU a0];exact s.nd j
 .have key:∀{j:Nat}{a:Addr},j≠i->a∈S j->a∈S' i->False:=λ{j a} I z1 z2=>by
   have z2:a∈cz S i (A++(M'++B)) i:=z2;rw[cM]at z2;simp only[qb]at z2;rcases z2 with z|z|z
   .exact I (s.dj j i a z1 (a2 a (Wf _ z)).1)
   .exact b0 a (Wf _ z) j I z1
   .exact I (s.dj j i a z1 (a2 a (VR _ z)).1)
  by_cases a0:j=i<;>by_cases a4:k=i
  .rw[a0,a4]
  .subst a0
   have h2:a∈cz S j (A++(M'++B)) k:=h2;rw[cU a4]at h2;exact(key a4 h2 h1).elim
  .subst a4
   have h1:a∈cz S k (A++(M'++B)) j:=h1;rw[cU a0]at h1;exact(key a0 h1 h2).elim
  .have h1:a∈cz S i (A++(M'++B)) j:=h1
   have h2:a∈cz S i (A++(M'++B)) k:=h2;rw[cU a0]at h1;rw[cU a4]at h2;exact s.dj j k a h1 h2
 .by_cases a0:j=i
  .subst a0
   have h2:a∈cz S j (A++(M'++B)) j:=h2;rw[cM]at h2;simp only[qb]at h2;rcases h1 with h1|h1
   .rcases h2 with z|z|z
    .exact a3 a (VR _ h1) (Wf _ z)
    .exact a8.2.2 a z a h1 rfl
    .exact a3 a (VR _ h1) (VR _ z)
   .rcases h2 with z|z|z
    .exact s.fdj j a (.inr h1) (a2 a (Wf _ z)).1
    .exact b2 a (Wf _ z) h1
    .exact s.fdj j a (.inr h1) (a2 a (VR _ z)).1
  .have h2:a∈cz S i (A++(M'++B)) j:=h2
   rw[cU a0]at h2;rcases h1 with h1|h1
   .exact b0 a (VR _ h1) j a0 h2
   .exact s.fdj j a (.inr h1) h2
 .rcases Y with Y|Y
  .exact r2.dom a Y
  .obtain⟨o,ho,J⟩:=s.fdm a (.inr Y)
   exact⟨o,kp a o ho λz=>s.fdj i a (.inr Y) (a1 a z),J⟩
end
section
variable{ι:Type}{X:ι->Cx}{G:Gc}{ob P:Nat->Bool}
theorem uK{G:Gc}{r:V->List V->Hp->VK->Prop}{op:D->List D->Option (D×D)}{H:Hp}{ρ:En}{σ:L2.St}{S:Ad}{Fr:Addr->Prop}{i:Nat}{p:List Nat}{d0 d d' res:D}{v v0:V}{M N:List Addr}{es:List D}{xs:List V}(J:MuV G r op)(s:Sta G H ob ρ σ S (plus N Fr))(e:ρ[i]? =some (some d0))(a2:σ[i]? =some (some v0))(F:fY p d0=some d)
  (U:Foc G H (wn ob S (plus N Fr)) d0 v0 (S i) p d v M) (re:aD G H (wn ob S (plus N Fr)) es xs N) (nd:N.Nodup) (hF:∀a∈N,¬Fr a) (c1:aA es=true) (c2:aB es=true) (h:op d es=some (d',res)) {Q:VK}
  (q:∀x H' R S',Sta G H' ob (ρ.set i (some (fj p d' d0))) σ S' (plus R Fr)->Rep G H' (wn ob S' (plus R Fr)) res x R->R.Nodup->clean res=true->(∀j,j≠i->S' j=S j)->(∀a∈S' i,a∈S i∨a∈N∨H a=none)->(∀a∈R,a∈S i∨a∈N∨H a=none)->(∀b u,H b=some u->b∉S i->H' b=some u)->Q x H'):r v xs H Q:=by
 have Z:Yb M (S i):=by
  obtain⟨A,B,hL,_⟩:=U.b;rw[hL];exact(Zk M B).trans (Yd A _)
 have a1:clean d0=true:=let⟨_,_,_,h⟩:=s.sl i d0 e;h;refine J d es d' res h v xs H _ M N U.r re (cP (Z.nodup (s.nd i)) nd λa h1 h2=>s.fdj i a (.inl h2) (Z.subset h1)) (λa Y f=>?_) (m_ a1 F) c1 c2 Q λx H' M' R kp O I gr a3 a0=>?_
 .cases ho:ob i with
  |false=>exact f.2.1 ⟨i,ho,Z.subset Y⟩
  |true=>exact f.2.2 ⟨i,ho,Z.subset Y⟩
 .obtain⟨S',q1,q2,q3,q4,q5,q6⟩:=s.mut e a2 U hF kp O I gr a3
  exact q x H' R S' q1 q2 (Wi.mp I).2.1 a0 q3 q4 q5 q6
def upS(op:D->List D->Option (D×D))(i:Nat)(p:List Nat)(es:List D)(ρ:En):Option (D×En):=match ρ[i]? with
 |some (some d0)=>(fY p d0).bind λd=>if aA es=true/\aB es=true then(op d es).map λq=>(q.2,ρ.set i (some (fj p q.1 d0)))else none
 |_=>none
theorem De{op:D->List D->Option (D×D)}{i:Nat}{p:List Nat}{es:List D}{ρ B:En}{res:D}(h:upS op i p es ρ=some (res,B)):∃d0 d d',ρ[i]? =some (some d0)/\fY p d0=some d/\aA es=true/\aB es=true/\op d es=some (d',res)/\B=ρ.set i (some (fj p d' d0)):=by
 unfold upS at h;split at h
 .rename_i d0 h1
  cases h2:fY p d0 with
  |none=>simp[h2]at h
  |some d=>
   by_cases Z:aA es=true/\aB es=true
   .cases h3:op d es with
    |none=>simp[h2,Z,h3]at h
    |some q=>
     obtain⟨d',O⟩:=q;obtain⟨rfl,rfl⟩:O=res/\ρ.set i (some (fj p d' d0))=B:=by simpa[h2,Z,h3]using h
     exact⟨d0,d,d',h1,h2,Z.1,Z.2,h3,rfl⟩
   .simp[h2,Z]at h
 .cases h
def nZ(op:D->List D->Option (D×D))(i:Nat)(pf:En->Option (List Nat))(f:En->Option (List D)):En->Option (D×En):=λρ=>(pf ρ).bind λp=>(f ρ).bind λes=>upS op i p es ρ
def jE(op:D->List D->Option (D×D))(i:Nat)(pf:En->Option (List Nat))(f:En->Option (List D)):En->Option Fl:=λρ=>(nZ op i pf f ρ).map λq=>.nx q.2
def ur(op:D->List D->Option (D×D))(i:Nat)(pf:En->Option (List Nat))(f:En->Option (List D×En)):En->Option Fl:=λρ=>(pf ρ).bind λp=>(f ρ).bind λq=>(upS op i p q.1 q.2).map λq=>.nx q.2
def Cg(G:Gc)(T:String)(op:D->List D->Option (D×D)):Prop:=∀d es q,op d es=some q->∀(v:V)(H:Hp)(W:Wn)(L:List Addr),Rep G H W d v L->tyV G.K T v H
theorem Ks{T:String}{r:V->List V->Hp->VK->Prop}{op:D->List D->Option (D×D)}{to:TE}{t:TA}{i:Nat}{pf:En->Option (List Nat)}{f:En->Option (List D)}(J:MuV G r op)(ht:Cg G T op)(ho:RfP G ob to i pf)(Y:RfA G ob t f){ρ B:En}{res:D}(e:nZ op i pf f ρ=some (res,B))
  {σ:L2.St} {H:Hp} {S:Ad} {Fr:Addr->Prop} (s:Sta G H ob ρ σ S Fr) {Q:VK}
  (q:∀x H' R S',Sta G H' ob B σ S' (plus R Fr)->Rep G H' (wn ob S' (plus R Fr)) res x R->R.Nodup->clean res=true->(∀j,j≠i->S' j=S j)->(∀a∈S' i,a∈S i∨H a=none)->(∀a∈R,a∈S i∨H a=none)->(∀b u,H b=some u->b∉S i->H' b=some u)->Q x H'):tBM G.K T r to t σ H Q:=by
 unfold nZ at e;cases h1:pf ρ with
 |none=>simp[h1]at e
 |some p=>
  cases h2:f ρ with
  |none=>simp[h1,h2]at e
  |some es=>
   have e:upS op i p es ρ=some (res,B):=by simpa[h1,h2]using e
   obtain⟨d0,d,d',Z,g2,c1,c2,g3,rfl⟩:=De e;obtain⟨a4,dd,k1,k2,k3⟩:=ho ρ p h1 σ H S Fr s;rw[Z]at k1;cases k1;rw[g2]at k2;cases k2;refine k3 _ λv v0 H1 M O a2 a1=>⟨ht d es _ g3 v H1 _ M a1.r,?_⟩;have I:Sta G H1 ob ρ σ S Fr:=s.grow O λa z=>.inl z;refine Y ρ es h2 σ H1 _ I.rel I.wok _ λxs H2 N s2 re fr nd=>?_;have a3:Sta G H2 ob ρ σ S (plus N Fr):=I.grow s2 λa z=>z.elim (λz=>.inr ⟨fr a z,re.dom a z⟩) .inl;have up:Up H1 H2 (wn ob S Fr) (wn ob S (plus N Fr)):=Up.add s2 fr;have a0:=a1.mono (.inr up) up.evo λc _ u F=>s2 c u F;have hF:∀a∈N,¬Fr a:=λa Y z=>by
    obtain⟨o,ho,_⟩:=I.fdm a z;rw[fr a Y]at ho;cases ho
   have nf:∀{a},a∈S i∨a∈N∨H2 a=none->a∈S i∨H a=none:=λ{a} z=>z.imp id λz=>z.elim (λz=>O.none' (fr a z)) λz=>(O.trans s2).none' z;exact uK J a3 Z a2 g2 a0 re nd hF c1 c2 g3 λx H' R S' q1 q2 q3 q4 q5 q6 q7 q8=>q x H' R S' q1 q2 q3 q4 q5 (λa Y=>nf (q6 a Y)) (λa Y=>nf (q7 a Y)) λb u U n=>q8 b u ((O.trans s2) b u U) n
theorem DG{T:String}{r:V->List V->Hp->VK->Prop}{op:D->List D->Option (D×D)}{to:TE}{t:TA}{i:Nat}{pf:En->Option (List Nat)}{f:En->Option (List D)}(J:MuV G r op)(F:Cg G T op)(N:RfP G ob to i pf)(Y:RfA G ob t f):RfS G ob P (K1 (tBM G.K T r to t)) (jE op i pf f):=λρ r e σ H S Fr s E q=>by
 unfold jE at e;cases h1:nZ op i pf f ρ with
 |none=>simp[h1]at e
 |some p=>
  obtain⟨res,B⟩:=p;have:Fl.nx B=r:=by simpa[h1]using e
  subst this;refine Ks J F N Y h1 s λx H' R S' q1 q2 O q4 q5 q6 Z q8=>q σ H' S' (q1.lessF λa z=>.inr z) ⟨λb u U n _=>q8 b u U λz=>n ⟨i,z⟩,λj a z=>?_,.refl⟩;by_cases I:j=i
  .subst I;exact(q6 a z).imp (λz=>⟨j,z⟩) .inr
  .rw[q5 j I]at z;exact .inl ⟨j,z⟩
theorem M5{T:String}{r:V->List V->Hp->VK->Prop}{op:D->List D->Option (D×D)}{to:TE}{t:TA}{i:Nat}{pf:En->Option (List Nat)}{f:En->Option (List D)}(a0:ob i=true)(J:MuV G r op)(F:Cg G T op)(N:RfP G ob to i pf)(Y:RfA G ob t f):km G ob (tBM G.K T r to t) (nZ op i pf f):=λρ d B e σ H S Fr s Q q=>by
 refine Ks J F N Y e s λx H' R S' q1 q2 O q4 q5 q6 q7 q8=>q x H' R S' q1 q2 O ⟨λb u U n=>q8 b u U λz=>n ⟨i,a0,z⟩,λj I=>q5 j (λz=>by rw[z,a0]at I;cases I),λj a I z=>?_,λa Y=>(q7 a Y).imp (λz=>⟨i,a0,z⟩) id⟩;by_cases Z:j=i
 .subst Z;exact(q6 a z).imp (λz=>⟨j,a0,z⟩) id
 .rw[q5 j Z]at z;exact .inl ⟨j,I,z⟩
theorem Jp{T:String}{r:V->List V->Hp->VK->Prop}{op:D->List D->Option (D×D)}{to:TE}{t:TA}{i:Nat}{pf:En->Option (List Nat)}{f:En->Option (List D×En)}(a5:ob i=false)(J:MuV G r op)(ht:Cg G T op)(ho:RfP G ob to i pf)(Y:Ar G ob t f)(a2:∀ρ q,f ρ=some q->q.2[i]? =ρ[i]?):RfS G ob P (K1 (tBM G.K T r to t)) (ur op i pf f):=λρ r e σ H S Fr s E q=>by
 unfold ur at e;cases h1:pf ρ with
 |none=>simp[h1]at e
 |some p=>
  cases h2:f ρ with
  |none=>simp[h1,h2]at e
  |some w=>
   obtain⟨es,ρ1⟩:=w;cases h3:upS op i p es ρ1 with
   |none=>simp[h1,h2,h3]at e
   |some w=>
    obtain⟨res,B⟩:=w;have:Fl.nx B=r:=by simpa[h1,h2,h3]using e
    subst this;obtain⟨d0,d,d',g1,g2,c1,c2,g3,rfl⟩:=De h3;have hs:=a2 ρ _ h2;simp only at hs;obtain⟨b1,dd,k1,k2,k3⟩:=ho ρ p h1 σ H S Fr s;rw[←hs,g1]at k1;cases k1;rw[g2]at k2;cases k2;have a8:clean d0=true:=let⟨_,_,_,h⟩:=s.sl i d0 (by rw[←hs];exact g1);h;refine k3 _ λv v0 H1 M O a9 a6=>⟨ht d es _ g3 v H1 _ M a6.r,?_⟩;have a0:Sta G H1 ob ρ σ S Fr:=s.grow O λa z=>.inl z;refine Y ρ es ρ1 h2 σ H1 S Fr a0 _ λxs H2 N S2 b0 re nd ef=>?_;have a1:=a6.mono (.inl (m_ a8 g2)) (ef.evo a0) λc Z u F=>ef.kp c u F λ⟨j,I,z⟩=>by rw[←a0.dj i j c Z z,a5]at I;cases I
    have a3:S2 i=S i:=ef.sn i a5;rw[←a3]at a1;have hF:∀a∈N,¬Fr a:=λa Y z=>by
     rcases ef.fm a Y with y|y
     .exact a0.notO z y
     .obtain⟨o,ho,_⟩:=a0.fdm a z
      rw[y]at ho;cases ho
    have a4:∀{a},inO ob S a∨H1 a=none->inS S a∨H a=none:=λ{a} z=>z.imp (λ⟨k,_,z⟩=>⟨k,z⟩) λz=>O.none' z;refine uK J b0 g1 a9 g2 a1 re nd hF c1 c2 g3 λx H' R S' q1 q2 q3 q4 q5 q6 q7 q8=>q σ H' S' (q1.lessF λa z=>.inr z) ⟨λb u U n _=>?_,λj a z=>?_,.refl⟩
    .exact q8 b u (ef.kp b u (O b u U) λ⟨k,_,z⟩=>n ⟨k,z⟩) λz=>n ⟨i,by rw[←a3];exact z⟩
    .by_cases I:j=i
     .subst I
      rcases q6 a z with y|y|y
      .rw[a3]at y;exact .inl ⟨j,y⟩
      .exact(a4 (ef.fm a y)).imp id .inr
      .exact(a4 (ef.back y)).imp id .inr
     .rw[q5 j I]at z
      cases a7:ob j with
      |false=>rw[ef.sn j a7]at z;exact .inl ⟨j,z⟩
      |true=>exact(a4 (ef.gr j a a7 z)).imp id .inr
structure MuB{ι:Type}(X:ι->Cx)(G:Gc)(T id:String)(op:D->List D->Option (D×D)):Prop where
 ex:∃r,(∀c,MtR (X c) id r)/\MuV G r op/\Cg G T op
section
variable{T name id:String}{op:D->List D->Option (D×D)}{o e:Expr}{es:List Expr}{apos cpos pos:Pos}{i:Nat}{pf:En->Option (List Nat)}
theorem kZ{J:Str}(m:MuB X G T id op)(O:aar T)(slot:Slot T J id)(Z:abk (.builtin id)=pure (.type "method_descriptor")){f:En->Option (List D)}(N:PVP X G ob o i pf)(Y:PVA X G ob (e::es) f)(U:∀c,Zd (.Call (.Attribute o J apos) (e::es) [] cpos) none pos.line (X c).env=pure false:=by intro _;rfl)(V:∀c,Zx o J (X c).env (eval o (X c).env)=eval o (X c).env:=by intro _;rfl)(F:∀c,((Yj cpos (We (e::es) (X c).env)).all (λx=>!x.1)&&(acG cpos (abe [] (X c).env)).all (λx=>x.1.isSome)
  &&decide ((e::es).length+([]:List aas).length+(if([]:List aas).isEmpty then 0 else 1)<30))=true:=by intro _;rfl) (q:(apos.endLine==cpos.line)=true:=by rfl) (hs:∀c,We (e::es) (X c).env=(false,eval e (X c).env)::We es (X c).env:=by intro _;rfl) (B:∀c,(Yj cpos (We es (X c).env)).any (·.1)=false:=by intro _;rfl) (I:∀c,(X c).K=G.K:=by intro _;rfl) :
 PVS X G ob P (.Expr (.Call (.Attribute o J apos) (e::es) [] cpos) pos) (jE op i pf f):=let⟨r,m1,m2,m3⟩:=m.ex;let⟨t,a1,a2⟩:=N.ex;let⟨u,b1,b2⟩:=Y.ex;⟨_,λc=>(by rw[←I c];exact xg (Eg O slot Z (m1 c) (a1 c) (b1 c) (V c) (F c) q (hs c) (B c)) (U c)),DG m2 m3 a2 b2⟩
theorem tR{J:Str}(m:MuB X G T id op)(O:aar T)(slot:Slot T J id)(Z:abk (.builtin id)=pure (.type "method_descriptor")){f:En->Option (List D×En)}(N:PVP X G ob o i pf)(Y:uZ X G ob (e::es) f)(a3:∀ρ q,f ρ=some q->q.2[i]? =ρ[i]?)(U:ob i=false:=by rfl)(a4:∀c,Zd (.Call (.Attribute o J apos) (e::es) [] cpos) none pos.line (X c).env=pure false:=by intro _;rfl)(V:∀c,Zx o J (X c).env (eval o (X c).env)=eval o (X c).env:=by intro _;rfl)(F:∀c,((Yj cpos (We (e::es) (X c).env)).all (λx=>!x.1)&&(acG cpos (abe [] (X c).env)).all (λx=>x.1.isSome)
  &&decide ((e::es).length+([]:List aas).length+(if([]:List aas).isEmpty then 0 else 1)<30))=true:=by intro _;rfl) (a0:(apos.endLine==cpos.line)=true:=by rfl) (hs:∀c,We (e::es) (X c).env=(false,eval e (X c).env)::We es (X c).env:=by intro _;rfl) (B:∀c,(Yj cpos (We es (X c).env)).any (·.1)=false:=by intro _;rfl) (I:∀c,(X c).K=G.K:=by intro _;rfl) :
 PVS X G ob P (.Expr (.Call (.Attribute o J apos) (e::es) [] cpos) pos) (ur op i pf f):=let⟨r,m1,m2,m3⟩:=m.ex;let⟨t,a1,a2⟩:=N.ex;let⟨u,b1,b2⟩:=Y.ex;⟨_,λc=>(by rw[←I c];exact xg (Eg O slot Z (m1 c) (a1 c) (b1 c) (V c) (F c) a0 (hs c) (B c)) (a4 c)),Jp U m2 m3 a2 b2 a3⟩
theorem N8{J:Str}(m:MuB X G T id op)(O:aar T)(slot:Slot T J id)(Z:abk (.builtin id)=pure (.type "method_descriptor")){f:En->Option (List D)}(N:PVP X G ob o i pf)(Y:PVA X G ob (e::es) f)(U:ob i=true:=by rfl)(V:∀c,Zx o J (X c).env (eval o (X c).env)=eval o (X c).env:=by intro _;rfl)(F:∀c,((Yj cpos (We (e::es) (X c).env)).all (λx=>!x.1)&&(acG cpos (abe [] (X c).env)).all (λx=>x.1.isSome)
  &&decide ((e::es).length+([]:List aas).length+(if([]:List aas).isEmpty then 0 else 1)<30))=true:=by intro _;rfl) (q:(apos.endLine==cpos.line)=true:=by rfl) (hs:∀c,We (e::es) (X c).env=(false,eval e (X c).env)::We es (X c).env:=by intro _;rfl) (B:∀c,(Yj cpos (We es (X c).env)).any (·.1)=false:=by intro _;rfl) (I:∀c,(X c).K=G.K:=by intro _;rfl) :
 PVe X G ob (.Call (.Attribute o J apos) (e::es) [] cpos) (nZ op i pf f):=let⟨r,m1,m2,m3⟩:=m.ex;let⟨t,a1,a2⟩:=N.ex;let⟨u,b1,b2⟩:=Y.ex;⟨_,λc=>(by rw[←I c];exact Eg O slot Z (m1 c) (a1 c) (b1 c) (V c) (F c) q (hs c) (B c)),M5 U m2 m3 a2 b2⟩
theorem Ib{J:Str}(m:MuB X G T id op)(O:aar T)(slot:Slot T J id)(Z:abk (.builtin id)=pure (.type "method_descriptor"))(N:PVP X G ob o i pf)(U:∀c,Zd (.Call (.Attribute o J apos) [] [] cpos) none pos.line (X c).env=pure false:=by intro _;rfl)(V:∀c,Zx o J (X c).env (eval o (X c).env)=eval o (X c).env:=by intro _;rfl)(q:(apos.endLine==cpos.line)=true:=by rfl)(I:∀c,(X c).K=G.K:=by intro _;rfl) :
 PVS X G ob P (.Expr (.Call (.Attribute o J apos) [] [] cpos) pos) (jE op i pf aH):=let⟨r,m1,m2,m3⟩:=m.ex;let⟨t,a1,a2⟩:=N.ex;⟨_,λc=>(by rw[←I c];exact xg (QW O slot Z (m1 c) (a1 c) (V c) q) (U c)),DG m2 m3 a2 BV⟩
end
structure MuT{ι:Type}(X:ι->Cx)(G:Gc)(op:D->List D->Option (D×D)):Prop where
 ex:∃t:Gj,(∀c,Mw (X c) t)/\MuV G (λo xs H Q=>∃i v,xs=[i,v]/\t o i v H λH'=>Q .non H') op
def rJ(op:D->List D->Option (D×D))(i:Nat)(pf:En->Option (List Nat))(fk:En->Option D):D->En->Option En:=λd ρ=>(pf ρ).bind λp=>(fk ρ).bind λk=>(upS op i p [k,d] ρ).map λq=>q.2
theorem Ma{t:Gj}{op:D->List D->Option (D×D)}{to ti:TE}{i:Nat}{pf:En->Option (List Nat)}{fk:En->Option D}(J:MuV G (λo xs H Q=>∃i v,xs=[i,v]/\t o i v H λH'=>Q .non H') op)(ho:RfP G ob to i pf)(hi:RfE G ob ti fk):RfG G ob P (g8 to ti t) (rJ op i pf fk):=λd ρ B e v σ H S M Fr s r nd hF Q q=>by
 unfold rJ at e;cases h1:pf ρ with
 |none=>simp[h1]at e
 |some p=>
  cases h2:fk ρ with
  |none=>simp[h1,h2]at e
  |some k=>
   cases Z:upS op i p [k,d] ρ with
   |none=>simp[h1,h2,Z]at e
   |some w=>
    obtain⟨res,ρ1⟩:=w;obtain rfl:ρ1=B:=by simpa[h1,h2,Z]using e
    obtain⟨d0,dd,d',g1,g2,c1,c2,g3,rfl⟩:=De Z;obtain⟨b0,a9,V,k2,k3⟩:=ho ρ p h1 σ H S (plus M Fr) s;rw[g1]at V;cases V;rw[g2]at k2;cases k2;refine k3 _ λo v0 H1 M1 O a5 a6=>?_;have I:Sta G H1 ob ρ σ S (plus M Fr):=s.grow O λa z=>.inl z;refine hi ρ k h2 σ H1 _ I.rel I.wok _ λy H2 N s2 ry fr nN=>?_;have a8:Sta G H2 ob ρ σ S (plus (N++M) Fr):=I.grow s2 λa z=>z.elim (λz=>(qb.mp z).elim (λz=>.inr ⟨fr a z,ry.dom a z⟩) λz=>.inl (.inl z)) λz=>.inl (.inr z);have up:Up H1 H2 (wn ob S (plus M Fr)) (wn ob S (plus (N++M) Fr)):=⟨s2,λb u U f=>⟨λz=>z.elim (λz=>(qb.mp z).elim (λz=>by rw[fr b z]at U;cases U) λz=>f.1 (.inl z)) λz=>f.1 (.inr z),f.2⟩,λ_ _ _ f=>f⟩;have a1:Up H H2 (wn ob S (plus M Fr)) (wn ob S (plus (N++M) Fr)):=(Up.same O).trans up;have a0:=a6.mono (.inr up) up.evo λc _ u F=>s2 c u F;have a2:(wn ob S (plus M Fr)).add N=wn ob S (plus (N++M) Fr):=by
     show Wn.mk _ _ _=Wn.mk _ _ _;congr 1;funext a;simp only[plus,qb,eq_iff_iff,or_assoc];constructor
     .rintro(z|z)
      .exact .inl z
      .exact .inr z
     .rintro(z|z)
      .exact .inl z
      .exact .inr z
    rw[a2]at ry;have a7:∀a∈N,a∉M:=λa h1 h2=>by
     obtain⟨o,ho,_⟩:=r.dom a h2;rw[O.none' (fr a h1)]at ho;cases ho
    have re:aD G H2 (wn ob S (plus (N++M) Fr)) [k,d] [y,v] (N++M):=.cons ry (.one (r.up a1));have a4:∀a∈N++M,¬Fr a:=λa Y z=>by
     rcases qb.mp Y with y|y
     .obtain⟨o,ho,_⟩:=I.fdm a (.inr z)
      rw[fr a y]at ho;cases ho
     .exact hF a y z
    have a3:=uK J a8 g1 a5 g2 a0 re (cP nN nd a7) a4 c1 c2 g3 (Q:=λ_ H'=>Q σ H') λx H' R S' q1 q2 q3 q4 q5 q6 q7 q8=>q σ H' S' (q1.lessF λa z=>.inr z) ⟨λb u U n m=>?_,λj a z=>?_,.refl⟩
    .obtain⟨i1,v1,e1,k⟩:=a3
     cases e1;exact k
    .exact q8 b u ((O.trans s2) b u U) λz=>n ⟨i,z⟩
    .by_cases hj:j=i
     .subst hj
      rcases q6 a z with y|y|y
      .exact .inl ⟨j,y⟩
      .exact(qb.mp y).elim (λy=>.inr (.inr (O.none' (fr a y)))) λy=>.inr (.inl y)
      .exact .inr (.inr ((O.trans s2).none' y))
     .rw[q5 j hj]at z;exact .inl ⟨j,z⟩
theorem xZ{op:D->List D->Option (D×D)}{o k:Expr}{pos:Pos}{i:Nat}{pf:En->Option (List Nat)}{fk:En->Option D}(m:MuT X G op)(N:PVP X G ob o i pf)(B:PV X G ob k fk)(Y:∀c,∀v,aai (.Subscript o k pos) (X c).env v=(do
 let ov ←Zt [v] (eval o (X c).env)
 let iv ←Zt [v,ov] (eval k (X c).env)
 standAt pos
 Zt [v,ov,iv] (setItem ov iv v)
 release [v,ov,iv] []):=by intro _;intro _;rfl):PVG X G ob P (.Subscript o k pos) (rJ op i pf fk):=let⟨t,m1,m2⟩:=m.ex;let⟨_,a1,a2⟩:=N.ex;let⟨_,b1,b2⟩:=B.ex;⟨_,λc=>Qo (a1 c) (b1 c) (m1 c) (Y c),Ma m2 a2 b2⟩
theorem lA{G:Gc}{H:Hp}{W:Wn}:Rep G H W .non .non []:=by rw[Rep];exact⟨rfl,rfl⟩
theorem qX{ds:List D}(h1:aA ds=true)(h2:aB ds=true):clean (.lst .own ds)=true:=by simp[clean,az,aq,h1,h2]
theorem Dp{G:Gc}{H:Hp}{W W':Wn}{a:Addr}{xs:List V}{ds:List D}{M:List Addr}{ys:List V}(O:aD G H W ds xs M)(q:aA ds=true)(B:aB ds=true)(hn:a∉M)(J:Evo H (upd H a (.lst ys)) W W'):aD G (upd H a (.lst ys)) W' ds xs M:=
 O.mono J (.inl q) (.inl B) λc Z u F=>by rw[aK (show c≠a from λz=>hn (z▸Z))];exact F
def aN:D->List D->Option (D×D)
 |.lst .own ds,[e]=>if ds.length<1000000 then some (.lst .own (ds++[e]),.non)else none
 |_,_=>none
theorem Dm{n:Nat}(h:n<1000000):n<V6:=Wg h (by decide)
theorem CP{G:Gc}:MuV G Em aN:=λd es d' res h v xs H W M N r re nd hM Z B c2 Q q=>by
 unfold aN at h;split at h
 .rename_i ds e
  split at h
  .rename_i hl
   cases h;rw[Rep]at r;obtain⟨a,ys,M0,rfl,O,Y,rfl⟩:=r;obtain⟨x,zs,N1,N2,rfl,rfl,J,hz⟩:=re.inv;obtain⟨rfl,rfl⟩:=hz.inv0;rw[Wm]at nd re;obtain⟨V,k2⟩:=j5 Z;have I:=Wi.mp nd;have hn:=W_.mp I.1;have a0:a∉N1:=λz=>I.2.2 a (by simp) a z rfl;simp only[aA,aB,Wr]at B c2;refine⟨a,ys,x,rfl,rfl,Y,Dm (by rw[←O.length];exact hl),q .non _ (a::(M0++N1)) [] (λb u U n=>by rw[aK (show b≠a from λz=>n (by rw[z];simp))];exact U) (λW' ev=>⟨?_,lA⟩) ?_ (λb U=>?_) (qX (by rw[jw];simp[V,aA,B]) (by rw[jq];simp[k2,aB,c2])) rfl⟩
   .rw[Rep]
    refine⟨a,ys++[x],M0++N1,rfl,(Dp O V k2 hn.1 ev).append (.one (J.mono ev (.inl B.1) (.inl c2.1) λc Z u F=>?_)),aM,rfl⟩;rw[aK (show c≠a from λz=>a0 (z▸Z))];exact F
   .rw[Wm]
    exact nd
   .rw[Wm]at U
    rcases V5.mp U with z|z
    .exact .inl 1.22
    .rcases qb.mp z with z|z
     .exact .inl 1.22
     .exact .inr (.inl 1.22)
  .cases h
 .cases h
theorem yh{T:String}{op:D->List D->Option (D×D)}(I:T="list")(h:∀d es q,op d es=some q->∃m ds,d= .lst m ds):Cg G T op:=λd es q e v H W L r=>by
 obtain⟨m,ds,rfl⟩:=h d es q e;rw[Rep]at r;obtain⟨a,xs,M,rfl,O,hs⟩:=r;exact .inl ⟨I,xs,hs.sq⟩
theorem fP:MuB X G "list" "list.append" aN:=⟨_,λc=>G7,CP,yh rfl λd es q e=>by
 unfold aN at e;split at e
 .exact⟨_,_,rfl⟩
 .cases e⟩
def gP(ks:List Key)(ds:List D)(k:Key)(v:D):List Key×List D:=match fU ks k with
 |some j=>(ks,ds.set j v)
 |none=>(ks++[k],ds++[v])
def gH:D->List D->Option (D×D)
 |.lst .own ds,[.int k,v]=>(ixN ds.length k).map λj=>(.lst .own (ds.set j v),.non)
 |.dct .own ks ds,[k,v]=>(fG k).bind λk=>if ks.length<1000000 then some (.dct .own (gP ks ds k v).1 (gP ks ds k v).2,.non)else none
 |_,_=>none
def Pz:Gj:=λo i v H Q=>Qf o i v H Q∨∃a H',o= .ref a/\Bx H a i v H'/\Q H'
theorem Nu{Y:Cx}(F:Y.A.units+1<cLine):Mw Y Pz:=by
 intro pins s σ H o i v O U u Q I V N J h;rcases h with h|⟨a,H',rfl,g,q⟩
 .exact set_list pins s σ H o i v O U u Q I V N J h
 .cases V
  exact Ho F I g N J λB Z=>⟨H',Z,q⟩
theorem aD.set{G:Gc}{H:Hp}{W:Wn}{ds:List D}{xs:List V}{L:List Addr}{j:Nat}{c d':D}{y:V}{M':List Addr}(O:aD G H W ds xs L)(e:ds[j]? =some c)(N:Rep G H W d' y M'):∃A M B,L=A++(M++B)/\aD G H W (ds.set j d') (xs.set j y) (A++(M'++B)):=by
 obtain⟨P,Q,x,ys,zs,F,M1,J,rfl,q,rfl,I,rfl,h1,h2,Z⟩:=O.at e;refine⟨F,M1,J,rfl,?_⟩;rw[←q,aaX _ _ (Wa _),Zj];rw[show P.length=ys.length by omega,aaX _ _ (Wa _),Zj];exact aD.append h1 (aD.cons N Z)
theorem lw{ds:List D}{j:Nat}{x:D}(h:aA ds=true)(J:az x=true):aA (ds.set j x)=true:=by
 induction ds generalizing j with
 |nil=>simpa using h
 |cons y r O=>
  simp only[aA,Wr]at h;cases j with
  |zero=>simp[aA,J,h]
  |succ j=>simp only[XN,aA,Wr];exact⟨h.1,O h.2⟩
theorem lr{ds:List D}{j:Nat}{x:D}(h:aB ds=true)(J:aq x=true):aB (ds.set j x)=true:=by
 induction ds generalizing j with
 |nil=>simpa using h
 |cons y r O=>
  simp only[aB,Wr]at h;cases j with
  |zero=>simp[aB,J,h]
  |succ j=>simp only[XN,aB,Wr];exact⟨h.1,O h.2⟩
theorem RW{n:Nat}{k:Int}{j:Nat}(h:ixN n k=some j):j<n:=by
 unfold ixN at h;split at h
 .split at h
  .cases h;omega
  .cases h
 .split at h
  .cases h;omega
  .cases h
theorem tH{ks:List Key}{k:Key}{j:Nat}(h:fU ks k=some j):j<ks.length:=(W6.mp h).1
theorem zJ:∀{kvs:List (Key×V)}{k:Key}{j:Nat}{v:V},fU (kvs.map (·.1)) k=some j->(kvs.map (·.1)).Nodup->(putK kvs k v).map (·.1)=kvs.map (·.1)/\(putK kvs k v).map (·.2)=(kvs.map (·.2)).set j v:=by
 intro kvs k j v h n;have I:=W6.mp h;obtain⟨Y,B,_⟩:=I;have Z:j<kvs.length:=by simpa using Y
 have q:kvs[j].1=k:=by simpa using B
 have J:(kvs.any λN=>decide (N.1=k))=true:=aaP.mpr ⟨kvs[j],YK _,by simpa using q⟩;unfold putK;rw[Wd J];constructor
 .rw[V9]
  apply Wz;intro p _;simp only[Xr];split<;>rfl
 .apply Y6
  intro i;rw[V9,List.getElem?_map];by_cases U:j=i
  .subst U
   rw[aaB (by simpa using Z)];simp[Z,q]
  .rw[List.getElem?_set_ne U,List.getElem?_map]
   cases e:kvs[i]? with
   |none=>rfl
   |some p=>
    have a0:i<kvs.length:=(Hq.mp e).1;have O:kvs[i]=p:=(Hq.mp e).2;have F:p.1≠k:=λz=>by
     have e1:(kvs.map (·.1))[i]? =(kvs.map (·.1))[j]?:=by
      rw[List.getElem?_map,List.getElem?_map,e,Wh Z];simp[z,q]
     exact U ((abE (by simpa using a0) n).mp e1).symm
    simp[F]
theorem lQ{kvs:List (Key×V)}{k:Key}{v:V}(h:fU (kvs.map (·.1)) k=none):putK kvs k v=kvs++[(k,v)]:=by
 unfold putK;rw[Wo];intro z;obtain⟨p,F,e⟩:=aaP.mp z;have:=Ye.mp h p.1 (V4.mpr ⟨p,F,rfl⟩);simp at this e;exact this e
theorem ux{ks:List Key}{k:Key}(h:fU ks k=none):k∉ks:=λz=>by
 have:=Ye.mp h k z;simp at this
theorem Om{G:Gc}:MuV G (λo xs H Q=>∃i v,xs=[i,v]/\Pz o i v H λH'=>Q .non H') gH:=λd es d' res h v xs H W M N r re nd hM Z c1 c2 Q q=>by
 unfold gH at h;split at h
 .rename_i ds k e
  cases I:ixN ds.length k with
  |none=>simp[I]at h
  |some j=>
   obtain⟨rfl,rfl⟩:D.lst .own (ds.set j e)=d'/\D.non=res:=by simpa[I]using h
   rw[Rep]at r;obtain⟨a,ys,M0,rfl,O,Y,rfl⟩:=r;obtain⟨x1,zs,N1,N2,rfl,rfl,a2,hz⟩:=re.inv;obtain⟨x,zs,N3,N4,rfl,rfl,J,hz⟩:=hz.inv;obtain⟨rfl,rfl⟩:=hz.inv0;rw[Rep]at a2;obtain⟨rfl,rfl⟩:=a2;rw[Wm,List.nil_append]at nd re;obtain⟨k1,k2⟩:=j5 Z;have a1:=Wi.mp nd;have hn:=W_.mp a1.1;have a3:a∉N3:=λz=>a1.2.2 a (by simp) a z rfl;simp only[aA,aB,Wr]at c1 c2;have a8:=RW I;obtain⟨A,M1,B,a6,a4⟩:=O.set (Wh a8) J;have a0:Yb (A++B) M0:=by rw[a6];exact(Y8 A).append (Yd M1 B)
   refine⟨_,_,rfl,.inl ⟨a,ys,k,j,rfl,rfl,Y,by rw[←O.length];exact I,q .non _ (a::(A++(N3++B))) [] (λb u U n=>by rw[aK (show b≠a from λz=>n (by rw[z];simp))];exact U) (λW' ev=>⟨?_,lA⟩) ?_ (λb U=>?_) (qX (lw k1 c1.2.1) (lr k2 c2.2.1)) rfl⟩⟩
   .rw[Rep]
    refine⟨a,_,A++(N3++B),rfl,?_,aM,rfl⟩;refine a4.mono ev (.inl (lw k1 c1.2.1)) (.inl (lr k2 c2.2.1)) λc Z u F=>?_;rw[aK (show c≠a from λz=>?_)]
    .exact F
    .subst z
     simp only[qb]at Z;rcases Z with y|y|y
     .exact hn.1 (a0.subset (by simp[y]))
     .exact a3 y
     .exact hn.1 (a0.subset (by simp[y]))
   .rw[Wm]
    have n2:=a0.nodup hn.2;have n3:=Wi.mp n2;have a5:∀z∈N3,z∉A++B:=λz h1 h2=>a1.2.2 z (Ws _ (a0.subset h2)) z h1 rfl;refine List.nodup_cons.mpr ⟨λy=>?_,cP n3.1 (cP a1.2.1 n3.2.1 λz h1 h2=>a5 z h1 (by simp[h2])) λz h1 h2=>?_⟩
    .simp only[qb]at y
     rcases y with y|y|y
     .exact hn.1 (a0.subset (by simp[y]))
     .exact a3 y
     .exact hn.1 (a0.subset (by simp[y]))
    .rcases qb.mp h2 with y|y
     .exact a5 z y (by simp[h1])
     .exact n3.2.2 z h1 z y rfl
   .rw[Wm]at U
    rcases V5.mp U with z|z
    .exact .inl 1.22
    .simp only[qb]at z
     rcases z with z|z|z
     .exact .inl (Ws _ (a0.subset 1.22))
     .exact .inr (.inl 1.22)
     .exact .inl (Ws _ (a0.subset 1.22))
 .rename_i ks ds k0 e
  cases hk:fG k0 with
  |none=>simp[hk]at h
  |some k=>
   rw[hk]at h;simp only[V1]at h;split at h
   .rename_i hl
    cases h;rw[Rep]at r;obtain⟨a,kvs,M0,rfl,⟨rfl,a7⟩,O,Y,rfl⟩:=r;obtain⟨x1,zs,N1,N2,rfl,rfl,a2,hz⟩:=re.inv;obtain⟨x,zs,N3,N4,rfl,rfl,J,hz⟩:=hz.inv;obtain⟨rfl,rfl⟩:=hz.inv0;have a9:=lX a2 hk;subst a9;have b0:N1=[]:=by
     cases k0<;>simp[fG]at hk<;>rw[Rep]at a2<;>exact a2.2
    subst b0;rw[Wm,List.nil_append]at nd re;have k1:aA ds=true/\aB ds=true:=by simp[clean,az,aq]at Z;exact Z
    have a1:=Wi.mp nd;have hn:=W_.mp a1.1;have a3:a∉N3:=λz=>a1.2.2 a (by simp) a z rfl;simp only[aA,aB,Wr]at c1 c2;have b1:kvs.length<V6:=Dm (by simpa using hl);refine⟨_,_,rfl,.inr ⟨a,_,rfl,Bx.k (k:=k) Y b1,?_⟩⟩;cases I:fU (kvs.map (·.1)) k with
    |some j=>
     have a8:j<ds.length:=by rw[O.length];simpa using tH I
     obtain⟨A,M1,B,a6,a4⟩:=O.set (Wh a8) J;obtain⟨p1,p2⟩:=zJ (v:=x) I a7;have a0:Yb (A++B) M0:=by rw[a6];exact(Y8 A).append (Yd M1 B)
     refine q .non _ (a::(A++(N3++B))) [] (λb u U n=>by rw[aK (show b≠a from λz=>n (by rw[z];simp))];exact U) (λW' ev=>⟨?_,lA⟩) ?_ (λb U=>?_) ?_ rfl
     .simp only[gP,I]
      rw[Rep];refine⟨a,_,A++(N3++B),rfl,⟨p1,a7⟩,?_,aM,rfl⟩;rw[p2];refine a4.mono ev (.inl (lw k1.1 c1.2.1)) (.inl (lr k1.2 c2.2.1)) λc Z u F=>?_;rw[aK (show c≠a from λz=>?_)]
      .exact F
      .subst z
       simp only[qb]at Z;rcases Z with y|y|y
       .exact hn.1 (a0.subset (by simp[y]))
       .exact a3 y
       .exact hn.1 (a0.subset (by simp[y]))
     .rw[Wm]
      have n2:=a0.nodup hn.2;have n3:=Wi.mp n2;have a5:∀z∈N3,z∉A++B:=λz h1 h2=>a1.2.2 z (Ws _ (a0.subset h2)) z h1 rfl;refine List.nodup_cons.mpr ⟨λy=>?_,cP n3.1 (cP a1.2.1 n3.2.1 λz h1 h2=>a5 z h1 (by simp[h2])) λz h1 h2=>?_⟩
      .simp only[qb]at y
       rcases y with y|y|y
       .exact hn.1 (a0.subset (by simp[y]))
       .exact a3 y
       .exact hn.1 (a0.subset (by simp[y]))
      .rcases qb.mp h2 with y|y
       .exact a5 z y (by simp[h1])
       .exact n3.2.2 z h1 z y rfl
     .rw[Wm]at U
      rcases V5.mp U with z|z
      .exact .inl 1.22
      .simp only[qb]at z
       rcases z with z|z|z
       .exact .inl (Ws _ (a0.subset 1.22))
       .exact .inr (.inl 1.22)
       .exact .inl (Ws _ (a0.subset 1.22))
     .simp[gP,I,clean,az,aq,lw k1.1 c1.2.1,lr k1.2 c2.2.1]
    |none=>
     rw[lQ I];refine q .non _ (a::(M0++N3)) [] (λb u U n=>by rw[aK (show b≠a from λz=>n (by rw[z];simp))];exact U) (λW' ev=>⟨?_,lA⟩) ?_ (λb U=>?_) ?_ rfl
     .simp only[gP,I]
      rw[Rep];refine⟨a,_,M0++N3,rfl,⟨by simp,?_⟩,?_,aM,rfl⟩
      .exact Wi.mpr ⟨a7,by simp,λy V z hz=>by
        have:z=k:=by simpa using hz
        subst this;exact λe=>ux I (e▸V)⟩
      .rw[Ww]
       refine(O.mono ev (.inl k1.1) (.inl k1.2) λc Z u F=>?_).append (.one (J.mono ev (.inl c1.2.1) (.inl c2.2.1) λc Z u F=>?_))
       .rw[aK (show c≠a from λz=>hn.1 (z▸Z))];exact F
       .rw[aK (show c≠a from λz=>a3 (z▸Z))];exact F
     .rw[Wm];exact nd
     .rw[Wm]at U
      rcases V5.mp U with z|z
      .exact .inl 1.22
      .rcases qb.mp z with z|z
       .exact .inl 1.22
       .exact .inr (.inl 1.22)
     .simp[gP,I,clean,az,aq,jw,jq,aA,aB,k1,c1,c2]
   .cases h
 .cases h
theorem xq(F:∀c,(X c).A.units+1<cLine):MuT X G gH:=⟨_,λc=>Nu (F c),Om⟩
end
abbrev InX{ι:Type}(X:ι->Cx)(N':List Str)(scope:Scope):ι×(Addr×V0×Hp×List Addr)->Cx:=λp=>bj (X p.1) N' scope p.2.1 p.2.2.1 p.2.2.2.1 p.2.2.2.2
def iK(cap:List (Option Nat))(ρ:En):En:=cap.map λo=>o.bind λj=>(ρ[j]?).bind id
def obC(cap:List (Option Nat))(ob:Nat->Bool):Nat->Bool:=λi=>match cap[i]? with
 |some (some j)=>ob j
 |_=>false
theorem pX{α:Type}{cap:List (Option Nat)}{l:List (Option α)}{i:Nat}{x:α}(h:(cap.map λo=>o.bind λj=>(l[j]?).bind id)[i]? =some (some x)):∃j,cap[i]? =some (some j)/\l[j]? =some (some x):=by
 rw[List.getElem?_map]at h;cases e:cap[i]? with
 |none=>rw[e]at h;cases h
 |some o=>
  rw[e]at h;cases o with
  |none=>simp at h
  |some j=>
   refine⟨j,rfl,?_⟩;have h:(l[j]?).bind id=some x:=by simpa using h
   cases e2:l[j]? with
   |none=>rw[e2]at h;cases h
   |some o=>rw[e2]at h;simpa using h
theorem yR{α:Type}{cap:List (Option Nat)}{l:List (Option α)}{i j:Nat}{x:α}(h:cap[i]? =some (some j))(h2:l[j]? =some (some x)):(cap.map λo=>o.bind λj=>(l[j]?).bind id)[i]? =some (some x):=by
 rw[List.getElem?_map,h];simp[h2]
section
variable{G:Gc}{ob:Nat->Bool}
theorem Rel.cap{H:Hp}{W:Wn}{ρ:En}{σ:L2.St}{cap:List (Option Nat)}(r:Rel G H W ob ρ σ):Rel G H W (obC cap ob) (iK cap ρ) (eV cap σ):=λi d e=>by
 obtain⟨j,h1,h2⟩:=pX e;obtain⟨v,L,q1,q2,O⟩:=r j d h2;refine⟨v,L,yR h1 q1,q2,λz=>O ?_⟩;unfold obC at z;rw[h1]at z;exact z
def Gn(G:Gc)(ob own:Nat->Bool)(g:TG)(f:D->En->Option En):Prop:=∀(d:D)(ρ B:En),f d ρ=some B->∀(x:V)(σ:L2.St)(H:Hp)(W:Wn),Rep G H W d x []->Rel G H W ob ρ σ->σ.length=ρ.length->∀Q:L2.St->Hp->Prop,
 (∀F,Rel G H W ob B F->F.length=B.length->(∀j,own j=false->F[j]? =σ[j]?)->Q F H)->g x σ H Q
def Ao(G:Gc)(ob own:Nat->Bool)(g:TGs)(f:List D->En->Option En):Prop:=∀(ds:List D)(ρ B:En),f ds ρ=some B->∀(xs:List V)(σ:L2.St)(H:Hp)(W:Wn),aD G H W ds xs []->Rel G H W ob ρ σ->σ.length=ρ.length->∀Q:L2.St->Hp->Prop,
 (∀F,Rel G H W ob B F->F.length=B.length->(∀j,own j=false->F[j]? =σ[j]?)->Q F H)->g xs σ H Q
structure Br{ι:Type}(X:ι->Cx)(G:Gc)(ob own:Nat->Bool)(tg:Expr)(f:D->En->Option En):Prop where
 mk::(ex:∃t,(∀c,PG (X c) tg t)/\Gn G ob own t f)
structure Dy{ι:Type}(X:ι->Cx)(G:Gc)(ob own:Nat->Bool)(tg:List Expr)(f:List D->En->Option En):Prop where
 mk::(ex:∃t,(∀c,PGs (X c) tg t)/\Ao G ob own t f)
def tpN(i:Nat):D->En->Option En:=λd ρ=>some (ρ.set i (some d))
def tpT(n:Nat)(g:List D->En->Option En):D->En->Option En:=λd ρ=>match d with
 |.tup ds=>if ds.length=n then g ds ρ else none
 |_=>none
theorem G9{own:Nat->Bool}{i:Nat}(N:own i=true):Gn G ob own (rn i) (tpN i):=λd ρ B e x σ H W r F Y Q q=>by
 cases e;refine q _ (λj d' I=>?_) (by simp[Y]) λj I=>?_
 .by_cases e:i=j
  .subst e
   rw[List.getElem?_set]at I;split at I
   .split at I
    .rename_i h2
     have:d=d':=by simpa using I
     subst this;exact⟨x,[],by simp[Y,h2],r,λ_ c Z=>by cases Z⟩
    .cases I
   .exact absurd rfl ‹_›
  .rw[List.getElem?_set_ne e]at I
   obtain⟨v,L,h1,h2,J⟩:=F j d' I;exact⟨v,L,by rw[List.getElem?_set_ne e];exact h1,h2,J⟩
 .have:i≠j:=λz=>by rw[←z,N]at I;cases I
  rw[List.getElem?_set_ne this]
theorem Ht{own:Nat->Bool}:Ao G ob own MN dq:=λds ρ B e xs σ H W r F Y Q q=>by
 cases ds with
 |nil=>
  cases e;obtain⟨rfl,_⟩:=r.inv0;exact⟨rfl,q σ F Y λ_ _=>rfl⟩
 |cons d r=>cases e
theorem Cj{own:Nat->Bool}{t:TG}{u:TGs}{f:D->En->Option En}{g:List D->En->Option En}(h1:Gn G ob own t f)(h2:Ao G ob own u g):Ao G ob own (HY t u) (aU f g):=λds ρ B e xs σ H W r F Y Q q=>by
 cases ds with
 |nil=>cases e
 |cons d ds=>
  obtain⟨x,ys,M1,M2,rfl,hL,J,O⟩:=r.inv;obtain⟨rfl,rfl⟩:M1=[]/\M2=[]:=by simpa using hL.symm
  simp only[aU]at e;cases Z:f d ρ with
  |none=>rw[Z]at e;cases e
  |some ρ1=>
   have e:g ds ρ1=some B:=by simpa[Z]using e
   exact⟨x,ys,rfl,h1 d ρ ρ1 Z x σ H W J F Y _ λN a1 U V=>h2 ds ρ1 B e ys N H W O a1 U Q λσ2 a2 a0 k2=>q σ2 a2 a0 λj I=>(k2 j I).trans (V j I)⟩
theorem Kg{own:Nat->Bool}{n:Nat}{t:TGs}{g:List D->En->Option En}(h:Ao G ob own t g):Gn G ob own (Qs G.K n t) (tpT n g):=λd ρ B e x σ H W r I Y Q q=>by
 cases d with
 |tup ds=>
  simp only[tpT]at e;split at e
  .rename_i hn
   rw[Rep]at r;obtain⟨a,xs,rfl,F,O⟩:=r;exact⟨a,xs,rfl,SqT.of F,by rw[←O.length];exact hn,h ds ρ B e xs σ H W O I Y Q q⟩
  .cases e
 |_=>cases e
end
section
variable{ι:Type}{X:ι->Cx}{G:Gc}{ob own:Nat->Bool}
theorem cL(i:Nat){x:Str}{pos:Pos}(U:∀c,(X c).N.Nodup)(q:own i=true:=by rfl)(hi:∀c,(X c).N[i]? =some x:=by intro _;rfl)(J:∀c,Loc (X c).env.scope x:=by intro _;first|exact Yk rfl|exact Xv rfl)(Z:∀c,(X c).fn x=true∨(X c).env.scope.names.lookup x=some .local:=by intro _;first|exact .inl rfl|exact .inr rfl):Br X G ob own (.Name x pos) (tpN i):=⟨_,λc=>tE (U c) (hi c) (J c) (Z c),G9 q⟩
theorem ww:Dy X G ob own [] dq:=⟨_,λc=>Ft,Ht⟩
theorem jm{e:Expr}{es:List Expr}{f:D->En->Option En}{g:List D->En->Option En}(h1:Br X G ob own e f)(h2:Dy X G ob own es g)(hs:∀c,(Xz (e::es) (X c).env).map (·.2)=aai e (X c).env::(Xz es (X c).env).map (·.2):=by intro _;rfl):Dy X G ob own (e::es) (aU f g):=
 let⟨t,a1,a2⟩:=h1.ex;let⟨u,b1,b2⟩:=h2.ex;⟨_,λc=>zK (a1 c) (b1 c) (hs c),Cj a2 b2⟩
theorem Bb{es:List Expr}{k n:Nat}{pos:Pos}{g:List D->En->Option En}(Z:∀c,(X c).calm=true)(h:Dy X G ob own es g)(hn:∀c,(Xz es (X c).env).length=n:=by intro _;rfl)(V:∀c,(Xz es (X c).env).findIdx? (·.1)=none:=by intro _;rfl)(I:∀c,(X c).K=G.K:=by intro _;rfl):Br X G ob own (.Tuple es k pos) (tpT n g):=
 let⟨t,a1,a2⟩:=h.ex;⟨_,λc=>(by rw[←I c];exact Im (Z c) (a1 c) (hn c) (V c)),Kg a2⟩
structure Bq{ι:Type}(X:ι->Cx)(G:Gc)(ob:Nat->Bool)(ifs:List Expr)(f:En->Option Bool):Prop where
 mk::(ex:∃t,(∀c,PTs (X c) ifs t)/\RfT G ob t f)
def eTT:En->Option Bool:=λ_=>some true
theorem fK:Bq X G ob [] eTT:=⟨_,λc=>Nv,λρ b e σ H W F w Q q=>by cases e;exact q H (Same.refl H)⟩
theorem um{c:Expr}{f:En->Option Bool}(h:PVT X G ob c f):Bq X G ob [c] f:=let⟨t,a1,a2⟩:=h.ex;⟨t,λc=>O1 (a1 c),a2⟩
def fB(tg:D->En->Option En)(c:En->Option Bool)(e:En->Option D)(ρ0:En):List D->Option (List D)
 |[]=>some []
 |d::r=>(tg d ρ0).bind λρ1=>(c ρ1).bind λb=>if b=true then(e ρ1).bind λx=>(fB tg c e ρ0 r).map λt=>x::t else fB tg c e ρ0 r
def ik(cap:List (Option Nat))(it:En->Option (Bool×List D))(tg:D->En->Option En)(c:En->Option Bool)(e:En->Option D):En->Option D:=λρ=>(it ρ).bind λp=>if p.2.length<=1000000 then(fB tg c e (iK cap ρ) p.2).map λys=>.lst .own ys else none
theorem six{n:Nat}(h:n<=1000000):n<V6:=Nat.lt_of_le_of_lt h (by decide)
theorem BZ{cap:List (Option Nat)}{σ F:L2.St}(Z:∀i:Nat,own i=true->cap[i]?≠none->cap[i]? =some none)(h:∀j,own j=false->F[j]? =(eV cap σ)[j]?):Kp (eV cap σ) F:=λi v e=>by
 cases N:own i with
 |false=>rw[h i N];exact e
 |true=>
  obtain⟨j,h1,_⟩:=pX e;rw[Z i N (by rw[h1];simp)]at h1;cases h1
theorem Ey{cap:List (Option Nat)}{wi:TI}{g:TG}{tt:TT}{te:TE}{it:En->Option (Bool×List D)}{tg:D->En->Option En}{c:En->Option Bool}{e:En->Option D}(a6:∀i:Nat,own i=true->cap[i]?≠none->cap[i]? =some none)(hi:RfI G ob wi it)(hg:Gn G (obC cap ob) own g tg)(ht:RfT G (obC cap ob) tt c)(V:RfE G (obC cap ob) te e):RfE G ob (FQ cap wi g tt te) (ik cap it tg c e):=λρ d ee σ H W rl w Q q=>by
 unfold ik at ee;cases h1:it ρ with
 |none=>simp[h1]at ee
 |some p=>
  obtain⟨b,items⟩:=p;rw[h1]at ee;simp only[V1]at ee;split at ee
  .rename_i hlen
   cases h2:fB tg c e (iK cap ρ) items with
   |none=>simp[h2]at ee
   |some tot=>
    obtain rfl:D.lst .own tot=d:=by simpa[h2]using ee
    refine hi ρ b items h1 σ H W rl w _ λJ H1 O wk=>?_;refine⟨λi m ys H2=>i+m=items.length/\ys.length<=i/\∃acc L rest,Same H1 H2/\aD G H2 (W.add L) acc ys L/\(∀a∈L,H1 a=none)/\L.Nodup/\WOk H2 (W.add L)/\fB tg c e (iK cap ρ) (items.drop i)=some rest/\acc++rest=tot,⟨items.length,by omega,by simp,[],[],tot,Same.refl _,.nil,by simp,List.nodup_nil,?_,h2,rfl⟩,?_⟩
    .rw[p_];exact w.up O
    rintro i m ys H2 ⟨b4,b2,acc,L,rest,B,ra,fa,na,wa,I,a0⟩;have a2:Up H1 H2 W (W.add L):=Up.add B fa
    .by_cases hil:i<items.length
     .have hdr:=(XQ hil).symm
      rw[hdr,fB]at I;refine .inr ⟨wk.go i items[i] (by simp[hil]) H2 _ (LtB.up a2),by have:=six hlen;omega,λa4 H'=>(i+1)+(m-1)=items.length/\a4.length<=i+1/\∃acc L rest,Same H1 H'/\aD G H' (W.add L) acc a4 L/\(∀a∈L,H1 a=none)/\L.Nodup/\WOk H' (W.add L)/\fB tg c e (iK cap ρ) (items.drop (i+1))=some rest/\acc++rest=tot,λa4 H' h=>⟨m-1,by omega,h⟩,λx H3 hy=>?_⟩;obtain⟨s3,rx⟩:=wk.yld i items[i] (by simp[hil]) H2 _ (LtB.up a2) x H3 hy;cases Z:tg items[i] (iK cap ρ)with
      |none=>simp[Z]at I
      |some ρ1=>
       rw[Z]at I;simp only[V1]at I;have b1:Rel G H3 (W.add L) (obC cap ob) (iK cap ρ) (eV cap σ):=(rl.cap).up ((Up.same O).trans (a2.trans (Up.same s3)));have a3:=ra.up (Up.same s3 (W:=W.add L));have a8:WOk H3 (W.add L):=wa.up s3;refine hg items[i] _ ρ1 Z x _ H3 (W.add L) rx b1 (by simp[iK,eV]) _ λσ2 a5 b3 k4=>⟨BZ a6 k4,?_⟩;cases h4:c ρ1 with
       |none=>simp[h4]at I
       |some bb=>
        rw[h4]at I;simp only[V1]at I;refine ht ρ1 bb h4 σ2 H3 (W.add L) a5 a8 _ λH4 s4=>?_;have a9:=a5.up (Up.same s4);have a7:=a8.up s4;cases bb with
        |false=>
         simp only[WT,XD]at I;exact vU ⟨by omega,by omega,acc,L,rest,((B.trans s3).trans s4),a3.up (Up.same s4),fa,na,a7,I,a0⟩
        |true=>
         simp only[WM]at I;cases h5:e ρ1 with
         |none=>simp[h5]at I
         |some y=>
          cases h6:fB tg c e (iK cap ρ) (items.drop (i+1))with
          |none=>simp[h5,h6]at I
          |some a1=>
           obtain rfl:y::a1=rest:=by simpa[h5,h6]using I
           refine qw (V ρ1 y h5 σ2 H4 (W.add L) a9 a7 _ λv H5 M s5 ry fy ny=>?_);have fM:∀a∈M,H1 a=none:=λa Y=>(((B.trans s3).trans s4)).none' (fy a Y);have b0:∀a∈L,a∉M:=λa h1 h2=>by
            obtain⟨o,N,_⟩:=(a3.up (Up.same s4 (W:=W.add L))).dom a h1;rw[fy a h2]at N;cases N
           have u5:Up H4 H5 (W.add L) (W.add (L++M)):=⟨s5,λb u U f=>⟨λz=>z.elim (λz=>(qb.mp z).elim (λz=>f.1 (.inl z)) λz=>by rw[fy b z]at U;cases U) λz=>f.1 (.inr z),f.2⟩,λ_ _ _ f=>f⟩;have u6:Up H5 H5 ((W.add L).add M) (W.add (L++M)):=⟨Same.refl _,λb u U f=>⟨λz=>by
            rcases z with z|z
            .exact(qb.mp z).elim (λz=>f.1 (.inr (.inl z))) λz=>f.1 (.inl z)
            .exact f.1 (.inr (.inr z)),f.2⟩,λ_ _ _ f=>f⟩
           refine⟨by omega,by simp;omega,acc++[y],L++M,a1,((B.trans s3).trans s4).trans s5,((a3.up (Up.same s4)).up u5).append (.one (ry.up u6)),λa Y=>(qb.mp Y).elim (fa a) (fM a),cP na ny b0,?_,rfl,by rw[←a0];simp⟩;exact w.add (((O.trans B).trans s3).trans s4 |>.trans s5) λa Y=>(qb.mp Y).elim (λz=>let⟨o,h,m⟩:=(a3.up (Up.same s4 (W:=W.add L))).dom a z;⟨o,s5 a o h,m⟩) (ry.dom a)
     .have hl:i=items.length:=by omega
      subst hl;rw[Yt,fB]at I;cases I;refine .inl ⟨wk.stop H2 _ (LtB.up a2),YS (six 1.10),λp F=>?_⟩;have sm:Same H2 (upd H2 p (.lst ys)):=Same.new F;rw[Wm]at a0;subst a0;refine q (.ref p) _ (p::L) ((O.trans B).trans sm) ?_ (λa Y=>(V5.mp Y).elim (λz=>by rw[z];exact(O.trans B).none' F) λz=>O.none' (fa a z)) (List.nodup_cons.mpr ⟨λz=>?_,na⟩)
      .rw[Rep]
       exact⟨p,ys,L,rfl,ra.up ⟨sm,λb u U f=>⟨λz=>z.elim (λz=>(V5.mp z).elim (λz=>by rw[z,F]at U;cases U) λz=>f.1 (.inl z)) λz=>f.1 (.inr z),f.2⟩,λ_ _ _ f=>f⟩,aM,rfl⟩
      .obtain⟨o,N,_⟩:=ra.dom p z
       rw[F]at N;cases N
  .cases ee
end
def oG(cap:List (Option Nat)):Prop:=∀(i k j:Nat),cap[i]? =some (some j)->cap[k]? =some (some j)->i=k
def lu(cap:List (Option Nat))(S:Ad):Ad:=λi=>match cap[i]? with
 |some (some j)=>S j
 |_=>[]
def qp(cap:List (Option Nat))(S:Ad)(Fr:Addr->Prop):Addr->Prop:=λa=>Fr a∨∃j:Nat,(∀i:Nat,cap[i]?≠some (some j))/\a∈S j
theorem iZ{cap:List (Option Nat)}{S:Ad}{i:Nat}{a:Addr}(h:a∈lu cap S i):∃j,cap[i]? =some (some j)/\a∈S j:=by
 unfold lu at h;split at h
 .rename_i j e;exact⟨j,e,h⟩
 .cases h
theorem yH{cap:List (Option Nat)}{S:Ad}{i j:Nat}(h:cap[i]? =some (some j)):lu cap S i=S j:=by unfold lu;rw[h]
theorem Df{cap:List (Option Nat)}{ob:Nat->Bool}{i j:Nat}(h:cap[i]? =some (some j)):obC cap ob i=ob j:=by unfold obC;rw[h]
section
variable{G:Gc}{ob own:Nat->Bool}{cap:List (Option Nat)}
theorem yF{S:Ad}{Fr:Addr->Prop}{a:Addr}:(wn ob S Fr).free a↔(wn (obC cap ob) (lu cap S) (qp cap S Fr)).free a:=by
 constructor
 .intro f
  have q:∀j,a∉S j:=λj z=>by
   cases N:ob j with
   |false=>exact f.2.1 ⟨j,N,z⟩
   |true=>exact f.2.2 ⟨j,N,z⟩
  refine⟨λz=>z.elim f.1 λ⟨j,_,z⟩=>q j z,λ⟨i,_,z⟩=>?_,λ⟨i,_,z⟩=>?_⟩
  .obtain⟨j,_,z⟩:=iZ z;exact q j z
  .obtain⟨j,_,z⟩:=iZ z;exact q j z
 .intro f
  have q:∀j,a∉S j:=λj z=>by
   by_cases Z:∃i:Nat,cap[i]? =some (some j)
   .obtain⟨i,hi⟩:=Z
    have B:a∈lu cap S i:=by rw[yH hi];exact z
    cases N:obC cap ob i with
    |false=>exact f.2.1 ⟨i,N,B⟩
    |true=>exact f.2.2 ⟨i,N,B⟩
   .exact f.1 (.inr ⟨j,λi hi=>Z ⟨i,hi⟩,z⟩)
  exact⟨λz=>f.1 (.inl z),λ⟨j,_,z⟩=>q j z,λ⟨j,_,z⟩=>q j z⟩
theorem Rh{H:Hp}{S:Ad}{Fr:Addr->Prop}{d:D}{v:V}{L:List Addr}(Z:clean d=true):Rep G H (wn ob S Fr) d v L↔Rep G H (wn (obC cap ob) (lu cap S) (qp cap S Fr)) d v L:=by
 have q:=(by simpa[clean]using Z:az d=true/\aq d=true);constructor
 .intro r
  have J:Evo H H (wn ob S Fr) (wn (obC cap ob) (lu cap S) (qp cap S Fr)):=⟨λb u U f=>⟨U,yF.mp f⟩,λ_ _ h=>h⟩;exact r.mono J (.inl q.1) (.inl q.2) λ_ _ _ h=>h
 .intro r
  have J:Evo H H (wn (obC cap ob) (lu cap S) (qp cap S Fr)) (wn ob S Fr):=⟨λb u U f=>⟨U,yF.mpr f⟩,λ_ _ h=>h⟩;exact r.mono J (.inl q.1) (.inl q.2) λ_ _ _ h=>h
theorem Sta.inn{H:Hp}{ρ:En}{σ:L2.St}{S:Ad}{Fr:Addr->Prop}(I:oG cap)(s:Sta G H ob ρ σ S Fr):Sta G H (obC cap ob) (iK cap ρ) (eV cap σ) (lu cap S) (qp cap S Fr)where
 len:=by simp[iK,eV]
 sl:=λi d e=>by
  obtain⟨j,h1,h2⟩:=pX e;obtain⟨v,q1,q2,O⟩:=s.sl j d h2;exact⟨v,yR h1 q1,by rw[yH h1];exact(Rh O).mp q2,O⟩
 em:=λi h=>by
  unfold lu;split
  .rename_i j e
   exact s.em j λd hd=>h d (yR e hd)
  .rfl
 nd:=λi=>by
  unfold lu;split
  .exact s.nd _
  .exact List.nodup_nil
 dj:=λi k a h1 h2=>by
  obtain⟨q,e1,N⟩:=iZ h1;obtain⟨F,e2,J⟩:=iZ h2;have:=s.dj q F a N J;subst this;exact I i k q e1 e2
 fdj:=λi a h z=>by
  obtain⟨j,e,z⟩:=iZ z;rcases h with h|⟨k,B,h⟩
  .exact s.fdj j a h z
  .have:=s.dj j k a z h
   subst this;exact B i e
 fdm:=λa h=>by
  rcases h with h|⟨k,_,h⟩
  .exact s.fdm a h
  .exact s.mu h
def h_:List (Option Nat)->En->En->En
 |some j::cs,d::ds,ρ=>h_ cs ds (ρ.set j d)
 |none::cs,_::ds,ρ=>h_ cs ds ρ
 |_,_,ρ=>ρ
theorem mY:∀(cap:List (Option Nat))(ds ρ:En),(h_ cap ds ρ).length=ρ.length
 |[],ds,ρ=>by cases ds<;>rfl
 |some j::cs,[],ρ=>rfl
 |none::cs,[],ρ=>rfl
 |some j::cs,d::ds,ρ=>by rw[h_,mY cs ds];simp
 |none::cs,d::ds,ρ=>by rw[h_,mY cs ds]
theorem mL:∀{cap:List (Option Nat)}{ds ρ:En}{j:Nat},(∀i:Nat,cap[i]?≠some (some j))->(h_ cap ds ρ)[j]? =ρ[j]?
 |[],ds,ρ,j,_=>by cases ds<;>rfl
 |some k::cs,[],ρ,j,_=>rfl
 |none::cs,[],ρ,j,_=>rfl
 |some k::cs,d::ds,ρ,j,h=>by
  rw[h_,mL λi e=>h (i+1) (by simpa using e),List.getElem?_set_ne λz=>h 0 1.22]
 |none::cs,d::ds,ρ,j,h=>by rw[h_,mL λi e=>h (i+1) (by simpa using e)]
theorem oH:∀{cap:List (Option Nat)}{ds ρ:En}{i j:Nat}{x:Option D},oG cap->cap[i]? =some (some j)->ds[i]? =some x->j<ρ.length->(h_ cap ds ρ)[j]? =some x
 |[],ds,ρ,i,j,x,_,h,_,_=>by simp at h
 |some k::cs,[],ρ,i,j,x,_,_,h,_=>by simp at h
 |none::cs,[],ρ,i,j,x,_,_,h,_=>by simp at h
 |some k::cs,d::ds,ρ,i,j,x,hj,h1,h2,hl=>by
  rw[h_];cases i with
  |zero=>
   have e1:k=j:=by simpa using h1
   have e2:d=x:=by simpa using h2
   subst e1 e2;rw[mL λi e=>?_]
   .simp[hl]
   .have:=hj 0 (i+1) k (by simp) (by simpa using e)
    omega
  |succ i=>exact oH (λa b c h1 h2=>by have:=hj (a+1) (b+1) c (by simpa using h1) (by simpa using h2);omega) (by simpa using h1) (by simpa using h2) (by simpa using hl)
 |none::cs,d::ds,ρ,i,j,x,hj,h1,h2,hl=>by
  rw[h_];cases i with
  |zero=>simp at h1
  |succ i=>exact oH (λa b c h1 h2=>by have:=hj (a+1) (b+1) c (by simpa using h1) (by simpa using h2);omega) (by simpa using h1) (by simpa using h2) hl
def sJ(cap:List (Option Nat))(q S:Ad):Ad:=λj=>match cap.findIdx? (λo=>o==some j)with
 |some i=>q i
 |none=>S j
theorem gU{q S:Ad}{i j:Nat}(I:oG cap)(h:cap[i]? =some (some j)):sJ cap q S j=q i:=by
 unfold sJ;split
 .rename_i k e
  obtain⟨h1,h2,_⟩:=W6.mp e;have:cap[k]=some j:=by simpa using h2
  rw[I i k j h (by rw[Wh h1,this])]
 .rename_i e
  have:=Ye.mp e (some j) (Wu h);simp at this
theorem gM{q S:Ad}{j:Nat}(h:∀i:Nat,cap[i]?≠some (some j)):sJ cap q S j=S j:=by
 unfold sJ;split
 .rename_i k e
  obtain⟨h1,h2,_⟩:=W6.mp e;have:cap[k]=some j:=by simpa using h2
  exact absurd (by rw[Wh h1,this]) (h k)
 .rfl
theorem fV(cap:List (Option Nat))(j:Nat):(∃i:Nat,cap[i]? =some (some j))∨(∀i:Nat,cap[i]?≠some (some j)):=by
 by_cases h:∃i:Nat,cap[i]? =some (some j)
 .exact .inl h
 .exact .inr λi z=>h ⟨i,z⟩
theorem Sta.out{H H':Hp}{ρ a2:En}{σ a7:L2.St}{S Si:Ad}{Fr:Addr->Prop}{M:List Addr}(I:oG cap)(s:Sta G H ob ρ σ S Fr)(N:∀i:Nat,cap[i]? =some none->True)(B:∀i j:Nat,cap[i]? =some (some j)->a7[i]? =(eV cap σ)[i]?)
  (si:Sta G H' (obC cap ob) a2 a7 Si (plus M (qp cap S Fr))) (ef:Eff (obC cap ob) H H' (lu cap S) Si M):Sta G H' ob (h_ cap a2 ρ) σ (sJ cap Si S) (plus M Fr)/\Eff ob H H' S (sJ cap Si S) M/\
   (∀d v L,clean d=true->Rep G H' (wn (obC cap ob) Si (plus M (qp cap S Fr))) d v L->Rep G H' (wn ob (sJ cap Si S) (plus M Fr)) d v L):=by
 have a0:∀{a},inO (obC cap ob) (lu cap S) a->inO ob S a:=λ{a}⟨i,h1,h2⟩=>by
  obtain⟨j,e,z⟩:=iZ h2;exact⟨j,by rw[←Df (ob:=ob) e];exact h1,z⟩
 have a9:Eff ob H H' S (sJ cap Si S) M:=by
  refine⟨λb u U n=>ef.kp b u U λz=>n (a0 z),λj a5=>?_,λj a a5 z=>?_,λa Y=>(ef.fm a Y).imp a0 id⟩
  .rcases fV cap j with⟨i,hi⟩|hn
   .rw[gU I hi,ef.sn i (by rw[Df hi];exact a5),yH hi]
   .exact gM hn
  .rcases fV cap j with⟨i,hi⟩|hn
   .rw[gU I hi]at z
    exact(ef.gr i a (by rw[Df hi];exact a5) z).imp a0 id
   .rw[gM hn]at z;exact .inl ⟨j,a5,z⟩
 have a6:∀a,(wn (obC cap ob) Si (plus M (qp cap S Fr))).free a->(wn ob (sJ cap Si S) (plus M Fr)).free a:=λa f=>by
  have nS:∀j,a∉sJ cap Si S j:=λj z=>by
   rcases fV cap j with⟨i,hi⟩|hn
   .rw[gU I hi]at z
    cases b0:obC cap ob i with
    |false=>exact f.2.1 ⟨i,b0,z⟩
    |true=>exact f.2.2 ⟨i,b0,z⟩
   .rw[gM hn]at z
    exact f.1 (.inr (.inr ⟨j,hn,z⟩))
  exact⟨λz=>z.elim (λz=>f.1 (.inl z)) λz=>f.1 (.inr (.inl z)),λ⟨j,_,z⟩=>nS j z,λ⟨j,_,z⟩=>nS j z⟩
 have conv:∀d v L,clean d=true->Rep G H' (wn (obC cap ob) Si (plus M (qp cap S Fr))) d v L->Rep G H' (wn ob (sJ cap Si S) (plus M Fr)) d v L:=λd v L Z r=>by
  have q:=(by simpa[clean]using Z:az d=true/\aq d=true);have ev:Evo H' H' (wn (obC cap ob) Si (plus M (qp cap S Fr))) (wn ob (sJ cap Si S) (plus M Fr)):=⟨λb u U f=>⟨U,a6 b f⟩,λ_ _ h=>h⟩;exact r.mono ev (.inl q.1) (.inl q.2) λ_ _ _ h=>h
 have a1:∀{j a},(∀i:Nat,cap[i]?≠some (some j))->a∈S j->∀i,a∉Si i:=λ{j a} hn z i y=>si.fdj i a (.inr (.inr ⟨j,hn,z⟩)) y;refine⟨⟨by rw[mY];exact s.len,λj d hd=>?_,λj hd=>?_,λj=>?_,λj k a h1 h2=>?_,λj a h z=>?_,λa h=>?_⟩,a9,conv⟩
 .rcases fV cap j with⟨i,hi⟩|hn
  .have a4:j<ρ.length:=by
    have:=(Hq.mp hd).1;rwa[mY]at this
   cases J:a2[i]? with
   |none=>
    have h1:a2.length<=i:=Yx.mp J;have h2:a7.length<=i:=by rw[←si.len];exact h1
    have h3:=B i j hi;rw[Yx.mpr h2]at h3;have h4:(eV cap σ).length<=i:=Yx.mp h3.symm;have V:i<cap.length:=(Hq.mp hi).1;simp[eV]at h4;omega
   |some x=>
    rw[oH I hi J a4]at hd;cases hd;obtain⟨v,q1,q2,O⟩:=si.sl i d J;rw[B i j hi]at q1;obtain⟨j',e1,e2⟩:=pX q1;rw[hi]at e1;cases e1;exact⟨v,e2,by rw[gU I hi];exact conv _ _ _ O q2,O⟩
  .rw[mL hn]at hd
   obtain⟨v,q1,q2,O⟩:=s.sl j d hd;refine⟨v,q1,?_,O⟩;rw[gM hn];have q:=(by simpa[clean]using O:az d=true/\aq d=true);refine q2.mono (a9.evo s) (.inl q.1) (.inl q.2) λc Z u F=>?_;exact ef.kp c u F λ⟨i,_,z⟩=>by
    obtain⟨k,e,z⟩:=iZ z;have:=s.dj j k c Z z;subst this;exact hn i e
 .rcases fV cap j with⟨i,hi⟩|hn
  .rw[gU I hi]
   refine si.em i λd b1=>?_;by_cases a4:j<ρ.length
   .exact hd d (oH I hi b1 a4)
   .
    obtain⟨v,q1,_⟩:=si.sl i d b1;rw[B i j hi]at q1;obtain⟨j',e1,e2⟩:=pX q1;rw[hi]at e1;cases e1;have:=(Hq.mp e2).1;rw[←s.len]at this;exact a4 this
  .rw[gM hn]
   exact s.em j λd=>by have:=hd d;rwa[mL hn]at this
 .rcases fV cap j with⟨i,hi⟩|hn
  .rw[gU I hi];exact si.nd i
  .rw[gM hn];exact s.nd j
 .rcases fV cap j with⟨i,hi⟩|hn<;>rcases fV cap k with⟨i',a3⟩|a8
  .rw[gU I hi]at h1
   rw[gU I a3]at h2;have:=si.dj i i' a h1 h2;subst this;rw[hi]at a3;cases a3;rfl
  .rw[gU I hi]at h1
   rw[gM a8]at h2;exact absurd h1 (a1 a8 h2 i)
  .rw[gM hn]at h1
   rw[gU I a3]at h2;exact absurd h2 (a1 hn h1 i')
  .rw[gM hn]at h1
   rw[gM a8]at h2;exact s.dj j k a h1 h2
 .rcases fV cap j with⟨i,hi⟩|hn
  .rw[gU I hi]at z
   exact si.fdj i a (h.imp id .inl) z
  .rw[gM hn]at z
   rcases h with h|h
   .rcases ef.fm a h with y|y
    .obtain⟨k,_,y⟩:=a0 y
     have:=s.dj j k a z y;subst this;obtain⟨i,hi,y'⟩:∃i,obC cap ob i=true/\a∈lu cap S i:=by assumption
     obtain⟨k',e,y'⟩:=iZ y';have:=s.dj j k' a z y';subst this;exact hn i e
    .obtain⟨o,N,_⟩:=s.mu z
     rw[y]at N;cases N
   .exact s.fdj j a h z
 .rcases h with h|h
  .exact si.fdm a (.inl h)
  .exact si.fdm a (.inr (.inl h))
end
section
variable{ι:Type}{X:ι->Cx}{G:Gc}{ob own:Nat->Bool}
def Rf(G:Gc)(ob own:Nat->Bool)(g:TG)(f:D->En->Option En):Prop:=∀(d:D)(ρ B:En),f d ρ=some B->∀(x:V)(σ:L2.St)(H:Hp)(S:Ad)(Fr:Addr->Prop),Sta G H ob ρ σ S Fr->(∀i,own i=true->S i=[])->Rep G H (wn ob S Fr) d x []->∀Q:L2.St->Hp->Prop,
 (∀F,Sta G H ob B F S Fr->(∀j,own j=false->F[j]? =σ[j]?)->Q F H)->g x σ H Q
theorem Gx{i:Nat}(N:own i=true):Rf G ob own (rn i) (tgN i):=λd ρ B e x σ H S Fr s F r Q q=>by
 unfold tgN at e;split at e
 .rename_i hc
  cases e;refine q _ ⟨by simp[s.len],λj d' I=>?_,λj I=>?_,s.nd,s.dj,s.fdj,s.fdm⟩ λj I=>?_
  .by_cases ej:i=j
   .subst ej
    rw[List.getElem?_set]at I;split at I
    .split at I
     .rename_i h2
      have:d=d':=by simpa using I
      subst this;exact⟨x,by simp[←s.len,h2],by rw[F i N];exact r,hc⟩
     .cases I
    .exact absurd rfl ‹_›
   .rw[List.getElem?_set_ne ej]at I
    obtain⟨v,h1,h2,Z⟩:=s.sl j d' I;exact⟨v,by rw[List.getElem?_set_ne ej];exact h1,h2,Z⟩
  .by_cases ej:i=j
   .subst ej;exact F i N
   .exact s.em j λd'=>by have:=I d';rwa[List.getElem?_set_ne ej]at this
  .have:i≠j:=λz=>by rw[←z,N]at I;cases I
   rw[List.getElem?_set_ne this]
 .cases e
structure Ut{ι:Type}(X:ι->Cx)(G:Gc)(ob own:Nat->Bool)(tg:Expr)(f:D->En->Option En):Prop where
 mk::(ex:∃t,(∀c,PG (X c) tg t)/\Rf G ob own t f)
theorem qH(i:Nat){x:Str}{pos:Pos}(U:∀c,(X c).N.Nodup)(q:own i=true:=by rfl)(hi:∀c,(X c).N[i]? =some x:=by intro _;rfl)(J:∀c,Loc (X c).env.scope x:=by intro _;first|exact Yk rfl|exact Xv rfl)(Z:∀c,(X c).fn x=true∨(X c).env.scope.names.lookup x=some .local:=by intro _;first|exact .inl rfl|exact .inr rfl):Ut X G ob own (.Name x pos) (tgN i):=⟨_,λc=>tE (U c) (hi c) (J c) (Z c),Gx q⟩
def jV(cap:List (Option Nat))(tg:D->En->Option En)(c:En->Option Bool)(e:En->Option (D×En)):List D->En->Option (List D×En)
 |[],ρ=>some ([],ρ)
 |d::r,ρ=>(tg d (iK cap ρ)).bind λρ1=>(c ρ1).bind λb=>if b=true then(e ρ1).bind λp=>if clean p.1=true then(jV cap tg c e r (h_ cap p.2 ρ)).map λt=>(p.1::t.1,t.2)else none else jV cap tg c e r ρ
def lY(cap:List (Option Nat))(it:En->Option (Bool×List D))(tg:D->En->Option En)(c:En->Option Bool)(e:En->Option (D×En)):En->Option (D×En):=λρ=>(it ρ).bind λp=>if p.1=true/\p.2.length<=1000000 then(jV cap tg c e p.2 ρ).map λt=>(.lst .own t.1,t.2)else none
theorem Jg{cap:List (Option Nat)}{wi:TI}{g:TG}{tt:TT}{te:TE}{it:En->Option (Bool×List D)}{tg:D->En->Option En}{c:En->Option Bool}{e:En->Option (D×En)}(I:oG cap)(a5:∀i:Nat,own i=true->cap[i]?≠none->cap[i]? =some none)(hi:RfI G ob wi it)(hg:Rf G (obC cap ob) own g tg)(ht:RfT G (obC cap ob) tt c)(V:km G (obC cap ob) te e) :
  km G ob (FQ cap wi g tt te) (lY cap it tg c e):=λρ d B ee σ H S Fr s Q q=>by
 unfold lY at ee;cases h1:it ρ with
 |none=>simp[h1]at ee
 |some p=>
  obtain⟨b,items⟩:=p;rw[h1]at ee;simp only[V1]at ee;split at ee
  .rename_i a2
   obtain⟨U,a2⟩:=a2;change b=true at U;change items.length<=1000000 at a2;subst U;cases h2:jV cap tg c e items ρ with
   |none=>simp[h2]at ee
   |some w=>
    obtain⟨tot,a7⟩:=w;obtain⟨rfl,rfl⟩:D.lst .own tot=d/\a7=B:=by simpa[h2]using ee
    refine hi ρ true items h1 σ H _ s.rel s.wok _ λJ H1 sm wk=>?_;have s1:Sta G H1 ob ρ σ S Fr:=s.grow sm λa z=>.inl z;have e1:Eff ob H H1 S S []:=⟨λb u h _=>sm b u h,λ_ _=>rfl,λi a h z=>.inl ⟨i,h,z⟩,by simp⟩;refine⟨λi m ys H2=>i+m=items.length/\ys.length<=i/\∃ρ2 S2 acc L rest,Sta G H2 ob ρ2 σ S2 (plus L Fr)/\aD G H2 (wn ob S2 (plus L Fr)) acc ys L/\L.Nodup/\aA acc=true/\aB acc=true/\Eff ob H1 H2 S S2 L/\jV cap tg c e (items.drop i) ρ2=some (rest,a7)/\acc++rest=tot,
     ⟨items.length,by omega,by simp,ρ,S,[],[],tot,by rw[jn];exact s1,.nil,List.nodup_nil,rfl,rfl,.refl,h2,rfl⟩,?_⟩
    rintro i m ys H2 ⟨d2,d1,ρ2,S2,acc,L,rest,s2,ra,na,b5,b6,ef,a0,a1⟩;have lt:LtB true H1 (wn ob S Fr) H2 (wn (obC cap ob) (lu cap S2) (qp cap S2 (plus L Fr))):=qw ⟨λb u U f=>let⟨h1,h2⟩:=(ef.evo s1).k b u U f;⟨h1,yF.mp h2⟩,(ef.evo s1).t⟩;by_cases b3:i<items.length
    .have hdr:=(XQ b3).symm
     rw[hdr,jV]at a0;refine .inr ⟨wk.go i items[i] (by simp[b3]) H2 _ lt,by have:=six a2;omega,λb4 H'=>(i+1)+(m-1)=items.length/\b4.length<=i+1/\∃ρ2 S2 acc L rest,Sta G H' ob ρ2 σ S2 (plus L Fr)/\aD G H' (wn ob S2 (plus L Fr)) acc b4 L/\L.Nodup/\aA acc=true/\aB acc=true/\Eff ob H1 H' S S2 L/\jV cap tg c e (items.drop (i+1)) ρ2=some (rest,a7)/\acc++rest=tot,λb4 H' h=>⟨m-1,by omega,h⟩,λx Y hy=>?_⟩;obtain⟨s3,rx⟩:=wk.yld i items[i] (by simp[b3]) H2 _ lt x Y hy;have c2:Sta G Y ob ρ2 σ S2 (plus L Fr):=s2.grow s3 λa z=>.inl z;have d0:Eff ob H1 Y S S2 L:=ef.same s3 λc Z=>.inl Z;have c9:aD G Y (wn ob S2 (plus L Fr)) acc ys L:=ra.up (Up.same s3);have si:=c2.inn (cap:=cap) I;cases h3:tg items[i] (iK cap ρ2)with
     |none=>simp[h3]at a0
     |some a3=>
      rw[h3]at a0;simp only[V1]at a0;have c6:∀k,own k=true->lu cap S2 k=[]:=λk hk=>by
       unfold lu;split
       .rename_i j e
        rw[a5 k hk (by rw[e];simp)]at e;cases e
       .rfl
      refine hg items[i] _ a3 h3 x _ Y _ (qp cap S2 (plus L Fr)) si c6 rx _ λa8 s4 c1=>⟨BZ a5 c1,?_⟩;cases h4:c a3 with
      |none=>simp[h4]at a0
      |some bb=>
       rw[h4]at a0;simp only[V1]at a0;refine ht a3 bb h4 a8 Y _ s4.rel s4.wok _ λH4 a9=>?_;have a6:Sta G H4 ob ρ2 σ S2 (plus L Fr):=c2.grow a9 λa z=>.inl z;have c4:Sta G H4 (obC cap ob) a3 a8 (lu cap S2) (qp cap S2 (plus L Fr)):=s4.grow a9 λa z=>.inl z;have b7:Eff ob H1 H4 S S2 L:=d0.same a9 λc Z=>.inl Z;have b0:aD G H4 (wn ob S2 (plus L Fr)) acc ys L:=c9.up (Up.same a9);cases bb with
       |false=>
        simp only[WT,XD]at a0;exact vU ⟨by omega,by omega,ρ2,S2,acc,L,rest,a6,b0,na,b5,b6,b7,a0,a1⟩
       |true=>
        simp only[WM]at a0;cases h5:e a3 with
        |none=>simp[h5]at a0
        |some w=>
         obtain⟨y,b1⟩:=w;rw[h5]at a0;simp only[V1]at a0;split at a0
         .rename_i hcy
          cases h6:jV cap tg c e (items.drop (i+1)) (h_ cap b1 ρ2)with
          |none=>simp[h6]at a0
          |some w=>
           obtain⟨a4,c0⟩:=w;obtain⟨rfl,rfl⟩:y::a4=rest/\c0=a7:=by simpa[h6]using a0
           refine qw (V a3 y b1 h5 a8 H4 _ _ c4 _ λv H5 M S5 s5 ry ny c7=>?_);have c5:∀i j:Nat,cap[i]? =some (some j)->a8[i]? =(eV cap σ)[i]?:=λi j hi=>c1 i (by
            cases N:own i with
            |false=>rfl
            |true=>rw[a5 i N (by rw[hi];simp)]at hi;cases hi)
           obtain⟨o1,o2,o3⟩:=a6.out I (λ_ _=>trivial) c5 s5 c7;have b8:=(by simpa[clean]using hcy:az y=true/\aq y=true);have c3:=b0.mono (o2.evo a6) (.inl b5) (.inl b6) λc Z u hu=>o2.keepsF a6 (.inl Z) u hu;rw[m5]at o1 c3;have b9:=o3 y v M hcy ry;rw[m5]at b9;have c8:∀a∈L,a∉M:=λa z1 z2=>by
            rcases o2.fm a z2 with y|y
            .exact a6.notO (.inl z1) y
            .obtain⟨o,N,_⟩:=b0.dom a z1
             rw[y]at N;cases N
           exact⟨by omega,by simp;omega,h_ cap b1 ρ2,_,acc++[y],L++M,a4,o1,c3.append (.one b9),cP na ny c8,by rw[jw];simp[b5,aA,b8],by rw[jq];simp[b6,aB,b8],b7.trans o2,h6,by rw[←a1];simp⟩
         .cases a0
    .have hl:i=items.length:=by omega
     subst hl;rw[Yt,jV]at a0;obtain⟨rfl,rfl⟩:[]=rest/\ρ2=a7:=by simpa using a0
     refine .inl ⟨wk.stop H2 _ lt,YS (six 1.10),λp F=>?_⟩;have b2:Same H2 (upd H2 p (.lst ys)):=Same.new F;rw[Wm]at a1;subst a1;have np:p∉L:=λz=>by obtain⟨o,N,_⟩:=ra.dom p z;rw[F]at N;cases N
     have O:Rep G (upd H2 p (.lst ys)) (wn ob S2 (plus (p::L) Fr)) (.lst .own acc) (.ref p) (p::L):=by
      rw[Rep];exact⟨p,ys,L,rfl,ra.up ⟨b2,λb u U f=>⟨λz=>z.elim (λz=>(V5.mp z).elim (λz=>by rw[z,F]at U;cases U) λz=>f.1 (.inl z)) λz=>f.1 (.inr z),f.2⟩,λ_ _ _ f=>f⟩,aM,rfl⟩
     refine q (.ref p) _ (p::L) S2 (s2.grow b2 λa z=>?_) O (List.nodup_cons.mpr ⟨np,na⟩) ?_
     .rcases z with z|z
      .rcases V5.mp z with z|z
       .exact .inr ⟨by rw[z];exact F,O.dom a 1.22⟩
       .exact .inl (.inl z)
      .exact .inl (.inr z)
     .exact(e1.trans ef).same b2 λc Z=>(V5.mp Z).elim (λz=>.inr (by rw[z];exact F)) λz=>.inl (by simpa using z)
  .cases ee
section
variable{elt target iter:Expr}{ifs:List Expr}{scope:Scope}{pos pos' pos2:Pos}{N':List Str}{it:En->Option (Bool×List D)}{tg:D->En->Option En}{fc:En->Option Bool}
theorem jN(cap:List (Option Nat))(own:Nat->Bool){fe:En->Option D}(J:∀c,(X c).xe=NoX)(Z:∀c,(X c).calm=true)(O:∀c,bZ (X c).env.scope (X c).N N' scope cap)(I:∀i:Nat,own i=true->cap[i]?≠none->cap[i]? =some none)(hi:PVI X G ob target iter it)(q:Br (InX X N' scope) G (obC cap ob) own target tg)(F:Bq (InX X N' scope) G (obC cap ob) ifs fc)(V:PV (InX X N' scope) G (obC cap ob) elt fe)
  (hs:∀c,∀x,Xl iter (X c).env x=pure x:=by intro _ _;rfl):PV X G ob 1.15 (ik cap it tg fc fe):=
 let⟨_,i1,i2⟩:=hi.ex;let⟨_,g1,g2⟩:=q.ex;let⟨_,t1,t2⟩:=F.ex;let⟨_,e1,e2⟩:=V.ex
 ⟨_,λc=>Et (J c) (Z c) (O c) (i1 c) (λC s H fp=>g1 (c,C,s,H,fp)) (λC s H fp=>t1 (c,C,s,H,fp)) (λC s H fp=>e1 (c,C,s,H,fp)) (hs c),Ey I i2 g2 t2 e2⟩
theorem tV(cap:List (Option Nat))(own:Nat->Bool){fe:En->Option (D×En)}(J:∀c,(X c).xe=NoX)(Z:∀c,(X c).calm=true)(O:∀c,bZ (X c).env.scope (X c).N N' scope cap)(I:oG cap)(B:∀i:Nat,own i=true->cap[i]?≠none->cap[i]? =some none)(hi:PVI X G ob target iter it)(q:Ut (InX X N' scope) G (obC cap ob) own target tg)(F:Bq (InX X N' scope) G (obC cap ob) ifs fc)(V:PVe (InX X N' scope) G (obC cap ob) elt fe)
  (hs:∀c,∀x,Xl iter (X c).env x=pure x:=by intro _ _;rfl):PVe X G ob 1.15 (lY cap it tg fc fe):=
 let⟨_,i1,i2⟩:=hi.ex;let⟨_,g1,g2⟩:=q.ex;let⟨_,t1,t2⟩:=F.ex;let⟨_,e1,e2⟩:=V.ex
 ⟨_,λc=>Et (J c) (Z c) (O c) (i1 c) (λC s H fp=>g1 (c,C,s,H,fp)) (λC s H fp=>t1 (c,C,s,H,fp)) (λC s H fp=>e1 (c,C,s,H,fp)) (hs c),Jg I B i2 g2 t2 e2⟩
variable{P:Nat->Bool}{x:Str}
theorem zy(i:Nat)(cap:List (Option Nat))(own:Nat->Bool){fe:En->Option D}(U:∀c,(X c).N.Nodup)(J:∀c,(X c).xe=NoX)(Z:∀c,(X c).calm=true)(O:∀c,bZ (X c).env.scope (X c).N N' scope cap)(I:∀i:Nat,own i=true->cap[i]?≠none->cap[i]? =some none)(hi:PVI X G ob target iter it)(q:Br (InX X N' scope) G (obC cap ob) own target tg)(F:Bq (InX X N' scope) G (obC cap ob) ifs fc)(V:PV (InX X N' scope) G (obC cap ob) elt fe)
  (hP:P i=false:=by rfl) (a0:∀c,(X c).N[i]? =some x:=by intro _;rfl) (Y:∀c,Loc (X c).env.scope x:=by intro _;first|exact Yk rfl|exact Xv rfl) (B:∀c,Zd 1.15 (some (.Name x pos')) pos2.line (X c).env=pure true:=by intro _;rfl) (hs:∀c,∀x,Xl iter (X c).env x=pure x:=by intro _ _;rfl)
  (hf:∀c,(X c).fn x=true∨(X c).env.scope.names.lookup x=some .local:=by intro _;first|exact .inl rfl|exact .inr rfl):PVS X G ob P (.Assign [.Name x pos'] 1.15 pos2) (cI (ik cap it tg fc fe) (tgN i)):=
 let⟨_,i1,i2⟩:=hi.ex;let⟨_,g1,g2⟩:=q.ex;let⟨_,t1,t2⟩:=F.ex;let⟨_,e1,e2⟩:=V.ex
 ⟨_,λc=>LC (J c) (Z c) (U c) (a0 c) (Y c) (O c) (i1 c) (λC s H fp=>g1 (c,C,s,H,fp)) (λC s H fp=>t1 (c,C,s,H,fp)) (λC s H fp=>e1 (c,C,s,H,fp)) (B c) (hs c) (hf c),by rw[←xJ];exact j7 (v_ (Ey I i2 g2 t2 e2)) (jC hP)⟩
end
end
section
variable{ι:Type}{X:ι->Cx}{G:Gc}
theorem OpR.or{Y:Cx}{f:Value->Value->Sem Value}{r O:R2}(h:OpR Y f r)(h':OpR Y f O):OpR Y f (λx y H Q=>r x y H Q∨O x y H Q):=λpins s σ H x y v u Q I rx J q=>q.elim (h pins s σ H x y v u Q I rx J) (h' pins s σ H x y v u Q I rx J)
theorem cY.or{Y:Cx}{f:Value}{r O:List V->Hp->VK->Prop}(h:cY Y f r)(h':cY Y f O):cY Y f (λxs H Q=>r xs H Q∨O xs H Q):=λpins s σ H xs us Q I J q=>q.elim (h pins s σ H xs us Q I J) (h' pins s σ H xs us Q I J)
theorem dI{H:Hp}{W:Wn}{i:Int}:Rep G H W (.int i) (.int i) []:=by rw[Rep];exact⟨rfl,rfl⟩
theorem yC{H:Hp}{W:Wn}{i:Str}:Rep G H W (.str i) (.str i) []:=by rw[Rep];exact⟨rfl,rfl⟩
theorem gf{H:Hp}{W:Wn}{i:Bool}:Rep G H W (.bl i) (.bl i) []:=by rw[Rep];exact⟨rfl,rfl⟩
theorem aV{H:Hp}{W:Wn}{i:Int}{v:V}{L:List Addr}(r:Rep G H W (.int i) v L):v= .int i/\L=[]:=by rw[Rep]at r;exact r
theorem bQ{H:Hp}{W:Wn}{i:Str}{v:V}{L:List Addr}(r:Rep G H W (.str i) v L):v= .str i/\L=[]:=by rw[Rep]at r;exact r
theorem n_{H:Hp}{W:Wn}{i:Bool}{v:V}{L:List Addr}(r:Rep G H W (.bl i) v L):v= .bl i/\L=[]:=by rw[Rep]at r;exact r
theorem Ej{C:Int->Int->Prop}{g:Int->Int->V}{F:D->D->Option D}(h:∀dx N d,F dx N=some d->∃i j,dx= .int i/\N= .int j/\C i j/\∀H W,Rep G H W d (g i j) []):OpV G (rI C g) F:=λdx N d e x y H W B Y rx J nd hn w Q q=>by
 obtain⟨i,j,rfl,rfl,Z,O⟩:=h dx N d e;obtain⟨rfl,rfl⟩:=aV rx;obtain⟨rfl,rfl⟩:=aV J;exact⟨i,j,rfl,rfl,Z,q.scal (λW=>O H W)⟩
theorem Cq{g:Int->Int->V}{F:D->D->Option D}(h:∀dx N d,F dx N=some d->∃i j,dx= .int i/\N= .int j/\∀H W,Rep G H W d (g i j) []):OpV G (rI0 g) F:=λdx N d e x y H W B Y rx J nd hn w Q q=>by
 obtain⟨i,j,rfl,rfl,O⟩:=h dx N d e;obtain⟨rfl,rfl⟩:=aV rx;obtain⟨rfl,rfl⟩:=aV J;exact⟨i,j,rfl,rfl,q.scal (λW=>O H W)⟩
def g8:D->D->Option D
 |.int a,.int b=>some (.int (a-b))
 |_,_=>none
def fu:D->D->Option D
 |.int a,.int b=>if(-(2 ^ 64)<a/\a<2 ^ 64)∨(-(2 ^ 64)<b/\b<2 ^ 64)then some (.int (a*b))else none
 |_,_=>none
def g_:D->D->Option D
 |.int a,.int b=>if 0<b/\b<18446744073709551616 then some (.int (a / b))else none
 |_,_=>none
def gY:D->D->Option D
 |.int a,.int b=>if 0<b then some (.int (a % b))else none
 |_,_=>none
def j4:D->D->Option D
 |.int a,.int b=>if 0<=b/\b<=1000000/\a.natAbs<2 ^ 64 then some (.int (a ^ b.toNat))else none
 |_,_=>none
theorem qg:OpB X G (X6 .Sub) g8:=⟨_,λc=>RP,Cq λdx N d e=>by
 unfold g8 at e;split at e
 .cases e;exact⟨_,_,rfl,rfl,λ_ _=>dI⟩
 .cases e⟩
theorem jl:OpB X G (X6 .Mult) fu:=⟨_,λc=>Ri,Ej λdx N d e=>by
 unfold fu at e;split at e
 .split at e
  .cases e;exact⟨_,_,rfl,rfl,‹_›,λ_ _=>dI⟩
  .cases e
 .cases e⟩
theorem yw:OpB X G (X6 .FloorDiv) g_:=⟨_,λc=>Jf,Ej λdx N d e=>by
 unfold g_ at e;split at e
 .split at e
  .cases e;exact⟨_,_,rfl,rfl,‹_›,λ_ _=>dI⟩
  .cases e
 .cases e⟩
theorem kY:OpB X G (X6 .Mod) gY:=⟨_,λc=>R3,Ej λdx N d e=>by
 unfold gY at e;split at e
 .split at e
  .cases e;exact⟨_,_,rfl,rfl,‹_›,λ_ _=>dI⟩
  .cases e
 .cases e⟩
theorem BX:OpB X G (X6 .Pow) j4:=⟨_,λc=>QR,Ej λdx N d e=>by
 unfold j4 at e;split at e
 .split at e
  .cases e;exact⟨_,_,rfl,rfl,‹_›,λ_ _=>dI⟩
  .cases e
 .cases e⟩
def jb:D->Option D
 |.int a=>some (.int (-a))
 |_=>none
theorem qF:UnB X G (unaryOp .USub) jb:=⟨_,λc=>R6,λdx d e x H W B rx nd hn w Q q=>by
 unfold jb at e;split at e
 .cases e
  obtain⟨rfl,rfl⟩:=aV rx;exact⟨_,rfl,q.scal λW=>dI⟩
 .cases e⟩
def cF:D->D->Option D
 |.int a,.int b=>some (.int (a+b))
 |.str a,.str b=>if a.length+b.length<=V6 then some (.str (a++b))else none
 |.lst m a,.lst n b=>if m≠.scr/\n≠.scr/\a.length+b.length<=1000000 then some (.lst .own (a++b))else none
 |.tup a,.tup b=>if a.length+b.length<=1000000 then some (.tup (a++b))else none
 |_,_=>none
theorem w6{H H':Hp}{W:Wn}{dx N:List D}{xs ys:List V}{B Y F I:List Addr}(J:aD G H W dx xs F)(Z:aD G H W N ys I)(sx:Yb F B)(O:Yb I Y)(hn:∀a∈B++Y,W.tmp a)(s:Same H H')(q:List Addr)(he:∀a∈q,H a=none):aD G H' ((W.drop (B++Y)).add (q++(F++I))) (dx++N) (xs++ys) (F++I):=by
 refine(J.append Z).up ⟨s,λb u U f=>⟨λz=>z.elim (λz=>?_) λz=>f.1 z.1,f.2⟩,λ_ _ _ f=>f⟩;rcases qb.mp z with z|z
 .rw[he b z]at U;cases U
 .rcases qb.mp z with z|z
  .exact f.1 (hn b (Wf _ (sx.subset z))).1
  .exact f.1 (hn b (VR _ (O.subset z))).1
def Uy(K:V8):R2:=λx y H Q=>((rI0 (λi j=>.int (i+j)) x y H Q∨(∃i j,x= .str i/\y= .str j/\i.length+j.length<=V6/\Q (.str (i++j)) H))∨U4 x y H Q)∨Jy K x y H Q
theorem Nq:OpV G (Uy G.K) cF:=λdx dy d e x y H W B Y rx ry nd hn w Q q=>by
 unfold cF at e;split at e
 .cases e
  obtain⟨rfl,rfl⟩:=aV rx;obtain⟨rfl,rfl⟩:=aV ry;exact .inl (.inl (.inl ⟨_,_,rfl,rfl,q.scal λ_=>dI⟩))
 .split at e
  .cases e
   obtain⟨rfl,rfl⟩:=bQ rx;obtain⟨rfl,rfl⟩:=bQ ry;exact .inl (.inl (.inr ⟨_,_,rfl,rfl,‹_›,q.scal λ_=>yC⟩))
  .cases e
 .rename_i m a n b
  split at e
  .rename_i Z
   cases e;rw[Rep]at rx ry;obtain⟨p,xs,Mx,rfl,J,sx⟩:=rx;obtain⟨U,ys,My,rfl,V,sy⟩:=ry;refine .inl (.inr ⟨p,U,xs,ys,rfl,rfl,sx.at Z.1,sy.at Z.2.1,by rw[←J.length,←V.length];exact YS (six Z.2.2),λr O=>?_⟩);have I:Same H (upd H r (.lst (xs++ys))):=Same.new O;have nr:r∉Mx++My:=λz=>by
    obtain⟨o,N,_⟩:=(J.append V).dom r z;rw[O]at N;cases N
   have a1:(Mx++My).Nodup:=(sx.sub.append sy.sub).nodup nd;refine q (.ref r) _ (r::(Mx++My)) I ?_ (λc Z=>?_) (List.nodup_cons.mpr ⟨nr,a1⟩)
   .rw[Rep]
    exact⟨r,xs++ys,Mx++My,rfl,w6 J V sx.sub sy.sub hn I [r] (by simpa using O),aM,rfl⟩
   .rcases V5.mp Z with z|z
    .exact .inr (by rw[z];exact O)
    .exact .inl ((sx.sub.append sy.sub).subset z)
  .cases e
 .rename_i a b
  split at e
  .rename_i Z
   cases e;rw[Rep]at rx ry;obtain⟨p,xs,rfl,F,J⟩:=rx;obtain⟨U,ys,rfl,a0,V⟩:=ry;have base:∀H' p2,Same H H'->H' p2=some (.tup (xs++ys))->Q (.ref p2) H':=λH' p2 I hq=>by
    refine q (.ref p2) H' (B++Y) I ?_ (λc Z=>.inl Z) nd;rw[Rep];exact⟨p2,xs++ys,rfl,hq,w6 J V (Y8 _) (Y8 _) hn I [] (by simp)⟩
   refine .inr ⟨p,U,xs,ys,rfl,rfl,SqT.of F,SqT.of a0,by rw[←J.length,←V.length];exact YS (six Z),λz=>base H U (Same.refl H) (by rw[z];exact a0),λ_ z=>base H p (Same.refl H) (by rw[z,Wm];exact F),λ_ _ r O=>base _ r (Same.new O) aM⟩
  .cases e
 .cases e
theorem eQ(I:∀c,(X c).K=G.K:=by intro _;rfl):OpB X G (X6 .Add) cF:=⟨_,λc=>by rw[←I c];exact OpR.or (OpR.or (OpR.or RD Bv) RQ) Lh,Nq⟩
def gLt:D->D->Option D
 |.int a,.int b=>some (.bl (decide (a<b)))
 |.str a,.str b=>some (.bl (decide (a.cps.toList<b.cps.toList)))
 |_,_=>none
def gLe:D->D->Option D
 |.int a,.int b=>some (.bl (decide (a<=b)))
 |_,_=>none
def gGt:D->D->Option D
 |.int a,.int b=>some (.bl (decide (b<a)))
 |_,_=>none
def gGe:D->D->Option D
 |.int a,.int b=>some (.bl (decide (b<=a)))
 |_,_=>none
theorem UG:OpB X G (W8 .Lt) gLt:=⟨_,λc=>OpR.or Um GR,λdx N d e x y H W B Y rx J nd hn w Q q=>by
 unfold gLt at e;split at e
 .cases e
  obtain⟨rfl,rfl⟩:=aV rx;obtain⟨rfl,rfl⟩:=aV J;exact .inl ⟨_,_,rfl,rfl,q.scal λ_=>gf⟩
 .cases e
  obtain⟨rfl,rfl⟩:=bQ rx;obtain⟨rfl,rfl⟩:=bQ J;exact .inr ⟨_,_,rfl,rfl,q.scal λ_=>gf⟩
 .cases e⟩
theorem PP:OpB X G (W8 .Gt) gGt:=⟨_,λc=>Uj,Cq λdx N d e=>by
 unfold gGt at e;split at e
 .cases e;exact⟨_,_,rfl,rfl,λ_ _=>gf⟩
 .cases e⟩
theorem R_:OpB X G (W8 .GtE) gGe:=⟨_,λc=>Tz,Cq λdx N d e=>by
 unfold gGe at e;split at e
 .cases e;exact⟨_,_,rfl,rfl,λ_ _=>gf⟩
 .cases e⟩
def jU:D->Bool
 |.non=>true
 |_=>false
def gIs:D->D->Option D
 |x,.non=>some (.bl (jU x))
 |_,_=>none
def ju:D->D->Option D
 |x,.non=>some (.bl (!jU x))
 |_,_=>none
theorem GQ{H:Hp}{W:Wn}{d:D}{v:V}{L:List Addr}(r:Rep G H W d v L):decide (v= .non)=jU d:=by
 cases d<;>rw[Rep]at r
 case non=>obtain⟨rfl,_⟩:=r;rfl
 case bl=>obtain⟨rfl,_⟩:=r;rfl
 case int=>obtain⟨rfl,_⟩:=r;rfl
 case str=>obtain⟨rfl,_⟩:=r;rfl
 case ty=>obtain⟨rfl,_⟩:=r;rfl
 case tup=>obtain⟨a,xs,rfl,_⟩:=r;rfl
 case lst=>obtain⟨a,xs,M,rfl,_⟩:=r;rfl
 case dct=>obtain⟨a,xs,M,rfl,_⟩:=r;rfl
 case ins=>obtain⟨a,C,dx,xs,M,rfl,_⟩:=r;rfl
theorem T9:OpB X G (W8 .Is) gIs:=⟨_,λc=>Qy,λdx N d e x y H W B Y rx J nd hn w Q q=>by
 unfold gIs at e;split at e
 .cases e
  rw[Rep]at J;exact⟨J.1,by rw[GQ rx];exact q.scal λ_=>gf⟩
 .cases e⟩
mutual
def dt:D->Dt
 |.non=>.non
 |.bl b=>.bl b
 |.int i=>.int i
 |.str x=>.str x
 |.tup ds=>.tup (dtL ds)
 |.lst _ ds=>.lst (dtL ds)
 |_=>.non
def dtL:List D->List Dt
 |[]=>[]
 |d::r=>dt d::dtL r
end
mutual
def gG:D->Bool
 |.ty _=>false
 |.dct _ _ _=>false
 |.ins _ _ _ _=>false
 |.tup ds=>iW ds
 |.lst _ ds=>iW ds
 |_=>true
def iW:List D->Bool
 |[]=>true
 |d::r=>gG d&&iW r
end
mutual
theorem Rep.brs{H:Hp}{W:Wn}:∀{d:D}{v:V}{L:List Addr},Rep G H W d v L->gG d=true->Brs G.K H (dt d) v
 |.non,v,L,r,_=>by rw[Rep]at r;simp[dt,Brs,r]
 |.bl _,v,L,r,_=>by rw[Rep]at r;simp[dt,Brs,r]
 |.int _,v,L,r,_=>by rw[Rep]at r;simp[dt,Brs,r]
 |.str _,v,L,r,_=>by rw[Rep]at r;simp[dt,Brs,r]
 |.ty _,v,L,r,h=>by cases h
 |.dct _ _ _,v,L,r,h=>by cases h
 |.ins _ _ _ _,v,L,r,h=>by cases h
 |.tup ds,v,L,r,h=>by
  rw[Rep]at r;obtain⟨a,xs,rfl,F,O⟩:=r;rw[dt,Brs];exact⟨a,xs,rfl,SqT.of F,aD.brs O h⟩
 |.lst m ds,v,L,r,h=>by
  rw[Rep]at r;obtain⟨a,xs,M,rfl,O,hs⟩:=r;rw[dt,Brs];exact⟨a,xs,rfl,hs.sq,aD.brs O h⟩
theorem aD.brs{H:Hp}{W:Wn}:∀{ds:List D}{vs:List V}{L:List Addr},aD G H W ds vs L->iW ds=true->gZ G.K H (dtL ds) vs
 |[],vs,L,r,_=>by obtain⟨rfl,_⟩:=r.inv0;simp[dtL,gZ]
 |d::r,vs,L,hr,h=>by
  obtain⟨x,ys,M,M',rfl,rfl,h1,h2⟩:=hr.inv;rw[iW,Wr]at h;rw[dtL,gZ];exact⟨x,ys,rfl,Rep.brs h1 h.1,aD.brs h2 h.2⟩
end
def gEq:D->D->Option D:=λx y=>if gG x=true/\gG y=true/\dp (dt x)<=60/\dp (dt y)<=60 then some (.bl (eqD (dt x) (dt y)))else none
def gNe:D->D->Option D:=λx y=>if gG x=true/\gG y=true/\dp (dt x)<=60/\dp (dt y)<=60 then some (.bl (!eqD (dt x) (dt y)))else none
theorem cb_eq(A:Xk)(V:∀c,(X c).A=A)(F:A.units+64<cLine)(I:∀c,(X c).K=G.K:=by intro _;rfl):OpB X G (W8 .Eq) gEq:=⟨Uk G.K A,λc=>by rw[←I c,←V c];exact Q3,λdx N d e x y H W B Y rx J nd hn w Q q=>by
 unfold gEq at e;split at e
 .rename_i hc
  cases e;exact⟨_,_,rx.brs hc.1,J.brs hc.2.1,by omega,by omega,q.scal λ_=>gf⟩
 .cases e⟩
theorem rC(A:Xk)(V:∀c,(X c).A=A)(F:A.units+64<cLine)(I:∀c,(X c).K=G.K:=by intro _;rfl):OpB X G (W8 .NotEq) gNe:=⟨Ug G.K A,λc=>by rw[←I c,←V c];exact QD,λdx N d e x y H W B Y rx J nd hn w Q q=>by
 unfold gNe at e;split at e
 .rename_i hc
  cases e;exact⟨_,_,rx.brs hc.1,J.brs hc.2.1,by omega,by omega,q.scal λ_=>gf⟩
 .cases e⟩
def gIx:D->D->Option D
 |.lst _ ds,.int i=>atI ds i
 |.tup ds,.int i=>atI ds i
 |.str z,.int i=>if z.length<=V6 then(atI z.cps.toList i).map λc=>.str ⟨#[c]⟩else none
 |.dct _ ks ds,k=>(fG k).bind λk=>(fU ks k).bind λj=>ds[j]?
 |_,_=>none
theorem JM{ds:List D}{xs:List V}{i:Int}{d:D}{H:Hp}{W:Wn}{L:List Addr}(O:aD G H W ds xs L)(e:atI ds i=some d):∃j:Nat,ds[j]? =some d/\∀x,xs[j]? =some x->atI xs i=some x:=by
 unfold atI at e⊢;rw[←O.length];cases h:ixN ds.length i with
 |none=>simp[h]at e
 |some j=>
  refine⟨j,by simpa[h]using e,λx J=>by simpa using J⟩
theorem p6{H:Hp}{W:Wn}{d:D}{x:V}{M B F:List Addr}{Q:VK}(r:Rep G H W d x M)(s:Yb M B)(nd:(B++F).Nodup)(hn:∀a∈B++F,W.tmp a)(q:Done G H W (B++F) d Q):Q x H:=by
 refine q x H M (Same.refl H) (r.up ⟨Same.refl H,λb u U f=>⟨λz=>z.elim (λz=>f.1 (hn b (Wf _ (s.subset z))).1) λz=>f.1 z.1,f.2⟩,λ_ _ _ f=>f⟩) (λa Y=>.inl (Wf _ (s.subset Y))) (s.nodup (Wi.mp nd).1)
theorem RB:OpV G (λx y H Q=>rIx G.K x y H Q∨Ou x y H Q) gIx:=λdx dy d e x y H W Lx Y rx J nd hn w Q q=>by
 unfold gIx at e;split at e
 .rename_i m ds i
  obtain⟨rfl,rfl⟩:=aV J;rw[Rep]at rx;obtain⟨a,xs,M,rfl,O,hs⟩:=rx;obtain⟨j,h1,h2⟩:=JM O e;obtain⟨z,Mz,Z,U,V⟩:=O.get h1;exact .inl (.inl ⟨a,xs,i,z,rfl,rfl,hs.sq,h2 z Z,p6 U (V.trans hs.sub) nd hn q⟩)
 .rename_i ds i
  obtain⟨rfl,rfl⟩:=aV J;rw[Rep]at rx;obtain⟨a,xs,rfl,F,O⟩:=rx;obtain⟨j,h1,h2⟩:=JM O e;obtain⟨z,Mz,Z,U,V⟩:=O.get h1;exact .inl (.inr (.inl ⟨a,xs,i,z,rfl,rfl,SqT.of F,h2 z Z,p6 U V nd hn q⟩))
 .rename_i z i
  obtain⟨rfl,rfl⟩:=aV J;obtain⟨rfl,rfl⟩:=bQ rx;split at e
  .rename_i hl
   cases h1:atI z.cps.toList i with
   |none=>simp[h1]at e
   |some c=>
    obtain rfl:D.str ⟨#[c]⟩=d:=by simpa[h1]using e
    exact .inl (.inr (.inr ⟨z,i,c,rfl,rfl,hl,h1,q.scal λ_=>yC⟩))
  .cases e
 .rename_i m ks ds
  cases B:fG dy with
  |none=>simp[B]at e
  |some k=>
   cases I:fU ks k with
   |none=>simp[B,I]at e
   |some j=>
    have e':ds[j]? =some d:=by simpa[B,I]using e
    rw[Rep]at rx;obtain⟨a,kvs,M,rfl,⟨rfl,a0⟩,O,hs⟩:=rx;obtain⟨z,Mz,Z,U,V⟩:=O.get e';have N:=pR I;rw[Z]at N;refine .inr ⟨a,z,rfl,.inl ⟨kvs,k,hs.rdD,lX J B,N.symm⟩,p6 U (V.trans hs.sub) nd hn q⟩
 .cases e
theorem ixb(F:∀c,(X c).A.units+1<cLine)(I:∀c,(X c).K=G.K:=by intro _;rfl):IxB X G gIx:=⟨_,λc=>by rw[←I c];exact Ir (F c),RB⟩
end
section
variable{ι:Type}{X:ι->Cx}{G:Gc}
def scV:D->Option V
 |.non=>some .non
 |.bl b=>some (.bl b)
 |.int i=>some (.int i)
 |.str x=>some (.str x)
 |_=>none
def vR:List D->Option (List V)
 |[]=>some []
 |d::r=>(scV d).bind λv=>(vR r).map λt=>v::t
theorem yG{H:Hp}{W:Wn}{d:D}{v u:V}{L:List Addr}(r:Rep G H W d v L)(h:scV d=some u):v=u/\lC u=true:=by
 cases d<;>simp[scV]at h<;>subst h<;>rw[Rep]at r<;>exact⟨r.1,rfl⟩
theorem uE{H:Hp}{W:Wn}:∀{ds:List D}{vs us:List V}{L:List Addr},aD G H W ds vs L->vR ds=some us->vs=us/\us.all lC=true
 |[],vs,us,L,r,h=>by
  cases h;exact⟨r.inv0.1,rfl⟩
 |d::t,vs,us,L,r,h=>by
  obtain⟨x,ys,M,M',rfl,rfl,h1,h2⟩:=r.inv;rw[vR]at h;cases e1:scV d with
  |none=>simp[e1]at h
  |some v=>
   cases e2:vR t with
   |none=>simp[e1,e2]at h
   |some w=>
    obtain rfl:v::w=us:=by simpa[e1,e2]using h
    obtain⟨rfl,q⟩:=yG h1 e1;obtain⟨rfl,I⟩:=uE h2 e2;exact⟨rfl,by simp[q,I]⟩
def O_(x y:Str):Bool:=!(Xg y x 0 y.length 1).isEmpty
def vg:D->D->Option Bool
 |x,.lst _ ds=>(scV x).bind λv=>(vR ds).map λvs=>inV v vs
 |x,.tup ds=>(scV x).bind λv=>(vR ds).map λvs=>inV v vs
 |.str x,.str y=>some (O_ x y)
 |x,.dct _ ks _=>(fG x).map λk=>(fU ks k).isSome
 |_,_=>none
def gIn(x y:D):Option D:=(vg x y).map .bl
def lz(x y:D):Option D:=(vg x y).map λb=>.bl !b
theorem Di{Y:Cx}(F:Y.A.units+1<cLine):OpR Y (W8 .In) (λx y H Q=>∃a o,y= .ref a/\oA H a x o/\Q (.bl o.isSome) H):=λpins s σ H x y v u Q I rx J h=>by
 obtain⟨a,o,rfl,g,q⟩:=h;cases J;exact Vz F I g rx λB V=>⟨.bl o.isSome,H,V,rfl,q⟩
theorem vO{Y:Cx}(F:Y.A.units+1<cLine):OpR Y (W8 .NotIn) (λx y H Q=>∃a o,y= .ref a/\oA H a x o/\Q (.bl (!o.isSome)) H):=λpins s σ H x y v u Q I rx J h=>by
 obtain⟨a,o,rfl,g,q⟩:=h;cases J;exact Oe F I g rx λB V=>⟨.bl (!o.isSome),H,V,rfl,q⟩
theorem KJ{H:Hp}{W:Wn}{dx N:D}{x y:V}{B Y:List Addr}{b:Bool}(e:vg dx N=some b)(rx:Rep G H W dx x B)(J:Rep G H W N y Y) :
  (∃p xs,y= .ref p/\(SqL G.K H p xs∨SqT G.K H p xs)/\lC x=true/\xs.all lC=true/\b=inV x xs)∨(∃i j,x= .str i/\y= .str j/\b=O_ i j)∨(∃a o,y= .ref a/\oA H a x o/\b=o.isSome):=by
 unfold vg at e;split at e
 .rename_i m ds
  cases e1:scV dx with
  |none=>simp[e1]at e
  |some v=>
   cases e2:vR ds with
   |none=>simp[e1,e2]at e
   |some vs=>
    obtain rfl:inV v vs=b:=by simpa[e1,e2]using e
    rw[Rep]at J;obtain⟨a,xs,M,rfl,O,hs⟩:=J;obtain⟨rfl,Z⟩:=yG rx e1;obtain⟨rfl,U⟩:=uE O e2;exact .inl ⟨a,_,rfl,.inl hs.sq,Z,U,rfl⟩
 .rename_i ds
  cases e1:scV dx with
  |none=>simp[e1]at e
  |some v=>
   cases e2:vR ds with
   |none=>simp[e1,e2]at e
   |some vs=>
    obtain rfl:inV v vs=b:=by simpa[e1,e2]using e
    rw[Rep]at J;obtain⟨a,xs,rfl,F,O⟩:=J;obtain⟨rfl,Z⟩:=yG rx e1;obtain⟨rfl,U⟩:=uE O e2;exact .inl ⟨a,_,rfl,.inr (SqT.of F),Z,U,rfl⟩
 .cases e
  obtain⟨rfl,_⟩:=bQ rx;obtain⟨rfl,_⟩:=bQ J;exact .inr (.inl ⟨_,_,rfl,rfl,rfl⟩)
 .rename_i m ks ds
  cases e1:fG dx with
  |none=>simp[e1]at e
  |some k=>
   have e':(fU ks k).isSome=b:=by simpa[e1]using e
   rw[Rep]at J;obtain⟨a,kvs,M,rfl,⟨rfl,q⟩,O,hs⟩:=J;refine .inr (.inr ⟨a,kJ kvs k,rfl,.inl ⟨kvs,k,hs.rdD,lX rx e1,rfl⟩,?_⟩);rw[←e'];cases I:fU (kvs.map (·.1)) k with
   |none=>rw[wL I];rfl
   |some j=>
    rw[pR I,Wh (by simpa using tH I)];rfl
 .cases e
def Vy(K:V8):R2:=λx y H Q=>(rIn K false x y H Q∨(∃i j,x= .str i/\y= .str j/\Q (.bl (!(Xg j i 0 j.length 1).isEmpty)) H))∨∃a o,y= .ref a/\oA H a x o/\Q (.bl o.isSome) H
def O7(K:V8):R2:=λx y H Q=>(rIn K true x y H Q∨(∃i j,x= .str i/\y= .str j/\Q (.bl (!(!(Xg j i 0 j.length 1).isEmpty))) H))∨∃a o,y= .ref a/\oA H a x o/\Q (.bl (!o.isSome)) H
theorem PK(F:∀c,(X c).A.units+1<cLine)(I:∀c,(X c).K=G.K:=by intro _;rfl):OpB X G (W8 .In) gIn:=⟨Vy G.K,λc=>by rw[←I c];exact OpR.or (OpR.or Hc Ha) (Di (F c)),λdx N d e x y H W B Y rx J nd hn w Q q=>by
 unfold gIn at e;cases h1:vg dx N with
 |none=>simp[h1]at e
 |some b=>
  obtain rfl:D.bl b=d:=by simpa[h1]using e
  have V:Q (.bl b) H:=q.scal λ_=>gf;rcases KJ h1 rx J with⟨p,xs,rfl,h2,Z,U,rfl⟩|⟨i,j,rfl,rfl,rfl⟩|⟨a,o,rfl,h2,rfl⟩
  .exact .inl (.inl ⟨p,xs,rfl,h2,Z,U,V⟩)
  .exact .inl (.inr ⟨i,j,rfl,rfl,V⟩)
  .exact .inr ⟨a,o,rfl,h2,V⟩⟩
theorem zW(F:∀c,(X c).A.units+1<cLine)(I:∀c,(X c).K=G.K:=by intro _;rfl):OpB X G (W8 .NotIn) lz:=⟨O7 G.K,λc=>by rw[←I c];exact OpR.or (OpR.or xR xH) (vO (F c)),λdx N d e x y H W B Y rx J nd hn w Q q=>by
 unfold lz at e;cases h1:vg dx N with
 |none=>simp[h1]at e
 |some b=>
  obtain rfl:D.bl (!b)=d:=by simpa[h1]using e
  have V:Q (.bl (!b)) H:=q.scal λ_=>gf;rcases KJ h1 rx J with⟨p,xs,rfl,h2,Z,U,rfl⟩|⟨i,j,rfl,rfl,rfl⟩|⟨a,o,rfl,h2,rfl⟩
  .exact .inl (.inl ⟨p,xs,rfl,h2,Z,U,V⟩)
  .exact .inl (.inr ⟨i,j,rfl,rfl,V⟩)
  .exact .inr ⟨a,o,rfl,h2,V⟩⟩
theorem aD.inv1{H:Hp}{W:Wn}{d:D}{xs:List V}{L:List Addr}(r:aD G H W [d] xs L):∃x,xs=[x]/\Rep G H W d x L:=by
 obtain⟨x,ys,M,M',rfl,rfl,h1,h2⟩:=r.inv;obtain⟨rfl,rfl⟩:=h2.inv0;exact⟨x,rfl,by rw[Wm];exact h1⟩
theorem aD.inv2{H:Hp}{W:Wn}{d e:D}{xs:List V}{L:List Addr}(r:aD G H W [d,e] xs L):∃x y M N,xs=[x,y]/\L=M++N/\Rep G H W d x M/\Rep G H W e y N:=by
 obtain⟨x,ys,M,M',rfl,rfl,h1,h2⟩:=r.inv;obtain⟨y,rfl,Z⟩:=h2.inv1;exact⟨x,y,M,M',rfl,rfl,h1,Z⟩
def dh:List D->Option D
 |[.lst _ ds]=>some (.int ds.length)
 |[.tup ds]=>some (.int ds.length)
 |[.str z]=>if z.length<=V6 then some (.int z.length)else none
 |[.dct m _ ds]=>if m= .scr then none else some (.int ds.length)
 |_=>none
theorem gK(I:∀c,(X c).K=G.K:=by intro _;rfl):CaB X G (.builtin "len") dh:=⟨λxs H Q=>((∃p ys,xs=[.ref p]/\(SqL G.K H p ys∨SqT G.K H p ys)/\Q (.int ys.length) H)∨∃z,xs=[.str z]/\z.length<=V6/\Q (.int z.length) H)∨∃a kvs,xs=[V.ref a]/\H a=some (.dK kvs)/\Q (.int kvs.length) H,λc=>by rw[←I c];exact cY.or (cY.or ym xm) GZ,λds d e xs H W Z r nd hn w Q q=>by
 unfold dh at e;split at e
 .cases e
  show 7;rw[Rep]at rx;obtain⟨a,ys,M,rfl,O,hs⟩:=rx;exact .inl (.inl ⟨a,ys,rfl,.inl hs.sq,by rw[←O.length];exact q.scal λ_=>dI⟩)
 .cases e
  show 7;rw[Rep]at rx;obtain⟨a,ys,rfl,F,O⟩:=rx;exact .inl (.inl ⟨a,ys,rfl,.inr (SqT.of F),by rw[←O.length];exact q.scal λ_=>dI⟩)
 .split at e
  .cases e
   show 7;obtain⟨rfl,rfl⟩:=bQ rx;exact .inl (.inr ⟨_,rfl,‹_›,q.scal λ_=>dI⟩)
  .cases e
 .split at e
  .cases e
  .cases e
   show 7;rw[Rep]at rx;obtain⟨a,kvs,M,rfl,B,O,hs⟩:=rx;exact .inr ⟨a,kvs,rfl,hs.at ‹_›,by have:=O.length;simp at this;rw[←this];exact q.scal λ_=>dI⟩
 .cases e⟩
def lL:List D->Option D
 |[.int i]=>some (.int (if i<0 then -i else i))
 |_=>none
theorem DN:CaB X G (.builtin "abs") lL:=⟨_,λc=>Ld,λds d e xs H W Z r nd hn w Q q=>by
 unfold lL at e;split at e
 .cases e
  show 7;obtain⟨rfl,rfl⟩:=aV rx;exact⟨_,rfl,q.scal λ_=>dI⟩
 .cases e⟩
def nF:List D->Option D
 |[.int i]=>some (.int i)
 |[.bl k]=>some (.int (if k then 1 else 0))
 |_=>none
theorem LQ:CaB X G (.type "int") nF:=⟨_,λc=>Hl,λds d e xs H W Z r nd hn w Q q=>by
 unfold nF at e;split at e
 .cases e
  show 7;obtain⟨rfl,rfl⟩:=aV rx;exact .inl ⟨_,rfl,q.scal λ_=>dI⟩
 .cases e
  show 7;obtain⟨rfl,rfl⟩:=n_ rx;exact .inr ⟨_,rfl,q.scal λ_=>dI⟩
 .cases e⟩
def ie:List D->Option D
 |[.int i,.int j]=>some (.int (if j<i then j else i))
 |_=>none
def mR:List D->Option D
 |[.int i,.int j]=>some (.int (if j>i then j else i))
 |_=>none
theorem zc(Z:∀c,(X c).calm=true):CaB X G (.builtin "min") ie:=⟨_,λc=>Hh (Z c),λds d e xs H W B r nd hn w Q q=>by
 unfold ie at e;split at e
 .cases e
  obtain⟨x,y,M,N,rfl,rfl,rx,J⟩:=r.inv2;obtain⟨rfl,rfl⟩:=aV rx;obtain⟨rfl,rfl⟩:=aV J;exact⟨_,_,rfl,q.scal λ_=>dI⟩
 .cases e⟩
theorem Hm{H:Hp}{W:Wn}{ds:List D}{xs:List V}{M Z:List Addr}{Q:VK}{p:Addr}(O:aD G H W ds xs M)(s:Yb M Z)(nd:Z.Nodup)(hn:∀a∈Z,W.tmp a)(F:H p=none)(q:Done G H W Z (.lst .own ds) Q):Q (.ref p) (upd H p (.lst xs)):=by
 have I:Same H (upd H p (.lst xs)):=Same.new F;have B:p∉M:=λz=>by obtain⟨o,N,_⟩:=O.dom p z;rw[F]at N;cases N
 refine q (.ref p) _ (p::M) I ?_ (λa Y=>(V5.mp Y).elim (λz=>.inr (by rw[z];exact F)) λz=>.inl (s.subset z)) (List.nodup_cons.mpr ⟨B,s.nodup nd⟩);rw[Rep];exact⟨p,xs,M,rfl,O.up ⟨I,λb u U f=>⟨λz=>z.elim (λz=>(V5.mp z).elim (λz=>by rw[z,F]at U;cases U) λz=>f.1 (hn b (s.subset z)).1) λz=>f.1 z.1,f.2⟩,λ_ _ _ f=>f⟩,aM,rfl⟩
theorem wW{H:Hp}{W:Wn}{ds:List D}{xs:List V}{M Z:List Addr}{Q:VK}{p:Addr}(O:aD G H W ds xs M)(s:Yb M Z)(nd:Z.Nodup)(hn:∀a∈Z,W.tmp a)(F:H p=none)(q:Done G H W Z (.tup ds) Q):Q (.ref p) (upd H p (.tup xs)):=by
 have I:Same H (upd H p (.tup xs)):=Same.new F;refine q (.ref p) _ M I ?_ (λa Y=>.inl (s.subset Y)) (s.nodup nd);rw[Rep];exact⟨p,xs,rfl,aM,O.up ⟨I,λb u U f=>⟨λz=>z.elim (λz=>f.1 (hn b (s.subset z)).1) λz=>f.1 z.1,f.2⟩,λ_ _ _ f=>f⟩⟩
theorem nQ{H:Hp}{W:Wn}{d:D}{x:V}{M Z:List Addr}{Q:VK}(O:Rep G H W d x M)(s:Yb M Z)(nd:Z.Nodup)(hn:∀a∈Z,W.tmp a)(q:Done G H W Z d Q):Q x H:=by
 refine q x H M (Same.refl H) (O.up ⟨Same.refl H,λb u U f=>⟨λz=>z.elim (λz=>f.1 (hn b (s.subset z)).1) λz=>f.1 z.1,f.2⟩,λ_ _ _ f=>f⟩) (λa Y=>.inl (s.subset Y)) (s.nodup nd)
def mj:List D->Option D
 |[.lst _ ds]=>some (.lst .own ds)
 |[.tup ds]=>some (.lst .own ds)
 |_=>none
def d_:List D->Option D
 |[.lst _ ds]=>some (.tup ds)
 |[.tup ds]=>some (.tup ds)
 |_=>none
theorem v7(I:∀c,(X c).K=G.K:=by intro _;rfl):CaB X G (.type "tuple") d_:=⟨λxs H Q=>∃p ys,xs=[.ref p]/\((SqL G.K H p ys/\∀l,H l=none->Q (.ref l) (upd H l (.tup ys)))∨(SqT G.K H p ys/\Q (.ref p) H)),λc=>by rw[←I c];exact vP,λds d e xs H W Z r nd hn w Q q=>by
 unfold d_ at e;split at e
 .cases e
  show 7;rw[Rep]at rx;obtain⟨a,ys,M,rfl,O,hs⟩:=rx;exact⟨a,ys,rfl,.inl ⟨hs.sq,λp F=>wW O hs.sub nd hn F q⟩⟩
 .cases e
  show 7;have N:=rx;rw[Rep]at rx;obtain⟨a,ys,rfl,B,O⟩:=rx;exact⟨a,ys,rfl,.inr ⟨SqT.of B,nQ N (Y8 _) nd hn q⟩⟩
 .cases e⟩
def tyN:D->Option String
 |.non=>some "NoneType"
 |.bl _=>some "bool"
 |.int _=>some "int"
 |.str _=>some "str"
 |.tup _=>some "tuple"
 |.lst m _=>if m= .scr then none else some "list"
 |.dct m _ _=>if m= .scr then none else some "dict"
 |_=>none
def okT(n:String):Bool:=n=="int"||n=="bool"||n=="str"||n=="list"||n=="tuple"
def isT(t n:String):Bool:=t==n||(t=="bool"&&n=="int")
theorem Eo{K:V8}{t n:String}{d:D}(h1:tyN d=some t)(h2:okT n=true):aa8 K (.type t) (.type n)=some (isT t n):=by
 have F:t="NoneType"∨t="bool"∨t="int"∨t="str"∨t="tuple"∨t="list"∨t="dict":=by
  cases d<;>simp[tyN]at h1<;>(try split at h1)<;>simp_all
 have hn:n="int"∨n="bool"∨n="str"∨n="list"∨n="tuple":=by simpa[okT,or_assoc]using h2
 rcases F with rfl|rfl|rfl|rfl|rfl|rfl|rfl<;>rcases hn with rfl|rfl|rfl|rfl|rfl<;>with_unfolding_all rfl
theorem Aa{H:Hp}{W:Wn}{d:D}{v:V}{L:List Addr}{t:String}(r:Rep G H W d v L)(h:tyN d=some t):lN G.K H v (.type t):=by
 cases d with
 |non=>rw[Rep]at r;obtain⟨rfl,_⟩:=r;cases h;exact .non
 |bl b=>rw[Rep]at r;obtain⟨rfl,_⟩:=r;cases h;exact .bl _
 |int b=>rw[Rep]at r;obtain⟨rfl,_⟩:=r;cases h;exact .int _
 |str b=>rw[Rep]at r;obtain⟨rfl,_⟩:=r;cases h;exact .str _
 |ty n=>cases h
 |tup ds=>rw[Rep]at r;obtain⟨a,xs,rfl,F,O⟩:=r;cases h;exact .tup F
 |lst m ds=>
  rw[Rep]at r;obtain⟨a,xs,M,rfl,O,hs⟩:=r;simp only[tyN]at h;split at h
  .cases h
  .cases h;exact .lst (hs.at ‹_›)
 |dct m ks ds=>
  rw[Rep]at r;obtain⟨a,xs,M,rfl,B,O,hs⟩:=r;simp only[tyN]at h;split at h
  .cases h
  .cases h;exact .dK (hs.at ‹_›)
 |ins m c fs ds=>cases h
def Bf:List D->Option (List String)
 |[]=>some []
 |.ty n::r=>(Bf r).map λt=>n::t
 |_::_=>none
theorem wY{H:Hp}{W:Wn}:∀{ds:List D}{vs:List V}{L:List Addr}{ns:List String},aD G H W ds vs L->Bf ds=some ns->vs=ns.map V.ty
 |[],vs,L,ns,r,h=>by cases h;rw[r.inv0.1];rfl
 |d::t,vs,L,ns,r,h=>by
  obtain⟨x,ys,M,M',rfl,rfl,h1,h2⟩:=r.inv;cases d<;>simp[Bf]at h;obtain⟨w,Z,rfl⟩:=h;rw[Rep]at h1;rw[h1.1,wY h2 Z];rfl
theorem t8{K:V8}{t:String}{d:D}(h1:tyN d=some t):∀{ns:List String},ns.all okT=true->aba K (.type t) (ns.map Zy)=some (ns.any (isT t))
 |[],_=>rfl
 |n::r,h=>by
  rw[Z7,Wr]at h;rw[V7,aba,Eo h1 h.1];cases e:isT t n with
  |true=>simp[e]
  |false=>simp only[e];rw[t8 h1 h.2];simp[e]
def dH:List D->Option D
 |[x,.ty n]=>(tyN x).bind λt=>if okT n=true then some (.bl (isT t n))else none
 |[x,.tup ts]=>(tyN x).bind λt=>(Bf ts).bind λns=>if ns.all okT=true then some (.bl (ns.any (isT t)))else none
 |_=>none
theorem dG(I:∀c,(X c).K=G.K:=by intro _;rfl):CaB X G (.builtin "isinstance") dH:=⟨λxs H Q=>(∃x n t b,xs=[x,.ty n]/\lN G.K H x t/\aa8 G.K t (.type n)=some b/\Q (.bl b) H)∨∃x tp Y t b,xs=[x,.ref tp]/\H tp=some (.tup (List.map V.ty Y))/\lN G.K H x t/\aba G.K t (Y.map Zy)=some b/\Q (.bl b) H,λc=>by rw[←I c];exact cY.or Ah xV,λds d e xs H W Z r nd hn w Q q=>by
 unfold dH at e;split at e
 .rename_i x n
  cases e1:tyN x with
  |none=>simp[e1]at e
  |some t=>
   rw[e1]at e;simp only[V1]at e;split at e
   .cases e
    obtain⟨u,v,M,N,rfl,rfl,rx,J⟩:=r.inv2;rw[Rep]at J;obtain⟨rfl,_⟩:=J;exact .inl ⟨u,n,_,_,rfl,Aa rx e1,Eo e1 ‹_›,q.scal λ_=>gf⟩
   .cases e
 .rename_i x ts
  cases e1:tyN x with
  |none=>simp[e1]at e
  |some t=>
   cases e2:Bf ts with
   |none=>simp[e1,e2]at e
   |some ns=>
    rw[e1,e2]at e;simp only[V1]at e;split at e
    .cases e
     obtain⟨u,v,M,N,rfl,rfl,rx,J⟩:=r.inv2;rw[Rep]at J;obtain⟨a,ys,rfl,F,O⟩:=J;have:=wY O e2;subst this;exact .inr ⟨u,a,ns,_,_,rfl,F,Aa rx e1,t8 e1 ‹_›,q.scal λ_=>gf⟩
    .cases e
 .cases e⟩
end
section
variable{X:Cx}
def ud(n:Nat)(i:Int):Nat:=if i<0 then(i+(n:Int)).toNat else min i.toNat n
def Dq:V->List V->Hp->VK->Prop:=λx vs H Q=>∃l xs i y,x= .ref l/\vs=[.int i,y]/\H l=some (.lst xs)/\-(2 ^ 63)<=i/\i<2 ^ 63/\Yl xs<V6/\Q .non (upd H l (.lst (xs.take (ud xs.length i)++y::xs.drop (ud xs.length i))))
theorem Gy:MtM X "list.insert" Dq:=by
 intro pins s σ H x vs v us Q I rx J h;obtain⟨l,xs,i,y,rfl,rfl,V,h1,h2,O,q⟩:=h;cases rx;cases J with
 |cons N J=>
  obtain⟨u,rfl,U⟩:=vals1 J;obtain⟨t,rfl⟩:=N;obtain⟨z,B,n,r,Y,e⟩:=I.lstM V;refine ZC F.slot_list_insert ⟨_,e,rfl⟩ F.entry_list_insert (F.args_list_insert_3 _ _ _) (AutoSeq1.list_insert_list_int_val_1 l B.toArray n i t u (by simp[fitsIndex_both h1 h2]) (by rw[List.size_toArray];omega)) ⟨e,?_⟩;refine⟨.non,_,I.lset (its':=B.take (ud B.length i)++u::B.drop (ud B.length i)) V e ?_ ?_ ?_,rfl,q⟩
  .show(B.toArray.extract 0 (ud B.length i)).push u++B.toArray.extract (ud B.length i)=_
   apply Array.ext';simp[List.extract_eq_take_drop];exact YM (by simp)
  .rw[Y]
   exact(r.take _).append (.cons U (r.drop _))
  .simp only[Xn,YJ,WK,Ys]
   omega
end
section
variable{ι:Type}{X:ι->Cx}{G:Gc}
theorem uY{H:Hp}{W:Wn}{a:Addr}{B:List V}{I:List D}{res:D}{x:V}{M0 N M1 R:List Addr}{Q:VK}(O:aD G H W I B M1)(rr:Rep G H W res x R)(k1:aA I=true)(k2:aB I=true)(kr:clean res=true)
  (Y:a∉M1++R) (nd:(M1++R).Nodup) (sub:∀b∈M1++R,b∈M0∨b∈N)
  (q:∀x H' M' R,(∀b u,H b=some u->b∉a::M0->H' b=some u)->(∀W',Evo H H' W W'->Rep G H' W' (.lst .own I) (.ref a) M'/\Rep G H' W' res x R)->(M'++R).Nodup->(∀b∈M'++R,b∈a::M0∨b∈N∨H b=none)->clean (.lst .own I)=true->clean res=true->Q x H'):Q x (upd H a (.lst B)):=by
 have a0:=(by simpa[clean]using kr:az res=true/\aq res=true);refine q x _ (a::M1) R (λb u U n=>by rw[aK (show b≠a from λz=>n (by rw[z];simp))];exact U) (λW' J=>⟨?_,?_⟩) ?_ (λb U=>?_) (qX k1 k2) kr
 .rw[Rep]
  exact⟨a,B,M1,rfl,Dp O k1 k2 (λz=>Y (Wf _ z)) J,aM,rfl⟩
 .exact rr.mono J (.inl a0.1) (.inl a0.2) λc Z u F=>by rw[aK (show c≠a from λz=>Y (VR _ (z▸Z)))];exact F
 .rw[W0]
  exact List.nodup_cons.mpr ⟨Y,nd⟩
 .rw[W0]at U
  rcases V5.mp U with z|z
  .exact .inl 1.22
  .exact(sub b z).imp (λz=>Ws _ z) .inl
theorem il{ds:List D}(h:aA ds=true):∀d∈ds,az d=true:=λd hd=>let⟨i,hi⟩:=acM hd;iJ h hi
theorem iD{ds:List D}(h:aB ds=true):∀d∈ds,aq d=true:=λd hd=>let⟨i,hi⟩:=acM hd;iw h hi
theorem bA:∀{ds:List D},(∀d∈ds,az d=true)->aA ds=true
 |[],_=>rfl
 |d::r,h=>by rw[aA,h d (by simp),bA λe V=>h e (by simp[V])];rfl
theorem aZ:∀{ds:List D},(∀d∈ds,aq d=true)->aB ds=true
 |[],_=>rfl
 |d::r,h=>by rw[aB,h d (by simp),aZ λe V=>h e (by simp[V])];rfl
theorem aD.revL{H:Hp}{W:Wn}:∀{ds:List D}{xs:List V}{L:List Addr},aD G H W ds xs L->∃M,aD G H W ds.reverse xs.reverse M/\Xp M L
 |[],xs,L,r=>by obtain⟨rfl,rfl⟩:=r.inv0;exact⟨[],.nil,.refl _⟩
 |d::t,xs,L,r=>by
  obtain⟨x,ys,M,M',rfl,rfl,h1,h2⟩:=r.inv;obtain⟨N,Z,q⟩:=aD.revL h2;refine⟨N++M,?_,(q.append_right M).trans Yv⟩;rw[aax,aax];exact Z.append (.one h1)
def jJ:D->List D->Option (D×D)
 |.lst .own ds,[.int i]=>if ds.length<1000000 then(ixN ds.length i).bind λk=>(ds[k]?).map λe=>(.lst .own (ds.eraseIdx k),e)else none
 |_,_=>none
theorem aD.erase{H:Hp}{W:Wn}{ds:List D}{xs:List V}{L:List Addr}{j:Nat}{d:D}(h:aD G H W ds xs L)(e:ds[j]? =some d):∃x M N,xs[j]? =some x/\Rep G H W d x M/\aD G H W (ds.eraseIdx j) (xs.eraseIdx j) N/\Xp (N++M) L:=by
 obtain⟨A,B,x,ys,zs,F,M,J,rfl,q,rfl,Y,rfl,h1,h2,Z⟩:=h.at e;refine⟨x,M,F++J,by rw[XH 1.10,Y,Zj];rfl,h2,?_,?_⟩
 .have e1:(A++d::B).eraseIdx j=A++B:=by rw[aaF 1.10,q,Zj];rfl
  have e2:(ys++x::zs).eraseIdx j=ys++zs:=by rw[aaF 1.10,Y,Zj];rfl
  rw[e1,e2];exact h1.append Z
 .rw[YD]
  exact acy F Yv
theorem wB{ds:List D}{k:Nat}{d:D}(h:d∈ds.eraseIdx k):d∈ds:=(List.eraseIdx_sublist ds k).subset h
theorem KH{H:Hp}{W:Wn}{a:Addr}{ys:List V}{ds:List D}{e:D}{k:Nat}{M0 N:List Addr}{Q:VK}(O:aD G H W ds ys M0)(nd:((a::M0)++N).Nodup)(Z:clean (.lst .own ds)=true)(B:ds[k]? =some e)
  (q:∀x H' M' R,(∀b u,H b=some u->b∉a::M0->H' b=some u)->(∀W',Evo H H' W W'->Rep G H' W' (.lst .own (ds.eraseIdx k)) (.ref a) M'/\Rep G H' W' e x R)->(M'++R).Nodup->(∀b∈M'++R,b∈a::M0∨b∈N∨H b=none)->clean (.lst .own (ds.eraseIdx k))=true->clean e=true->Q x H'):∃y,ys[k]? =some y/\Q y (upd H a (.lst (ys.eraseIdx k))):=by
 obtain⟨k1,k2⟩:=j5 Z;obtain⟨x,M,L,J,rx,F,Y⟩:=O.erase B;have I:=Wi.mp nd;have hn:=W_.mp I.1;refine⟨x,J,uY (M0:=M0) (N:=N) F rx (bA λd hd=>il k1 d (wB hd)) (aZ λd hd=>iD k2 d (wB hd)) (by simp[clean,iJ k1 B,iw k2 B]) (λz=>hn.1 (Y.mem_iff.mp z)) (Y.nodup_iff.mpr hn.2) (λb U=>.inl (Y.mem_iff.mp U)) q⟩
theorem Hs:MuV G H9 jJ:=λd es d' res h v xs H W M N r F nd I Z B c2 Q q=>by
 unfold jJ at h;split at h
 .rename_i ds i
  split at h
  .rename_i hl
   cases h1:ixN ds.length i with
   |none=>simp[h1]at h
   |some k=>
    cases h2:ds[k]? with
    |none=>simp[h1,h2]at h
    |some e=>
     obtain⟨rfl,rfl⟩:D.lst .own (ds.eraseIdx k)=d'/\e=res:=by simpa[h1,h2]using h
     rw[Rep]at r;obtain⟨a,ys,M0,rfl,O,Y,rfl⟩:=r;obtain⟨x,rfl,J⟩:=F.inv1;obtain⟨rfl,rfl⟩:=aV J;obtain⟨g1,g2,g3,g4⟩:=yz h1;obtain⟨y,V,U⟩:=KH O nd Z h2 q;exact⟨a,ys,i,k,y,rfl,rfl,Y,by omega,by omega,by rw[←O.length];exact g1,V,U⟩
  .cases h
 .cases h
theorem Gd:MuB X G "list" "list.pop" jJ:=⟨_,λc=>Kc,Hs,yh rfl λd es q e=>by
 unfold jJ at e;split at e
 .exact⟨_,_,rfl⟩
 .cases e⟩
def opPop:D->List D->Option (D×D)
 |.lst .own ds,[]=>(ds[ds.length-1]?).map λe=>(.lst .own ds.dropLast,e)
 |_,_=>none
def jG:D->List D->Option (D×D)
 |.lst .own ds,[.int i,e]=>if ds.length<1000000/\-(2 ^ 63)<=i/\i<2 ^ 63 then some (.lst .own (ds.take (ud ds.length i)++e::ds.drop (ud ds.length i)),.non)else none
 |_,_=>none
theorem aD.takeDrop{H:Hp}{W:Wn}{ds:List D}{xs:List V}{L:List Addr}(h:aD G H W ds xs L)(k:Nat):∃A B,aD G H W (ds.take k) (xs.take k) A/\aD G H W (ds.drop k) (xs.drop k) B/\L=A++B:=by
 rw[←aaU k ds]at h;obtain⟨ys,zs,A,B,rfl,rfl,h1,h2⟩:=h.split;have Y:=h1.length;by_cases q:k<=ds.length
 .have hk':ys.length=k:=by rw[←Y,YJ];omega
  refine⟨A,B,?_,?_,rfl⟩
  .rw[←hk',List.take_left,hk'];exact h1
  .rw[←hk',List.drop_left,hk'];exact h2
 .have e1:ds.take k=ds:=YM 1.10
  have e2:ds.drop k=[]:=aaG 1.10;rw[e1]at h1 Y;rw[e2]at h2;obtain⟨rfl,rfl⟩:=h2.inv0;refine⟨A,[],?_,?_,by simp⟩
  .rw[e1,Wm,YM 1.10];exact h1
  .rw[e2,Wm,aaG 1.10];exact .nil
theorem BL:MuV G Dq jG:=λd es d' res h v xs H W M N r re nd hM Z c1 c2 Q q=>by
 unfold jG at h;split at h
 .rename_i ds i e
  split at h
  .rename_i hl
   cases h;rw[Rep]at r;obtain⟨a,ys,M0,rfl,O,Y,rfl⟩:=r;obtain⟨x,y,N1,N2,rfl,rfl,J,V⟩:=re.inv2;obtain⟨rfl,rfl⟩:=aV J;rw[List.nil_append]at nd q;obtain⟨k1,F⟩:=j5 Z;obtain⟨A,B,h1,h2,rfl⟩:=O.takeDrop (ud ds.length i);have I:=Wi.mp nd;have hn:=W_.mp I.1;have a1:a∉N2:=λz=>I.2.2 a (by simp) a z rfl;simp only[aA,aB,Wr]at c1 c2;have a0:=h1.append (.cons V h2);have pm:Xp (A++(N2++B)) ((A++B)++N2):=by
    rw[YD];exact acy A Yv
   refine⟨a,ys,i,y,rfl,rfl,Y,hl.2.1,hl.2.2,Dm (by rw[←O.length];exact hl.1),?_⟩;rw[←O.length];refine uY (M0:=A++B) (N:=N2) (R:=[]) a0 lA ?_ ?_ rfl (λz=>?_) ?_ (λb U=>?_) q
   .refine bA λd hd=>?_
    rcases qb.mp hd with z|z
    .exact il k1 d (aa3 z)
    .rcases V5.mp z with z|z
     .rw[z];exact c1.2.1
     .exact il k1 d (Z1 z)
   .refine aZ λd hd=>?_
    rcases qb.mp hd with z|z
    .exact iD F d (aa3 z)
    .rcases V5.mp z with z|z
     .rw[z];exact c2.2.1
     .exact iD F d (Z1 z)
   .rw[Wm]at z
    rcases qb.mp (pm.mem_iff.mp z)with z|z
    .exact hn.1 z
    .exact a1 z
   .rw[Wm]
    refine pm.nodup_iff.mpr (cP hn.2 I.2.1 λb h1 h2=>I.2.2 b (Ws _ h1) b h2 rfl)
   .rw[Wm]at U
    exact qb.mp (pm.mem_iff.mp U)
  .cases h
 .cases h
theorem Cv:MuB X G "list" "list.insert" jG:=⟨_,λc=>Gy,BL,yh rfl λd es q e=>by
 unfold jG at e;split at e
 .exact⟨_,_,rfl⟩
 .cases e⟩
def m9:D->List D->Option (D×D)
 |.lst .own _,[]=>some (.lst .own [],.non)
 |_,_=>none
theorem Gg:MuV G Hy m9:=λd es d' res h v xs H W M N r F nd I Z B J Q q=>by
 unfold m9 at h;split at h
 .cases h
  rw[Rep]at r;obtain⟨a,ys,M0,rfl,O,Y,rfl⟩:=r;obtain⟨rfl,rfl⟩:=F.inv0;exact⟨a,ys,rfl,rfl,Y,uY (M0:=M0) (N:=[]) (M1:=[]) (R:=[]) .nil lA rfl rfl rfl (by simp) (by simp) (by simp) q⟩
 .cases h
theorem GJ:MuB X G "list" "list.clear" m9:=⟨_,λc=>Jl,Gg,yh rfl λd es q e=>by
 unfold m9 at e;split at e
 .exact⟨_,_,rfl⟩
 .cases e⟩
end
section
variable{ι:Type}{X:ι->Cx}{G:Gc}
def bD:List Key->List D->List (Key×D)->List Key×List D
 |ks,ds,[]=>(ks,ds)
 |ks,ds,p::r=>bD (gP ks ds p.1 p.2).1 (gP ks ds p.1 p.2).2 r
theorem NB{H:Hp}{W:Wn}{kvs:List (Key×V)}{ds:List D}{M N:List Addr}{k:Key}{d:D}{x:V}(O:aD G H W ds (List.map (·.2) kvs) M)(hn:(List.map (·.1) kvs).Nodup)(J:Rep G H W d x N)(nd:(M++N).Nodup) :
  (List.map (·.1) (putK kvs k x)=(gP (List.map (·.1) kvs) ds k d).1/\(List.map (·.1) (putK kvs k x)).Nodup)/\(putK kvs k x).length<=kvs.length+1/\∃M',aD G H W (gP (List.map (·.1) kvs) ds k d).2 (List.map (·.2) (putK kvs k x)) M'/\M'.Nodup/\∀a∈M',a∈M∨a∈N:=by
 have a0:=Wi.mp nd;cases I:fU (kvs.map (·.1)) k with
 |some j=>
  have Z:j<ds.length:=by rw[O.length];simpa using tH I
  obtain⟨A,M1,B,a2,a1⟩:=O.set (Wh Z) J;obtain⟨p1,p2⟩:=zJ (v:=x) I hn;have q:Yb (A++B) M:=by rw[a2];exact(Y8 A).append (Yd M1 B)
  have U:=Wi.mp (q.nodup a0.1);have F:∀z∈N,z∉A++B:=λz h1 h2=>a0.2.2 z (q.subset h2) z h1 rfl;simp only[gP,I];refine⟨⟨p1,by rw[p1];exact hn⟩,?_,A++(N++B),by rw[p2];exact a1,cP U.1 (cP a0.2.1 U.2.1 λz h1 h2=>F z h1 (by simp[h2])) λz h1 h2=>?_,λa Y=>?_⟩
  .have:(putK kvs k x).length=kvs.length:=by have:=congrArg Yl p1;simpa using this
   omega
  .rcases qb.mp h2 with y|y
   .exact F z y (by simp[h1])
   .exact U.2.2 z h1 z y rfl
  .simp only[qb]at Y
   rcases Y with z|z|z
   .exact .inl (q.subset 1.22)
   .exact .inr z
   .exact .inl (q.subset 1.22)
 |none=>
  simp only[gP,I];have e:putK kvs k x=kvs++[(k,x)]:=lQ I;rw[e];refine⟨⟨by simp,?_⟩,by simp,M++N,by rw[Ww];exact O.append (.one J),nd,λa Y=>qb.mp Y⟩;rw[Ww];exact Wi.mpr ⟨hn,by simp,λa h1 b h2 z=>by
   obtain rfl:b=k:=by simpa using h2
   exact ux I (z▸h1)⟩
theorem oF{H:Hp}{W:Wn}:∀{es:List (Key×D)}{prs kvs:List (Key×V)}{ds:List D}{M N:List Addr},List.map (·.1) es=List.map (·.1) prs->aD G H W (List.map (·.2) es) (List.map (·.2) prs) N->aD G H W ds (List.map (·.2) kvs) M->(List.map (·.1) kvs).Nodup->(M++N).Nodup->
  (List.map (·.1) (putAll kvs prs)=(bD (List.map (·.1) kvs) ds es).1/\(List.map (·.1) (putAll kvs prs)).Nodup)/\∃M',aD G H W (bD (List.map (·.1) kvs) ds es).2 (List.map (·.2) (putAll kvs prs)) M'/\M'.Nodup/\∀a∈M',a∈M∨a∈N
 |[],prs,kvs,ds,M,N,hk,h1,h2,hn,nd=>by
  have:prs=[]:=by cases prs with
   |nil=>rfl
   |cons p r=>cases hk
  subst this;exact⟨⟨rfl,hn⟩,M,h2,(Wi.mp nd).1,λa Y=>.inl Y⟩
 |e::es,prs,kvs,ds,M,N,hk,h1,h2,hn,nd=>by
  cases prs with
  |nil=>cases hk
  |cons p prs=>
   obtain⟨x,ys,N1,N2,a2,rfl,J,a4⟩:=aD.inv h1;simp only[V7,adS]at hk a2;obtain⟨rfl,rfl⟩:=a2;have a0:=Wi.mp nd;have a1:=Wi.mp a0.2.1;have nd1:(M++N1).Nodup:=cP a0.1 a1.1 λa B z2=>a0.2.2 a B a (by simp[z2]) rfl;obtain⟨⟨q1,q2⟩,q3,M1,I,q5,q6⟩:=NB (k:=p.1) h2 hn J nd1;have q:(M1++N2).Nodup:=cP q5 a1.2.1 λa B z2=>by
    rcases q6 a B with z|z
    .exact a0.2.2 a z a (by simp[z2]) rfl
    .exact a1.2.2 a z a z2 rfl
   rw[←hk.1]at q1 q2 I;have O:=oF (es:=es) (prs:=prs) (kvs:=putK kvs e.1 p.2) hk.2 a4 I q2 q;rw[q1]at O;obtain⟨⟨U,Z⟩,M',F,r4,r5⟩:=O;have a3:putAll kvs (p::prs)=putAll (putK kvs e.1 p.2) prs:=by rw[hk.1];rfl
   rw[a3];refine⟨⟨U,Z⟩,M',F,r4,λa Y=>?_⟩;rcases r5 a Y with z|z
   .exact(q6 a z).imp id λz=>by simp[z]
   .exact .inr 1.22
theorem jM(P:D->Prop):∀{es:List (Key×D)}{ks:List Key}{ds:List D},(∀d∈ds,P d)->(∀p∈es,P p.2)->∀d∈(bD ks ds es).2,P d
 |[],ks,ds,h1,h2=>h1
 |p::r,ks,ds,h1,h2=>by
  rw[bD];refine jM P (λd hd=>?_) λq N=>h2 q (by simp[N]);unfold gP at hd;split at hd
  .rcases List.mem_or_eq_of_mem_set hd with z|z
   .exact h1 d z
   .rw[z];exact h2 p (by simp)
  .rcases qb.mp hd with z|z
   .exact h1 d z
   .obtain rfl:d=p.2:=by simpa using z
    exact h2 p (by simp)
def qR:List D->Option (List (Key×D))
 |[]=>some []
 |.tup [k,v]::r=>(fG k).bind λk=>(qR r).map λt=>(k,v)::t
 |_::_=>none
theorem zq:∀{ds:List D}{es:List (Key×D)},qR ds=some es->∀p∈es,∃k,fG k=some p.1/\D.tup [k,p.2]∈ds
 |[],es,h,p,hp=>by cases h;cases hp
 |d::r,es,h,p,hp=>by
  unfold qR at h;split at h
  .rename_i e;cases e
  .rename_i k v t e
   cases e;cases h1:fG k with
   |none=>simp[h1]at h
   |some U=>
    cases h2:qR r with
    |none=>simp[h1,h2]at h
    |some w=>
     obtain rfl:(U,v)::w=es:=by simpa[h1,h2]using h
     rcases V5.mp hp with z|z
     .subst z;exact⟨k,h1,by simp⟩
     .obtain⟨k2,g1,g2⟩:=zq h2 p z
      exact⟨k2,g1,by simp[g2]⟩
  .cases h
theorem Le{H:Hp}{W:Wn}{k:D}{x:V}{L:List Addr}{q:Key}(h:fG k=some q)(r:Rep G H W k x L):L=[]:=by
 cases k<;>simp[fG]at h<;>rw[Rep]at r<;>exact r.2
theorem uR{H:Hp}{W:Wn}:∀{ds:List D}{es:List (Key×D)}{ys:List V}{N:List Addr},qR ds=some es->aD G H W ds ys N->∃prs:List (Key×V),List.map (·.1) es=List.map (·.1) prs/\aD G H W (List.map (·.2) es) (List.map (·.2) prs) N/\prs.length=ys.length/\∀(j:Nat)(k:Key)(v:V),prs[j]? =some (k,v)->∃p:Addr,ys[j]? =some (V.ref p)/\H p=some (.tup [kV k,v])
 |[],es,ys,N,h,r=>by
  cases h;obtain⟨rfl,rfl⟩:=r.inv0;exact⟨[],rfl,.nil,rfl,λj k v e=>by simp at e⟩
 |d::r,es,ys,N,h,rr=>by
  unfold qR at h;split at h
  .rename_i e;cases e
  .rename_i k v t e
   cases e;cases h1:fG k with
   |none=>simp[h1]at h
   |some U=>
    cases h2:qR r with
    |none=>simp[h1,h2]at h
    |some w=>
     obtain rfl:(U,v)::w=es:=by simpa[h1,h2]using h
     obtain⟨x,zs,Y,N2,rfl,rfl,J,O⟩:=rr.inv;obtain⟨prs,Z,q,g3,I⟩:=uR h2 O;rw[Rep]at J;obtain⟨a,xs,rfl,F,a2⟩:=J;obtain⟨y1,y2,A,B,rfl,rfl,a0,a1⟩:=a2.inv2;have hA:=Le h1 a0;subst hA;have:=lX a0 h1;subst this;refine⟨(U,y2)::prs,by simp[Z],.cons a1 q,by simp[g3],λj k v e=>?_⟩;cases j with
     |zero=>
      simp at e;obtain⟨rfl,rfl⟩:=e;exact⟨a,rfl,F⟩
     |succ j=>exact I j k v (by simpa using e)
  .cases h
theorem dg.at2{F:Addr->HO->Prop}{H:Hp}{W:Wn}{a:Addr}{o:HO}{m:Mk}{L M:List Addr}(h:dg F H W a o m L M)(J:(m== .scr)=false):H a=some o:=h.at (by intro z;rw[z]at J;cases J)
def qt:List D->Option D
 |[.lst m ds]=>if(m== .scr)=false/\ds.length<=50000 then(qR ds).map λes=>.dct .own (bD [] [] es).1 (bD [] [] es).2 else none
 |_=>none
theorem Be(Z:∀c,(X c).calm=true):CaB X G (.type "dict") qt:=⟨_,λc=>sV (Z c),λds d e xs H W L0 r nd hn w Q q=>by
 unfold qt at e;split at e
 .rename_i m ds
  split at e
  .rename_i hm
   cases h1:qR ds with
   |none=>simp[h1]at e
   |some es=>
    obtain rfl:D.dct .own (bD [] [] es).1 (bD [] [] es).2=d:=by simpa[h1]using e
    show 7;rw[Rep]at rx;obtain⟨a,ys,M,rfl,O,hs⟩:=rx;obtain⟨prs,g1,g2,B,g4⟩:=uR h1 O;have a1:M.Nodup:=hs.sub.nodup nd;obtain⟨⟨p1,p2⟩,M',J,p4,V⟩:=oF (kvs:=[]) (M:=[]) g1 g2 .nil (by simp) (by simpa using a1);refine⟨a,ys,prs,rfl,hs.at2 hm.1,B,by rw[B,←O.length];exact hm.2,g4,λp F=>?_⟩;have I:Same H (upd H p (.dK (putAll [] prs))):=Same.new F;have np:p∉M':=λz=>by obtain⟨o,N,_⟩:=J.dom p z;rw[F]at N;cases N
    have a0:∀a∈M',a∈L0:=λa Y=>(V a Y).elim (λz=>by cases z) λz=>hs.sub.subset z;refine q (.ref p) _ (p::M') I ?_ (λa Y=>(V5.mp Y).elim (λz=>.inr (by rw[z];exact F)) λz=>.inl (a0 a z)) (List.nodup_cons.mpr ⟨np,p4⟩);rw[Rep];exact⟨p,putAll [] prs,M',rfl,⟨p1,p1▸p2⟩,J.up ⟨I,λb u U f=>⟨λz=>z.elim (λz=>(V5.mp z).elim (λz=>by rw[z,F]at U;cases U) λz=>f.1 (hn b (a0 b z)).1) λz=>f.1 z.1,f.2⟩,λ_ _ _ f=>f⟩,aM,rfl⟩
  .cases e
 .cases e⟩
def jr:D->List D->Option (D×D)
 |.dct .own ks ds,[.lst m es]=>if(m== .scr)=false/\ks.length+es.length<=50000 then(qR es).map λps=>(.dct .own (bD ks ds ps).1 (bD ks ds ps).2,.non)else none
 |.dct .own ks ds,[.dct m ks2 es]=>if(m== .scr)=false/\ks.length+ks2.length<=50000 then some (.dct .own (bD ks ds (ks2.zip es)).1 (bD ks ds (ks2.zip es)).2,.non)else none
 |_,_=>none
theorem wD{ks:List Key}{ds:List D}(h1:aA ds=true)(h2:aB ds=true):clean (.dct .own ks ds)=true:=by simp[clean,az,aq,h1,h2]
theorem zg{H:Hp}{W:Wn}{a:Addr}{kvs prs:List (Key×V)}{ds:List D}{es:List (Key×D)}{M0 N N0:List Addr}{Q:VK}(B:List.map (·.1) es=List.map (·.1) prs)(h1:aD G H W (List.map (·.2) es) (List.map (·.2) prs) N)(hs:∀b∈N,b∈N0)(O:aD G H W ds (List.map (·.2) kvs) M0)(hn:(List.map (·.1) kvs).Nodup)(Y:N.Nodup)(nd:((a::M0)++N0).Nodup)
  (Z:aA ds=true/\aB ds=true) (ce:∀p∈es,az p.2=true/\aq p.2=true)
  (q:∀x H' M' R,(∀b u,H b=some u->b∉a::M0->H' b=some u)->(∀W',Evo H H' W W'->Rep G H' W' (.dct .own (bD (List.map (·.1) kvs) ds es).1 (bD (List.map (·.1) kvs) ds es).2) (.ref a) M'/\Rep G H' W' .non x R)->(M'++R).Nodup->(∀b∈M'++R,b∈a::M0∨b∈N0∨H b=none)->clean (.dct .own (bD (List.map (·.1) kvs) ds es).1 (bD (List.map (·.1) kvs) ds es).2)=true->clean .non=true->Q x H'):Q .non (upd H a (.dK (putAll kvs prs))):=by
 have I:=Wi.mp nd;have a0:=W_.mp I.1;have a2:(M0++N).Nodup:=cP a0.2 Y λb z1 J=>I.2.2 b (Ws _ z1) b (hs b J) rfl;obtain⟨⟨p1,p2⟩,M',p3,p4,p5⟩:=oF B h1 O hn a2;have a1:a∉M':=λz=>(p5 a z).elim a0.1 λz=>I.2.2 a (by simp) a (hs a z) rfl;have k1:aA (bD (List.map (·.1) kvs) ds es).2=true:=bA (jM (λd=>az d=true) (il Z.1) λp F=>(ce p F).1);have k2:aB (bD (List.map (·.1) kvs) ds es).2=true:=aZ (jM (λd=>aq d=true) (iD Z.2) λp F=>(ce p F).2);refine q .non _ (a::M') [] (λb u U n=>by rw[aK (show b≠a from λz=>n (by rw[z];simp))];exact U) (λW' ev=>⟨?_,lA⟩) (by rw[Wm];exact List.nodup_cons.mpr ⟨a1,p4⟩) (λb U=>?_) (wD k1 k2) rfl
 .rw[Rep]
  refine⟨a,putAll kvs prs,M',rfl,⟨p1,p1▸p2⟩,p3.mono ev (.inl k1) (.inl k2) λc Z u hu=>?_,aM,rfl⟩;rw[aK (show c≠a from λz=>a1 (z▸Z))];exact hu
 .rw[Wm]at U
  rcases V5.mp U with z|z
  .exact .inl 1.22
  .exact(p5 b z).imp (λz=>Ws _ z) λz=>.inl (hs b z)
theorem NP{ks:List Key}{ds:List D}(h:ks.length=ds.length):List.map (·.1) (ks.zip ds)=ks:=adP 1.10
theorem M8{ks:List Key}{ds:List D}(h:ks.length=ds.length):List.map (·.2) (ks.zip ds)=ds:=adQ 1.10
theorem CT:MuV G FW jr:=λd es d' res h v xs H W M N r re nd hM Z B J Q q=>by
 unfold jr at h;split at h
 .rename_i ks ds m es
  split at h
  .rename_i hm
   cases h1:qR es with
   |none=>simp[h1]at h
   |some ps=>
    obtain⟨rfl,rfl⟩:D.dct .own (bD ks ds ps).1 (bD ks ds ps).2=d'/\D.non=res:=by simpa[h1]using h
    rw[Rep]at r;obtain⟨a,kvs,M0,rfl,⟨rfl,a1⟩,O,Y,rfl⟩:=r;obtain⟨x,rfl,rx⟩:=re.inv1;rw[Rep]at rx;obtain⟨b,ys,N1,rfl,V,hs⟩:=rx;obtain⟨prs,g1,g2,g3,g4⟩:=uR h1 V;have kc:aA ds=true/\aB ds=true:=by simp[clean,az,aq]at Z;exact Z
    have ke:aA es=true/\aB es=true:=by simp[aA,aB,az,aq]at B J;exact⟨B.2,J.2⟩
    have I:=Wi.mp nd;refine⟨a,kvs,rfl,Y,.inl ⟨b,ys,prs,rfl,hs.at2 hm.1,g3,by rw[g3,←V.length];simpa using hm.2,g4,zg g1 g2 (λc Z=>hs.sub.subset Z) O a1 (hs.sub.nodup I.2.1) nd kc (λp F=>?_) q⟩⟩;obtain⟨k,_,a0⟩:=zq h1 p F;have z1:=il ke.1 _ a0;have z2:=iD ke.2 _ a0;simp[az,aq,aA,aB]at z1 z2;exact⟨z1.2,z2.2⟩
  .cases h
 .rename_i ks ds m ks2 es
  split at h
  .rename_i hm
   cases h;rw[Rep]at r;obtain⟨a,kvs,M0,rfl,⟨rfl,a1⟩,O,Y,rfl⟩:=r;obtain⟨x,rfl,rx⟩:=re.inv1;rw[Rep]at rx;obtain⟨b,more,N1,rfl,⟨rfl,a4⟩,V,hs⟩:=rx;have kc:aA ds=true/\aB ds=true:=by simp[clean,az,aq]at Z;exact Z
   have ke:aA es=true/\aB es=true:=by simp[aA,aB,az,aq]at B J;exact⟨B.2,J.2⟩
   have a2:(List.map (·.1) more).length=es.length:=by rw[V.length];simp
   have U:H b=some (.dK more):=hs.at2 hm.1;have I:=Wi.mp nd;have a3:b≠a:=by
    cases m with
    |own=>exact λz=>I.2.2 a (by simp) a (by rw[hs.2,z];simp) rfl
    |frz=>exact λz=>hM a (by simp) (z▸hs.2.1)
    |brw=>simp[aA,az]at B
    |bro=>simp[aB,aq]at J
    |scr=>exact absurd hm.1 (by decide)
   refine⟨a,kvs,rfl,Y,.inr ⟨b,more,rfl,a3,U,by simpa using hm.2,zg (es:=(List.map (·.1) more).zip es) (NP a2) (by rw[M8 a2];exact V) (λc Z=>hs.sub.subset Z) O a1 (hs.sub.nodup I.2.1) nd kc (λp F=>?_) q⟩⟩;have a0:=(aae F).2;exact⟨il ke.1 _ a0,iD ke.2 _ a0⟩
  .cases h
 .cases h
theorem Rm{T:String}{op:D->List D->Option (D×D)}(I:T="dict")(h:∀d es q,op d es=some q->∃ks ds,d= .dct .own ks ds):Cg G T op:=λd es q e v H W L r=>by
 obtain⟨ks,ds,rfl⟩:=h d es q e;rw[Rep]at r;obtain⟨a,xs,M,rfl,B,O,hs⟩:=r;exact .inr (.inr (.inl ⟨I,.inl ⟨_,hs.1⟩⟩))
theorem Bt(Z:∀c,(X c).calm=true):MuB X G "dict" "dict.update" jr:=⟨_,λc=>Gp (Z c),CT,Rm rfl λd es q e=>by
 unfold jr at e;split at e
 .exact⟨_,_,rfl⟩
 .exact⟨_,_,rfl⟩
 .cases e⟩
end
section
variable{ι:Type}{X:ι->Cx}{G:Gc}{ob:Nat->Bool}
def eMt(g:D->List D->Option D)(U:En->Option D)(f:En->Option (List D)):En->Option D:=λρ=>(U ρ).bind λx=>(f ρ).bind λds=>g x ds
theorem Tg{T id:String}{J:Str}{g:D->List D->Option D}{o e:Expr}{es:List Expr}{apos cpos:Pos}{U:En->Option D}{f:En->Option (List D)}(m:MtB X G T id g)(O:aar T)(slot:Slot T J id)(Z:abk (.builtin id)=pure (.type "method_descriptor"))(N:PV X G ob o U)(Y:PVA X G ob (e::es) f)(V:∀c,Zx o J (X c).env (eval o (X c).env)=eval o (X c).env:=by intro _;rfl)(F:∀c,((Yj cpos (We (e::es) (X c).env)).all (λx=>!x.1)&&(acG cpos (abe [] (X c).env)).all (λx=>x.1.isSome)
  &&decide ((e::es).length+([]:List aas).length+(if([]:List aas).isEmpty then 0 else 1)<30))=true:=by intro _;rfl) (q:(apos.endLine==cpos.line)=true:=by rfl) (hs:∀c,We (e::es) (X c).env=(false,eval e (X c).env)::We es (X c).env:=by intro _;rfl) (B:∀c,(Yj cpos (We es (X c).env)).any (·.1)=false:=by intro _;rfl) (I:∀c,(X c).K=G.K:=by intro _;rfl) :
 PV X G ob (.Call (.Attribute o J apos) (e::es) [] cpos) (eMt g U f):=let⟨r,m1,m2,m3⟩:=m.ex;let⟨t,a1,a2⟩:=N.ex;let⟨u,b1,b2⟩:=Y.ex;⟨_,λc=>(by rw[←I c];exact Eg O slot Z (m1 c) (a1 c) (b1 c) (V c) (F c) q (hs c) (B c)),T_ m2 m3 a2 b2⟩
def xQ(a b:Str):Option (List Str):=
 if(decide (a.length<b.length)||decide (aab a<aab b))=false/\(b.length==0)=false/\(Xg a b 0 a.length (a.length+1)).isEmpty=false/\a.length<=V6/\(aao a (Xg a b 0 a.length (a.length+1)) b.length).length<=V6
 then some (aao a (Xg a b 0 a.length (a.length+1)) b.length)else none
def uQ:D->List D->Option D
 |.str a,[.str b]=>(xQ a b).map λl=>.lst .own (l.map D.str)
 |_,_=>none
theorem zj{H:Hp}{W:Wn}:∀l:List Str,aD G H W (l.map D.str) (l.map V.str) []
 |[]=>.nil
 |x::r=>aD.cons (M:=[]) (M':=[]) (by rw[Rep];exact⟨rfl,rfl⟩) (zj r)
theorem Hn:MtB X G "str" "str.split" uQ:=⟨_,λc=>J1,λdx ds d e x xs H W B Z rx r nd hn w Q q=>(by
 unfold uQ at e;split at e
 .rename_i a b
  cases h1:xQ a b with
  |none=>simp[h1]at e
  |some l=>
   obtain rfl:D.lst .own (l.map D.str)=d:=by simpa[h1]using e
   obtain⟨y,rfl,J⟩:=r.inv1;obtain⟨rfl,rfl⟩:=bQ rx;obtain⟨rfl,rfl⟩:=bQ J;unfold xQ at h1;split at h1
   .rename_i hh
    cases h1;refine⟨a,b,_,rfl,rfl,hh.1,hh.2.1,hh.2.2.1,hh.2.2.2.1,rfl,hh.2.2.2.2,λp F=>?_⟩;refine q (.ref p) _ [p] (Same.new F) ?_ (λa Y=>.inr (by rw[show a=p by simpa using Y];exact F)) (by simp);rw[Rep];exact⟨p,_,[],rfl,zj _,aM,rfl⟩
   .cases h1
 .cases e),λdx ds d e x H W B rx=>by
 unfold uQ at e;split at e
 .obtain⟨rfl,rfl⟩:=bQ rx
  exact rfl
 .cases e⟩
def RfO(G:Gc)(ob:Nat->Bool)(t:TO)(f:En->Option (Option Int)):Prop:=∀(ρ:En)(o:Option Int),f ρ=some o->∀(σ:L2.St)(H:Hp)(W:Wn),Rel G H W ob ρ σ->WOk H W->∀Q:Option Int->Hp->Prop,(∀H',Same H H'->Q o H')->t σ H Q
structure PVO{ι:Type}(X:ι->Cx)(G:Gc)(ob:Nat->Bool)(e:Option Expr)(f:En->Option (Option Int)):Prop where
 mk::(ex:∃t,(∀c,PO (X c) e t)/\RfO G ob t f)
def rY:En->Option (Option Int):=λ_=>some none
def oX(f:En->Option D):En->Option (Option Int):=λρ=>(f ρ).bind λd=>match d with
 |.int i=>some (some i)
 |_=>none
theorem ul:PVO X G ob none rY:=⟨_,λc=>LK,λρ o e σ H W F w Q q=>by cases e;exact q H (Same.refl H)⟩
theorem tX{e:Expr}{f:En->Option D}(h:PV X G ob e f):PVO X G ob (some e) (oX f):=let⟨t,a1,a2⟩:=h.ex;⟨_,λc=>Mt (a1 c),λρ o e σ H W F w Q q=>by
 unfold oX at e;cases h1:f ρ with
 |none=>simp[h1]at e
 |some d=>
  rw[h1]at e;simp only[V1]at e;split at e
  .cases e
   refine a2 ρ _ h1 σ H W F w _ λv H' L s r fr nd=>?_;obtain⟨rfl,rfl⟩:=aV r;exact⟨_,rfl,q H' s⟩
  .cases e⟩
def SlV(G:Gc)(r:V->Option Int->Option Int->Hp->VK->Prop)(g:D->Option Int->Option Int->Option D):Prop:=∀(dx:D)(lo hi:Option Int)(d:D),g dx lo hi=some d->∀(x:V)(H:Hp)(W:Wn)(B:List Addr),Rep G H W dx x B->B.Nodup->(∀a∈B,W.tmp a)->WOk H W->∀Q:VK,Done G H W B d Q->r x lo hi H Q
structure SlB{ι:Type}(X:ι->Cx)(G:Gc)(g:D->Option Int->Option Int->Option D):Prop where
 ex:∃r,(∀c,SlR (X c) r)/\SlV G r g
def JZ(g:D->Option Int->Option Int->Option D)(f:En->Option D)(J B:En->Option (Option Int)):En->Option D:=λρ=>(f ρ).bind λx=>(J ρ).bind λl=>(B ρ).bind λh=>g x l h
def wN(g:D->Option Int->Option Int->Option D)(f:En->Option (D×En))(J B:En->Option (Option Int)):En->Option (D×En):=λρ=>(f ρ).bind λp=>(J p.2).bind λl=>(B p.2).bind λh=>(g p.1 l h).map λd=>(d,p.2)
theorem Ub{r:V->Option Int->Option Int->Hp->VK->Prop}{g:D->Option Int->Option Int->Option D}{te:TE}{tl th:TO}{f:En->Option D}{J fh:En->Option (Option Int)}(N:SlV G r g)(h:RfE G ob te f)(hl:RfO G ob tl J)(hh:RfO G ob th fh):RfE G ob (tSl r te tl th) (JZ g f J fh):=λρ d e σ H W F w Q q=>by
 unfold JZ at e;cases h1:f ρ with
 |none=>simp[h1]at e
 |some x=>
  cases h2:J ρ with
  |none=>simp[h1,h2]at e
  |some l=>
   cases Z:fh ρ with
   |none=>simp[h1,h2,Z]at e
   |some u=>
    have e:g x l u=some d:=by simpa[h1,h2,Z]using e
    refine h ρ x h1 σ H W F w _ λv H1 L O r1 fr nd=>?_;have u1:Up H H1 W (W.add L):=.add O fr;have w1:WOk H1 (W.add L):=w.add O r1.dom;refine hl ρ l h2 σ H1 _ (F.up u1) w1 _ λH2 B=>?_;have u2:Up H1 H2 (W.add L) (W.add L):=.same B;have w2:WOk H2 (W.add L):=λa Y=>let⟨o,N,hm⟩:=w1 a Y;⟨o,B a o N,hm⟩;refine hh ρ u Z σ H2 _ ((F.up u1).up u2) w2 _ λH3 I=>?_;have u3:Up H2 H3 (W.add L) (W.add L):=.same I;have w3:WOk H3 (W.add L):=λa Y=>let⟨o,N,hm⟩:=w2 a Y;⟨o,I a o N,hm⟩;have ss:=(O.trans B).trans I;refine N x l u d e v H3 _ L ((r1.up u2).up u3) nd (w.tmp fr) w3 Q λv' H4 L4 s4 r4 f4 n4=>?_;refine q v' H4 L4 (ss.trans s4) ?_ (λa Y=>(f4 a Y).elim (fr a) λz=>ss.none' z) n4;exact r4.up ⟨Same.refl _,λb u U f=>⟨λz=>z.elim (λz=>f.1 (.inl z)) λz=>f.1 (.inr ⟨.inr z,WOk.new w fr z⟩),f.2⟩,λ_ _ _ f=>f⟩
theorem Rb{r:V->Option Int->Option Int->Hp->VK->Prop}{g:D->Option Int->Option Int->Option D}{te:TE}{tl th:TO}{f:En->Option (D×En)}{J fh:En->Option (Option Int)}(N:SlV G r g)(h:km G ob te f)(hl:RfO G ob tl J)(hh:RfO G ob th fh):km G ob (tSl r te tl th) (wN g f J fh):=λρ d B e σ H S Fr s Q q=>by
 unfold wN at e;cases h1:f ρ with
 |none=>simp[h1]at e
 |some p=>
  obtain⟨x,ρ1⟩:=p;cases h2:J ρ1 with
  |none=>simp[h1,h2]at e
  |some l=>
   cases Z:fh ρ1 with
   |none=>simp[h1,h2,Z]at e
   |some u=>
    cases h4:g x l u with
    |none=>simp[h1,h2,Z,h4]at e
    |some d'=>
     obtain⟨rfl,rfl⟩:d'=d/\ρ1=B:=by simpa[h1,h2,Z,h4]using e
     refine h ρ x _ h1 σ H S Fr s _ λv H1 L S1 O rx nd F=>?_;refine hl _ l h2 σ H1 _ O.rel O.wok _ λH2 k2=>?_;have s2:=O.grow k2 λa z=>.inl z;refine hh _ u Z σ H2 _ s2.rel s2.wok _ λH3 k3=>?_;have I:=s2.grow k3 λa z=>.inl z;have a0:Eff ob H H3 S S1 L:=⟨λb u U n=>k3 b u (k2 b u (F.kp b u U n)),F.sn,F.gr,F.fm⟩;refine N x l u _ h4 v H3 _ L ((rx.up (.same k2)).up (.same k3)) nd (λa Y=>I.tmp (.inl Y)) I.wok Q λv' H4 L4 s4 r4 f4 n4=>?_;obtain⟨q1,q2,q3⟩:=KC I a0 s4 r4 f4 s;exact q v' H4 L4 S1 q1 q2 n4 q3
def cutD(ds:List D)(lo hi:Option Int):List D:=(ds.drop (HT.sIx ds.length 0 lo)).take (HT.sIx ds.length ds.length hi-HT.sIx ds.length 0 lo)
def gSl:D->Option Int->Option Int->Option D
 |.lst _ ds,lo,hi=>some (.lst .own (cutD ds lo hi))
 |.tup ds,lo,hi=>some (.tup (cutD ds lo hi))
 |_,_,_=>none
theorem aD.cut{H:Hp}{W:Wn}{ds:List D}{xs:List V}{L:List Addr}(h:aD G H W ds xs L)(lo hi:Option Int):∃M,aD G H W (cutD ds lo hi) (uA xs lo hi) M/\Yb M L:=by
 unfold cutD uA;rw[h.length];obtain⟨A,B,_,h2,rfl⟩:=h.takeDrop (HT.sIx xs.length 0 lo);obtain⟨N,J,Z,_,rfl⟩:=h2.takeDrop (HT.sIx xs.length xs.length hi-HT.sIx xs.length 0 lo);exact⟨N,Z,(Zk N J).trans (Yd A _)⟩
theorem slb(I:∀c,(X c).K=G.K:=by intro _;rfl):SlB X G gSl:=⟨λx lo hi H Q=>Tu G.K x lo hi H Q∨UV G.K x lo hi H Q,λc=>by rw[←I c];exact SlR.or MP QM,λdx lo hi d e x H W B rx nd hn w Q q=>by
 unfold gSl at e;split at e
 .cases e
  rw[Rep]at rx;obtain⟨a,xs,M,rfl,O,hs⟩:=rx;obtain⟨M',h1,h2⟩:=O.cut lo hi;exact .inl ⟨a,xs,rfl,hs.sq,λp F=>Hm h1 (h2.trans hs.sub) nd hn F q⟩
 .rename_i ds
  cases e;have N:=rx;rw[Rep]at rx;obtain⟨a,xs,rfl,U,O⟩:=rx;obtain⟨M',h1,h2⟩:=O.cut lo hi;refine .inr ⟨a,xs,rfl,SqT.of U,λJ=>?_,λp F=>wW h1 h2 nd hn F q⟩;rw[J]at h1;refine nQ (d:=.tup (cutD ds lo hi)) (x:=.ref a) (M:=M') ?_ h2 nd hn q;rw[Rep];exact⟨a,xs,rfl,U,h1⟩
 .cases e⟩
def eSl:=JZ gSl
def Kl:=wN gSl
theorem Ij{e:Expr}{lo hi:Option Expr}{pos p2:Pos}{f:En->Option D}{J B:En->Option (Option Int)}(o:SlB X G gSl)(h:PV X G ob e f)(Y:PVO X G ob lo J)(q:PVO X G ob hi B):PV X G ob (.Subscript e (.Slice lo hi none p2) pos) (eSl f J B):=let⟨r,o1,o2⟩:=o.ex;let⟨t,a1,a2⟩:=h.ex;let⟨u,b1,b2⟩:=Y.ex;let⟨v,c1,c2⟩:=q.ex;⟨_,λc=>zp (o1 c) (a1 c) (b1 c) (c1 c),Ub o2 a2 b2 c2⟩
theorem vY{e:Expr}{lo hi:Option Expr}{pos p2:Pos}{f:En->Option (D×En)}{J B:En->Option (Option Int)}(o:SlB X G gSl)(h:PVe X G ob e f)(Y:PVO X G ob lo J)(q:PVO X G ob hi B):PVe X G ob (.Subscript e (.Slice lo hi none p2) pos) (Kl f J B):=let⟨r,o1,o2⟩:=o.ex;let⟨t,a1,a2⟩:=h.ex;let⟨u,b1,b2⟩:=Y.ex;let⟨v,c1,c2⟩:=q.ex;⟨_,λc=>zp (o1 c) (a1 c) (b1 c) (c1 c),Rb o2 a2 b2 c2⟩
end
def inK(S:List Key)(k:Key):Bool:=S.any λx=>decide (x=k)
def VL(S:List Key)(k:Key):List Key:=if inK S k then S else S++[k]
def Qj(ks:List Key):List Key:=ks.foldl VL []
section
variable{X:Cx}
theorem range_all{bs:List Bool}:((WD bs.length).all λi=>bs.getD i true)=bs.all id:=by
 induction bs with
 |nil=>rfl
 |cons b r O=>
  rw[WK,acg,Z7,adg,Z7,←O];rfl
theorem Vd{bs:List Bool}{B:List Value}(J:Vals (bs.map V.bl) B){i:Nat}{v:Value}(h:B.toArray[i]? =some v):v= .bool (bs.getD i true):=by
 have h:B[i]? =some v:=by simpa using h
 have Y:=J.length;rw[Wc]at Y;have hi:i<bs.length:=by rw[Y];exact(Hq.mp h).1
 obtain⟨u,h1,h2⟩:=J.get (show(bs.map V.bl)[i]? =some (V.bl bs[i])by rw[List.getElem?_map,Wh hi];rfl);rw[h]at h1;cases h1;cases h2;simp[List.getD,hi]
theorem Gm{pins:List 1.23}{σ:L2.St}{H:Hp}{s:V0}{a:Addr}{xs:List V}(I:Inv X pins σ H s){B:List Value}(F:s.heap.IsList a B.toArray) :
  a≠s.heap.objs.size:=by
 obtain⟨o,h,_⟩:=F;exact Wj (V_ h)
theorem G6(Z:X.calm=true):cY X (.builtin "all") (λxs H Q=>∃a bs,xs=[.ref a]/\SqL X.K H a (List.map V.bl bs)/\Q (.bl (List.all bs id)) H):=by
 show 6;obtain⟨a,bs,rfl,N,q⟩:=h;obtain⟨u,rfl,U⟩:=vals1 r;cases U;obtain⟨B,J,F,O⟩:=I.list N;have hh:X.A.handled=none:=I.ok.hd Z;have ne:a≠s.heap.objs.size:=Gm (xs:=[]) I F.isList;have Y:=J.length;rw[Wc]at Y;refine call_all_walk (aaz F.isList ⟨s.heap.objs.size,[s.heap.objs.size,a],[s.heap.objs.size],B.toArray.size,_,_,λi=>bs.getD i true,rfl,Walks.list (show X.A.in1.handled=none from hh) s.heap.objs.size a ne B.toArray,⟨⟨_,Wx _ rfl,rfl,rfl⟩,F.isList.push _⟩,λi v s2 Q2 E2 hP hQ=>?_,λh' tk kp=>?_⟩)
 .rw[Vd J hP]
  exact ZL hQ
 .rw[List.size_toArray,←Y,range_all]
  exact⟨.bl _,H,I.kept (t':=tk) λb o e=>kp b o (by simp;exact Wj (V_ e)) (V2 _ e),rfl,q⟩
end
section
variable{X:Cx}{e es:Expr}{te ts:TE}{p2 pos:Pos}
def KR(K:V8):R2:=λx y H Q=>Va K x y H Q∨∃a xs,x= .ref a/\SqL K H a xs/\y= .int (-1)/\∀p,H p=none->Q (.ref p) (upd H p (.lst xs.reverse))
theorem Ip(V:PE X e te)(hs:PE X es ts):PE X (.Subscript e (.Slice none none (some es) p2) pos) (tOp (KR X.K) te ts):=by
 intro pins s σ H Q I h;refine Subscript_ (thn (V pins s σ H _ I h) λv O ⟨x,H1,I1,r1,q1⟩=>?_);refine wpAny_Slice ?_;rw[acV];refine V3 (V3 (wpAny_evalPart_some (thn (hs pins O σ H1 _ I1 q1) λvs Y ⟨y,H2,I2,r2,q2⟩=>?_)));rcases q2 with q2|⟨a,xs,rfl,J,rfl,q⟩
 .have I4:Inv X pins σ H2 {Y with heap:=Y.heap.push {cls:=.type "slice",data:=.fields #[.none,.none,vs]}}:=I2.kept (t':=Y.toks) λb ob q=>V2 _ q
  have N:ad2 (Y.heap.push {cls:=.type "slice",data:=.fields #[.none,.none,vs]}) Y.heap.objs.size .none .none vs:=abj ..;obtain⟨a,xs,rfl,J,q⟩:=q2;cases r1;obtain⟨B,r,F,hz⟩:=I4.tuple J;have U:=r.length;show wpAny 1.12 X.A (abt e (.Slice none none (some es) p2) (.ref a) (.ref Y.heap.objs.size)) (EP X pins σ Q) X.xe {Y with heap:=Y.heap.push {cls:=.type "slice",data:=.fields #[.none,.none,vs]}};refine acF (ops:=[.ref a,.ref Y.heap.objs.size]) F.typeIs Xm.lookup ?_ (by with_unfolding_all rfl);rcases q with⟨rfl,q⟩|⟨rfl,q⟩
  .obtain⟨t,rfl⟩:=r2
   have e1:Xd none none ((some (1:Int)).getD 1) (B.length:Int)=(0,(B.length:Int)):=rfl;have e2:W4 0 (B.length:Int) ((some (1:Int)).getD 1)=B.length:=by
    show W4 ((0:Nat):Int) (B.length:Int) 1=B.length;rw[HT.places_gen];omega
   refine iI (items:=B) (st:=some 1) F N .none .none (.int 1 t) (by decide) e1 e2 (λ_=>⟨.ref a,H2,I4,rfl,q⟩) (λZ=>absurd ⟨rfl,rfl,rfl⟩ Z) ?_;exact Xu (vq _ _ _ _) 1.10
  .obtain⟨t,rfl⟩:=r2
   have e1:Xd none none ((some (-1:Int)).getD 1) (B.length:Int)=((B.length:Int)-1,-1):=rfl;have e2:W4 ((B.length:Int)-1) (-1) ((some (-1:Int)).getD 1)=B.length:=by
    show(if(-1:Int)>0 then _ else(if(B.length:Int)-1> -1 then((B.length:Int)-1-(-1)-1) / (- (-1))+1 else 0)).toNat=B.length;rw[Wo (by decide),show(- (-1:Int))=1 by decide,Int.ediv_one];split<;>omega
   refine iI (items:=B) (st:=some (-1)) F N .none .none (.int (-1) t) (by decide) e1 e2 (λZ=>absurd Z.2.1 (by decide)) (λ_=>?_) ?_
   .show EP X pins σ Q (.ref _) {Y with heap:=Heap.push _ {cls:=.type "tuple",data:=.seq (mU B ((B.length:Int)-1) (-1) B.length).toArray}}
    rw[JR];refine⟨.ref _,_,I4.laid (t':=Y.toks) (o:=.tup xs.reverse) (λb ob q=>V2 _ q) (Wa _) ?_,rfl,q _ (I4.hok.fresh (Wa _))⟩;exact⟨by rw[ac5];exact hz,_,r.reverse,lq.new _ _⟩
   .exact Xu (vq _ _ _ _) 1.10
 .have I4:Inv X pins σ H2 {Y with heap:=Y.heap.push {cls:=.type "slice",data:=.fields #[.none,.none,vs]}}:=I2.kept (t':=Y.toks) λb ob q=>V2 _ q
  have N:ad2 (Y.heap.push {cls:=.type "slice",data:=.fields #[.none,.none,vs]}) Y.heap.objs.size .none .none vs:=abj ..;cases r1;obtain⟨t,rfl⟩:=r2;obtain⟨B,r,F,hz⟩:=I4.list J;have U:=r.length;show wpAny 1.12 X.A (abt e (.Slice none none (some es) p2) (.ref a) (.ref Y.heap.objs.size)) (EP X pins σ Q) X.xe {Y with heap:=Y.heap.push {cls:=.type "slice",data:=.fields #[.none,.none,.int (-1) t]}};refine acF (ops:=[.ref a,.ref Y.heap.objs.size]) F.isList.typeIs abB.lookup ?_ (by with_unfolding_all rfl);refine abS F.isList N .none .none (.int (-1) t) (by decide) ?_ (by rw[List.size_toArray];omega);rw[PySem.W.krv_pick];refine⟨.ref _,_,I4.laid (t':=Y.toks) (o:=.lst xs.reverse) (λb ob q=>V2 _ q) (Wa _) ?_,rfl,q _ (I4.hok.fresh (Wa _))⟩;exact⟨by rw[ac5];exact hz,_,0,r.reverse,Wx _ rfl⟩
end
section
variable{ι:Type}{X:ι->Cx}{G:Gc}{ob P:Nat->Bool}
def gw:D->D->Option D
 |.lst _ ds,.int i=>if i= -1 then some (.lst .own ds.reverse)else none
 |.tup ds,.int i=>if i= -1 then some (.tup ds.reverse)else if i=1 then some (.tup ds)else none
 |_,_=>none
theorem Kh:OpV G (KR G.K) gw:=λdx dy d e x y H W B Ly rx J nd hn w Q q=>by
 unfold gw at e;split at e
 .split at e
  .rename_i hi
   subst hi;cases e;obtain⟨rfl,rfl⟩:=aV J;rw[Rep]at rx;obtain⟨a,xs,M,rfl,O,hs⟩:=rx;obtain⟨M',h1,V⟩:=O.revL;refine .inr ⟨a,xs,rfl,hs.sq,rfl,λp F=>?_⟩;have I:Same H (upd H p (.lst xs.reverse)):=Same.new F;have hM:∀a∈M',a∈B++[]:=λa Y=>by rw[Wm];exact hs.sub.subset (V.mem_iff.mp Y)
   have np:p∉M':=λz=>by obtain⟨o,N,_⟩:=h1.dom p z;rw[F]at N;cases N
   have Z:M'.Nodup:=V.nodup_iff.mpr (hs.sub.nodup (Wi.mp nd).1);refine q (.ref p) _ (p::M') I ?_ (λa Y=>(V5.mp Y).elim (λz=>.inr (by rw[z];exact F)) λz=>.inl (hM a z)) (List.nodup_cons.mpr ⟨np,Z⟩);rw[Rep];exact⟨p,_,M',rfl,h1.up ⟨I,λb u U f=>⟨λz=>z.elim (λz=>(V5.mp z).elim (λz=>by rw[z,F]at U;cases U) λz=>f.1 (hn b (hM b z)).1) λz=>f.1 z.1,f.2⟩,λ_ _ _ f=>f⟩,aM,rfl⟩
  .cases e
 .obtain⟨rfl,rfl⟩:=aV J
  have a0:=rx;rw[Rep]at rx;obtain⟨a,xs,rfl,ht,O⟩:=rx;split at e
  .rename_i hi
   subst hi;cases e;obtain⟨M',h1,V⟩:=O.revL;refine .inl ⟨a,xs,rfl,SqT.of ht,.inr ⟨rfl,λp F=>?_⟩⟩;have I:Same H (upd H p (.tup xs.reverse)):=Same.new F;have hM:∀a∈M',a∈B++[]:=λa Y=>by rw[Wm];exact V.mem_iff.mp Y
   have Z:M'.Nodup:=V.nodup_iff.mpr (Wi.mp nd).1;refine q (.ref p) _ M' I ?_ (λa Y=>.inl (hM a Y)) Z;rw[Rep];exact⟨p,_,rfl,aM,h1.up ⟨I,λb u U f=>⟨λz=>z.elim (λz=>f.1 (hn b (hM b z)).1) λz=>f.1 z.1,f.2⟩,λ_ _ _ f=>f⟩⟩
  .split at e
   .rename_i hi
    subst hi;cases e;exact .inl ⟨a,xs,rfl,SqT.of ht,.inl ⟨rfl,nQ a0 (Zk _ _) nd hn q⟩⟩
   .cases e
 .cases e
theorem Ds{e es:Expr}{p2 pos:Pos}{f g:En->Option D}(Y:PV X G ob e f)(U:PV X G ob es g)(I:∀c,(X c).K=G.K:=by intro _;rfl):PV X G ob (.Subscript e (.Slice none none (some es) p2) pos) (e2 gw f g):=let⟨t,a1,a2⟩:=Y.ex;let⟨u,b1,b2⟩:=U.ex;⟨_,λc=>(by rw[←I c];exact Ip (a1 c) (b1 c)),zR Kh a2 b2⟩
def zU:List D->Option (List Key)
 |[]=>some []
 |d::r=>(fG d).bind λk=>(zU r).map λt=>k::t
def o_:List D->Option D
 |[.lst _ ds]=>if ds.length<4000 then(zU ds).map λks=>.int (Qj ks).length else none
 |[.tup ds]=>if ds.length<4000 then(zU ds).map λks=>.int (Qj ks).length else none
 |_=>none
def Bw:List D->Option (List Bool)
 |[]=>some []
 |.bl b::r=>(Bw r).map λt=>b::t
 |_::_=>none
theorem zO{H:Hp}{W:Wn}:∀{ds:List D}{bs:List Bool}{xs:List V}{L:List Addr},Bw ds=some bs->aD G H W ds xs L->xs=bs.map V.bl
 |[],ks,xs,L,h,r=>by cases h;exact r.inv0.1
 |d::t,ks,xs,L,h,r=>by
  obtain⟨x,ys,M,M',rfl,rfl,h1,h2⟩:=r.inv;cases d<;>simp[Bw]at h;obtain⟨w,Z,rfl⟩:=h;rw[Rep]at h1;rw[zO Z h2,h1.1];rfl
def J5:List D->Option D
 |[.lst _ ds]=>(Bw ds).map λbs=>.bl (bs.all id)
 |_=>none
theorem M9(Z:∀c,(X c).calm=true)(I:∀c,(X c).K=G.K:=by intro _;rfl):CaB X G (.builtin "all") J5:=⟨λxs H Q=>∃a bs,xs=[.ref a]/\SqL G.K H a (List.map V.bl bs)/\Q (.bl (List.all bs id)) H,λc=>by rw[←I c];exact G6 (Z c),λds d e xs H W B r nd hn w Q q=>by
 unfold J5 at e;split at e
 .rename_i m ds
  cases h1:Bw ds with
  |none=>simp[h1]at e
  |some ks=>
   obtain rfl:D.bl (ks.all id)=d:=by simpa[h1]using e
   show 7;rw[Rep]at rx;obtain⟨a,ys,M,rfl,O,hs⟩:=rx;have:=zO h1 O;subst this;exact⟨a,ks,rfl,hs.sq,q.scal λ_=>gf⟩
 .cases e⟩
def xN:List D->Option D
 |[.non]=>some (.str "None")
 |[.bl b]=>some (.str (if b then "True" else "False"))
 |[.int i]=>if i.natAbs.log2<1920 then some (.str (toString i))else none
 |[.str x]=>some (.str x)
 |[d]=>if gG d=true/\(pyD (dt d)).depth<=50/\(pyD (dt d)).showable=true/\(pyD (dt d)).shown.length<=V6 then some (.str (pyD (dt d)).shown)else none
 |_=>none
theorem GC{Y:Cx}:cY Y (.type "str") (λxs H Q=>(xs=[.non]/\Q (.str "None") H)∨(∃b:Bool,xs=[.bl b]/\Q (.str (if b then "True" else "False")) H)∨∃x,xs=[.str x]/\Q (.str x) H):=by
 show 6;rcases h with⟨rfl,q⟩|⟨b,rfl,q⟩|⟨x,rfl,q⟩
 .obtain⟨u,rfl,ru⟩:=vals1 r
  cases ru;exact P.str_of_none ⟨.str _,H,I.tok _,⟨_,rfl⟩,q⟩
 .obtain⟨u,rfl,ru⟩:=vals1 r
  cases ru;exact P.str_of_bool ⟨.str _,H,I.tok _,⟨_,rfl⟩,q⟩
 .obtain⟨u,rfl,ru⟩:=vals1 r
  obtain⟨t,rfl⟩:=ru;exact P.str_of_str ⟨.str _,H,I,⟨_,rfl⟩,q⟩
def T8(K:V8)(A:Xk):List V->Hp->VK->Prop:=λxs H Q=>(((xs=[.non]/\Q (.str "None") H)∨(∃b:Bool,xs=[.bl b]/\Q (.str (if b then "True" else "False")) H)∨∃x,xs=[.str x]/\Q (.str x) H)∨∃i,xs=[.int i]/\i.natAbs.log2<1920/\Q (.str (toString i)) H)∨Qd K A xs H Q
theorem mJ{H:Hp}{W:Wn}{x:Str}:Rep G H W (.str x) (.str x) []:=by rw[Rep];exact⟨rfl,rfl⟩
theorem Ew(A:Xk)(V:∀c,(X c).A=A)(B:A.guards=some [])(F:A.units+64<cLine)(I:∀c,(X c).K=G.K:=by intro _;rfl):CaB X G (.type "str") xN:=⟨T8 G.K A,λc=>by rw[←I c,←V c];exact cY.or (cY.or GC yJ) G_,λds d e xs H W Z r nd hn w Q q=>by
 unfold xN at e;split at e
 .cases e
  show 7;rw[Rep]at rx;obtain⟨rfl,rfl⟩:=rx;exact .inl (.inl (.inl ⟨rfl,q.scal λ_=>mJ⟩))
 .cases e
  show 7;obtain⟨rfl,rfl⟩:=n_ rx;exact .inl (.inl (.inr (.inl ⟨_,rfl,q.scal λ_=>mJ⟩)))
 .split at e
  .cases e
   show 7;obtain⟨rfl,rfl⟩:=aV rx;exact .inl (.inr ⟨_,rfl,‹_›,q.scal λ_=>mJ⟩)
  .cases e
 .cases e
  show 7;obtain⟨rfl,rfl⟩:=bQ rx;exact .inl (.inl (.inr (.inr ⟨_,rfl,q.scal λ_=>mJ⟩)))
 .rename_i d0 n1 n2 n3 n4
  split at e
  .rename_i hd
   cases e;show 7;have U:=rx.brs hd.1;have J:∃a,x= .ref a:=by
    cases d0 with
    |non=>exact absurd rfl n1
    |bl b=>exact absurd rfl (n2 b)
    |int b=>exact absurd rfl (n3 b)
    |str b=>exact absurd rfl (n4 b)
    |tup ds=>rw[Rep]at rx;obtain⟨a,_,rfl,_⟩:=rx;exact⟨a,rfl⟩
    |lst m ds=>rw[Rep]at rx;obtain⟨a,_,_,rfl,_⟩:=rx;exact⟨a,rfl⟩
    |ty n=>simp[gG]at hd
    |dct m ks ds=>simp[gG]at hd
    |ins m c fs ds=>simp[gG]at hd
   obtain⟨a,rfl⟩:=J;exact .inr ⟨a,dt d0,rfl,U,B,by omega,hd.2.2.1,hd.2.2.2,q.scal λ_=>mJ⟩
  .cases e
 .cases e⟩
end
section
variable{ι:Type}{X:ι->Cx}{G:Gc}{ob P:Nat->Bool}
def UT:D->Bool
 |.non=>true
 |.bl _=>true
 |.int _=>true
 |.str _=>true
 |_=>false
def R7(g g':D->D->Option D)(fa fb fc:En->Option D):En->Option D:=λρ=>(fa ρ).bind λx=>(fb ρ).bind λy=>if UT y then(g x y).bind λr=>match r with
 |.bl true=>(fc ρ).bind λz=>g' y z
 |.bl false=>some (.bl false)
 |_=>none else none
variable{a b c:Expr}{pos:Pos}
def Vp(g:Int->Int->Int)(i:Nat)(f:En->Option D):En->Option Fl:=λρ=>match ρ[i]? with
 |some (some (.int m))=>(f ρ).bind λd=>match d with
  |.int n=>some (.nx (ρ.set i (some (.int (g m n)))))
  |_=>none
 |_=>none
def Q9(G:Gc)(ob:Nat->Bool)(wi:TI)(f:En->Option (List D×En)):Prop:=∀(ρ:En)(items:List D)(B:En),f ρ=some (items,B)->∀(σ:L2.St)(H:Hp)(S:Ad)(Fr:Addr->Prop),Sta G H ob ρ σ S Fr->∀R:It->Hp->Prop,
 (∀J H' S',Sta G H' ob B σ S' Fr->Eff ob H H' S S' []->Wk G J (LtB true H' (wn ob S' Fr)) items->R J H')->wi σ H R
structure Ti{ι:Type}(X:ι->Cx)(G:Gc)(ob:Nat->Bool)(tg it:Expr)(f:En->Option (List D×En)):Prop where
 mk::(ex:∃t,(∀c,PI (X c) tg it t)/\Q9 G ob t f)
def zX(f:En->Option (List D×En)):En->Option (List D×En):=λρ=>(f ρ).bind λp=>match p.1 with
 |[.int j]=>if -(2 ^ 62)<=j/\j<2 ^ 62 then some (iu 0 j.toNat,p.2)else none
 |_=>none
theorem Ml{t:TA}{f:En->Option (List D×En)}(h:Ar G ob t f):Q9 G ob (La t) (zX f):=λρ items B e σ H S Fr s R q=>by
 unfold zX at e;cases h1:f ρ with
 |none=>simp[h1]at e
 |some p=>
  obtain⟨ds,ρ1⟩:=p;rw[h1]at e;simp only[V1]at e;split at e
  .rename_i j
   split at e
   .rename_i hj
    obtain⟨rfl,rfl⟩:iu 0 j.toNat=items/\ρ1=B:=by simpa using e
    refine h ρ _ _ h1 σ H S Fr s _ λxs H' L S' s' rx nd F=>?_;obtain⟨x,rfl,N⟩:=rx.inv1;obtain⟨rfl,rfl⟩:=aV N;rw[jn]at s';exact⟨j,rfl,by omega,by omega,q _ H' S' s' F J7⟩
   .cases e
  .cases e
def Vv(f:En->Option (D×En)):En->Option (List D×En):=λρ=>(f ρ).bind λp=>(cH p.1).bind λr=>if r.1=true then some (r.2,p.2)else none
def Am(it:En->Option (List D×En))(tg:D->En->Option En)(V:En->Option Fl):En->Option Fl:=λρ=>(it ρ).bind λp=>forL tg V p.1 p.2
theorem Ia{wi:TI}{g:TG}{tb:TS}{it:En->Option (List D×En)}{tg:D->En->Option En}{V:En->Option Fl}(hi:Q9 G ob wi it)(hg:RfG G ob P g tg)(U:RfS G ob P tb V):RfS G ob P (Mi wi g tb) (Am it tg V):=λρ0 r e σ H0 S0 Fr s0 E q=>by
 unfold Am at e;cases h1:it ρ0 with
 |none=>simp[h1]at e
 |some p=>
  obtain⟨items,ρ⟩:=p;have e:forL tg V items ρ=some r:=by simpa[h1]using e
  refine hi ρ0 items ρ h1 σ H0 S0 Fr s0 _ λJ H1 S O ef wk=>?_;have m1:Mv P H0 H1 σ σ S0 S []:=ef.mv;show 5
  .refine .inr ⟨wk.go i items[i] (by simp[N]) H2 _ (a1 (ρ2:=ρ2) m2),λF H'=>(i+1)+(m-1)=items.length/\∃ρ2 S2,Sta G H' ob ρ2 F S2 Fr/\Mv P H1 H' σ F S S2 []/\forL tg V (items.drop (i+1)) ρ2=some r,λF H' h=>⟨m-1,by omega,h⟩,λx Y hy=>?_⟩
   obtain⟨I,rx⟩:=wk.yld i items[i] (by simp[N]) H2 _ (a1 (ρ2:=ρ2) m2) x Y hy;rw[←XQ N,forL]at e2;cases Z:tg items[i] ρ2 with
   |none=>simp[Z]at e2
   |some a3=>
    rw[Z]at e2;simp only[V1]at e2;have a5:Sta G Y ob ρ2 σ2 S2 Fr:=B.grow I λa z=>.inl z;refine hg items[i] ρ2 a3 Z x σ2 Y S2 [] Fr (by rw[jn];exact a5) (by rw[jn];exact rx) List.nodup_nil (by simp) _ λa4 H4 S4 s4 m4=>?_;have a2:Mv P H1 H4 σ a4 S S4 []:=(m2.trans (S2:=S2) ⟨λb u h _ _=>I b u h,λi a z=>.inl ⟨i,z⟩,.refl⟩).trans m4;cases h5:V a3 with
    |none=>rw[h5]at e2;cases e2
    |some fl=>
     rw[h5]at e2;refine U a3 fl h5 a4 H4 S4 Fr s4 _ ?_;cases fl with
     |nx a0=>exact λF H' S' s' m'=>⟨by omega,a0,S',s',a2.trans m',e2⟩
     |cnt a0=>exact λF H' S' s' m'=>⟨by omega,a0,S',s',a2.trans m',e2⟩
     |brk a0=>cases e2;exact λF H' S' s' m'=>q1 F H' S' s' (a2.trans m')
     |ret d a0=>cases e2;exact q1.from a2
  .have hl:i=items.length:=by omega
   rw[hl,Yt,forL]at e2;cases e2;subst hl;exact .inl ⟨wk.stop H2 _ (a1 (ρ2:=ρ2) m2),q1 σ2 H2 S2 B m2⟩
theorem JF{tg iter:Expr}{V:List Stmt}{pos:Pos}{it:En->Option (List D×En)}{g:D->En->Option En}{f:En->Option Fl}(F:∀c,abh (model (X c).prog (X c).w) (X c).A (X c).env (X c).xe)(Z:∀c,(X c).calm=true)(hi:Ti X G ob tg iter it)(q:PVG X G ob P tg g)(U:mK X G ob P V f)(hs:∀c,∀x,Xl iter (X c).env x=pure x:=by intro _;intro _;rfl):PVS X G ob P (.For tg iter V [] pos) (Am it g f):=let⟨v,c1,c2⟩:=hi.ex;let⟨t,a1,a2⟩:=q.ex;let⟨u,b1,b2⟩:=U.ex;⟨_,λc=>Cm (F c) (Z c) (c1 c) (a1 c) (b1 c) (hs c),Ia c2 a2 b2⟩
theorem Ms{tg a:Expr}{p pos:Pos}{f:En->Option (List D×En)}(q:∀c,Gl (X c) "range")(J:∀c,(X c).mg "range"=none)(Y:uZ X G ob [a] f)(hs:∀c,We [a] (X c).env=[(false,eval a (X c).env)]:=by intro _;rfl):Ti X G ob tg (.Call (.Name "range" p) [a] [] pos) (zX f):=let⟨t,a1,a2⟩:=Y.ex;⟨_,λc=>wK (q c) (J c) (a1 c) (hs c),Ml a2⟩
end
def TY(own:Nat->Bool)(cap:List (Option Nat)):Bool:=(WD cap.length).all λi=>!own i||(match cap[i]? with
 |some none=>true
 |_=>false)
theorem eU{own:Nat->Bool}{cap:List (Option Nat)}(h:TY own cap=true):∀i:Nat,own i=true->cap[i]?≠none->cap[i]? =some none:=λi N hn=>by
 have hi:i<cap.length:=by
  by_cases z:i<cap.length
  .exact z
  .exact absurd (aaW 1.10) hn
 have:=Zn.mp h i (XS.mpr hi);rw[N]at this;simp only[aaK,Bool.false_or]at this;split at this
 .assumption
 .cases this
def Mf(cap:List (Option Nat)):Bool:=(WD cap.length).all λi=>(WD cap.length).all λk=>match cap[i]?,cap[k]? with
 |some (some a),some (some b)=>!(a==b)||i==k
 |_,_=>true
theorem yM{cap:List (Option Nat)}(h:Mf cap=true):oG cap:=λi k j h1 h2=>by
 have hi:i<cap.length:=(Hq.mp h1).1;have B:k<cap.length:=(Hq.mp h2).1;have:=Zn.mp (Zn.mp h i (XS.mpr hi)) k (XS.mpr B);rw[h1,h2]at this;simpa using this
def KpS{α:Type}(i:Nat)(f:En->Option (α×En)):Prop:=∀ρ q,f ρ=some q->q.2[i]? =ρ[i]?
theorem CJ{i:Nat}{f:En->Option D}:KpS i (eUp f):=λρ q h=>by
 unfold eUp at h;cases e:f ρ with
 |none=>simp[e]at h
 |some d=>
  obtain rfl:(d,ρ)=q:=by simpa[e]using h
  rfl
theorem xG{i:Nat}{f:En->Option (List D)}:KpS i (cO f):=λρ q h=>by
 unfold cO at h;cases e:f ρ with
 |none=>simp[e]at h
 |some d=>
  obtain rfl:(d,ρ)=q:=by simpa[e]using h
  rfl
theorem uV{i:Nat}{f:En->Option (D×En)}{g:En->Option (List D×En)}(h1:KpS i f)(h2:KpS i g):KpS i (bW f g):=λρ q h=>by
 unfold bW at h;cases e1:f ρ with
 |none=>simp[e1]at h
 |some p=>
  cases e2:g p.2 with
  |none=>simp[e1,e2]at h
  |some r=>
   rw[e1]at h;simp only[V1,e2]at h;split at h
   .cases h
    exact(h2 _ _ e2).trans (h1 _ _ e1)
   .cases h
theorem Dc{i:Nat}{g:List D->Option D}{f:En->Option (List D×En)}(h1:KpS i f):KpS i (lJ g f):=λρ q h=>by
 unfold lJ at h;cases e1:f ρ with
 |none=>simp[e1]at h
 |some p=>
  cases e2:g p.1 with
  |none=>simp[e1,e2]at h
  |some r=>
   obtain rfl:(r,p.2)=q:=by simpa[e1,e2]using h
   exact h1 ρ p e1
theorem JH{i:Nat}{g:D->D->Option D}{f B:En->Option (D×En)}(h1:KpS i f)(h2:KpS i B):KpS i (ee2 g f B):=λρ q h=>by
 unfold ee2 at h;cases e1:f ρ with
 |none=>simp[e1]at h
 |some p=>
  cases e2:B p.2 with
  |none=>simp[e1,e2]at h
  |some r=>
   rw[e1]at h;simp only[V1,e2]at h;split at h
   .cases e3:g p.1 r.1 with
    |none=>simp[e3]at h
    |some d=>
     obtain rfl:(d,r.2)=q:=by simpa[e3]using h
     exact(h2 _ _ e2).trans (h1 _ _ e1)
   .cases h
theorem J_{i:Nat}{g:D->Option D}{f:En->Option (D×En)}(h1:KpS i f):KpS i (ee1 g f):=λρ q h=>by
 unfold ee1 at h;cases e1:f ρ with
 |none=>simp[e1]at h
 |some p=>
  cases e2:g p.1 with
  |none=>simp[e1,e2]at h
  |some r=>
   obtain rfl:(r,p.2)=q:=by simpa[e1,e2]using h
   exact h1 ρ p e1
theorem Dh{i:Nat}{F:List D->Option (D×List D)}{js:List Nat}{f:En->Option (List D×En)}(I:js.contains i=false)(h1:KpS i f):KpS i (eIo F js f):=λρ q h=>by
 unfold eIo at h;split at h
 .cases e1:f ρ with
  |none=>simp[e1]at h
  |some p=>
   cases e2:objs js p.2 with
   |none=>simp[e1,e2]at h
   |some os=>
    rw[e1]at h;simp only[V1,e2]at h;split at h
    .cases e3:F (os++fzL p.1)with
     |none=>simp[e3]at h
     |some r=>
      rw[e3]at h;simp only[V1]at h;split at h
      .cases h
       exact(mz λz=>by simp[z]at I).trans (h1 _ _ e1)
      .cases h
    .cases h
 .cases h
theorem Cu{i:Nat}{g:D->Option Int->Option Int->Option D}{f:En->Option (D×En)}{J B:En->Option (Option Int)}(h1:KpS i f):KpS i (wN g f J B):=λρ q h=>by
 unfold wN at h;cases e1:f ρ with
 |none=>simp[e1]at h
 |some p=>
  cases e2:J p.2 with
  |none=>simp[e1,e2]at h
  |some a=>
   cases N:B p.2 with
   |none=>simp[e1,e2,N]at h
   |some b=>
    cases Z:g p.1 a b with
    |none=>simp[e1,e2,N,Z]at h
    |some d=>
     obtain rfl:(d,p.2)=q:=by simpa[e1,e2,N,Z]using h
     exact h1 ρ p e1
def Wp{α:Type}(o:Option α)(Q:α->Prop):Prop:=∃a,o=some a/\Q a
section
variable{α β:Type}{Q:α->Prop}{R:β->Prop}
theorem aJ{a:α}:Wp (some a) Q↔Q a:=⟨λ⟨b,e,q⟩=>by cases e;exact q,λq=>⟨a,rfl,q⟩⟩
theorem yu:Wp (none:Option α) Q↔False:=⟨λ⟨b,e,q⟩=>(by cases e),λz=>z.elim⟩
theorem bu{o:Option α}{f:α->Option β}:Wp (o.bind f) R↔Wp o λa=>Wp (f a) R:=by
 cases o with
 |none=>simp[yu]
 |some a=>simp[aJ]
theorem dB{o:Option α}{f:α->β}:Wp (o.map f) R↔Wp o λa=>R (f a):=by
 cases o with
 |none=>simp[yu]
 |some a=>simp[aJ]
theorem w_ite{c:Prop}[Decidable c]{a b:Option α}:Wp (if c then a else b) Q↔(if c then Wp a Q else Wp b Q):=by
 split<;>exact Iff.rfl
theorem Wp.mono{o:Option α}{F:α->Prop}(h:Wp o Q)(k:∀a,Q a->F a):Wp o F:=let⟨a,e,q⟩:=h;⟨a,e,k a q⟩
theorem Wp.eq{o:Option α}{a:α}(h:Wp o λx=>x=a):o=some a:=let⟨b,e,q⟩:=h;by rw[e,q]
theorem pB{o:Option α}{a:α}(h:o=some a)(q:Q a):Wp o Q:=⟨a,h,q⟩
end
section
variable{Q:Fl->Prop}{ρ:En}
theorem Pb{f g:En->Option Fl}:Wp (bC f g ρ) Q↔Wp (f ρ) λr=>match r with
 |.nx B=>Wp (g B) Q
 |.ret d B=>Q (.ret d B)
 |.brk B=>Q (.brk B)
 |.cnt B=>Q (.cnt B):=by
 unfold bC;cases f ρ with
 |none=>simp[yu]
 |some r=>cases r<;>simp[aJ]
theorem Pu{tg:D->En->Option En}{V:En->Option Fl}(I:Nat->En->Prop):∀{items:List D}{ρ:En}{k:Nat},I k ρ->
  (∀(i:Nat)(d:D)(ρ:En),items[i]? =some d->I (k+i) ρ->Wp (tg d ρ) λρ1=>Wp (V ρ1) λr=>match r with
   |.nx ρ2=>I (k+i+1) ρ2
   |.cnt ρ2=>I (k+i+1) ρ2
   |.brk ρ2=>Q (.nx ρ2)
   |.ret d ρ2=>Q (.ret d ρ2))->
  (∀ρ,I (k+items.length) ρ->Q (.nx ρ))->Wp (forL tg V items ρ) Q
 |[],ρ,k,h0,_,h=>by rw[forL];exact aJ.mpr (h ρ h0)
 |d::r,ρ,k,h0,hs,h=>by
  rw[forL];obtain⟨ρ1,e1,w⟩:=hs 0 d ρ rfl h0;obtain⟨J,e2,w⟩:=w;rw[e1,V1,e2];have O:∀{ρ2:En},I (k+1) ρ2->Wp (forL tg V r ρ2) Q:=λU=>Pu I U (λi d ρ hi U=>by
   have:=hs (i+1) d ρ (by simpa using hi) (by rw[show k+(i+1)=k+1+i by omega];exact U);rw[show k+(i+1)+1=k+1+i+1 by omega]at this;exact this) λρ U=>h ρ (by rw[WK,show k+(r.length+1)=k+1+r.length by omega];exact U)
  cases J with
  |nx ρ2=>exact O w
  |cnt ρ2=>exact O w
  |brk ρ2=>exact aJ.mpr w
  |ret d ρ2=>exact aJ.mpr w
end
theorem jz{tg:D->En->Option En}{c:En->Option Bool}{e:En->Option D}{ρ0:En}{p:D->Bool}{f:D->D}:∀{items:List D},(∀d∈items,Wp (tg d ρ0) λρ1=>c ρ1=some (p d)/\(p d=true->e ρ1=some (f d)))->fB tg c e ρ0 items=some ((items.filter p).map f)
 |[],_=>rfl
 |d::r,h=>by
  obtain⟨ρ1,e1,h1,h2⟩:=h d (by simp);have O:=jz (tg:=tg) (c:=c) (e:=e) (ρ0:=ρ0) (p:=p) (f:=f) (items:=r) λx J=>h x (by simp[J]);rw[fB];cases F:p d with
  |false=>simp[e1,h1,F,O]
  |true=>simp[e1,h1,F,h2 F,O]
theorem Ep{cap:List (Option Nat)}{tg:D->En->Option En}{c:En->Option Bool}{e:En->Option (D×En)}{Q:List D×En->Prop}(I:Nat->List D->En->Prop):∀{items:List D}{ρ:En}{k:Nat}{acc:List D},I k acc ρ->
  (∀(i:Nat)(d:D)(acc:List D)(ρ:En),items[i]? =some d->I (k+i) acc ρ->Wp (tg d (iK cap ρ)) λρ1=>Wp (c ρ1) λb=>if b=true then Wp (e ρ1) λp=>clean p.1=true/\I (k+i+1) (acc++[p.1]) (h_ cap p.2 ρ)else I (k+i+1) acc ρ)->
  (∀ys ρ,I (k+items.length) ys ρ->Q (ys,ρ))->Wp (jV cap tg c e items ρ) λt=>Q (acc++t.1,t.2)
 |[],ρ,k,acc,h0,_,h=>by rw[jV];exact aJ.mpr (by rw[Wm];exact h acc ρ h0)
 |d::r,ρ,k,acc,h0,hs,h=>by
  rw[jV];obtain⟨ρ1,e1,b,e2,w⟩:=hs 0 d acc ρ rfl h0;rw[e1,V1,e2,V1];have O:∀{ρ2:En}{acc:List D},I (k+1) acc ρ2->Wp (jV cap tg c e r ρ2) λt=>Q (acc++t.1,t.2):=λU=>Ep I U (λi d acc ρ hi U=>by
   have:=hs (i+1) d acc ρ (by simpa using hi) (by rw[show k+(i+1)=k+1+i by omega];exact U);rw[show k+(i+1)+1=k+1+i+1 by omega]at this;exact this) λys ρ U=>h ys ρ (by rw[WK,show k+(r.length+1)=k+1+r.length by omega];exact U)
  cases b with
  |false=>
   simp only[WT,XD]at w⊢;exact O w
  |true=>
   simp only[WM]at w⊢;obtain⟨p,N,Z,U⟩:=w;rw[N,V1,Wd Z];rw[dB];refine(O U).mono λt F=>?_;simpa using F
theorem bw(l:List Str):aA (l.map D.str)=true:=bA λd hd=>by obtain⟨x,_,rfl⟩:=V4.mp hd;rfl
theorem aY(l:List Str):aB (l.map D.str)=true:=aZ λd hd=>by obtain⟨x,_,rfl⟩:=V4.mp hd;rfl
theorem bf(b:Bool)(l:List Str):eZ b (l.map D.str)=l.map D.str:=by rw[bR,V9];rfl
theorem bH(l:List Str):fzL (l.map D.str)=l.map D.str:=by rw[dZ,V9];rfl
theorem cC(l:List Str):iU (l.map D.str)=l.map D.str:=by rw[dU,V9];rfl
theorem pQ{α:Type}{l:List α}{i:Int}(N:0<=i)(h1:i<l.length):∃x,atI l i=some x/\l[i.toNat]? =some x:=by
 unfold atI ixN;rw[Wd N,Wd h1];have:i.toNat<l.length:=by omega
 exact⟨l[i.toNat],by simp[this],by simp[this]⟩
theorem jh{α β:Type}{f:α->β}{l:List α}{i:Int}(N:0<=i)(h1:i<l.length):∃x,x∈l/\l[i.toNat]? =some x/\atI (l.map f) i=some (f x):=by
 have:i.toNat<l.length:=by omega
 refine⟨l[i.toNat],YK _,by simp[this],?_⟩;unfold atI ixN;rw[Wd N,Wd (by simpa using h1)];simp[this]
theorem Ei{n:Nat}{f:D->D}:(iu 0 n).map f=(WD n).map λ(k:Nat)=>f (.int (k:Int)):=by
 unfold iu;rw[V9];apply Wz;intro k _;simp
theorem Dv{n:Nat}{d:D}(h:d∈iu 0 n):∃k:Nat,k<n/\d= .int (k:Int):=by
 unfold iu at h;obtain⟨k,B,rfl⟩:=V4.mp h;exact⟨k,XS.mp B,by simp⟩
theorem mV{lo:Int}{n:Nat}:(iu lo n).length=n:=by simp[iu]
theorem filter_tt{α:Type}(l:List α):l.filter (λ_=>true)=l:=by simp
theorem xM{n i:Nat}{d:D}(h:(iu 0 n)[i]? =some d):i<n/\d= .int (i:Int):=by
 have hi:i<n:=by have:=(Hq.mp h).1;simpa[iu]using this
 refine⟨hi,?_⟩;unfold iu at h;rw[List.getElem?_map,ac4 hi]at h;simpa using h.symm
theorem OJ{ks:List Key}{k:Key}(h:k∈ks):∃j,fU ks k=some j/\j<ks.length:=by
 cases e:fU ks k with
 |none=>exact absurd h (ux e)
 |some j=>exact⟨j,rfl,tH e⟩
theorem JQ{ks:List Key}{ds:List D}{k:Key}{d:D}(h:ks.length=ds.length):(gP ks ds k d).1.length=(gP ks ds k d).2.length/\∀x,x∈(gP ks ds k d).1↔x∈ks∨x=k:=by
 unfold gP;cases e:fU ks k with
 |none=>exact⟨by simp[h],λx=>by simp⟩
 |some j=>
  refine⟨by simpa using h,λx=>⟨.inl,λz=>z.elim id λz=>?_⟩⟩;obtain⟨Y,B,_⟩:=W6.mp e;have:ks[j]=k:=by simpa using B
  rw[z,←this];exact YK _
theorem vH:∀{es:List (Key×D)}{ks:List Key}{ds:List D},ks.length=ds.length->(bD ks ds es).1.length=(bD ks ds es).2.length/\∀x,x∈(bD ks ds es).1↔x∈ks∨∃p∈es,p.1=x
 |[],ks,ds,h=>⟨h,λx=>by simp[bD]⟩
 |p::r,ks,ds,h=>by
  obtain⟨h1,h2⟩:=JQ (k:=p.1) (d:=p.2) h;obtain⟨Z,U⟩:=vH (es:=r) h1;rw[bD];refine⟨Z,λx=>?_⟩;rw[U,h2];constructor
  .rintro((z|z)|⟨q,hq,z⟩)
   .exact .inl z
   .exact .inr ⟨p,by simp,z.symm⟩
   .exact .inr ⟨q,by simp[hq],z⟩
  .rintro(z|⟨q,hq,z⟩)
   .exact .inl (.inl z)
   .rcases V5.mp hq with y|y
    .subst y;exact .inl (.inr z.symm)
    .exact .inr ⟨q,y,z⟩
def pD(p:Str×Int):D:=.tup [.str p.1,.int p.2]
theorem FP:∀ps:List (Str×Int),qR (ps.map pD)=some (ps.map λp=>(WN p.1,.int p.2))
 |[]=>rfl
 |p::r=>by simp[qR,pD,fG,FP r]
abbrev Jt:=Str×Str×Int
def jD(j:Jt):D:=.tup [.str j.1,.str j.2.1,.int j.2.2]
theorem eX(l:List Jt):aA (l.map jD)=true:=bA λd hd=>by obtain⟨x,_,rfl⟩:=V4.mp hd;rfl
theorem e_(l:List Jt):aB (l.map jD)=true:=aZ λd hd=>by obtain⟨x,_,rfl⟩:=V4.mp hd;rfl
theorem fZ(b:Bool)(l:List Jt):eZ b (l.map jD)=l.map jD:=by rw[bR,V9];rfl
theorem fX(l:List Jt):fzL (l.map jD)=l.map jD:=by rw[dZ,V9];rfl
theorem gQ(l:List Jt):iU (l.map jD)=l.map jD:=by rw[dU,V9];rfl
theorem DQ:∀l:List Jt,iW (l.map jD)=true
 |[]=>rfl
 |j::r=>by simp[iW,jD,gG,DQ r]
theorem jj:∀l:List Str,iW (l.map D.str)=true
 |[]=>rfl
 |j::r=>by simp[iW,gG,jj r]
theorem Iz:∀l:List Jt,dpL (dtL (l.map jD))<=2
 |[]=>by simp[dtL,dpL]
 |j::r=>by
  have:=Iz r;simp[dtL,jD,dt,dpL,dp];omega
theorem gO{m:Mk}{l:List Jt}:gNe (.lst m (l.map jD)) (.lst .own [])=some (.bl (!l.isEmpty)):=by
 unfold gNe;have h1:=DQ l;have h2:=Iz l;rw[Wd ⟨by simpa[gG]using h1,rfl,by simp only[dt,dp];omega,by decide⟩];cases l with
 |nil=>rfl
 |cons j r=>rfl
theorem eq_int{i j:Int}:gEq (.int i) (.int j)=some (.bl (decide (i=j))):=by
 unfold gEq;rw[Wd ⟨rfl,rfl,by simp[dt,dp],by simp[dt,dp]⟩];simp[dt,eqD];exact aaf.mpr (by simp)
theorem uL{cap:List (Option Nat)}{tg:D->En->Option En}{c:En->Option Bool}{e:En->Option (D×En)}{Q:List D×En->Prop}(I:Nat->List D->En->Prop){items:List D}{ρ:En}(N:I 0 [] ρ)
  (hs:∀(i:Nat)(d:D)(acc:List D)(ρ:En),items[i]? =some d->I i acc ρ->Wp (tg d (iK cap ρ)) λρ1=>Wp (c ρ1) λb=>if b=true then Wp (e ρ1) λp=>clean p.1=true/\I (i+1) (acc++[p.1]) (h_ cap p.2 ρ)else I (i+1) acc ρ)
  (h:∀ys ρ,I items.length ys ρ->Q (ys,ρ)):Wp (jV cap tg c e items ρ) Q:=by
 have:=Ep (cap:=cap) (tg:=tg) (c:=c) (e:=e) (Q:=Q) I (items:=items) (ρ:=ρ) (k:=0) (acc:=[]) N (λi d acc ρ hi U=>by
  rw[Zm]at U⊢;exact hs i d acc ρ hi U) λys ρ U=>h ys ρ (by rw[Zm]at U;exact U)
 simpa using this
theorem mC{Q:Fl->Prop}{tg:D->En->Option En}{V:En->Option Fl}(I:Nat->En->Prop){items:List D}{ρ:En}(N:I 0 ρ)
  (hs:∀(i:Nat)(d:D)(ρ:En),items[i]? =some d->I i ρ->Wp (tg d ρ) λρ1=>Wp (V ρ1) λr=>match r with
   |.nx ρ2=>I (i+1) ρ2
   |.cnt ρ2=>I (i+1) ρ2
   |.brk ρ2=>Q (.nx ρ2)
   |.ret d ρ2=>Q (.ret d ρ2))
  (h:∀ρ,I items.length ρ->Q (.nx ρ)):Wp (forL tg V items ρ) Q:=
 Pu (k:=0) I N (λi d ρ hi U=>by
  rw[Zm]at U⊢;exact hs i d ρ hi U) λρ U=>h ρ (by rw[Zm]at U;exact U)
theorem bh{f g:En->Option Fl}{ρ:En}{Q:Fl->Prop}(P:En->Prop)(h1:∀F:Fl->Prop,(∀B,P B->F (.nx B))->Wp (f ρ) F)(h2:∀B,P B->Wp (g B) Q):Wp (bC f g ρ) Q:=by
 rw[Pb];exact h1 _ λB h=>h2 B h
theorem oV(j:Jt):az (jD j)=true:=rfl
theorem pH(j:Jt):aq (jD j)=true:=rfl
theorem oU(b:Bool)(j:Jt):view b (jD j)=jD j:=rfl
theorem o4(j:Jt):fz (jD j)=jD j:=rfl
theorem pI(j:Jt):fzo (jD j)=jD j:=rfl
theorem jP(j:Jt):gSl (jD j) none (some 2)=some (.tup [.str j.1,.str j.2.1]):=rfl
theorem gW(m:Mk)(l:List Jt):dh [.lst m (l.map jD)]=some (.int l.length):=by simp[dh]
theorem len_strs(m:Mk)(l:List Str):dh [.lst m (l.map D.str)]=some (.int l.length):=by simp[dh]
theorem eY(l:List Jt):dh [.tup (l.map jD)]=some (.int l.length):=by simp[dh]
theorem cN(l:List Str):dh [.tup (l.map D.str)]=some (.int l.length):=by simp[dh]
theorem nW{m:Mk}{l:List D}{i:Int}:gIx (.lst m l) (.int i)=atI l i:=rfl
theorem pG{l:List D}{i:Int}:gIx (.tup l) (.int i)=atI l i:=rfl
open PySem PySem.W PyProof.Rows
def Tr(b:Nat->Nat->Bool)(n:Nat){α:Type}:KasT α->(α->Prop)->Prop
 |.ret a,Q=>Q a
 |.ask i j k,Q=>i<n/\j<n/\Tr b n (k (b i j)) Q
section
variable{b:Nat->Nat->Bool}{n:Nat}{α β:Type}
theorem Tr.bind{f:α->KasT β}{Q:β->Prop}:∀{t:KasT α},Tr b n t (λa=>Tr b n (f a) Q)->Tr b n (t.bind f) Q
 |.ret _,h=>h
 |.ask _ _ _,⟨h1,h2,h3⟩=>⟨h1,h2,Tr.bind h3⟩
theorem Tr.mono{Q F:α->Prop}(N:∀a,Q a->F a):∀{t:KasT α},Tr b n t Q->Tr b n t F
 |.ret _,h=>N _ h
 |.ask _ _ _,⟨h1,h2,h3⟩=>⟨h1,h2,Tr.mono N h3⟩
theorem Tr.wp{q:Nat->Nat->(Bool->V0->Prop)->V0->Prop}{s:V0}{Q:α->Prop}(Z:∀i j C,i<n->j<n->C (b i j) s->q i j C s):∀{t:KasT α},Tr b n t Q->t.kasWp q (λa s'=>s'=s/\Q a) s
 |.ret _,h=>⟨rfl,h⟩
 |.ask _ _ _,⟨h1,h2,h3⟩=>Z _ _ _ h1 h2 (Tr.wp Z h3)
end
def gh(n:Nat)(p:Array Nat):Prop:=Xp p.toList (WD n)
theorem gh.size{n:Nat}{p:Array Nat}(h:gh n p):p.size=n:=by
 have:=List.Perm.length_eq h;simpa using this
theorem gh.lt{n:Nat}{p:Array Nat}(h:gh n p)(hn:0<n)(i:Nat):p.getD i 0<n:=by
 by_cases hi:i<p.size
 .have hm:p[i]∈p.toList:=by simp
  have:=XS.mp (abF h |>.mp hm);simpa[Array.getD,hi]using this
 .simpa[Array.getD,hi]using hn
theorem gh.of{n:Nat}{p q:Array Nat}(h:gh n p)(F:Array.Perm q p):gh n q:=(Array.perm_iff_toList_perm.mp F).trans h
section
variable(ρ:Nat->Int)
def rk(p:Array Nat)(i:Nat):Int:=ρ (p.getD i 0)
def Up1(p:Array Nat)(k:Nat):Prop:=∀i j,i<=j->j<k->rk ρ p i<=rk ρ p j
def Dn1(p:Array Nat)(k:Nat):Prop:=∀i j,i<=j->j<k->rk ρ p j<=rk ρ p i
abbrev bk:Nat->Nat->Bool:=λi j=>decide (ρ i<ρ j)
end
section
variable{ρ:Nat->Int}{n:Nat}(hn:0<n)
theorem zb{p q:Array Nat}{i j:Nat}(h:p[i]? =q[j]?):rk ρ p i=rk ρ q j:=by
 unfold rk;rw[X5,X5,h]
theorem CN{p:Array Nat}{i j:Nat}(I:j<=p.size)(k:Nat):rk ρ (kas_rev p i j) k=if i<=k/\k<j then rk ρ p (i+j-1-k)else rk ρ p k:=by
 have e:=getElem?_mirror_all (xs:=p) (i:=i) I k;unfold kas_rev;split
 .rename_i h;rw[Wd h]at e;exact zb e
 .rename_i h;rw[Wo h]at e;exact zb e
theorem iY{p:Array Nat}{i j:Nat}(I:j<=p.size)(h:∀k,i<=k->k<j->rk ρ p k=rk ρ p (j-1))(k:Nat):rk ρ (kas_rev p i j) k=rk ρ p k:=by
 rw[CN I];split
 .rw[h _ 1.10 1.10,h k 1.10 1.10]
 .rfl
include hn
theorem Lp{p:Array Nat}(F:gh n p):∀(f a:Nat),1<=a->Up1 ρ p a->Tr (bk ρ) n (kas_asc p f a) λm=>a<=m/\m<=a+f/\Up1 ρ p m
 |0,a,_,h=>⟨Wa _,Wa _,h⟩
 |f+1,a,ha,h=>by
  refine⟨F.lt hn _,F.lt hn _,?_⟩;by_cases c:rk ρ p a<rk ρ p (a-1)
  .have e:bk ρ (p.getD a 0) (p.getD (a-1) 0)=true:=XJ c
   rw[e];exact⟨Wa _,by omega,h⟩
  .have e:bk ρ (p.getD a 0) (p.getD (a-1) 0)=false:=WQ c
   rw[e];refine Tr.mono (λm J=>⟨by omega,by omega,J.2.2⟩) (Lp F f (a+1) 1.10 λi j U I=>?_);by_cases N:j<a
   .exact h i j U N
   .obtain rfl:j=a:=by omega
    by_cases hi:i=j
    .subst hi;exact Yr _
    .exact aa4 (h i (j-1) 1.10 1.10) 1.10
def DsQ(ρ:Nat->Int)(n a f:Nat)(t:Array Nat×Nat×Nat):Prop:=gh n t.1/\a<=t.2.1/\t.2.1<=a+f/\Dn1 ρ t.1 t.2.1/\t.2.2+1<=t.2.1/\∀i,t.2.1-(t.2.2+1)<=i->i<t.2.1->rk ρ t.1 i=rk ρ t.1 (t.2.1-1)
theorem yp:∀(f:Nat)(p:Array Nat)(a q:Nat),gh n p->1<=a->a+f<=n->Dn1 ρ p a->q+1<=a->(∀i,a-(q+1)<=i->i<a->rk ρ p i=rk ρ p (a-1))->Tr (bk ρ) n (kas_desc f p a q) (DsQ ρ n a f)
 |0,p,a,q,hp,ha,_,h,hq,he=>⟨hp,Wa _,Wa _,h,hq,he⟩
 |f+1,p,a,q,hp,ha,hf,h,hq,he=>by
  have O:=hp.size;refine⟨hp.lt hn _,hp.lt hn _,?_⟩;by_cases c:rk ρ p a<rk ρ p (a-1)
  .have e:bk ρ (p.getD a 0) (p.getD (a-1) 0)=true:=XJ c
   have Z:∀Y:Array Nat,gh n Y->(∀k,rk ρ Y k=rk ρ p k)->Tr (bk ρ) n (kas_desc f Y (a+1) 0) (DsQ ρ n a (f+1)):=λY V B=>by
    refine Tr.mono (λt F=>⟨F.1,by have:=F.2.1;omega,by have:=F.2.2.1;omega,F.2.2.2⟩) (yp f Y (a+1) 0 V 1.10 1.10 (λi j U I=>?_) 1.10 λi h1 h2=>by rw[show i=a+1-1 by omega]);rw[B,B];by_cases N:j<a
    .exact h i j U N
    .obtain rfl:j=a:=by omega
     by_cases hi:i=j
     .subst hi;exact Yr _
     .exact aa4 1.10 (h i (j-1) 1.10 1.10)
   rw[e];simp only[WM];by_cases a0:q>0
   .rw[Wd a0]
    exact Z _ (hp.of (acj _ _ _ _)) (iY 1.10 he)
   .rw[Wo a0]
    exact Z _ hp λ_=>rfl
  .have e:bk ρ (p.getD a 0) (p.getD (a-1) 0)=false:=WQ c
   rw[e];simp only[WT,XD];refine⟨hp.lt hn _,hp.lt hn _,?_⟩;by_cases J:rk ρ p (a-1)<rk ρ p a
   .have e:bk ρ (p.getD (a-1) 0) (p.getD a 0)=true:=XJ J
    rw[e];exact⟨hp,Wa _,by show a<=a+(f+1);omega,h,hq,he⟩
   .have e:bk ρ (p.getD (a-1) 0) (p.getD a 0)=false:=WQ J
    have ea:rk ρ p a=rk ρ p (a-1):=by omega
    rw[e];simp only[WT,XD];refine Tr.mono (λt F=>⟨F.1,by have:=F.2.1;omega,by have:=F.2.2.1;omega,F.2.2.2⟩) (yp f p (a+1) (q+1) hp 1.10 1.10 (λi j U I=>?_) 1.10 λi h1 h2=>?_)
    .by_cases N:j<a
     .exact h i j U N
     .obtain rfl:j=a:=by omega
      by_cases hi:i=j
      .subst hi;exact Yr _
      .rw[ea];exact h i (j-1) 1.10 1.10
    .rw[show a+1-1=a by omega]
     by_cases hi:i=a
     .rw[hi]
     .rw[ea];exact he i 1.10 1.10
def CtQ(ρ:Nat->Int)(n N:Nat)(t:Nat×Array Nat):Prop:=gh n t.2/\1<=t.1/\t.1<=N/\Up1 ρ t.2 t.1
theorem Dz{p:Array Nat}{a N:Nat}(F:gh n p)(Y:1<=a)(q:a<=N)(B:N<=n)(h:Dn1 ρ p a):Tr (bk ρ) n (kas_tail3 a N p) (CtQ ρ n N):=by
 have O:=F.size;have V:gh n (kas_rev p 0 a):=F.of (acj _ _ _ _);refine Tr.bind (Tr.mono (λm J=>?_) (Lp hn V (N-a) a Y λi j U I=>?_))
 .exact⟨V,by show 1<=m;omega,by show m<=N;omega,J.2.2⟩
 .rw[CN 1.10,CN 1.10,Wd 1.10,Wd 1.10]
  exact h _ _ 1.10 1.10
theorem Fx{p:Array Nat}{a N:Nat}(F:gh n p)(a1:a+1<=N)(Y:N<=n)(h:Dn1 ρ p (a+1)):Tr (bk ρ) n (kas_descPart a N p) (CtQ ρ n N):=by
 refine Tr.bind (Tr.mono (λt ht=>?_) (yp hn (N-(a+1)) p (a+1) 0 F 1.10 1.10 h 1.10 λi h1 h2=>by rw[show i=a+1-1 by omega]));obtain⟨B,q,t3⟩:=t;obtain⟨h1,h2,Z,U,V,J⟩:=ht;have O:=h1.size;simp only at h1 h2 Z U V J O⊢;split
 .refine Dz hn (h1.of (acj _ _ _ _)) 1.10 1.10 Y λi j a0 I=>?_
  rw[iY 1.10 J,iY 1.10 J];exact U i j a0 I
 .exact Dz hn h1 1.10 1.10 Y U
theorem K_{p:Array Nat}{nr:Nat}(F:gh n p)(h1:1<=nr)(a5:nr<=n):Tr (bk ρ) n (kas_count nr p) (CtQ ρ n nr):=by
 have O:=F.size;have N:Up1 ρ p 1:=λi j U I=>by rw[show i=j by omega];exact Yr _
 have go:Tr (bk ρ) n (kas_asc p (nr-1) 1) λm=>1<=m/\m<=nr/\Up1 ρ p m/\(m=nr∨rk ρ p m<rk ρ p (m-1)):=by
  have:∀(f a:Nat),1<=a->a+f=nr->Up1 ρ p a->Tr (bk ρ) n (kas_asc p f a) λm=>1<=m/\m<=nr/\Up1 ρ p m/\(m=nr∨rk ρ p m<rk ρ p (m-1)):=by
   intro f
   induction f with
   |zero=>intro a Y Z h;exact⟨Y,by omega,h,.inl 1.10⟩
   |succ f ih=>
    intro a Y Z h;refine⟨F.lt hn _,F.lt hn _,?_⟩;by_cases c:rk ρ p a<rk ρ p (a-1)
    .have e:bk ρ (p.getD a 0) (p.getD (a-1) 0)=true:=XJ c
     rw[e];exact⟨Y,by omega,h,.inr c⟩
    .have e:bk ρ (p.getD a 0) (p.getD (a-1) 0)=false:=WQ c
     rw[e];refine ih (a+1) 1.10 1.10 λi j U I=>?_;by_cases a6:j<a
     .exact h i j U a6
     .obtain rfl:j=a:=by omega
      by_cases hi:i=j
      .subst hi;exact Yr _
      .exact aa4 (h i (j-1) 1.10 1.10) 1.10
  exact this (nr-1) 1 (Wa _) 1.10 N
 refine Tr.bind (Tr.mono (λm J=>?_) go);obtain⟨m1,m2,m3,m4⟩:=J;by_cases a3:m=nr
 .rw[Wd (by simpa using a3)]
  exact⟨F,m1,m2,m3⟩
 .rw[Wo (by simpa using a3)]
  have V:=m4.resolve_left a3;by_cases a4:m>1
  .rw[Wd a4]
   refine⟨F.lt hn _,F.lt hn _,?_⟩;by_cases c:rk ρ p 0<rk ρ p (m-1)
   .have e:bk ρ (p.getD 0 0) (p.getD (m-1) 0)=true:=XJ c
    rw[e];exact⟨F,m1,m2,m3⟩
   .have e:bk ρ (p.getD 0 0) (p.getD (m-1) 0)=false:=WQ c
    rw[e];simp only[WT,XD];have a0:∀k,0<=k->k<m->rk ρ p k=rk ρ p (m-1):=λk _ B=>by
     have a1:=m3 0 k 1.10 B;have q:=m3 k (m-1) 1.10 1.10;omega
    refine Fx hn (F.of (acj _ _ _ _)) 1.10 a5 λi j U I=>?_;rw[iY 1.10 a0,iY 1.10 a0];by_cases a7:j<m
    .rw[a0 i 1.10 1.10,a0 j 1.10 a7];exact Yr _
    .obtain rfl:j=m:=by omega
     by_cases hi:i=j
     .subst hi;exact Yr _
     .rw[a0 i 1.10 1.10];omega
  .rw[Wo a4]
   obtain rfl:m=1:=by omega
   refine Fx hn F 1.10 a5 λi j U I=>?_;by_cases hi:i=j
   .subst hi;exact Yr _
   .obtain rfl:i=0:=by omega
    obtain rfl:j=1:=by omega
    exact Int.le_of_lt V
theorem vf{p:Array Nat}{k:Nat}(F:gh n p)(h:Up1 ρ p k):∀(f l r:Nat),l<=r->r<=k->r-l<=f->(∀i,i<l->rk ρ p i<=rk ρ p k)->(∀i,r<=i->i<k->rk ρ p k<rk ρ p i)->
  Tr (bk ρ) n (kas_place p k f l r) λm=>m<=k/\(∀i,i<m->rk ρ p i<=rk ρ p k)/\∀i,m<=i->i<k->rk ρ p k<rk ρ p i
 |0,l,r,hlr,hrk,hf,h1,h2=>⟨by omega,h1,λi hi B=>h2 i 1.10 B⟩
 |f+1,l,r,hlr,hrk,hf,h1,h2=>by
  unfold kas_place;by_cases q:l>=r
  .rw[Wd q]
   exact⟨by omega,h1,λi hi B=>h2 i 1.10 B⟩
  .rw[Wo q]
   refine⟨F.lt hn _,F.lt hn _,?_⟩;by_cases c:rk ρ p k<rk ρ p ((l+r) / 2)
   .have e:bk ρ (p.getD k 0) (p.getD ((l+r) / 2) 0)=true:=XJ c
    rw[e];exact vf F h f l _ 1.10 1.10 1.10 h1 λi hi B=>Int.lt_of_lt_of_le c (h _ i hi B)
   .have e:bk ρ (p.getD k 0) (p.getD ((l+r) / 2) 0)=false:=WQ c
    rw[e];exact vf F h f _ r 1.10 hrk 1.10 (λi hi=>aa4 (h i ((l+r) / 2) 1.10 1.10) 1.10) h2
theorem Ky:∀(f:Nat)(p:Array Nat)(k:Nat),gh n p->k+f<=n->Up1 ρ p k->Tr (bk ρ) n (kas_bin f p k) λq=>gh n q/\Up1 ρ q (k+f)
 |0,p,k,hp,_,h=>⟨hp,h⟩
 |f+1,p,k,hp,hf,h=>by
  have O:=hp.size;refine Tr.bind (Tr.mono (λl Y=>?_) (vf hn hp h k 0 k 1.10 1.10 1.10 (λi hi=>by omega) λi h1 h2=>by omega));obtain⟨l1,l2,B⟩:=Y;have U:∀i,rk ρ (bubble p k (k-l)) i=if i=l then rk ρ p k else if l<i/\i<=k then rk ρ p (i-1)else rk ρ p i:=λi=>by
   have e:=getElem?_bubble (xs:=p) (src:=k) 1.10 (k-l) 1.10 i;rw[show k-(k-l)=l by omega]at e;split
   .rename_i hi;rw[Wd hi]at e;exact zb e
   .rename_i hi
    rw[Wo hi]at e;split
    .rename_i hi2;rw[Wd hi2]at e;exact zb e
    .rename_i hi2;rw[Wo hi2]at e;exact zb e
  refine Tr.mono (λq N=>⟨N.1,by rw[show k+(f+1)=k+1+f by omega];exact N.2⟩) (Ky f (bubble p k (k-l)) (k+1) (hp.of (bubble_perm _ _ _)) 1.10 λi j F I=>?_);rw[U,U]
  repeat' split
  all_goals first
   |exact Yr _
   |(exfalso;omega)
   |exact Int.le_of_lt (B _ 1.10 1.10)
   |exact l2 _ 1.10
   |exact h _ _ 1.10 1.10
theorem DR:Tr (bk ρ) n (kas_sort n) λp=>gh n p/\Up1 ρ p n:=by
 have F:gh n (ZW (WD n)):=by unfold gh;exact acz _
 refine Tr.bind (Tr.mono (λt B=>?_) (K_ hn F 1.10 (Wa n)));obtain⟨h1,h2,Z,U⟩:=B;split
 .refine Tr.mono (λq N=>⟨N.1,?_⟩) (Ky hn (n-max t.1 1) t.2 (max t.1 1) h1 1.10 (by rw[show max t.1 1=t.1 by omega];exact U))
  have:=N.2;rwa[show max t.1 1+(n-max t.1 1)=n by omega]at this
 .rename_i hlt
  exact⟨h1,by rw[show t.1=n by omega]at U;exact U⟩
end
open PySem PySem.W PyProof.Rows PySem.SeqAt
theorem jH:plainId "list.__eq__.loop"=true:=by decide +kernel
theorem rT:entryFor table "list.__eq__.loop"=some Builtin.«list.__eq__.loop»:=entryFor_of_fast (by kernel_rfl)
def ltS:List Str->List Str->Bool
 |[],[]=>false
 |[],_::_=>true
 |_::_,[]=>false
 |a::r,b::q=>if a=b then ltS r q else decide (a.cps.toList<b.cps.toList)
def StA(B:Array Value)(xs:List Str):Prop:=∀i:Nat,B[i]? =none/\xs[i]? =none∨∃x t,B[i]? =some (.str x t)/\xs[i]? =some x
theorem Hz{xs ys:List Str}{i:Nat}:ltS (xs.drop i) (ys.drop i)=match xs[i]?,ys[i]? with
  |none,none=>false
  |none,some _=>true
  |some _,none=>false
  |some a,some b=>if a=b then ltS (xs.drop (i+1)) (ys.drop (i+1))else decide (a.cps.toList<b.cps.toList):=by
 have d:∀zs:List Str,zs.drop i=match zs[i]? with|none=>[]|some a=>a::zs.drop (i+1):=λzs=>by
  by_cases h:i<zs.length
  .rw[abH h,Wh h]
  .rw[aaG 1.10,aaW 1.10]
 rw[d xs,d ys];cases xs[i]?<;>cases ys[i]?<;>rfl
theorem Iu(l b:Addr)(B q:Array Value)(n I:Nat)(dd a1:Option Addr)(sl a2:Array (Option Value))(xs ys:List Str)(h1:StA B xs)(h2:StA q ys)(J:B.size=xs.length)(V:q.size=ys.length)(k:Nat) :
  ∀i:Nat,xs.length-i=k->Meets (Builtin.«list.__eq__.loop» ⟨[.ref l,.ref b,ZR i,ZR 0],[]⟩)
   (λA R s=>s.heap.get? l=some {cls:=.type "list",dict:=dd,data:=.seq B n,slots:=sl}/\s.heap.get? b=some {cls:=.type "list",dict:=a1,data:=.seq q I,slots:=a2}/\(i<=xs.length/\i<=ys.length)/\
    R (.ok (.ret (.bool (ltS (xs.drop i) (ys.drop i))))) s):=by
 induction k with
 |zero=>
  intro i hk prog w A R s h;obtain⟨F,g,d,tk,os⟩:=s;obtain⟨Y,U,hi,h⟩:=h
  wp_walk using wpAny_loadPart' Y,wpAny_loadPart' U
  have e1:xs[i]? =none:=by simp;omega
  have e2:B[((i:Nat):Int).toNat]? =none:=by simp;omega
  rw[Hz,e1]at h;rw[e2]
  wp_walk using wpAny_loadPart' Y,wpAny_loadPart' U
  show R (.ok (.ret (.bool (decide (B.size<q.size))))) _;rw[J,V];cases N:ys[i]? with
  |none=>
   rw[N]at h;have:ys.length<=i:=by simpa using N
   rw[show decide (xs.length<ys.length)=false by simp;omega];exact h
  |some y=>
   rw[N]at h;have:=(Hq.mp N).1;rw[show decide (xs.length<ys.length)=true by simp;omega];exact h
 |succ k O=>
  intro i hk prog w A R s h;obtain⟨F,g,d,tk,os⟩:=s;obtain⟨Y,U,hi,h⟩:=h
  wp_walk using wpAny_loadPart' Y,wpAny_loadPart' U
  have a3:i<xs.length:=by omega
  obtain⟨z,_⟩|⟨x,t,e1,e2⟩:=h1 i
  .simp at z;omega
  rw[Hz,e2]at h;have f1:B[((i:Nat):Int).toNat]? =some (.str x t):=by simpa using e1
  obtain⟨N,e4⟩|⟨y,u,N,e4⟩:=h2 i
  .have f2:q[((i:Nat):Int).toNat]? =none:=by simpa using N
   rw[e4]at h;rw[f1,f2]
   wp_walk using wpAny_loadPart' Y,wpAny_loadPart' U
   show R (.ok (.ret (.bool (decide (B.size<q.size))))) _;have:ys.length<=i:=by simpa using e4
   rw[show decide (B.size<q.size)=false by simp;omega];exact h
  .have f2:q[((i:Nat):Int).toNat]? =some (.str y u):=by simpa using N
   have Z:((i:Int)+1)=((i+1:Nat):Int):=by push_cast;rfl
   have a4:=(Hq.mp e4).1;rw[e4]at h;rw[f1,f2];refine gD (wpAny_eqBool_str ?_);by_cases a0:x=y
   .simp only[a0,WM]at h
    rw[show decide (x=y)=true from XJ a0]
    wp_walk
    rw[Z];exact⟨Y5 jH _,YC rT (by
     rw[X7 jH _];exact O (i+1) 1.10 prog w A R _ ⟨Y,U,⟨by omega,by omega⟩,h⟩)⟩
   .simp only[Wo a0]at h
    rw[show decide (x=y)=false from WQ a0]
    wp_walk using wpAny_loadPart' Y,wpAny_loadPart' U
    rw[f1,f2];refine gD (lt_str ?_);exact V3 h
theorem HD(l b:Addr)(B q:Array Value)(n I:Nat)(O Z:Option Addr)(sl N:Array (Option Value))(xs ys:List Str)(h1:StA B xs)(h2:StA q ys)(J:B.size=xs.length)(V:q.size=ys.length) :
  Meets (Builtin.«list.__lt__» ⟨[.ref l,.ref b],[]⟩)
   (λA R s=>s.heap.get? l=some {cls:=.type "list",dict:=O,data:=.seq B n,slots:=sl}/\s.heap.get? b=some {cls:=.type "list",dict:=Z,data:=.seq q I,slots:=N}/\R (.ok (.ret (.bool (ltS xs ys)))) s):=by
 intro prog w A R s h;obtain⟨F,g,d,tk,os⟩:=s;obtain⟨Y,U,h⟩:=h;have f3:=AutoSeq1.sub_list_list
 wp_walk using wpAny_loadPart' Y,wpAny_loadPart' U
 exact⟨Y5 jH _,YC rT (by
  rw[X7 jH _];exact Iu l b B q n I O Z sl N xs ys h1 h2 J V _ 0 rfl prog w A R _ ⟨Y,U,⟨Ym _,Ym _⟩,by simpa using h⟩)⟩
section
variable{prog:Program}{w:World}{A:Around}{E:Value->Shared->Prop}{s:Shared}
theorem BW{l b:Addr}{B q:Array Value}{xs ys:List Str}{Q:Bool->V0->Prop}(Y:s.heap.IsList l B)(U:s.heap.IsList b q)(h1:StA B xs)(h2:StA q ys)(J:B.size=xs.length)(V:q.size=ys.length)(hu:A.units<cLine)
  (h:Q (ltS xs ys) s):wpAny 1.14 A (oneLt' true (.ref l) (.ref b)) Q E s:=by
 obtain⟨⟨cls,O,data,sl⟩,N,Z,n,hd⟩:=id Y;obtain⟨⟨a6,a5,a2,a4⟩,a3,a1,I,a0⟩:=id U;simp only at Z hd a1 a0;subst Z hd a1 a0;rw[oneLt'_eq];simp only[WM];refine gD (wpAny_cRoomFor hu ?_);refine gD (wpAny_callSpecialIfBound?_slot (T:="list") ⟨_,N,rfl⟩ F.slot_list_lt (ZC F.slot_list_lt ⟨_,N,rfl⟩ F.entry_list_lt (F.args_list_lt_2 _ _) (HD l b B q n I O a5 sl a4 xs ys h1 h2 J V) ⟨N,a3,?_⟩));exact ZL h
end
section
variable{prog:Program}{w:World}{A:Around}{E:Value->Shared->Prop}{s:Shared}
theorem rG{l:Addr}{vs:List Value}{ρ:Nat->Int}{T:Value}{Q:Value->V0->Prop}(Y:s.heap.IsList l vs.toArray)(b6:vs.length<64)
  (B:∀h':Heap,(∀b o,s.heap.get? b=some o->h'.get? b=some o)->∀v∈vs,Looks 1.14 h' (abk v) T) (b8:(T !=Zy "tuple")=true) (b7:(T==T)=true)
  (V:∀h':Heap,(∀b o,s.heap.get? b=some o->h'.get? b=some o)->∀i j,i<vs.length->j<vs.length->∀Q':Bool->V0->Prop,Q' (decide (ρ i<ρ j)) {s with heap:=h'}->wpAny 1.14 A.in1.in1 (oneLt' true (vs.getD i Wq) (vs.getD j Wq)) Q' (λ_ _=>False) {s with heap:=h'})
  (h:∀p:Array Nat,gh vs.length p->Up1 ρ p vs.length->Q (.ref (s.heap.objs.size+1)) {s with heap:=sortedAll s.heap vs (ZW (p.toList.map λi=>vs.getD i Wq))}) :
  wpAny 1.14 A (call (.builtin "sorted") [.ref l]) Q E s:=by
 have b1:vs.length<=V6:=by rw[ZG];omega
 refine abI kind_sorted plain_sorted entry_sorted (args_sorted1 _) ?_;unfold Builtin.«sorted»;refine gD (m:=checkCount "sorted" 1 1 _) (V3 ?_);refine gD (collect_list Y ?_ b1);refine gD (abw ?_ (by rw[ZG];omega))
 let G1:Heap:=(s.heap.push (ZX "list" #[] 0)).update s.heap.objs.size (Xh (·++vs.toArray))
 have z1:G1.objs.size=s.heap.objs.size+1:=by rw[X8,acN]
 let a:=s.heap.objs.size+1
 let G2:Heap:=G1.push (ZX "list" vs.toArray 0)
 have J:G2.objs.size=s.heap.objs.size+2:=by show(G1.push _).objs.size=_;rw[acN,z1]
 have a7:G2.get? a=some (ZX "list" vs.toArray 0):=by
  show(G1.push _).get? (s.heap.objs.size+1)=_;rw[←z1];exact Wx _ rfl
 show wpAny _ _ _ _ _ {s with heap:=G2};show wpAny _ _ (Zt _ _ >>=_) _ _ _;rw[show G1.objs.size=a from z1];refine gD (Xf (aaL slot_list_sort ⟨_,a7,rfl⟩ entry_list_sort ?_ (args_list_sort _)));have b2:∀b o,s.heap.get? b=some o->G2.get? b=some o:=λb o q=>by
  have U:b<s.heap.objs.size:=V_ q;show(G1.push _).get? b=_;rw[aaA _ _ _ (by rw[z1];exact Wj (Yp U)),aac _ _ _ _ (Wj U),aaA _ _ _ (Wj U)];exact q
 let G3:Heap:=G2.update a (Xh λ_=>#[])
 obtain⟨e1,b3⟩:∃e1,G3.get? a=some (ZX "list" #[] e1):=⟨_,ab8 a7 λ_=>#[]⟩;have z3:G3.objs.size=s.heap.objs.size+2:=by show(G2.update _ _).objs.size=_;rw[X8,J]
 let G5:Heap:=(G3.push (ZX "tuple" vs.toArray 0)).push (ZX "list" #[] 0)
 have b4:∀b o,b<s.heap.objs.size+2->G3.get? b=some o->G5.get? b=some o:=λb o U q=>by
  show((G3.push _).push _).get? b=_;rw[aaA _ _ _ (by rw[acN,z3];exact Wj (Yp U)),aaA _ _ _ (by rw[z3];exact Wj U)];exact q
 have a5:∀b o,s.heap.get? b=some o->G5.get? b=some o:=λb o q=>by
  have U:b<s.heap.objs.size:=V_ q;refine b4 b o (Yp (Yp U)) ?_;show(G2.update _ _).get? b=_;rw[aac _ _ _ _ (Wj (Yp U))];exact b2 b o q
 have b5:G5.get? a=some (ZX "list" #[] e1):=b4 a _ (Z0 _) b3;rw[list_sort_plain];refine gD (listItems_at a7 rfl ?_);refine gD (abx a7 rfl ?_ (by rw[List.size_toArray];exact b1) (Ym _));refine gD (ack b3 rfl ?_);refine gD (acA ?_ (by show vs.length<=_;exact b1));refine gD (abw ?_ (Ym _));refine Xf ?_;show wpAny 1.14 A.in1.in1 _ _ _ {s with heap:=G5};dsimp only;have fin:∀(O:SortSt)(p:Array Nat),arrOf O=p.map (kas_item (vs.toArray.zip vs.toArray))->abU O=none->gh vs.length p->Up1 ρ p vs.length->
   wpAny 1.14 A.in1.in1 (do
    let a8:=(arrOf O).map (·.2)
    let a6:=(←seqEpoch a)!=e1
    ab1 (.ref a) λ_=>a8
    if let some e:=abU O then rule "list.sort.comparison-raised";throw e
    if a6 then rule "list.sort.modified";raiseError "ValueError" "list modified during sort"
    ret .none) (λfin s'=>∃v,fin= .done (.ret v)/\wpAny 1.14 A.in1 (ret (.ref a)) (λfin s'=>∃v,fin= .done (.ret v)/\Q v s') E s') E {s with heap:=G5}:=λO p b0 Z F hu=>by
  have a9:=kat_snds (vs:=vs) (ks:=vs) rfl b0;dsimp only;refine gD (ack b5 rfl ?_);have c1:p.size=vs.length:=F.size;refine gD (abx b5 rfl ?_ (Ym _) (by rw[a9];simp only[List.size_toArray,Wc,Yc];omega));rw[Z];simp only[bne_self_eq_false,WT,XD];refine V3 ⟨_,rfl,V3 ⟨_,rfl,?_⟩⟩;rw[a9];exact h p F hu
 by_cases a0:vs.toArray.size<2
 .rw[Wd a0,Wd a0]
  rw[List.size_toArray]at a0;refine gD (V3 ?_);rw[adT];refine gD (V3 ?_);refine fin _ (ZW (WD vs.length)) ?_ rfl (acz _) (λi j c0 I=>by rw[show i=j by omega];exact Yr _);have e:=kas_range (vs.toArray.zip vs.toArray);rw[show(vs.toArray.zip vs.toArray).size=vs.length by simp]at e;exact e.symm
 .rw[Wo a0,Wo a0]
  rw[List.size_toArray]at a0;refine gD (kas_kind 1.10 (B G5 a5) b8 b7 ?_);have b9:(kas_sort vs.length).kasWp (kas_ask prog w A.in1.in1 oneType' vs) (λp s'=>s'={s with heap:=G5}/\gh vs.length p/\Up1 ρ p vs.length) {s with heap:=G5}:=
   Tr.wp (λi j C hi I N=>V G5 a5 i j hi I C N) (DR (ρ:=ρ) 1.10)
  refine gD (Xy (kat_run (Q:=λO s'=>∃p:Array Nat,arrOf O=p.map (kas_item (vs.toArray.zip vs.toArray))/\abU O=none/\s'={s with heap:=G5}/\gh vs.length p/\Up1 ρ p vs.length) (E:=E)
   rfl 1.10 b6 (λp' O s' a1 a2 a3 a4=>⟨p',a2,a3,a4⟩) b9) ?_ λ_ _ e=>e)
  rintro⟨⟨⟩,O⟩ s' ⟨p,b0,Z,rfl,F,hu⟩;exact fin O p b0 Z F hu
end
theorem MK{a b:Str}(h1:¬a.cps.toList<b.cps.toList)(h2:¬b.cps.toList<a.cps.toList):a=b:=by
 have:=strKind.total a.cps.toList b.cps.toList (by simpa using h1) (by simpa using h2);cases a;cases b;congr;exact Array.toList_inj.mp this
theorem yq(a:Str):¬a.cps.toList<a.cps.toList:=List.lt_irrefl _
theorem jA:∀a:List Str,ltS a a=false
 |[]=>rfl
 |x::r=>by simp[ltS,jA r]
theorem m8:∀a b:List Str,ltS a b=false->ltS b a=false->a=b
 |[],[],_,_=>rfl
 |[],_::_,h,_=>by simp[ltS]at h
 |_::_,[],_,h=>by simp[ltS]at h
 |x::r,y::q,h1,h2=>by
  by_cases e:x=y
  .subst e
   simp only[ltS,WM]at h1 h2;rw[m8 r q h1 h2]
  .simp only[ltS,Wo e,Wo (WW e),decide_eq_false_iff_not]at h1 h2
   exact absurd (MK h1 h2) e
theorem nu:∀a b c:List Str,ltS a b=true->ltS b c=true->ltS a c=true
 |[],[],_,h,_=>by simp[ltS]at h
 |_::_,[],_,h,_=>by simp[ltS]at h
 |[],_::_,[],_,h=>by simp[ltS]at h
 |[],_::_,_::_,_,_=>rfl
 |_::_,_::_,[],_,h=>by simp[ltS]at h
 |x::r,y::q,z::p,h1,h2=>by
  by_cases e:x=y
  .subst e
   simp only[ltS,WM]at h1;by_cases e2:x=z
   .subst e2
    simp only[ltS,WM]at h2⊢;exact nu r q p h1 h2
   .simp only[ltS,Wo e2]at h2⊢
    exact h2
  .simp only[ltS,Wo e,decide_eq_true_eq]at h1
   by_cases e2:y=z
   .subst e2
    simp only[ltS,Wo e,decide_eq_true_eq];exact h1
   .simp only[ltS,Wo e2,decide_eq_true_eq]at h2
    have Z:=List.lt_trans h1 h2;have N:x≠z:=λB=>by subst B;exact yq _ Z
    simp only[ltS,Wo N,decide_eq_true_eq];exact Z
theorem F_{a b c:List Str}(h:ltS a c=true)(h2:ltS b c=false):ltS a b=true:=by
 cases e:ltS a b with
 |true=>rfl
 |false=>
  cases e2:ltS b a with
  |true=>rw[nu b a c e2 h]at h2;cases h2
  |false=>rw[m8 a b e e2,h2]at h;cases h
def below(ks:List (List Str))(a:List Str):Nat:=ks.countP λy=>ltS y a
theorem qO{α:Type}{p q:α->Bool}:∀{l:List α},(∀x∈l,p x=true->q x=true)->l.countP p<=l.countP q
 |[],_=>by simp
 |x::r,h=>by
  have O:=qO (l:=r) λy V=>h y (by simp[V]);rw[aaQ,aaQ];cases e:p x with
  |false=>simp;omega
  |true=>simp[h x (by simp) e,O]
theorem wX{α:Type}{p q:α->Bool}{z:α}:∀{l:List α},(∀x∈l,p x=true->q x=true)->z∈l->q z=true->p z=false->l.countP p<l.countP q
 |[],_,h,_,_=>by cases h
 |x::r,h,O,hq,hp=>by
  rw[aaQ,aaQ];have B:=qO (l:=r) λy V=>h y (by simp[V]);rcases V5.mp O with rfl|O
  .simp[hq,hp];omega
  .have ih:=wX (l:=r) (λy V=>h y (by simp[V])) O hq hp
   cases e:p x with
   |false=>simp;omega
   |true=>simp[h x (by simp) e];omega
theorem mO{ks:List (List Str)}{a b:List Str}(Y:a∈ks):ltS a b=decide ((below ks a:Int)<below ks b):=by
 cases e:ltS a b with
 |true=>
  have:=wX (l:=ks) (p:=λy=>ltS y a) (q:=λy=>ltS y b) (λy _ V=>nu y a b V e) Y e (jA a);exact(XJ (by unfold below;omega)).symm
 |false=>
  have:=qO (l:=ks) (p:=λy=>ltS y b) (q:=λy=>ltS y a) λy _ V=>F_ V e;exact(WQ (by unfold below;omega)).symm
def Ro(K:V8)(H:Hp)(ys:List V)(ks:List (List Str)):Prop:=ks.length=ys.length/\((∀(i:Nat)(k:List Str),ks[i]? =some k->∃x,k=[x]/\ys[i]? =some (.str x))∨∀(i:Nat)(k:List Str),ks[i]? =some k->∃b,ys[i]? =some (.ref b)/\SqL K H b (k.map V.str))
def Kz(K:V8)(A:Xk):List V->Hp->VK->Prop:=λxs H Q=>∃a ys ks,xs=[.ref a]/\SqL K H a ys/\ys.length<64/\A.units+2<cLine/\Ro K H ys ks/\
 ∀p:List Nat,Xp p (WD ys.length)->YG (λi j=>ltS (ks.getD j []) (ks.getD i [])=false) p->∀l,H l=none->Q (.ref l) (upd H l (.lst (p.map λi=>ys.getD i .non)))
theorem zH{ys:List V}{us:List Value}(r:Vals ys us)(i:Nat):(ys[i]? =none/\us[i]? =none)∨∃y u,ys[i]? =some y/\us[i]? =some u/\RelV y u:=by
 cases e:ys[i]? with
 |none=>
  have:=r.length;exact .inl ⟨rfl,by rw[Yx]at e⊢;omega⟩
 |some y=>
  obtain⟨u,h1,h2⟩:=r.get e;exact .inr ⟨y,u,rfl,h1,h2⟩
theorem Lj{xs:List Str}{us:List Value}(r:Vals (xs.map V.str) us):StA us.toArray xs:=λi=>by
 rcases zH r i with⟨h1,h2⟩|⟨y,u,h1,h2,Z⟩
 .exact .inl ⟨by simpa using h2,by simpa using h1⟩
 .rw[List.getElem?_map]at h1
  cases e:xs[i]? with
  |none=>rw[e]at h1;cases h1
  |some x=>
   rw[e]at h1;cases h1;obtain⟨t,rfl⟩:=Z;exact .inr ⟨x,t,by simpa using h2,rfl⟩
theorem nY{ys:List V}{us:List Value}(r:Vals ys us):∀p:List Nat,(∀i∈p,i<ys.length)->Vals (p.map λi=>ys.getD i .non) (p.map λi=>us.getD i Wq)
 |[],_=>.nil
 |i::p,h=>by
  refine .cons ?_ (nY r p λj I=>h j (by simp[I]));rcases zH r i with⟨h1,h2⟩|⟨y,u,h1,h2,Z⟩
  .have:=h i (by simp)
   rw[Yx]at h1;omega
  .show RelV (ys.getD i .non) (us.getD i Wq)
   rw[Xo,Xo,h1,h2];exact Z
section
variable{X:Cx}
theorem xF:cY X (.builtin "sorted") (Kz X.K X.A):=by
 show 6;obtain⟨a,ys,ks,rfl,hq,Y,hu,⟨b4,a0⟩,q⟩:=h;obtain⟨u,rfl,ru⟩:=vals1 r;cases ru;obtain⟨B,J,pl,O⟩:=I.list hq;have a5:=J.length;have b6:64<=V6:=by decide
 have a3:∀i,i<B.length->∃k,ks[i]? =some k/\ks.getD i []=k/\k∈ks:=λi hi=>by
  have:i<ks.length:=by omega
  exact⟨ks[i],by simp[this],by simp[this],YK _⟩
 have fin:∀p:Array Nat,gh B.length p->Up1 (λi=>(below ks (ks.getD i []):Int)) p B.length->∃v H',Inv X pins σ H' {s with heap:=sortedAll s.heap B (ZW (p.toList.map λi=>B.getD i Wq))}/\RelV v (.ref (s.heap.objs.size+1))/\Q v H':=λp F a4=>by
  have b8:=F.size;have a7:∀i∈p.toList,i<ys.length:=λi hi=>by rw[a5];exact XS.mp (abF F |>.mp hi)
  obtain⟨c,ec⟩:=sortedAll_at s.heap B (ZW (p.toList.map λi=>B.getD i Wq));refine⟨.ref (s.heap.objs.size+1),upd H (s.heap.objs.size+1) (.lst (p.toList.map λi=>ys.getD i .non)),I.laid (t':=s.toks) (λb o e=>sortedAll_old e) (aaE _) ?_,rfl,q p.toList (by rw[a5];exact F) ?_ _ (I.hok.fresh (aaE _))⟩
  .refine⟨by rw[Wc];simp only[Yc];omega,p.toList.map λi=>B.getD i Wq,c,nY J _ a7,?_⟩
   rw[ec]
  .rw[Zc]
   intro i j hi hj b7;have b0:j<p.size:=by simpa using hj
   have b3:i<p.size:=by simpa using hi
   have:=a4 i j 1.10 1.10;unfold rk at this;rw[X5,X5,getElem?_pos p i b3,getElem?_pos p j b0,aaR,aaR]at this;obtain⟨k,_,e2,e3⟩:=a3 p[j] (by rw[←a5];exact a7 _ (by simp));rw[Z2,Z2,mO (by rw[e2];exact e3)];exact WQ (by simp only at this;omega)
 rcases a0 with a0|a0
 .refine rG (T:=.type "str") (ρ:=λi=>(below ks (ks.getD i []):Int)) pl.isList 1.10 (λh' ext v hv=>?_) rfl rfl (λh' ext i j hi hj Q' a6=>?_) λp F a4=>fin p F a4
  .obtain⟨i,hi,rfl⟩:=XR hv
   obtain⟨k,e1,_,_⟩:=a3 i hi;obtain⟨x,_,e3⟩:=a0 i k e1;obtain⟨u,h1,h2⟩:=J.get e3;rw[Wh hi]at h1;cases h1;obtain⟨t,e⟩:=h2;rw[e];exact acB rfl
  .obtain⟨k1,e1,g1,m1⟩:=a3 i hi
   obtain⟨k2,e2,g2,m2⟩:=a3 j hj;obtain⟨x,rfl,x3⟩:=a0 i k1 e1;obtain⟨y,rfl,y3⟩:=a0 j k2 e2;obtain⟨u1,V,t1,rfl⟩:=J.get x3;obtain⟨u2,a2,t2,rfl⟩:=J.get y3;rw[Xo,Xo,V,a2];refine oneLt_str ?_;rw[g1,g2,←mO m1]at a6;have e:ltS [x] [y]=decide (x.cps.toList<y.cps.toList):=by
    by_cases z:x=y
    .subst z;simp[ltS,yq]
    .simp[ltS,z]
   rwa[e]at a6
 .refine rG (T:=.type "list") (ρ:=λi=>(below ks (ks.getD i []):Int)) pl.isList 1.10 (λh' ext v hv=>?_) rfl rfl (λh' ext i j hi hj Q' a6=>?_) λp F a4=>fin p F a4
  .obtain⟨i,hi,rfl⟩:=XR hv
   obtain⟨k,e1,_,_⟩:=a3 i hi;obtain⟨b,e3,U⟩:=a0 i k e1;obtain⟨u,h1,h2⟩:=J.get e3;rw[Wh hi]at h1;cases h1;obtain⟨b5,_,pb,_⟩:=I.list U;obtain⟨o,N,Z,_⟩:=pb.isList;rw[show B[i]=Wb b from h2,←Z];exact(PySem.W.Looks.ld (ext _ _ N)).andThen .now
  .obtain⟨k1,e1,g1,m1⟩:=a3 i hi
   obtain⟨k2,e2,g2,m2⟩:=a3 j hj;obtain⟨b1,x3,x4⟩:=a0 i k1 e1;obtain⟨b2,y3,y4⟩:=a0 j k2 e2;obtain⟨u1,V,t1⟩:=J.get x3;obtain⟨u2,a2,t2⟩:=J.get y3;obtain⟨a8,r1,p1,_⟩:=I.list x4;obtain⟨a9,r2,p2,_⟩:=I.list y4;rw[Xo,Xo,V,a2];rw[show u1=Wb b1 from t1,show u2=Wb b2 from t2];have x1:Heap.IsList h' b1 a8.toArray:=by obtain⟨o,N,z⟩:=p1.isList;exact⟨o,ext _ _ N,z⟩
   have x2:Heap.IsList h' b2 a9.toArray:=by obtain⟨o,N,z⟩:=p2.isList;exact⟨o,ext _ _ N,z⟩
   have l1:=r1.length;have l2:=r2.length;rw[Wc]at l1 l2;refine BW (xs:=k1) (ys:=k2) x1 x2 (Lj r1) (Lj r2) (by rw[List.size_toArray];omega) (by rw[List.size_toArray];omega) (by show X.A.units+1+1<cLine;omega) ?_;rw[g1,g2,←mO m1]at a6;exact a6
end
def inL(k:List Str):List (List Str)->List (List Str)
 |[]=>[k]
 |a::r=>if ltS a k=true then a::inL k r else k::a::r
def nA(l:List (List Str)):List (List Str):=l.foldr inL []
abbrev RiL(l:List (List Str)):Prop:=YG (λa b=>ltS b a=false) l
theorem uN(k:List Str):∀l,Xp (inL k l) (k::l)
 |[]=>.refl _
 |a::r=>by
  unfold inL;split
  .exact((uN k r).cons a).trans (.swap k a r)
  .exact .refl _
theorem eF:∀l,Xp (nA l) l
 |[]=>.refl _
 |a::r=>(uN a _).trans ((eF r).cons a)
theorem JC{k:List Str}:∀{l},RiL l->RiL (inL k l)
 |[],_=>by simp[inL]
 |a::r,h=>by
  obtain⟨h1,h2⟩:=YW.mp h;unfold inL;split
  .rename_i c
   refine YW.mpr ⟨λb U=>?_,JC h2⟩;rcases V5.mp ((uN k r).mem_iff.mp U)with rfl|U
   .cases e:ltS b a with
    |false=>rfl
    |true=>have:=nu _ _ _ c e;rw[jA]at this;cases this
   .exact h1 b U
  .rename_i c
   have c:ltS a k=false:=by simpa using c
   refine YW.mpr ⟨λb U=>?_,h⟩;rcases V5.mp U with rfl|U
   .exact c
   .cases e:ltS b k with
    |false=>rfl
    |true=>
     have:=F_ e c;rw[h1 b U]at this;cases this
theorem jR:∀l,RiL (nA l)
 |[]=>.nil
 |a::r=>JC (jR r)
theorem oN:∀{l m:List (List Str)},Xp l m->RiL l->RiL m->l=m
 |[],m,h,_,_=>h.nil_eq
 |a::r,[],h,_,_=>by have:=h.length_eq;simp at this
 |a::r,b::q,h,h1,h2=>by
  obtain⟨x1,N⟩:=YW.mp h1;obtain⟨F,B⟩:=YW.mp h2;have e:a=b:=by
   rcases V5.mp (h.mem_iff.mp (WR (a:=a) (l:=r)))with z|z
   .exact z
   .rcases V5.mp (h.mem_iff.mpr (WR (a:=b) (l:=q)))with w|w
    .exact w.symm
    .exact m8 a b (F a z) (x1 b w)
  subst e;rw[oN (List.Perm.cons_inv h) N B]
def strsOf:List D->Option (List Str)
 |[]=>some []
 |.str x::r=>(strsOf r).map λt=>x::t
 |_=>none
def Bh:List D->Option (List (List Str))
 |[]=>some []
 |.str x::r=>(Bh r).map λt=>[x]::t
 |_=>none
def lstK(m:Mk):List D->Option (List (List Str))
 |[]=>some []
 |.lst m' es::r=>if m'=m then(strsOf es).bind λk=>(lstK m r).map λt=>k::t else none
 |_=>none
def fS(k:List Str):D:=.str (k.headD "")
def fL(m:Mk)(k:List Str):D:=.lst m (k.map D.str)
theorem qm:∀{ds:List D}{k:List Str},strsOf ds=some k->ds=k.map D.str
 |[],k,h=>by cases h;rfl
 |d::r,k,h=>by
  cases d<;>simp only[strsOf]at h<;>try cases h
  cases e:strsOf r with
  |none=>rw[e]at h;cases h
  |some t=>rw[e]at h;cases h;rw[qm e];rfl
theorem Fb:∀{ds:List D}{ks:List (List Str)},Bh ds=some ks->ds=ks.map fS/\∀k∈ks,∃x,k=[x]
 |[],k,h=>by cases h;exact⟨rfl,by simp⟩
 |d::r,k,h=>by
  cases d<;>simp only[Bh]at h<;>try cases h
  cases e:Bh r with
  |none=>rw[e]at h;cases h
  |some t=>
   rw[e]at h;cases h;obtain⟨h1,h2⟩:=Fb e;exact⟨by rw[h1];rfl,λk B=>(V5.mp B).elim (λz=>⟨_,z⟩) (h2 k)⟩
theorem DK{m:Mk}:∀{ds:List D}{ks:List (List Str)},lstK m ds=some ks->ds=ks.map (fL m)
 |[],k,h=>by cases h;rfl
 |d::r,k,h=>by
  cases d<;>simp only[lstK]at h<;>try cases h
  split at h
  .rename_i hm
   subst hm;rename_i es;cases e1:strsOf es with
   |none=>rw[e1]at h;cases h
   |some V=>
    rw[e1]at h;cases e:lstK ‹_› r with
    |none=>simp[e]at h
    |some t=>
     have h:V::t=k:=by simpa[e]using h
     subst h;rw[DK e,qm e1];rfl
  .cases h
def jf:List D->Option D
 |[.lst _ ds]=>if ds.length<64 then(match Bh ds with
  |some ks=>some (.lst .own ((nA ks).map fS))
  |none=>match ds with
   |.lst m _::_=>(lstK m ds).map λks=>.lst .own ((nA ks).map (fL m))
   |_=>none)else none
 |_=>none
section
variable{ι:Type}{X:ι->Cx}{G:Gc}{ob:Nat->Bool}
theorem aD.perm{H:Hp}{W:Wn}{zs N:List (D×V)}(h:Xp zs N):∀{M:List Addr},aD G H W (zs.map (·.1)) (zs.map (·.2)) M->∃M',Xp M' M/\aD G H W (N.map (·.1)) (N.map (·.2)) M':=by
 induction h with
 |nil=>exact λ{M} r=>⟨M,.refl _,r⟩
 |cons x _ O=>
  intro M r;rw[V7,V7]at r;obtain⟨y,ys,A,B,e,rfl,U,Z⟩:=r.inv;cases e;obtain⟨J,p,F⟩:=O Z;exact⟨A++J,p.append_left A,.cons U F⟩
 |swap x y l=>
  intro M r;simp only[V7]at r;obtain⟨v,vs,A,B,e,rfl,U,Z⟩:=r.inv;cases e;obtain⟨v,vs,C,E,e,rfl,F,I⟩:=Z.inv;cases e;refine⟨C++(A++E),?_,.cons F (.cons U I)⟩;rw[←YD,←YD];exact Yv.append_right E
 |trans _ _ Y a0=>
  intro M r;obtain⟨M1,p1,U⟩:=Y r;obtain⟨q,p2,Z⟩:=a0 U;exact⟨q,p2.trans p1,Z⟩
theorem nT{α:Type}(l:List α)(z:α):(WD l.length).map (λi=>l.getD i z)=l:=by
 apply List.ext_getElem
 .simp
 .intro i h1 h2
  simp[h2]
theorem J8{α β:Type}{f:α->β}{l:List α}{z:α}{y:β}{p:List Nat}(h:∀i∈p,i<l.length):p.map (λi=>(l.map f).getD i y)=(p.map λi=>l.getD i z).map f:=by
 rw[V9];refine Wz λi hi=>?_;have:=h i hi;simp[this]
theorem uC{H:Hp}{W:Wn}{f:List Str->D}{ks:List (List Str)}{ys:List V}{M:List Addr}{p:List Nat}(r:aD G H W (ks.map f) ys M)(F:Xp p (WD ys.length))(B:YG (λi j=>ltS (ks.getD j []) (ks.getD i [])=false) p):∃M',Xp M' M/\aD G H W ((nA ks).map f) (p.map λi=>ys.getD i .non) M':=by
 have Y:=r.length;rw[Wc]at Y;have O:∀i∈p,i<ks.length:=λi hi=>by rw[Y];exact XS.mp (F.mem_iff.mp hi)
 have e1:p.map (λi=>ks.getD i [])=nA ks:=by
  refine oN ?_ (ZP.mpr B) (jR ks);have:Xp (p.map λi=>ks.getD i []) ((WD ks.length).map λi=>ks.getD i []):=by rw[Y];exact F.map _
  rw[nT]at this;exact this.trans (eF ks).symm
 let g:Nat->D×V:=λi=>((ks.map f).getD i .non,ys.getD i .non)
 have q:((WD ys.length).map g).map (·.1)=ks.map f:=by
  rw[V9,←Y];have:=nT (ks.map f) D.non;rwa[Wc]at this
 have N:((WD ys.length).map g).map (·.2)=ys:=by rw[V9];exact nT ys V.non
 obtain⟨M',p1,U⟩:=aD.perm (F.map g).symm (M:=M) (by rw[q,N];exact r);refine⟨M',p1,?_⟩;rw[V9,V9]at U;rw[←e1,←J8 (y:=D.non) O];exact U
theorem nR{H:Hp}{W:Wn}{ds:List D}{xs:List V}{M Z:List Addr}{Q:VK}{p:Addr}(O:aD G H W ds xs M)(s:∀a∈M,a∈Z)(nd:M.Nodup)(hn:∀a∈Z,W.tmp a)(F:H p=none)(q:Done G H W Z (.lst .own ds) Q):Q (.ref p) (upd H p (.lst xs)):=by
 have I:Same H (upd H p (.lst xs)):=Same.new F;have B:p∉M:=λz=>by obtain⟨o,N,_⟩:=O.dom p z;rw[F]at N;cases N
 refine q (.ref p) _ (p::M) I ?_ (λa Y=>(V5.mp Y).elim (λz=>.inr (by rw[z];exact F)) λz=>.inl (s a z)) (List.nodup_cons.mpr ⟨B,nd⟩);rw[Rep];exact⟨p,xs,M,rfl,O.up ⟨I,λb u U f=>⟨λz=>z.elim (λz=>(V5.mp z).elim (λz=>by rw[z,F]at U;cases U) λz=>f.1 (hn b (s b z)).1) λz=>f.1 z.1,f.2⟩,λ_ _ _ f=>f⟩,aM,rfl⟩
theorem KD{H:Hp}{W:Wn}{ks:List (List Str)}{ys:List V}{M:List Addr}(r:aD G H W (ks.map fS) ys M)(J:∀k∈ks,∃x,k=[x]):Ro G.K H ys ks:=by
 refine⟨by have:=r.length;rwa[Wc]at this,.inl λi k e=>?_⟩;obtain⟨x,rfl⟩:=J k (Wu e);obtain⟨y,N,h1,h2,_⟩:=r.get (j:=i) (d:=fS [x]) (by rw[List.getElem?_map,e];rfl);exact⟨x,rfl,by rw[h1,(bQ h2).1];rfl⟩
theorem ue{H:Hp}{W:Wn}:∀{k:List Str}{xs:List V}{M:List Addr},aD G H W (k.map D.str) xs M->xs=k.map V.str
 |[],xs,M,r=>r.inv0.1
 |x::k,xs,M,r=>by
  obtain⟨y,ys,A,B,rfl,_,U,Z⟩:=r.inv;rw[(bQ U).1,ue Z];rfl
theorem Lf{H:Hp}{W:Wn}{m:Mk}{ks:List (List Str)}{ys:List V}{M:List Addr}(r:aD G H W (ks.map (fL m)) ys M):Ro G.K H ys ks:=by
 refine⟨by have:=r.length;rwa[Wc]at this,.inr λi k e=>?_⟩;obtain⟨y,N,h1,h2,_⟩:=r.get (j:=i) (d:=fL m k) (by rw[List.getElem?_map,e];rfl);unfold fL at h2;rw[Rep]at h2;obtain⟨b,xs,M1,rfl,Z,U⟩:=h2;rw[ue Z]at U;exact⟨b,h1,U.sq⟩
theorem Bu(A:Xk)(V:∀c,(X c).A=A)(hu:A.units+2<cLine)(I:∀c,(X c).K=G.K:=by intro _;rfl):CaB X G (.builtin "sorted") jf:=⟨Kz G.K A,λc=>by rw[←I c,←V c];exact xF,λds d e xs H W Z r nd hn w Q q=>by
 unfold jf at e;split at e
 .split at e
  .rename_i hl
   show 7;rw[Rep]at rx;obtain⟨a,ys,M,rfl,O,hs⟩:=rx;have Y:=O.length;split at e
   .rename_i ks hks
    cases e;obtain⟨h1,h2⟩:=Fb hks;rw[h1]at O;refine⟨a,ys,ks,rfl,hs.sq,by omega,hu,KD O h2,λp F B l N=>?_⟩;obtain⟨M',p1,J⟩:=uC O F B;exact nR J (λb U=>hs.sub.subset (p1.mem_iff.mp U)) (p1.nodup_iff.mpr (hs.sub.nodup nd)) hn N q
   .split at e
    .rename_i m es rr hks
     cases e2:lstK m (D.lst m es::rr)with
     |none=>rw[e2]at e;cases e
     |some ks=>
      rw[e2]at e;cases e;rw[DK e2]at O;refine⟨a,ys,ks,rfl,hs.sq,by omega,hu,Lf O,λp F B l N=>?_⟩;obtain⟨M',p1,J⟩:=uC O F B;exact nR J (λb U=>hs.sub.subset (p1.mem_iff.mp U)) (p1.nodup_iff.mpr (hs.sub.nodup nd)) hn N q
    .cases e
  .cases e
 .cases e⟩
end
section
variable{ι:Type}{X:ι->Cx}{G:Gc}{ob:Nat->Bool}
def HS:D->Option (List D)
 |.lst _ ds=>some ds
 |.tup ds=>some ds
 |_=>none
def R0(x y:D):Option D:=(HS y).bind λds=>if gG x=true/\iW ds=true/\dp (dt x)<=60/\dpL (dtL ds)<=60 then some (.bl ((dtL ds).any λd=>eqD d (dt x)))else none
end
theorem pK{env:Env}{x:Str}:∀{names:List (Str×aaj)},(names.lookup x=some .cell∨names.lookup x=some .free)->(names.map λ(n,k)=>if(k==aaJ&&env.scope.kind== .function&&env.kindOf n==some .cell)then(n,ad9)else(n,k)).lookup x=some .cell∨(names.map λ(n,k)=>if(k==aaJ&&env.scope.kind== .function&&env.kindOf n==some .cell)then(n,ad9)else(n,k)).lookup x=some .free
 |[],h=>by simp at h
 |(n,k)::r,h=>by
  rw[V7];by_cases e:x=n
  .subst e
   have h:k= .cell∨k= .free:=by simpa using h
   dsimp only;split
   .exact .inl (by simp)
   .rcases h with h|h<;>subst h
    .exact .inl (by simp)
    .exact .inr (by simp)
  .have hne:(x==n)=false:=by simpa using e
   rw[ZZ,hne]at h;have O:=pK (env:=env) h;dsimp only;split<;>(rw[ZZ,hne];exact O)
theorem bZ.rel{F:Scope}{env:Env}{N N':List Str}{scope:Scope}{cap:List (Option Nat)}(O:bZ F N N' scope cap):bZ (adp F env) N N' scope cap:=⟨O.kind,O.nocell,O.nm,λy V B=>pK (O.free y V B),O.len,O.cap⟩
section
variable{prog:Program}{w:World}{A:Around}{E:Value->Shared->Prop}{s:Shared}
theorem Jq{vs:List Value}{ρ:Nat->Int}{T:Value}{Q:Value->V0->Prop}(b5:vs.length<64)
  (B:∀h':Heap,(∀b o,s.heap.get? b=some o->h'.get? b=some o)->∀v∈vs,Looks 1.14 h' (abk v) T) (b7:(T !=Zy "tuple")=true) (b6:(T==T)=true)
  (V:∀h':Heap,(∀b o,s.heap.get? b=some o->h'.get? b=some o)->∀i j,i<vs.length->j<vs.length->∀Q':Bool->V0->Prop,Q' (decide (ρ i<ρ j)) {s with heap:=h'}->wpAny 1.14 A.in1.in1 (oneLt' true (vs.getD i Wq) (vs.getD j Wq)) Q' (λ_ _=>False) {s with heap:=h'})
  (h:∀p:Array Nat,gh vs.length p->Up1 ρ p vs.length->∀(h':Heap)(c:Nat),(∀b o,s.heap.get? b=some o->h'.get? b=some o)->h'.get? s.heap.objs.size=some (ZX "list" (ZW (p.toList.map λi=>vs.getD i Wq)) c)->Q (.ref s.heap.objs.size) {s with heap:=h'}) :
  wpAny 1.14 A.in1 (adq vs >>=λl=>Zt [l] (call (.builtin "list.sort") [l] []) >>=λ_=>ret l) (λfin s'=>∃v,fin= .done (.ret v)/\Q v s') E s:=by
 have b2:vs.length<=V6:=by rw[ZG];omega
 refine gD (abw ?_ (by rw[ZG];omega))
 let a:=s.heap.objs.size
 let G2:Heap:=s.heap.push (ZX "list" vs.toArray 0)
 have J:G2.objs.size=s.heap.objs.size+1:=acN _ _;have a6:G2.get? a=some (ZX "list" vs.toArray 0):=Wx _ rfl;show wpAny _ _ (Zt _ _ >>=_) _ _ {s with heap:=G2};refine gD (Xf (aaL slot_list_sort ⟨_,a6,rfl⟩ entry_list_sort ?_ (args_list_sort _)));have b1:∀b o,s.heap.get? b=some o->G2.get? b=some o:=λb o q=>V2 _ q
 let G3:Heap:=G2.update a (Xh λ_=>#[])
 obtain⟨e1,b3⟩:∃e1,G3.get? a=some (ZX "list" #[] e1):=⟨_,ab8 a6 λ_=>#[]⟩;have z3:G3.objs.size=s.heap.objs.size+1:=by show(G2.update _ _).objs.size=_;rw[X8,J]
 let G5:Heap:=(G3.push (ZX "tuple" vs.toArray 0)).push (ZX "list" #[] 0)
 have b4:∀b o,G3.get? b=some o->G5.get? b=some o:=λb o q=>V2 _ (V2 _ q);have a0:∀b o,s.heap.get? b=some o->G5.get? b=some o:=λb o q=>by
  have U:b<s.heap.objs.size:=V_ q;refine b4 b o ?_;show(G2.update _ _).get? b=_;rw[aac _ _ _ _ (Wj U)];exact b1 b o q
 have b0:G5.get? a=some (ZX "list" #[] e1):=b4 a _ b3;rw[list_sort_plain];refine gD (listItems_at a6 rfl ?_);refine gD (abx a6 rfl ?_ (by rw[List.size_toArray];exact b2) (Ym _));refine gD (ack b3 rfl ?_);refine gD (acA ?_ (by show vs.length<=_;exact b2));refine gD (abw ?_ (Ym _));refine Xf ?_;show wpAny 1.14 A.in1.in1 _ _ _ {s with heap:=G5};dsimp only;have fin:∀(O:SortSt)(p:Array Nat),arrOf O=p.map (kas_item (vs.toArray.zip vs.toArray))->abU O=none->gh vs.length p->Up1 ρ p vs.length->
   wpAny 1.14 A.in1.in1 (do
    let a7:=(arrOf O).map (·.2)
    let a5:=(←seqEpoch a)!=e1
    ab1 (.ref a) λ_=>a7
    if let some e:=abU O then rule "list.sort.comparison-raised";throw e
    if a5 then rule "list.sort.modified";raiseError "ValueError" "list modified during sort"
    ret .none) (λfin s'=>∃v,fin= .done (.ret v)/\wpAny 1.14 A.in1 (ret (.ref a)) (λfin s'=>∃v,fin= .done (.ret v)/\Q v s') E s') E {s with heap:=G5}:=λO p a9 Z F hu=>by
  have a8:=kat_snds (vs:=vs) (ks:=vs) rfl a9;dsimp only;refine gD (ack b0 rfl ?_);have c0:p.size=vs.length:=F.size;refine gD (abx b0 rfl ?_ (Ym _) (by rw[a8];simp only[List.size_toArray,Wc,Yc];omega));rw[Z];simp only[bne_self_eq_false,WT,XD];refine V3 ⟨_,rfl,V3 ⟨_,rfl,?_⟩⟩;rw[a8];refine h p F hu _ _ (λb o q=>?_) (ab8 b0 _);rw[aac _ _ _ _ (Wj (V_ q))];exact a0 b o q
 by_cases Y:vs.toArray.size<2
 .rw[Wd Y,Wd Y]
  rw[List.size_toArray]at Y;refine gD (V3 ?_);rw[adT];refine gD (V3 ?_);refine fin _ (ZW (WD vs.length)) ?_ rfl (acz _) (λi j b9 I=>by rw[show i=j by omega];exact Yr _);have e:=kas_range (vs.toArray.zip vs.toArray);rw[show(vs.toArray.zip vs.toArray).size=vs.length by simp]at e;exact e.symm
 .rw[Wo Y,Wo Y]
  rw[List.size_toArray]at Y;refine gD (kas_kind 1.10 (B G5 a0) b7 b6 ?_);have b8:(kas_sort vs.length).kasWp (kas_ask prog w A.in1.in1 oneType' vs) (λp s'=>s'={s with heap:=G5}/\gh vs.length p/\Up1 ρ p vs.length) {s with heap:=G5}:=
   Tr.wp (λi j C hi I N=>V G5 a0 i j hi I C N) (DR (ρ:=ρ) 1.10)
  refine gD (Xy (kat_run (Q:=λO s'=>∃p:Array Nat,arrOf O=p.map (kas_item (vs.toArray.zip vs.toArray))/\abU O=none/\s'={s with heap:=G5}/\gh vs.length p/\Up1 ρ p vs.length) (E:=E)
   rfl 1.10 b5 (λp' O s' a1 a2 a3 a4=>⟨p',a2,a3,a4⟩) b8) ?_ λ_ _ e=>e)
  rintro⟨⟨⟩,O⟩ s' ⟨p,a9,Z,rfl,F,hu⟩;exact fin O p a9 Z F hu
theorem xf{x:Value}{Q:Value->V0->Prop}(Z:∀q (F:List Value->V0->Prop),(∀vs O,wpAny 1.14 A.in1 (adq vs >>=λl=>Zt [l] (call (.builtin "list.sort") [l] []) >>=λ_=>ret l) (λfin s'=>∃v,fin= .done (.ret v)/\Q v s') q O->F vs O)->wpAny 1.14 A.in1 (collect x) F q s) :
  wpAny 1.14 A (call (.builtin "sorted") [x]) Q E s:=by
 refine abI kind_sorted plain_sorted entry_sorted (args_sorted1 _) ?_;unfold Builtin.«sorted»;refine gD (m:=checkCount "sorted" 1 1 _) (V3 ?_);exact gD (Z _ _ λvs O h=>h)
end
section
variable{X:Cx}
theorem wO{pins:List 1.23}{σ:L2.St}{H:Hp}{s:V0}{xs:List Str}{B:List Value}{E:Value->V0->Prop}{Q:VK}(I:Inv X pins σ H s)(rv:Vals (xs.map V.str) B)(Y:xs.length<64)
  (q:∀p:List Nat,Xp p (WD xs.length)->YG (λi j=>ltS [xs.getD j ""] [xs.getD i ""]=false) p->∀l,H l=none->Q (.ref l) (upd H l (.lst (p.map λi=>V.str (xs.getD i ""))))) :
  wpAny 1.12 X.A.in1 (adq B >>=λl=>PySem.holding [l] (call (.builtin "list.sort") [l] []) >>=λ_=>ret l) (λfin s'=>∃v,fin= .done (.ret v)/\EP X pins σ Q v s') E s:=by
 let ks:List (List Str):=xs.map λx=>[x]
 have U:xs.length=B.length:=by have:=rv.length;simpa using this
 have a7:ks.length=xs.length:=Wc _;have a8:64<=V6:=by decide
 have a0:∀i,i<B.length->ks.getD i []=[xs.getD i ""]/\[xs.getD i ""]∈ks/\∃t,B[i]? =some (.str (xs.getD i "") t):=λi hi=>by
  have J:i<xs.length:=by omega
  have e1:xs.getD i ""=xs[i]:=by simp[J]
  refine⟨by simp[ks,J],by rw[e1];exact V4.mpr ⟨xs[i],YK _,rfl⟩,?_⟩;obtain⟨u,h1,t,h2⟩:=rv.get (i:=i) (x:=V.str xs[i]) (by simp[J]);exact⟨t,by rw[h1,h2,e1]⟩
 refine Jq (T:=.type "str") (ρ:=λi=>(below ks (ks.getD i []):Int)) 1.10 (λh' ext v hv=>?_) rfl rfl (λh' ext i j hi hj Q' O=>?_) λp F a3 h' c a6 N=>?_
 .obtain⟨i,hi,rfl⟩:=XR hv
  obtain⟨_,_,t,e⟩:=a0 i hi;rw[Wh hi]at e;rw[Xj e];exact acB rfl
 .obtain⟨g1,m1,t1,a1⟩:=a0 i hi
  obtain⟨g2,m2,t2,a2⟩:=a0 j hj;rw[Xo,Xo,a1,a2];refine oneLt_str ?_;rw[g1,g2,←mO m1]at O;have e:∀x y:Str,ltS [x] [y]=decide (x.cps.toList<y.cps.toList):=λx y=>by
   by_cases z:x=y
   .subst z;simp[ltS,yq]
   .simp[ltS,z]
  rwa[e]at O
 .have hpl:∀i∈p.toList,i<B.length:=λi hi=>XS.mp (abF F |>.mp hi)
  have b0:=F.size;refine⟨.ref s.heap.objs.size,upd H s.heap.objs.size (.lst (p.toList.map λi=>V.str (xs.getD i ""))),I.laid (t':=s.toks) a6 (Wa _) ?_,rfl,q p.toList (by rw[U];exact F) ?_ _ (I.hok.fresh (Wa _))⟩
  .refine⟨by rw[Wc];simp only[Yc];omega,p.toList.map λi=>B.getD i Wq,c,?_,N⟩
   have:=nY rv p.toList λi hi=>by rw[Wc,U];exact hpl i hi
   have e2:(p.toList.map λi=>(xs.map V.str).getD i V.non)=p.toList.map λi=>V.str (xs.getD i ""):=Wz λi hi=>by
    have:i<xs.length:=by rw[U];exact hpl i hi
    simp[this]
   rw[e2]at this;exact this
  .rw[Zc]
   intro i j hi hj a9;have a4:j<p.size:=by simpa using hj
   have a5:i<p.size:=by simpa using hi
   have:=a3 i j 1.10 1.10;unfold rk at this;rw[X5,X5,getElem?_pos p i a5,getElem?_pos p j a4,aaR,aaR]at this;obtain⟨e2,e3,_⟩:=a0 p[j] (hpl _ (by simp));obtain⟨Z,_,_⟩:=a0 p[i] (hpl _ (by simp));rw[Z2,Z2,mO e3,←e2,←Z];exact WQ (by simp only at this;omega)
def K6(K:V8):List V->Hp->VK->Prop:=λxs H Q=>∃(a:Addr)(ys:List Str),xs=[.ref a]/\SqT K H a (ys.map V.str)/\ys.length<64/\
 ∀p:List Nat,Xp p (WD ys.length)->YG (λi j=>ltS [ys.getD j ""] [ys.getD i ""]=false) p->∀l,H l=none->Q (.ref l) (upd H l (.lst (p.map λi=>V.str (ys.getD i ""))))
theorem yj:cY X (.builtin "sorted") (K6 X.K):=by
 show 6;obtain⟨a,ys,rfl,hq,Y,q⟩:=h;obtain⟨u,rfl,U⟩:=vals1 r;cases U;obtain⟨B,J,⟨o,N,Z,n,hd⟩,O⟩:=I.tuple hq;have V:B.toArray.size<=V6:=by
  have h1:=J.length;have h2:64<=V6:=by decide
  simp at h1⊢;omega
 refine xf λE' F a0=>wpAny_collect_seq a (.inr rfl) N Z hd (λh' hk=>?_) V;rw[List.toList_toArray];exact a0 _ _ (wO (I.kept (t':=s.toks) hk) J Y q)
end
end Jb
namespace PySem
open PySem.W
section
variable{prog:Program}{w:World}{A:Around}{E:Value->Shared->Prop}{s:Shared}{T:String}{r d:Addr}{n:Nat}{P:Nat->Value->Prop}{OK:Heap->Prop}
theorem collect_src{Q:List Value->V0->Prop}(K:KdlSrc prog w T r d n P OK)(hh:A.handled=none)(hok:OK s.heap)(hn:n<=V6)
  (q:∀h' tk acc,(∀b o,s.heap.get? b=some o->h'.get? b=some o)->ItemsOf P acc n->Q acc.toList {s with heap:=h',toks:=tk}):wpAny 1.14 A (collect (.ref r)) Q E s:=by
 unfold collect;refine gD (wpAny_runValue (YC F.entry_proto_collect ?_));rw[X7 F.plain_proto_collect _];show wpAny _ A.in1 (adq [] >>=λl=>again (.builtin "list.__iadd__" ⟨[l,.ref r],[]⟩)) _ _ s;refine gD (XC ?_);refine V3 ⟨Y5 adB _,YC F.entry_list_iadd ?_⟩;rw[X7 adB _];show wpAny _ A.in1 (Builtin.List.listExtendWith (.ref s.heap.objs.size) (.ref r) (.ref s.heap.objs.size)) _ _ _;have Z:(s.heap.push {cls:=.type "list",data:=.seq ([]:List Value).toArray}).get? s.heap.objs.size=some {cls:=.type "list",data:=.seq #[] 0}:=Wx _ rfl;have V:=K.there _ hok;have N:∀s',(∃h' tk acc c,s'={s with heap:=h',toks:=tk}/\(∀b o,s.heap.get? b=some o->h'.get? b=some o)/\h'.get? s.heap.objs.size=some {cls:=.type "list",dict:=none,data:=.seq acc c,slots:=#[]}/\ItemsOf P acc n)->wpAny 1.14 A (match Wb s.heap.objs.size with
   |Wb a=>do
    match(←load a).data with
     |Data.seq xs _=>pure xs.toList
     |_=>aci "internal:collect"
   |_=>aci "internal:collect") Q E s':=by
  rintro s' ⟨h',tk,acc,c,rfl,B,U,Y⟩;show wpAny _ A (load s.heap.objs.size >>=_) _ _ _;refine gD (acE U ?_);exact V3 (q h' tk acc B Y)
 refine Xy (kdl_extend (A:=A) (R:=λr s'=>r= .ok (.ret (.ref s.heap.objs.size))/\∃h' tk acc c,s'={s with heap:=h',toks:=tk}/\(∀b o,s.heap.get? b=some o->h'.get? b=some o)/\h'.get? s.heap.objs.size=some {cls:=.type "list",dict:=none,data:=.seq acc c,slots:=#[]}/\ItemsOf P acc n)
  (s:={s with heap:=s.heap.push {cls:=.type "list",data:=.seq ([]:List Value).toArray}}) K hh (K.keep _ _ hok λb _ o e=>V2 _ e) s.heap.objs.size (Yq V.1) (Yq V.2) _ 0 Z (λh' tk acc c B U Y=>⟨rfl,h',tk,acc,c,rfl,λb o e=>B b o (Wj (V_ e)) (V2 _ e),U,Y⟩) hn) (λfin s' h=>?_) (λe s' h=>?_)
 .cases fin with
  |done f=>
   obtain⟨e,h⟩:=h;cases e;exact N _ h
  |again J=>exact⟨h.1,abP h.2 λr I O=>by obtain⟨rfl,h⟩:=O;exact N _ h⟩
 .exact absurd h.1 (by simp)
end
end PySem
namespace Jb
open PySem PySem.Spec PyProof.Rows L2
section
variable{X:Cx}
def IW:List V->Hp->VK->Prop:=λxs H Q=>∃(a:Addr)(kvs:List (Key×V))(ys:List Str),xs=[.ref a]/\Rd H a (.dK kvs)/\kvs.map (·.1)=ys.map WN/\ys.length<64/\
 ∀p:List Nat,Xp p (WD ys.length)->YG (λi j=>ltS [ys.getD j ""] [ys.getD i ""]=false) p->∀l,H l=none->Q (.ref l) (upd H l (.lst (p.map λi=>V.str (ys.getD i ""))))
theorem DW:∀{xs:List V}{us:List Value},us.length=xs.length->(∀(i:Nat)(x:V)(u:Value),xs[i]? =some x->us[i]? =some u->RelV x u)->Vals xs us
 |[],[],_,_=>.nil
 |[],_::_,h,_=>by simp at h
 |_::_,[],h,_=>by simp at h
 |x::xs,u::us,h,hr=>.cons (hr 0 x u rfl rfl) (DW (by simpa using h) λi y v h1 h2=>hr (i+1) y v (by simpa using h1) (by simpa using h2))
theorem y_(Z:X.calm=true):cY X (.builtin "sorted") IW:=by
 show 6;obtain⟨a,kvs,ys,rfl,N,V,hl,q⟩:=h;obtain⟨u,rfl,ru⟩:=vals1 r;cases ru;obtain⟨O,hd,vs,rel,dd⟩:=uJ I.hok N;obtain⟨ep,ob,es,g,x,d,U,r2,F⟩:=dd.dictAt;have a1:s.heap.DictAt (cg X.prog X.w) a vs ep:=⟨ob,es,g,x,d,U,r2,F⟩;have a3:kvs.length=vs.length:=rel.length;have a4:kvs.length=ys.length:=by have:=congrArg Yl V;simpa using this
 refine xf λE' Q' a2=>PySem.collect_src (PySem.W.kdl_dict (ep:=ep) (kvs:=vs) hd) (I.ok.hd Z) a1 1.10 λh' tk acc B Y=>?_;refine a2 _ _ (wO (I.kept (t':=tk) B) (DW ?_ λi x u h1 h2=>?_) hl q)
 .rw[Yc,Wc,Y.1];omega
 .rw[List.getElem?_map]at h1
  cases hi:ys[i]? with
  |none=>rw[hi]at h1;cases h1
  |some y=>
   rw[hi]at h1;cases h1;obtain⟨k,v,e1,e2⟩:=Y.2 i u (by rw[←aaT];exact h2);have a0:(kvs.map (·.1))[i]? =some (WN y):=by rw[V,List.getElem?_map,hi];rfl
   rw[List.getElem?_map]at a0;cases J:kvs[i]? with
   |none=>rw[J]at a0;cases a0
   |some kv=>
    rw[J]at a0;have ek:kv.1=WN y:=Xj a0;have:=(wZ rel J e1).1;obtain rfl:k=WN y:=by rw[←ek];exact this.symm
    have h3:vI (WN y) u=true:=e2;rcases cV h3 with⟨j,t,z,_⟩|⟨x',t,z,rfl⟩
    .cases z
    .cases z;exact⟨t,rfl⟩
end
section
variable{ι:Type}{X:ι->Cx}{G:Gc}{ob:Nat->Bool}
def HJ:List D->Option D
 |[]=>some (.dct .own [] [])
 |_=>none
theorem Ni:CaV G (λxs H Q=>∀p,H p=none->Q (.ref p) (upd H p (.dK []))) HJ:=λds d e xs H W Z r nd hn w Q q=>by
 unfold HJ at e;split at e
 .cases e
  intro p F;have I:Same H (upd H p (.dK [])):=Same.new F;refine q (.ref p) _ [p] I ?_ (λa Y=>.inr (by rw[Wl.mp Y];exact F)) (List.nodup_cons.mpr ⟨by simp,List.nodup_nil⟩);rw[Rep];exact⟨p,[],[],rfl,⟨rfl,List.nodup_nil⟩,.nil,aM,rfl⟩
 .cases e
theorem MF{pos:Pos}:PV X G ob (.Dict [] [] pos) (eAp HJ aH):=⟨_,λc=>Ie,t_ Ni BV⟩
end
def rP:List Key->Option (List Str)
 |[]=>some []
 |.inr x::r=>(rP r).map (x::·)
 |_=>none
theorem z_:∀{ks:List Key}{ys:List Str},rP ks=some ys->ks=ys.map WN
 |[],ys,h=>by cases h;rfl
 |.inr x::r,ys,h=>by
  simp only[rP,acf]at h;obtain⟨t,h1,rfl⟩:=h;rw[z_ h1];rfl
 |.inl _::r,ys,h=>by simp[rP]at h
def Lb(ys:List Str):List Str:=(nA (ys.map λy=>[y])).map λk=>k.headD ""
def cT:List D->Option D
 |[.tup ds]=>if ds.length<64 then(strsOf ds).map λys=>.lst .own ((Lb ys).map D.str)else none
 |[.dct m ks _]=>if(m== .scr)=false/\ks.length<64 then(rP ks).map λys=>.lst .own ((Lb ys).map D.str)else none
 |ds=>jf ds
section
variable{ι:Type}{X:ι->Cx}{G:Gc}{ob:Nat->Bool}
theorem A_{H:Hp}{W:Wn}:∀ys:List Str,aD G H W (ys.map D.str) (ys.map V.str) []
 |[]=>.nil
 |x::r=>aD.cons (M:=[]) (M':=[]) yC (A_ r)
theorem Du{H:Hp}{W:Wn}{Z:List Addr}{ys:List Str}{p:List Nat}{l:Addr}{Q:VK}(F:Xp p (WD ys.length))(hw:YG (λi j=>ltS [ys.getD j ""] [ys.getD i ""]=false) p)(hn:∀a∈Z,W.tmp a)(O:H l=none)(q:Done G H W Z (.lst .own ((Lb ys).map D.str)) Q):Q (.ref l) (upd H l (.lst (p.map λi=>V.str (ys.getD i "")))):=by
 have hi:∀i∈p,i<ys.length:=λi h=>XS.mp (F.mem_iff.mp h);have I:aD G H W ((ys.map λy=>[y]).map fS) (ys.map V.str) []:=by
  rw[V9];exact A_ ys
 have J:YG (λi j=>ltS ((ys.map λy=>[y]).getD j []) ((ys.map λy=>[y]).getD i [])=false) p:=by
  refine Zo (λ{i j} h1 h2 h=>?_) hw;have e:∀k,k∈p->(ys.map λy=>[y]).getD k []=[ys.getD k ""]:=λk B=>by simp[hi k B]
  rw[e i h1,e j h2];exact h
 obtain⟨M',p1,U⟩:=uC I (by rw[Wc];exact F) J;have e1:(nA (ys.map λy=>[y])).map fS=(Lb ys).map D.str:=by rw[Lb,V9];rfl
 have e2:(p.map λi=>(ys.map V.str).getD i V.non)=p.map λi=>V.str (ys.getD i ""):=Wz λi h=>by simp[hi i h]
 rw[e1,e2]at U;have N:M'=[]:=p1.eq_nil;subst N;exact nR U (λa Y=>by cases Y) List.nodup_nil hn O q
theorem jQ(A:Xk)(hA:∀c,(X c).A=A)(hu:A.units+2<cLine)(Z:∀c,(X c).calm=true)(I:∀c,(X c).K=G.K:=by intro _;rfl):CaB X G (.builtin "sorted") cT:=by
 obtain⟨U,c1,J⟩:=(Bu A hA hu I:CaB X G (.builtin "sorted") jf);refine⟨λxs H Q=>U xs H Q∨(K6 G.K xs H Q∨IW xs H Q),λc=>cY.or (c1 c) (cY.or (by rw[←I c];exact yj) (y_ (Z c))),λds d e xs H W L0 r nd hn w Q q=>?_⟩;unfold cT at e;split at e
 .split at e
  .rename_i ds hl
   cases hs:strsOf ds with
   |none=>rw[hs]at e;cases e
   |some ys=>
    rw[hs]at e;cases e;rw[qm hs]at r hl;show 7;rw[Rep]at rx;obtain⟨a,vs,rfl,ht,O⟩:=rx;rw[ue O]at ht;exact .inr (.inl ⟨a,ys,rfl,SqT.of ht,by simpa using hl,λp F Y l N=>Du F Y hn N q⟩)
  .cases e
 .split at e
  .rename_i m ks es hm
   cases hs:rP ks with
   |none=>rw[hs]at e;cases e
   |some ys=>
    rw[hs]at e;cases e;show 7;rw[Rep]at rx;obtain⟨a,kvs,M,rfl,⟨h1,h2⟩,O,V⟩:=rx;have B:=z_ hs;exact .inr (.inr ⟨a,kvs,ys,rfl,.inl (V.at2 hm.1),h1.trans B,by have:=hm.2;rw[B]at this;simpa using this,λp F Y l N=>Du F Y hn N q⟩)
  .cases e
 .exact .inl (J ds d e xs H W L0 r nd hn w Q q)
end
def jk(tg:D->En->Option En)(c:En->Option Bool)(fk q:En->Option D)(ρ0:En):List D->Option (List (Key×D))
 |[]=>some []
 |d::r=>(tg d ρ0).bind λρ1=>(c ρ1).bind λb=>if b=true then((fk ρ1).bind fG).bind λk=>(q ρ1).bind λx=>(jk tg c fk q ρ0 r).map λt=>(k,x)::t else jk tg c fk q ρ0 r
def ut(es:List (Key×D)):Option D:=if(es.map (·.1)).Nodup then some (.dct .own (es.map (·.1)) (es.map (·.2)))else none
def qj(cap:List (Option Nat))(it:En->Option (Bool×List D))(tg:D->En->Option En)(c:En->Option Bool)(fk q:En->Option D):En->Option D:=λρ=>(it ρ).bind λp=>if p.2.length<=1000000 then(jk tg c fk q (iK cap ρ) p.2).bind ut else none
theorem xu{ks:List Key}{k:Key}(h:k∉ks):fU ks k=none:=Ye.mpr λx J=>by
 have:x≠k:=λz=>h (z▸J);simpa using this
theorem DY{G:Gc}{H:Hp}{W:Wn}{d:D}{k:Key}{x:V}{L:List Addr}(e:fG d=some k)(r:Rep G H W d x L):x=kV k/\L=[]:=by
 cases d with
 |int i=>cases e;rw[Rep]at r;exact r
 |str i=>cases e;rw[Rep]at r;exact r
 |_=>cases e
section
variable{G:Gc}{ob own:Nat->Bool}
theorem zG{cap:List (Option Nat)}{wi:TI}{g:TG}{tt:TT}{tk te:TE}{it:En->Option (Bool×List D)}{tg:D->En->Option En}{c:En->Option Bool}{fk e:En->Option D}(b2:∀i:Nat,own i=true->cap[i]?≠none->cap[i]? =some none)(hi:RfI G ob wi it)(hg:Gn G (obC cap ob) own g tg)(ht:RfT G (obC cap ob) tt c)(B:RfE G (obC cap ob) tk fk)(V:RfE G (obC cap ob) te e):RfE G ob (CW cap wi g tt tk te) (qj cap it tg c fk e):=λρ d ee σ H W rl w Q q=>by
 unfold qj at ee;cases h1:it ρ with
 |none=>simp[h1]at ee
 |some p=>
  obtain⟨b,items⟩:=p;rw[h1]at ee;simp only[V1]at ee;split at ee
  .rename_i hlen
   cases h2:jk tg c fk e (iK cap ρ) items with
   |none=>simp[h2]at ee
   |some tot=>
    rw[h2]at ee;simp only[V1,ut]at ee;split at ee
    .rename_i hnd
     cases ee;refine hi ρ b items h1 σ H W rl w _ λJ H1 O wk=>?_;refine⟨λi m ys H2=>i+m=items.length/\ys.length<=i/\∃acc L rest,Same H1 H2/\List.map (·.1) ys=List.map (·.1) acc/\aD G H2 (W.add L) (List.map (·.2) acc) (List.map (·.2) ys) L/\(∀a∈L,H1 a=none)/\L.Nodup/\WOk H2 (W.add L)/\jk tg c fk e (iK cap ρ) (items.drop i)=some rest/\acc++rest=tot,⟨items.length,by omega,by simp,[],[],tot,Same.refl _,rfl,.nil,by simp,List.nodup_nil,?_,h2,rfl⟩,?_⟩
     .rw[p_];exact w.up O
     rintro i m ys H2 ⟨c3,c1,acc,L,rest,s2,a5,ra,fa,na,wa,I,a0⟩;have a2:Up H1 H2 W (W.add L):=Up.add s2 fa
     .by_cases hil:i<items.length
      .have hdr:=(XQ hil).symm
       rw[hdr,jk]at I;refine .inr ⟨wk.go i items[i] (by simp[hil]) H2 _ (LtB.up a2),by have:=six hlen;omega,λa3 H'=>(i+1)+(m-1)=items.length/\a3.length<=i+1/\∃acc L rest,Same H1 H'/\List.map (·.1) a3=List.map (·.1) acc/\aD G H' (W.add L) (List.map (·.2) acc) (List.map (·.2) a3) L/\(∀a∈L,H1 a=none)/\L.Nodup/\WOk H' (W.add L)/\jk tg c fk e (iK cap ρ) (items.drop (i+1))=some rest/\acc++rest=tot,λa3 H' h=>⟨m-1,by omega,h⟩,λx H3 hy=>?_⟩;obtain⟨s3,rx⟩:=wk.yld i items[i] (by simp[hil]) H2 _ (LtB.up a2) x H3 hy;cases Z:tg items[i] (iK cap ρ)with
       |none=>simp[Z]at I
       |some ρ1=>
        rw[Z]at I;simp only[V1]at I;have c0:Rel G H3 (W.add L) (obC cap ob) (iK cap ρ) (eV cap σ):=(rl.cap).up ((Up.same O).trans (a2.trans (Up.same s3)));have b4:=ra.up (Up.same s3 (W:=W.add L));have b5:WOk H3 (W.add L):=wa.up s3;refine hg items[i] _ ρ1 Z x _ H3 (W.add L) rx c0 (by simp[iK,eV]) _ λσ2 b1 c2 k4=>⟨BZ b2 k4,?_⟩;cases h4:c ρ1 with
        |none=>simp[h4]at I
        |some bb=>
         rw[h4]at I;simp only[V1]at I;refine ht ρ1 bb h4 σ2 H3 (W.add L) b1 b5 _ λH4 s4=>?_;have b0:=b1.up (Up.same s4);have a7:=b5.up s4;cases bb with
         |false=>
          simp only[WT,XD]at I;exact vU ⟨by omega,by omega,acc,L,rest,((s2.trans s3).trans s4),a5,b4.up (Up.same s4),fa,na,a7,I,a0⟩
         |true=>
          simp only[WM]at I;cases h7:fk ρ1 with
          |none=>simp[h7]at I
          |some dk=>
          cases h8:fG dk with
          |none=>simp[h7,h8]at I
          |some k=>
          cases h5:e ρ1 with
          |none=>simp[h5,h7,h8]at I
          |some y=>
           cases h6:jk tg c fk e (iK cap ρ) (items.drop (i+1))with
           |none=>simp[h5,h6,h7,h8]at I
           |some a1=>
            obtain rfl:(k,y)::a1=rest:=by simpa[h5,h6,h7,h8]using I
            refine qw (B ρ1 dk h7 σ2 H4 (W.add L) b0 a7 _ λxk a9 c5 a4 b7 c6 c4=>?_);obtain⟨rfl,rfl⟩:=DY h8 b7;refine⟨k,rfl,?_⟩;have b6:=b0.up (Up.same a4);have b9:=a7.up a4;have a8:Same H1 a9:=((s2.trans s3).trans s4).trans a4;have a6:=(b4.up (Up.same s4 (W:=W.add L))).up (Up.same a4 (W:=W.add L));refine V ρ1 y h5 σ2 a9 (W.add L) b6 b9 _ λv H5 M s5 ry fy ny=>?_;have fM:∀a∈M,H1 a=none:=λa Y=>a8.none' (fy a Y);have b8:∀a∈L,a∉M:=λa h1 h2=>by
             obtain⟨o,N,_⟩:=a6.dom a h1;rw[fy a h2]at N;cases N
            have u5:Up a9 H5 (W.add L) (W.add (L++M)):=⟨s5,λb u U f=>⟨λz=>z.elim (λz=>(qb.mp z).elim (λz=>f.1 (.inl z)) λz=>by rw[fy b z]at U;cases U) λz=>f.1 (.inr z),f.2⟩,λ_ _ _ f=>f⟩;have u6:Up H5 H5 ((W.add L).add M) (W.add (L++M)):=⟨Same.refl _,λb u U f=>⟨λz=>by
             rcases z with z|z
             .exact(qb.mp z).elim (λz=>f.1 (.inr (.inl z))) λz=>f.1 (.inl z)
             .exact f.1 (.inr (.inr z)),f.2⟩,λ_ _ _ f=>f⟩
            have b3:fU (ys.map (·.1)) k=none:=xu λz=>by
             rw[a5]at z;rw[←a0,Ww]at hnd;exact(Wi.mp hnd).2.2 k z k (by simp) rfl
            rw[lQ b3];refine⟨by omega,by simp;omega,acc++[(k,y)],L++M,a1,a8.trans s5,by simp[a5],?_,λa Y=>(qb.mp Y).elim (fa a) (fM a),cP na ny b8,?_,rfl,by rw[←a0];simp⟩
            .rw[Ww,Ww];exact(a6.up u5).append (.one (ry.up u6))
            exact w.add (O.trans (a8.trans s5)) λa Y=>(qb.mp Y).elim (λz=>let⟨o,h,m⟩:=a6.dom a z;⟨o,s5 a o h,m⟩) (ry.dom a)
      .have hl:i=items.length:=by omega
       subst hl;rw[Yt,jk]at I;cases I;refine .inl ⟨wk.stop H2 _ (LtB.up a2),YS (six 1.10),λp F=>?_⟩;have sm:Same H2 (upd H2 p (.dK ys)):=Same.new F;rw[Wm]at a0;subst a0;refine q (.ref p) _ (p::L) ((O.trans s2).trans sm) ?_ (λa Y=>(V5.mp Y).elim (λz=>by rw[z];exact(O.trans s2).none' F) λz=>O.none' (fa a z)) (List.nodup_cons.mpr ⟨λz=>?_,na⟩)
       .rw[Rep]
        exact⟨p,ys,L,rfl,⟨a5,hnd⟩,ra.up ⟨sm,λb u U f=>⟨λz=>z.elim (λz=>(V5.mp z).elim (λz=>by rw[z,F]at U;cases U) λz=>f.1 (.inl z)) λz=>f.1 (.inr z),f.2⟩,λ_ _ _ f=>f⟩,aM,rfl⟩
       .obtain⟨o,N,_⟩:=ra.dom p z
        rw[F]at N;cases N
    .cases ee
  .cases ee
end
section
variable{ι:Type}{X:ι->Cx}{G:Gc}{ob:Nat->Bool}{kx vx target iter:Expr}{ifs:List Expr}{scope:Scope}{pos pos' pos2:Pos}{N':List Str}{it:En->Option (Bool×List D)}{tg:D->En->Option En}{fc:En->Option Bool}{fk fe:En->Option D}
theorem pv_dcomp(cap:List (Option Nat))(own:Nat->Bool)(J:∀c,(X c).xe=NoX)(Z:∀c,(X c).calm=true)(O:∀c,bZ (X c).env.scope (X c).N N' scope cap)(I:∀i:Nat,own i=true->cap[i]?≠none->cap[i]? =some none)(hi:PVI X G ob target iter it)(q:Br (InX X N' scope) G (obC cap ob) own target tg)(F:Bq (InX X N' scope) G (obC cap ob) ifs fc)(B:PV (InX X N' scope) G (obC cap ob) kx fk)(V:PV (InX X N' scope) G (obC cap ob) vx fe)
  (hs:∀c,∀x,Xl iter (X c).env x=pure x:=by intro _ _;rfl):PV X G ob 1.17 (qj cap it tg fc fk fe):=
 let⟨_,i1,i2⟩:=hi.ex;let⟨_,g1,g2⟩:=q.ex;let⟨_,t1,t2⟩:=F.ex;let⟨_,k1,k2⟩:=B.ex;let⟨_,e1,e2⟩:=V.ex
 ⟨_,λc=>Lq (J c) (Z c) (O c) (i1 c) (λC s H fp=>g1 (c,C,s,H,fp)) (λC s H fp=>t1 (c,C,s,H,fp)) (λC s H fp=>k1 (c,C,s,H,fp)) (λC s H fp=>e1 (c,C,s,H,fp)) (hs c),zG I i2 g2 t2 k2 e2⟩
variable{P:Nat->Bool}{x:Str}
theorem Kf(i:Nat)(cap:List (Option Nat))(own:Nat->Bool)(U:∀c,(X c).N.Nodup)(J:∀c,(X c).xe=NoX)(Z:∀c,(X c).calm=true)(O:∀c,bZ (X c).env.scope (X c).N N' scope cap)(I:∀i:Nat,own i=true->cap[i]?≠none->cap[i]? =some none)(hi:PVI X G ob target iter it)(q:Br (InX X N' scope) G (obC cap ob) own target tg)(F:Bq (InX X N' scope) G (obC cap ob) ifs fc)(B:PV (InX X N' scope) G (obC cap ob) kx fk)(V:PV (InX X N' scope) G (obC cap ob) vx fe)
  (hP:P i=false:=by rfl) (a0:∀c,(X c).N[i]? =some x:=by intro _;rfl) (Y:∀c,Loc (X c).env.scope x:=by intro _;first|exact Yk rfl|exact Xv rfl) (hw:∀c,Zd 1.17 (some (.Name x pos')) pos2.line (X c).env=pure true:=by intro _;rfl) (hs:∀c,∀x,Xl iter (X c).env x=pure x:=by intro _ _;rfl)
  (hf:∀c,(X c).fn x=true∨(X c).env.scope.names.lookup x=some .local:=by intro _;first|exact .inl rfl|exact .inr rfl):PVS X G ob P (.Assign [.Name x pos'] 1.17 pos2) (cI (qj cap it tg fc fk fe) (tgN i)):=
 let⟨_,i1,i2⟩:=hi.ex;let⟨_,g1,g2⟩:=q.ex;let⟨_,t1,t2⟩:=F.ex;let⟨_,k1,k2⟩:=B.ex;let⟨_,e1,e2⟩:=V.ex
 ⟨_,λc=>N6 (J c) (Z c) (U c) (a0 c) (Y c) (O c) (i1 c) (λC s H fp=>g1 (c,C,s,H,fp)) (λC s H fp=>t1 (c,C,s,H,fp)) (λC s H fp=>k1 (c,C,s,H,fp)) (λC s H fp=>e1 (c,C,s,H,fp)) (hw c) (hs c) (hf c),by rw[←xJ];exact j7 (v_ (zG I i2 g2 t2 k2 e2)) (jC hP)⟩
end
def FJ:En->Option (List (Key×D)):=λ_=>some []
def tL(fk q:En->Option D)(fr:En->Option (List (Key×D))):En->Option (List (Key×D)):=λρ=>((fk ρ).bind fG).bind λk=>(q ρ).bind λx=>(fr ρ).map λr=>(k,x)::r
def Ac(f:En->Option (List (Key×D))):En->Option D:=λρ=>(f ρ).bind λes=>if es.length<=15/\aA (es.map (·.2))=true/\aB (es.map (·.2))=true then ut es else none
def IV(G:Gc)(ob:Nat->Bool)(t:List (TE×TE))(f:En->Option (List (Key×D))):Prop:=∀(ρ:En)(es:List (Key×D)),f ρ=some es->∀(σ:L2.St)(H:Hp)(W:Wn),Rel G H W ob ρ σ->WOk H W->∀Q:List (V×V)->Hp->Prop,
 (∀(vs:List V) H' L,vs.length=es.length->Same H H'->aD G H' (W.add L) (es.map (·.2)) vs L->(∀a∈L,H a=none)->L.Nodup->Q ((abV (es.map (·.1)) vs).map λN=>(kV N.1,N.2)) H')->xK t σ H Q
structure Nj{ι:Type}(X:ι->Cx)(G:Gc)(ob:Nat->Bool)(pos:Pos)(ks:List (Option Expr))(vs:List Expr)(f:En->Option (List (Key×D))):Prop where
 mk::(ex:∃t,(∀c,PPs (X c) pos ks vs t)/\IV G ob t f)
section
variable{ι:Type}{X:ι->Cx}{G:Gc}{ob:Nat->Bool}{pos:Pos}
theorem MJ:IV G ob [] FJ:=λρ es e σ H W F w Q q=>by
 cases e;exact q [] H [] rfl (Same.refl H) .nil (by simp) List.nodup_nil
theorem J3{tk tv:TE}{t:List (TE×TE)}{fk fv:En->Option D}{fr:En->Option (List (Key×D))}(B:RfE G ob tk fk)(hv:RfE G ob tv fv)(O:IV G ob t fr):IV G ob ((tk,tv)::t) (tL fk fv fr):=λρ es e σ H W rl w Q q=>by
 unfold tL at e;cases h1:fk ρ with
 |none=>simp[h1]at e
 |some dk=>
 cases h2:fG dk with
 |none=>simp[h1,h2]at e
 |some k=>
 cases Z:fv ρ with
 |none=>simp[h1,h2,Z]at e
 |some dv=>
 cases h4:fr ρ with
 |none=>simp[h1,h2,Z,h4]at e
 |some F=>
  obtain rfl:(k,dv)::F=es:=by simpa[h1,h2,Z,h4]using e
  refine B ρ dk h1 σ H W rl w _ λxk H0 L0 s0 rk a0 nk=>?_;obtain⟨rfl,rfl⟩:=DY h2 rk;refine hv ρ dv Z σ H0 W (rl.up (Up.same s0)) (w.up s0) _ λx H1 L s1 rx fx nx=>?_;have u1:Up H0 H1 W (W.add L):=.add s1 fx;have w1:WOk H1 (W.add L):=(w.up s0).add s1 rx.dom;refine O ρ F h4 σ H1 (W.add L) ((rl.up (Up.same s0)).up u1) w1 _ λys H2 M hl s2 J I ny=>?_;have V:∀a∈L,a∉M:=λa h1 h2=>by
   obtain⟨o,N,_⟩:=rx.dom a h1;rw[I a h2]at N;cases N
  have u2:Up H1 H2 (W.add L) (W.add (L++M)):=⟨s2,λb u U f=>⟨λz=>z.elim (λz=>(qb.mp z).elim (λz=>f.1 (.inl z)) λz=>by rw[I b z]at U;cases U) λz=>f.1 (.inr z),f.2⟩,λ_ _ _ f=>f⟩;refine q (x::ys) H2 (L++M) (by simp[hl]) ((s0.trans s1).trans s2) (.cons (rx.up u2) (J.up ⟨Same.refl _,λb u U f=>⟨λz=>?_,f.2⟩,λ_ _ _ f=>f⟩)) (λa Y=>?_) (cP nx ny V)
  .rcases z with z|z
   .exact(qb.mp z).elim (λz=>f.1 (.inr (.inl z))) λz=>f.1 (.inl z)
   .exact f.1 (.inr (.inr z))
  .rcases qb.mp Y with z|z
   .exact s0.none' (fx a z)
   .exact(s0.trans s1).none' (I a z)
theorem uq:∀{more kvs:List (Key×V)},(List.map (·.1) (kvs++more)).Nodup->l_ kvs more=kvs++more
 |[],kvs,h=>by simp[l_]
 |p::r,kvs,h=>by
  have h1:putK kvs p.1 p.2=kvs++[p]:=lQ (xu λz=>by
   rw[Ww]at h;exact(Wi.mp h).2.2 p.1 z p.1 (by simp) rfl)
  have:=uq (more:=r) (kvs:=kvs++[p]) (by simpa using h);show l_ (putK kvs p.1 p.2) r=_;rw[h1,this];simp
theorem L_{t:List (TE×TE)}{f:En->Option (List (Key×D))}(h:IV G ob t f):RfE G ob (Qa t) (Ac f):=λρ d e σ H W rl w Q q=>by
 unfold Ac at e;cases h1:f ρ with
 |none=>simp[h1]at e
 |some es=>
  rw[h1]at e;simp only[V1]at e;split at e
  .rename_i hc
   unfold ut at e;split at e
   .rename_i hnd
    cases e;intro p F;have I:Same H (upd H p (.dK [])):=Same.new F;have u0:Up H (upd H p (.dK [])) W (W.add [p]):=.add I (by simpa using F);have w0:WOk (upd H p (.dK [])) (W.add [p]):=w.add I λa Y=>by
     obtain rfl:a=p:=by simpa using Y
     exact⟨_,aM,rfl⟩
    refine h ρ es h1 σ _ _ (rl.up u0) w0 _ λvs H2 L hl B Z f2 n2=>?_;have O:H2 p=some (.dK []):=B p _ aM;have N:List.map (·.1) (abV (es.map (·.1)) vs)=es.map (·.1):=adP (by simp[hl]);have V:List.map (·.2) (abV (es.map (·.1)) vs)=vs:=adQ (by simp[hl]);refine⟨O,abV (es.map (·.1)) vs,rfl,by simp[hl];exact hc.1,?_⟩;rw[uq (by simpa[N]using hnd),List.nil_append];have a0:p∉L:=λz=>by have:=f2 p z;rw[aM]at this;cases this
    have a4:Same H (upd H2 p (.dK (abV (es.map (·.1)) vs))):=λb u U=>by
     have a1:b≠p:=λz=>by rw[z,F]at U;cases U
     rw[aK a1];exact B b u (by rw[aK a1];exact U)
    refine q (.ref p) _ (p::L) a4 ?_ (λa Y=>?_) (List.nodup_cons.mpr ⟨a0,n2⟩)
    .rw[Rep]
     refine⟨p,_,L,rfl,⟨N,hnd⟩,?_,aM,rfl⟩;rw[V];have J:Evo H2 (upd H2 p (.dK (abV (es.map (·.1)) vs))) ((W.add [p]).add L) (W.add (p::L)):=⟨λb u U fr=>⟨by rw[aK λz=>fr.1 (.inr (.inl 1.22))];exact U,λz=>by
      rcases z with z|z
      .rcases V5.mp z with z|z
       .exact fr.1 (.inr (.inl 1.22))
       .exact fr.1 (.inl z)
      .exact fr.1 (.inr (.inr z)),fr.2⟩,λb xs U=>by rw[aK λz=>by rw[z,O]at U;cases U];exact U⟩
     exact Z.mono J (.inl hc.2.1) (.inl hc.2.2) λc a2 u hu=>by
      have a3:c≠p:=λz=>a0 (by rw[←z];exact a2);rw[aK a3];exact hu
    .rcases V5.mp Y with z|z
     .rw[z];exact F
     .have:=f2 a z
      by_cases U:a=p
      .rw[U];exact F
      .rwa[aK U]at this
   .cases e
  .cases e
theorem Ii:Nj X G ob pos [] [] FJ:=⟨_,λc=>Ov,MJ⟩
theorem Gf{k v:Expr}{ks:List (Option Expr)}{vs:List Expr}{fk q:En->Option D}{fr:En->Option (List (Key×D))}(B:PV X G ob k fk)(N:PV X G ob v q)(O:Nj X G ob pos ks vs fr):Nj X G ob pos (some k::ks) (v::vs) (tL fk q fr):=
 let⟨_,a1,a2⟩:=B.ex;let⟨_,b1,b2⟩:=N.ex;let⟨_,c1,c2⟩:=O.ex;⟨_,λc=>Kq (a1 c) (b1 c) (c1 c),J3 a2 b2 c2⟩
theorem Nt{keys:List (Option Expr)}{J:List Expr}{f:En->Option (List (Key×D))}(h:Nj X G ob pos keys J f)(I:keys.all (·.isSome)=true:=by rfl)(Y:keys.length=J.length:=by rfl)(N:keys≠[]:=by simp)(q:keys.length<=15:=by decide):PV X G ob (.Dict keys J pos) (Ac f):=
 let⟨_,a1,a2⟩:=h.ex;⟨_,λc=>Mg (a1 c) I Y N q,L_ a2⟩
end
def Itz(K:V8)(a b:Addr):It:=
 ⟨λi H=>∃xs ys x y,SqL K H a xs/\SqL K H b ys/\xs[i]? =some x/\ys[i]? =some y,λi H x H'=>∃p u v,H p=none/\x= .ref p/\(∀xs,SqL K H a xs->xs[i]? =some u)/\(∀xs,SqL K H b xs->xs[i]? =some v)/\H'=upd H p (.tup [u,v]),λi H=>∃xs ys,SqL K H a xs/\SqL K H b ys/\(xs.length<=i∨ys.length<=i)⟩
theorem Jz{P:WY}{w:World}{K:V8}{elts:List Expr}{x1}{pos:Pos}(a b z TI TO i1 i2:Addr)(ap:abW z TI TO i1 i2 a b) :
  Turn P w K (.Tuple elts x1 pos) (Itz K a b) [z,TI,TO,i1,i2] z (λi h=>IsZip h z TI TO .none/\abn h TI (.ref i1) (.ref i2)/\(∃u v,abn h TO u v)/\h.IsListIter i1 a i/\h.IsListIter i2 b i)where
 mem:=by simp
 obj:=λi h st c Z=>by
  obtain⟨h1,h2,⟨u,v,h3⟩,⟨o1,q1,_,d1⟩,⟨o2,q2,_,d2⟩⟩:=st;simp only[V5,YL,or_false]at Z;rcases Z with e|e|e|e|e<;>subst e
  .exact⟨_,h1,λv z=>by cases z⟩
  .exact⟨_,h2,λv z=>by cases z⟩
  .exact⟨_,h3,λv z=>by cases z⟩
  .exact⟨o1,q1,λv z=>by rw[d1]at z;cases z⟩
  .exact⟨o2,q2,λv z=>by rw[d2]at z;cases z⟩
 keep:=λi h h' st k=>by
  obtain⟨h1,h2,⟨u,v,h3⟩,h4,h5⟩:=st;exact⟨k z (by simp) _ h1,k TI (by simp) _ h2,⟨u,v,k TO (by simp) _ h3⟩,h4.at λo q=>k i1 (by simp) o q,h5.at λo q=>k i2 (by simp) o q⟩
 item:=by
  intro X hP hw hK Z i pins s σ H E I hf st hg;subst hP hw hK;obtain⟨xs,ys,x,y,N,a0,J,V⟩:=hg;obtain⟨B,rv,p,O⟩:=I.list N;obtain⟨its',a1,p',a6⟩:=I.list a0;obtain⟨u,F,ru⟩:=rv.get J;obtain⟨v,hv,b0⟩:=a1.get V;obtain⟨h1,h2,⟨u0,v0,h3⟩,h4,h5⟩:=st;have a3:∀c∈[z,TI,TO,i1,i2],c<s.heap.objs.size:=λc Z=>by
   simp only[V5,YL,or_false]at Z;obtain⟨o1,q1,_⟩:=h4;obtain⟨o2,q2,_⟩:=h5;rcases Z with e|e|e|e|e<;>subst e
   .exact V_ h1
   .exact V_ h2
   .exact V_ h3
   .exact V_ q1
   .exact V_ q2
  refine acC ap h1 h2 h3 h4 h5 p.isList p'.isList (x:=u) (y:=v) (by simpa using F) (by simpa using hv) λh' g1 g3 g4 g5 g6 hsz k1=>?_;refine⟨.ref s.heap.objs.size,rfl,wpAny_letOwnedTupleGo_zip g1 λa2 a8 sb=>?_⟩;have a9:z<s.heap.objs.size:=a3 z (by simp);have a7:s.heap.objs.size≠z:=Yq a9;have a4:a2.get? s.heap.objs.size=some {cls:=.type "tuple",data:=.seq #[u,v]}:=sb.extBut _ _ a7 g6;have kk:∀c o,c∉[z,TI,TO,i1,i2]->s.heap.get? c=some o->a2.get? c=some o:=λc o Z q=>by
   have n1:c≠z:=λe=>Z (by simp[e]);exact sb.extBut c o n1 (k1 c o n1 (λe=>Z (by simp[e])) (λe=>Z (by simp[e])) (λe=>Z (by simp[e])) q)
  have I2:Inv X pins σ (upd H s.heap.objs.size (.tup [x,y])) {s with heap:=a2,toks:=s.toks}:=by
   refine oK (fp:=[z,TI,TO,i1,i2]) (t':=s.toks) I hf (λb o U q=>kk b o U q) (Wa _) ?_;exact⟨by show 2<=V6;decide,[u,v],.cons ru (.cons b0 .nil),_,a4,rfl,_,rfl,rfl⟩
  refine⟨.ref s.heap.objs.size,upd H s.heap.objs.size (.tup [x,y]),I2,rfl,⟨_,x,y,I.hok.fresh (Wa _),rfl,λys V=>by rw[I.list_inj V N];exact J,λys a5=>by rw[I.list_inj a5 a0];exact V,rfl⟩,?_,λc Z=>?_⟩
  .refine⟨a8,sb.extBut _ _ ap.TIz (k1 _ _ ap.TIz ap.TITO ap.TIi1 ap.TIi2 h2),⟨u,v,sb.extBut _ _ ap.TOz g3⟩,g4.extBut sb.extBut ap.i1z,g5.extBut sb.extBut ap.i2z⟩
  .rw[aK λe=>XF _ (e▸a3 c Z)]
   exact(hf c Z).1
 done:=by
  intro X hP hw hK Z i pins s σ H E I hf st hg;subst hP hw hK;obtain⟨xs,ys,N,a0,J⟩:=hg;obtain⟨B,rv,p,O⟩:=I.list N;obtain⟨its',a1,p',a6⟩:=I.list a0;obtain⟨h1,h2,⟨u0,v0,h3⟩,h4,h5⟩:=st;have Y:=rv.length;have b1:=a1.length;refine acO (I.ok.hd Z) ap h1 h2 h3 h4 h5 p.isList p'.isList (J.imp (λe=>by simp;omega) λe=>by simp;omega) λh' k1=>⟨rfl,?_⟩;exact ji (fp:=[z,TI,TO,i1,i2]) (t':=s.toks) I hf λc o Z q=>k1 c o (λe=>Z (by simp[e])) (λe=>Z (by simp[e])) (λe=>Z (by simp[e])) (λe=>Z (by simp[e])) q
 self:=λA i s Q E st h=>abX st.1 h
section
variable{X:Cx}{elts:List Expr}{x1:Nat}{tpos:Pos}
def T7(K:V8)(ta:TA):TI:=λσ H R=>ta σ H λvs H1=>∃a b,vs=[.ref a,.ref b]/\(∃xs,SqL K H1 a xs)/\(∃xs,SqL K H1 b xs)/\R (Itz K a b) H1
theorem RT{a b:Expr}{ta:TA}{p pos:Pos}{x1}(hg:Gl X "zip")(J:X.mg "zip"=none)(Y:PA X [a,b] ta)(hs:We [a,b] X.env=(false,eval a X.env)::We [b] X.env:=by rfl)(a4:We [b] X.env=[(false,eval b X.env)]:=by rfl):PI X (.Tuple elts x1 tpos) (.Call (.Name "zip" p) [a,b] [] pos) (T7 X.K ta):=by
 intro pins s σ H R I h;refine Call_ (mF I hg J boot_zip (X4 (thn (Y pos pins s σ H _ I h) λus O ⟨vs,H1,F,U,q1⟩=>?_) hs (by rw[a4];rfl)));obtain⟨l,l',e,⟨xs,N⟩,⟨ys,a6⟩,q⟩:=q1;subst e;obtain⟨u,v,rfl,ru,a5⟩:∃u v,us=[u,v]/\RelV (.ref l) u/\RelV (.ref l') v:=by
  cases U with
  |cons h1 t=>
   cases t with
   |cons h2 t=>cases t;exact⟨_,_,rfl,h1,h2⟩
 cases ru;cases a5;obtain⟨B,rv,pl,hz⟩:=F.list N;obtain⟨its',a8,a3,a7⟩:=F.list a6;have a1:l<O.heap.objs.size:=let⟨_,h1,_⟩:=pl.isList;V_ h1;have a2:l'<O.heap.objs.size:=let⟨_,h1,_⟩:=a3.isList;V_ h1;refine call_zip_2 pl.isList a3.isList λh1 g1 g2 g3 g4 g5 hsz V=>?_;have I2:Inv X pins σ H1 {O with heap:=h1}:=F.kept (t':=O.toks) V;refine abX g1 ?_;refine⟨O.heap.objs.size+4,[O.heap.objs.size+4,O.heap.objs.size+2,O.heap.objs.size+3,O.heap.objs.size,O.heap.objs.size+1],_,_,H1,rfl,I2,Jz l l' _ _ _ _ _ (zipApart_new a1 a2),⟨g1,g2,⟨_,_,g3⟩,g4,g5⟩,λc Z=>?_,q⟩;have a0:O.heap.objs.size<=c:=by
  simp only[V5,YL,or_false]at Z;rcases Z with e|e|e|e|e<;>rw[e]<;>omega
 exact F.fpOk a0 (F.hok.fresh a0)
end
def Dw:D->Bool
 |.lst _ _=>true
 |_=>false
def nP(a b:List D):List D:=List.zipWith (λx y=>.tup [x,y]) a b
def itZ(f:En->Option (List D)):En->Option (Bool×List D):=λρ=>(f ρ).bind λds=>match ds with
 |[d,d']=>if Dw d=true/\Dw d'=true then(cH d).bind λp=>(cH d').map λU=>(p.1&&U.1,nP p.2 U.2)else none
 |_=>none
theorem zM{a b:List D}{i:Nat}{d:D}(h:(nP a b)[i]? =some d):∃x y,a[i]? =some x/\b[i]? =some y/\d= .tup [x,y]:=by
 unfold nP at h;rw[List.getElem?_zipWith]at h;cases h1:a[i]? with
 |none=>simp[h1]at h
 |some x=>
  cases h2:b[i]? with
  |none=>simp[h1,h2]at h
  |some y=>exact⟨x,y,rfl,rfl,by simpa[h1,h2]using h.symm⟩
theorem LtB.and1{b U:Bool}{H H2:Hp}{W B:Wn}(l:LtB (b&&U) H W H2 B):LtB b H W H2 B:=by
 cases b with
 |false=>exact l
 |true=>
  cases U with
  |true=>exact l
  |false=>exact LtB.up ((Wo WL).mp l)
theorem LtB.and2{b U:Bool}{H H2:Hp}{W B:Wn}(l:LtB (b&&U) H W H2 B):LtB U H W H2 B:=by
 cases U with
 |false=>rw[aat]at l;exact l
 |true=>
  cases b with
  |true=>exact l
  |false=>exact LtB.up ((Wo WL).mp l)
section
variable{ι:Type}{X:ι->Cx}{G:Gc}{ob P:Nat->Bool}
theorem Af{H H':Hp}{W:Wn}{d:D}{v:V}{L M:List Addr}{b:Bool}{es:List D}(w:WOk H W)(s:Same H H')(r:Rep G H' (W.add L) d v M)(I:∀a∈M,a∈L)(fr:∀a∈L,H a=none)(e:cH d=some (b,es))(q:Dw d=true) :
  ∃a xs,v= .ref a/\Parts G H' W b es xs/\∀H2 B,LtB b H' W H2 B->SqL G.K H2 a xs:=by
 have free:∀a∈M,W.free a:=λa Y=>⟨λz=>?_,λz=>?_,λz=>?_⟩
 .have les:Les H' (W.add L) W M:=⟨λa f=>⟨λz=>f.1 (.inr z),f.2⟩,free⟩
  cases d with
  |lst m ds=>
   simp only[cH,ZM,acY]at e;obtain⟨rfl,rfl⟩:=e;rw[Rep]at r;obtain⟨a,xs,M,rfl,O,hs⟩:=r;refine⟨a,xs,rfl,⟨aD.fzo (W:=W.add L) (W':=W) (λ_ z=>z) O (les.sub λc Z=>hs.sub.subset Z),λz=>?_⟩,λH2 B l=>Px (wH hs les (λz=>z) (λz=>?_) l)⟩
   .simp[clean,az,aq]at z
    exact⟨fJ z.1.2,fO z.2.2⟩
   .simp[clean,az,aq]at z
    exact⟨z.1.1,z.2.1⟩
  |_=>cases q
 .obtain⟨o,ho,_⟩:=w a (.inl z);rw[fr a (I a Y)]at ho;cases ho
 .obtain⟨o,ho,_⟩:=w a (.inr (.inl z));rw[fr a (I a Y)]at ho;cases ho
 .obtain⟨o,ho,_⟩:=w a (.inr (.inr z));rw[fr a (I a Y)]at ho;cases ho
theorem M_{t:TA}{f:En->Option (List D)}(h:RfA G ob t f):RfI G ob (T7 G.K t) (itZ f):=λρ b items e σ H W rl w R q=>by
 unfold itZ at e;cases h1:f ρ with
 |none=>simp[h1]at e
 |some ds=>
  rw[h1]at e;simp only[V1]at e;split at e
  .rename_i d d'
   split at e
   .rename_i hl
    cases h2:cH d with
    |none=>simp[h2]at e
    |some p=>
     cases Z:cH d' with
     |none=>simp[h2,Z]at e
     |some p'=>
      obtain⟨b1,es⟩:=p;obtain⟨J,a3⟩:=p';obtain⟨rfl,rfl⟩:(b1&&J)=b/\nP es a3=items:=by simpa[h2,Z]using e
      refine h ρ _ h1 σ H W rl w _ λvs H' L s r fr nd=>?_;obtain⟨v,ys,M,M',rfl,rfl,hv,V⟩:=r.inv;obtain⟨v',a6,N,N',rfl,U,a5,a4⟩:=V.inv;obtain⟨rfl,rfl⟩:=a4.inv0;obtain⟨a,xs,rfl,p,hs⟩:=Af w s hv (λa Y=>by simp[Y]) fr h2 hl.1;obtain⟨a',a1,rfl,p',a0⟩:=Af w s a5 (λa Y=>by simp[U,Y]) fr Z hl.2;refine⟨a,a',rfl,⟨xs,hs H' W (LtB.up Up.refl)⟩,⟨a1,a0 H' W (LtB.up Up.refl)⟩,q _ H' s ⟨λi d e H2 B l=>?_,λi d e H2 B l x H3 y=>?_,λH2 B l=>?_⟩⟩
      .obtain⟨x,y,hx,V,_⟩:=zM e
       obtain⟨u,hu⟩:=p.r.getV hx;obtain⟨u',a2⟩:=p'.r.getV V;exact⟨xs,a1,u,u',hs H2 B l.and1,a0 H2 B l.and2,hu,a2⟩
      .obtain⟨x0,y0,hx,V,rfl⟩:=zM e
       obtain⟨O,u,u',F,rfl,hu,a2,rfl⟩:=y;have I:Same H2 (upd H2 O (.tup [u,u'])):=Same.new F;refine⟨I,?_⟩;rw[Rep];exact⟨O,_,rfl,aM,.cons (M:=[]) (M':=[]) ((p.at l.and1 hx (hu xs (hs _ B l.and1))).up (Up.same I)) (.one ((p'.at l.and2 V (a2 a1 (a0 _ B l.and2))).up (Up.same I)))⟩
      .refine⟨xs,a1,hs H2 B l.and1,a0 H2 B l.and2,?_⟩
       rw[←p.r.length,←p'.r.length];unfold nP;rw[List.length_zipWith];omega
   .cases e
  .cases e
theorem O2{a b:Expr}{p pos tpos:Pos}{elts:List Expr}{x1:Nat}{f:En->Option (List D)}(q:∀c,Gl (X c) "zip")(J:∀c,(X c).mg "zip"=none)(Y:PVA X G ob [a,b] f)(hs:∀c,We [a,b] (X c).env=(false,eval a (X c).env)::We [b] (X c).env:=by intro _;rfl)(F:∀c,We [b] (X c).env=[(false,eval b (X c).env)]:=by intro _;rfl)(I:∀c,(X c).K=G.K:=by intro _;rfl):PVI X G ob (.Tuple elts x1 tpos) (.Call (.Name "zip" p) [a,b] [] pos) (itZ f):=
 let⟨t,a1,a2⟩:=Y.ex;⟨_,λc=>(by rw[←I c];exact RT (q c) (J c) (a1 c) (hs c) (F c)),M_ a2⟩
end
mutual
def vm:D->Bool
 |.tup ds=>dJ ds
 |.lst _ _=>false
 |.dct _ _ _=>false
 |.ins _ _ _ _=>false
 |_=>true
def dJ:List D->Bool
 |[]=>true
 |d::r=>vm d&&dJ r
end
def Bg:D->Bool
 |.lst .frz ds=>dJ ds
 |.lst .scr ds=>dJ ds
 |_=>false
def yL(ρ:En)(j:Nat):Bool:=match ρ[j]? with
 |some (some d)=>Bg d
 |_=>false
def Ay:Option D->Option D
 |some d=>if bJ d then some d else none
 |none=>none
def lO(i:Nat)(es:List D)(ks:List Nat)(ρ B:En):En:=B.mapIdx λj o=>if j=i then some (.lst .own es)else if ks.contains j then(ρ[j]?).bind id else Ay o
def v8(i:Nat)(ks:List Nat)(f:En->Option Fl):En->Option Fl:=λρ=>match ρ[i]? with
 |some (some (.lst .own es))=>if dJ es=true/\ks.all (yL ρ)=true/\ks.contains i=false then(f (ρ.set i (some (.lst .frz es)))).bind λr=>match r with
  |.nx B=>if B.length=ρ.length then some (.nx (lO i es ks ρ B))else none
  |r=>some r
  else none
 |_=>none
section
variable{G:Gc}{H H':Hp}{W W':Wn}
mutual
theorem Ju:∀{d:D}{v:V}{L:List Addr},Rep G H W d v L->vm d=true->L=[]
 |.non,v,L,h,_=>by rw[Rep]at h;exact h.2
 |.bl _,v,L,h,_=>by rw[Rep]at h;exact h.2
 |.int _,v,L,h,_=>by rw[Rep]at h;exact h.2
 |.str _,v,L,h,_=>by rw[Rep]at h;exact h.2
 |.ty _,v,L,h,_=>by rw[Rep]at h;exact h.2
 |.tup ds,v,L,h,o=>by
  rw[Rep]at h;obtain⟨a,xs,rfl,F,O⟩:=h;exact kh O (by simpa[vm]using o)
 |.lst _ _,v,L,h,o=>by cases o
 |.dct _ _ _,v,L,h,o=>by cases o
 |.ins _ _ _ _,v,L,h,o=>by cases o
theorem kh:∀{ds:List D}{vs:List V}{L:List Addr},aD G H W ds vs L->dJ ds=true->L=[]
 |[],vs,L,h,_=>h.inv0.2
 |d::r,vs,L,h,o=>by
  obtain⟨x,ys,M,M',rfl,rfl,h1,h2⟩:=h.inv;simp[dJ]at o;rw[Ju h1 o.1,kh h2 o.2];rfl
end
mutual
theorem JT:∀{d:D},vm d=true->az d=true/\aq d=true/\fz d=d
 |.non,_=>⟨rfl,rfl,rfl⟩|.bl _,_=>⟨rfl,rfl,rfl⟩|.int _,_=>⟨rfl,rfl,rfl⟩|.str _,_=>⟨rfl,rfl,rfl⟩|.ty _,_=>⟨rfl,rfl,rfl⟩
 |.tup ds,h=>by
  simp[vm]at h;obtain⟨h1,h2,Z⟩:=iG h;exact⟨by simp[az,h1],by simp[aq,h2],by simp[fz,Z]⟩
 |.lst _ _,h=>by cases h
 |.dct _ _ _,h=>by cases h
 |.ins _ _ _ _,h=>by cases h
theorem iG:∀{ds:List D},dJ ds=true->aA ds=true/\aB ds=true/\fzL ds=ds
 |[],_=>⟨rfl,rfl,rfl⟩
 |d::r,h=>by
  simp[dJ]at h;obtain⟨h1,h2,Z⟩:=JT h.1;obtain⟨F,q,B⟩:=iG h.2;exact⟨by simp[aA,h1,F],by simp[aB,h2,q],by simp[fzL,Z,B]⟩
end
theorem Og{d:D}{v:V}{L:List Addr}(r:Rep G H W d v L)(h:Bg d=true):L=[]/\az d=true/\aq d=true:=by
 unfold Bg at h;split at h
 .rename_i ds
  rw[Rep]at r;obtain⟨a,xs,M,rfl,O,hs⟩:=r;obtain⟨B,J,_⟩:=iG h;exact⟨hs.2.2.2,by simp[az,B],by simp[aq,J]⟩
 .rename_i ds
  rw[Rep]at r;obtain⟨a,xs,M,rfl,O,hs⟩:=r;obtain⟨B,J,_⟩:=iG h;exact⟨hs.2.2,by simp[az,B],by simp[aq,J]⟩
 .cases h
end
section
variable{ι:Type}{X:ι->Cx}{G:Gc}{ob P:Nat->Bool}
theorem Ls{t:TS}{f:En->Option Fl}(i:Nat)(ks:List Nat)(h:RfS G ob (λj=>j==i||ks.contains j||P j) t f):RfS G ob P t (v8 i ks f):=λρ r e σ H S Fr s E q=>by
 unfold v8 at e;split at e
 .rename_i es h1
  split at e
  .rename_i hc
   obtain⟨a0,b3,b4⟩:=hc;have b2:lU i ρ=some (ρ.set i (some (.lst .frz es))):=by
    unfold lU;rw[h1];simp only[fz,mkF,(iG a0).2.2]
   have s1:=s.freeze b2;obtain⟨v,N,a5,V⟩:=s.sl i _ h1;rw[Rep]at a5;obtain⟨a,xs,M,rfl,O,hH,a6⟩:=a5;obtain rfl:=kh O a0;have iS:inS S a:=⟨i,by rw[a6];simp⟩;have b0:¬inS (cz S i []) a:=λ⟨j,z⟩=>(bL z).elim (λz=>by cases z.2) λz=>z.1 (s.dj j i a z.2 (by rw[a6];simp));have a1:∀b,inS (cz S i []) b->inS S b:=λb ⟨j,z⟩=>(bL z).elim (λz=>by cases z.2) λz=>⟨j,z.2⟩;have a2:∀{H2 σ2 S2},Mv (λj=>j==i||ks.contains j||P j) H H2 σ σ2 (cz S i []) S2 []->Mv P H H2 σ σ2 S S2 []:=λ{H2 σ2 S2} m=>
    ⟨λb u U hn J=>m.kp b u U (λz=>hn (a1 b z)) J,λj b U=>(m.gr j b U).imp (a1 b) id,λj I=>m.pr j (by simp[I])⟩
   cases h2:f (ρ.set i (some (.lst .frz es)))with
   |none=>simp[h2]at e
   |some fl=>
    rw[h2]at e;simp only[V1]at e;refine h _ fl h2 σ H _ Fr s1 E ?_;cases fl with
    |brk B=>cases e;exact λF H' S' s' m=>q F H' S' s' (a2 m)
    |cnt B=>cases e;exact λF H' S' s' m=>q F H' S' s' (a2 m)
    |ret d B=>cases e;exact λv F H' M S' s' r c n fm m=>q v F H' M S' s' r c n (λb U=>(fm b U).imp (a1 b) id) (a2 m)
    |nx B=>
     simp only at e;split at e
     .rename_i hlen
      cases e;intro F H' S' s' m;have b1:H' a=some (.lst xs):=m.kp a _ hH b0 (by simp);have a4:∀j,a∉S' j:=λj z=>(m.gr j a z).elim b0 λz=>z.elim (λz=>by cases z) λz=>by rw[hH]at z;cases z
      let ow:Nat->Bool:=λj=>match B[j]? with
       |some (some d)=>bJ d&& !(ks.contains j)
       |_=>false
      let S2:Ad:=λj=>if j=i then[a]else if ow j=true then S' j else[]
      have a3:∀{j b},b∈S2 j->(j=i/\b=a)∨(j≠i/\ow j=true/\b∈S' j):=λ{j b} z=>by
       simp only[S2]at z;split at z
       .exact .inl ⟨‹_›,by simpa using z⟩
       .split at z
        .exact .inr ⟨‹_›,‹_›,z⟩
        .cases z
      have a8:∀b,inS S2 b->inS S b∨H b=none:=λb ⟨j,z⟩=>by
       rcases a3 z with⟨_,rfl⟩|⟨_,_,z⟩
       .exact .inl iS
       .exact(m.gr j b z).elim (λz=>.inl (a1 b z)) λz=>z.elim (λz=>by cases z) .inr
      have a9:Mv P H H' σ F S S2 []:=⟨(a2 m).kp,λj b U=>(a8 b ⟨j,U⟩).imp id .inr,(a2 m).pr⟩;have ev:Evo H H' (wn ob S Fr) (wn ob S2 Fr):=tO s a9;have hi:i<ρ.length:=(Hq.mp h1).1;have a7:∀j d,(lO i es ks ρ B)[j]? =some (some d)->(j=i/\d= .lst .own es)∨(j≠i/\ks.contains j=true/\ρ[j]? =some (some d))∨(j≠i/\ks.contains j=false/\B[j]? =some (some d)/\bJ d=true):=λj d hd=>by
       unfold lO at hd;rw[aa5]at hd;cases Z:B[j]? with
       |none=>simp[Z]at hd
       |some o=>
        rw[Z]at hd;have hd:(if j=i then some (D.lst .own es)else if ks.contains j then(ρ[j]?).bind id else Ay o)=some d:=by simpa using hd
        split at hd
        .exact .inl ⟨‹_›,by simpa using hd.symm⟩
        .split at hd
         .refine .inr (.inl ⟨‹_›,‹_›,?_⟩)
          cases h4:ρ[j]? with
          |none=>rw[h4]at hd;cases hd
          |some o'=>rw[h4]at hd;simpa using hd
         .rename_i hk
          cases o with
          |none=>cases hd
          |some d'=>
           simp only[Ay]at hd;split at hd
           .cases hd
            exact .inr (.inr ⟨‹_›,by simpa using hk,rfl,‹_›⟩)
           .cases hd
      refine q F H' S2 ⟨?_,λj d hd=>?_,λj I=>?_,λj=>?_,λj k b h1 h2=>?_,λj b h1 h2=>?_,s'.fdm⟩ a9
      .unfold lO;rw[List.length_mapIdx];exact s'.len
      .rcases a7 j d hd with⟨rfl,rfl⟩|⟨I,hk,hd⟩|⟨I,hk,hd,ho⟩
       .refine⟨.ref a,(m.pr j (by simp)).trans N,?_,V⟩
        rw[Rep];refine⟨a,xs,[],rfl,?_,b1,by simp[S2]⟩;exact O.mono ev (.inl (iG a0).1) (.inl (iG a0).2.1) (by simp)
       .obtain⟨v',q1,q2,q3⟩:=s.sl j d hd
        have Y:Bg d=true:=by
         have:=Zn.mp b3 j (by simpa using hk);unfold yL at this;rw[hd]at this;exact this
        obtain⟨e1,c1,c2⟩:=Og q2 Y;rw[e1]at q2;refine⟨v',(m.pr j (by simp[acD.mp hk])).trans q1,?_,q3⟩;have:S2 j=[]:=by
         have:ow j=false:=by
          simp only[ow];split
          .rw[hk];simp
          .rfl
         simp only[S2];rw[Wo I,Wo (by rw[this];decide)]
        rw[this];exact q2.mono ev (.inl c1) (.inl c2) (by simp)
       .obtain⟨v',q1,q2,q3⟩:=s'.sl j d hd
        refine⟨v',q1,?_,q3⟩;have:S2 j=S' j:=by
         have:ow j=true:=by
          simp only[ow,hd,ho,hk];rfl
         simp only[S2];rw[Wo I,Wd this]
        rw[this];exact q2.own ho
      .simp only[S2]
       split
       .rename_i e1
        subst e1;exfalso;refine I (.lst .own es) ?_;unfold lO;rw[aa5];have:j<B.length:=by omega
        simp[this]
       .split
        .rename_i e1 e2
         exfalso;simp only[ow]at e2;split at e2
         .rename_i d hd
          rw[Wr]at e2;refine I d ?_;unfold lO;rw[aa5,hd];have e3:ks.contains j=false:=by simpa using e2.2
          simp[e1,e2.1,Ay];intro z;exact absurd (acD.mpr z) (by rw[e3];decide)
         .cases e2
        .rfl
      .simp only[S2]
       split
       .simp
       .split
        .exact s'.nd j
        .exact List.nodup_nil
      .rcases a3 h1 with⟨e1,z1⟩|⟨e1,_,z1⟩<;>rcases a3 h2 with⟨e2,z2⟩|⟨e2,_,z2⟩
       .rw[e1,e2]
       .exact absurd (z1▸z2) (a4 k)
       .exact absurd (z2▸z1) (a4 j)
       .exact s'.dj j k b z1 z2
      .rcases a3 h2 with⟨e1,z1⟩|⟨e1,_,z1⟩
       .rw[z1]at h1
        exact s.fdj i a h1 (by rw[a6];simp)
       .exact s'.fdj j b h1 z1
     .cases e
  .cases e
 .cases e
end
theorem wj(b:List Stmt)(env:Env):∀a:List Stmt,execs (a++b) env=(do match ←execs a env with|.next=>execs b env|f=>pure f)
 |[]=>by
  show execs b env=(pure ad4 >>=λf=>match f with|.next=>execs b env|f=>pure f);rw[pure_bind]
 |st::a=>by
  rw[W0,execs_cons,execs_cons,wj b env a,bind_assoc];congr 1;funext f;cases f with
  |next=>rfl
  |_=>simp only[pure_bind]
theorem Mq{X:Cx}{a b:List Stmt}{t u:TS}(h1:PSs X a t)(h2:PSs X b u):PSs X (a++b) (Nb t u):=by
 intro pins s σ H D I h;rw[wj];refine gD (thn (h1 pins s σ H {D with nx:=u D} I h) λf O q=>?_);cases f with
 |next=>
  obtain⟨F,H',Y,q⟩:=q;exact h2 pins O F H' D Y q
 |ret v=>exact V3 q
 |brk=>exact V3 q
 |cont=>exact V3 q
section
variable{ι:Type}{X:ι->Cx}{G:Gc}{ob P:Nat->Bool}
theorem Kr(i:Nat)(ks:List Nat)(n:Nat){B:List Stmt}{f g:En->Option Fl}(h1:mK X G ob (λj=>j==i||ks.contains j||P j) (B.take n) f)(h2:mK X G ob P (B.drop n) g):mK X G ob P B (bC (v8 i ks f) g):=by
 obtain⟨t,V,q⟩:=h1.ex;obtain⟨u,I,J⟩:=h2.ex;refine⟨Nb t u,λc=>?_,DP (Ls i ks q) J⟩;have:=Mq (V c) (I c);rwa[aaU]at this
end
def forM(j:Nat)(V:En->Option Fl):List D->List D->En->Option (List D×En)
 |done,[],ρ=>some (done,ρ)
 |done,d::r,ρ=>(V (ρ.set j (some d))).bind λJ=>match J with
  |.nx B=>(match B[j]? with
   |some (some d')=>if bJ d'=true then forM j V (done++[d']) r (B.set j none)else none
   |_=>none)
  |_=>none
def v5(i j:Nat)(V:En->Option Fl):En->Option Fl:=λρ=>match ρ[i]? with
 |some (some (.lst .own ds))=>if i≠j/\aW ds=true/\j<ρ.length then(forM j V [] ds ((ρ.set i none).set j none)).map λp=>.nx (p.2.set i (some (.lst .own p.1)))else none
 |_=>none
mutual
theorem vy:∀{d:D},bJ d=true->az d=true/\aq d=true
 |.non,_=>⟨rfl,rfl⟩|.bl _,_=>⟨rfl,rfl⟩|.int _,_=>⟨rfl,rfl⟩|.str _,_=>⟨rfl,rfl⟩|.ty _,_=>⟨rfl,rfl⟩
 |.tup ds,h=>by simp[bJ]at h;obtain⟨a,b⟩:=dX h;exact⟨by simp[az,a],by simp[aq,b]⟩
 |.lst m ds,h=>by simp[bJ]at h;obtain⟨a,b⟩:=dX h.2;exact⟨by simp[az,a,h.1],by simp[aq,b,h.1]⟩
 |.dct m _ ds,h=>by simp[bJ]at h;obtain⟨a,b⟩:=dX h.2;exact⟨by simp[az,a,h.1],by simp[aq,b,h.1]⟩
 |.ins m _ _ ds,h=>by simp[bJ]at h;obtain⟨a,b⟩:=dX h.2;exact⟨by simp[az,a,h.1],by simp[aq,b,h.1]⟩
theorem dX:∀{ds:List D},aW ds=true->aA ds=true/\aB ds=true
 |[],_=>⟨rfl,rfl⟩
 |d::r,h=>by simp[aW]at h;obtain⟨a,b⟩:=vy h.1;obtain⟨c,e⟩:=dX h.2;exact⟨by simp[aA,a,c],by simp[aB,b,e]⟩
end
def GX:Wn:=⟨λ_=>True,λ_=>True,λ_=>True⟩
theorem oR{G:Gc}{H H':Hp}{W W':Wn}{ds:List D}{xs:List V}{L:List Addr}(r:aD G H W ds xs L)(N:aW ds=true)(F:∀b ys,H b=some (.tup ys)->H' b=some (.tup ys))(Y:∀c∈L,∀u,H c=some u->H' c=some u):aD G H' W' ds xs L:=
 ((r.own (W':=GX) N).mono (W':=GX) ⟨λb u _ f=>absurd trivial f.1,F⟩ (.inl (dX N).1) (.inl (dX N).2) Y).own N
section
variable{ι:Type}{X:ι->Cx}{G:Gc}{ob P:Nat->Bool}
theorem Sta.forget{H:Hp}{ρ:En}{σ:L2.St}{S:Ad}{Fr:Addr->Prop}{i:Nat}(s:Sta G H ob ρ σ S Fr):Sta G H ob (ρ.set i none) σ (cz S i []) Fr:=by
 cases h1:ρ[i]? with
 |none=>
  have e1:ρ.set i none=ρ:=aap (by simpa using h1);have e2:cz S i []=S:=by
   funext j;by_cases e:j=i
   .rw[e,cM,s.em i λd z=>by rw[h1]at z;cases z]
   .rw[cU e]
  rw[e1,e2];exact s
 |some o=>
  cases o with
  |none=>
   have e1:ρ.set i none=ρ:=by
    refine Y6 λk=>?_;rw[List.getElem?_set];split
    .rename_i e;subst e
     rw[h1];simp[(Hq.mp h1).1]
    .rfl
   have e2:cz S i []=S:=by
    funext j;by_cases e:j=i
    .rw[e,cM,s.em i λd z=>by rw[h1]at z;cases z]
    .rw[cU e]
   rw[e1,e2];exact s
  |some d=>
   obtain⟨v,h2,Z,U,V⟩:=s.move h1;exact U.lessF λa z=>.inr z
theorem Il{i j:Nat}{tb:TS}{V:En->Option Fl}(c5:P j=false)(U:RfS G ob (λk=>k==j||k==i||P k) tb V):RfS G ob P (Mi (RL G.K (By i)) (rn j) tb) (v5 i j V):=λρ r e σ H S Fr s E q=>by
 unfold v5 at e;split at e
 .rename_i ds h1
  split at e
  .rename_i Z
   obtain⟨c3,a7,c6⟩:=Z;cases h2:forM j V [] ds ((ρ.set i none).set j none)with
   |none=>simp[h2]at e
   |some res=>
    obtain rfl:Fl.nx (res.2.set i (some (.lst .own res.1)))=r:=by simpa[h2]using e
    obtain⟨v,N,c8,s0,a8⟩:=s.move h1;rw[Rep]at a8;obtain⟨a,xs,M,rfl,O,hH,b2⟩:=a8;have b5:j<σ.length:=by rw[←s.len];exact c6
    have s1:=s0.forget (i:=j);refine⟨.ref a,N,a,rfl,.inl ⟨⟨xs,SqL.of hH⟩,?_⟩⟩;refine⟨λk m F H'=>k+m=ds.length/\∃B S' done L1 L2,Sta G H' ob B F S' (plus (a::(L1++L2)) Fr)/\H' a=some (.lst xs)/\aD G H' GX done (xs.take k) L1/\aW done=true/\aD G H' GX (ds.drop k) (xs.drop k) L2/\(a::(L1++L2)).Nodup/\(∀b∈a::(L1++L2),¬Fr b/\(inS S b∨H b=none))/\Mv P H H' σ F S S' []/\F[i]? =some (some (.ref a))/\j<F.length/\forM j V done (ds.drop k) B=some res,⟨ds.length,by omega,(ρ.set i none).set j none,cz (cz S i []) j [],[],[],M,?_,hH,.nil,rfl,O.own a7,?_,λb U=>?_,?_,N,b5,h2⟩,?_⟩
    .rw[List.nil_append,←b2];exact s1
    .rw[List.nil_append,←b2];exact s.nd i
    .rw[List.nil_append,←b2]at U
     exact⟨λz=>s.fdj i b z U,.inl ⟨i,U⟩⟩
    .exact⟨λ_ _ h _ _=>h,λk b z=>(bL z).elim (λz=>by cases z.2) λz=>(bL z.2).elim (λz=>by cases z.2) λz=>.inl ⟨k,z.2⟩,.refl⟩
    rintro k m F H' ⟨c9,B,S',done,L1,L2,s',a1,rd,od,rr,nd,hL,mv,a2,b9,ef⟩;have b7:ds.length=xs.length:=O.length;by_cases hk:k<ds.length
    .have hxk:k<xs.length:=by omega
     refine .inr ⟨⟨xs,xs[k],SqL.of a1,by simp[hxk]⟩,λa0 Y=>(k+1)+(m-1)=ds.length/\∃B S' done L1 L2,Sta G Y ob B a0 S' (plus (a::(L1++L2)) Fr)/\Y a=some (.lst xs)/\aD G Y GX done (xs.take (k+1)) L1/\aW done=true/\aD G Y GX (ds.drop (k+1)) (xs.drop (k+1)) L2/\(a::(L1++L2)).Nodup/\(∀b∈a::(L1++L2),¬Fr b/\(inS S b∨H b=none))/\Mv P H Y σ a0 S S' []/\a0[i]? =some (some (.ref a))/\j<a0.length/\forM j V done (ds.drop (k+1)) B=some res,λa0 Y h=>⟨m-1,by omega,h⟩,λx H2 y=>?_⟩;obtain⟨rfl,y⟩:=y;have J:xs[k]? =some x:=y xs (SqL.of a1);have b8:ds.drop k=ds[k]::ds.drop (k+1):=(XQ hk).symm;have c4:xs.drop k=x::xs.drop (k+1):=by
      rw[←XQ hxk];congr 1;simpa[hxk]using J
     rw[b8]at rr ef;rw[c4]at rr;obtain⟨x0,ys,M1,M2,c0,rfl,r1,r2⟩:=rr.inv;cases c0;rw[forM]at ef;cases h5:V (B.set j (some ds[k]))with
     |none=>simp[h5]at ef
     |some fl=>
      rw[h5]at ef;simp only[V1]at ef;cases fl with
      |brk _=>cases ef
      |cnt _=>cases ef
      |ret _ _=>cases ef
      |nx ρ2=>
       simp only at ef;split at ef
       .rename_i d' hd'
        split at ef
        .rename_i hod
         have hok:bJ ds[k]=true/\aW (ds.drop (k+1))=true:=by
          have h6:aW (ds.drop k)=true:=by
           have:∀(l:List D)(n:Nat),aW l=true->aW (l.drop n)=true:=λl n=>by
            induction n generalizing l with
            |zero=>exact id
            |succ n ih=>cases l with
             |nil=>exact id
             |cons d r=>intro h;simp[aW]at h;exact ih r h.2
           exact this ds k a7
          rw[b8]at h6;simpa[aW]using h6
         have a5:=W_.mp nd;have nd1:=Wi.mp a5.2;have b0:=Wi.mp nd1.2.1;have a3:plus (a::(L1++(M1++M2))) Fr=plus M1 (plus (a::(L1++M2)) Fr):=by
          funext b;simp only[plus,V5,qb,eq_iff_iff];constructor
          .rintro((h|h|h|h)|h)
           .exact .inr (.inl (.inl h))
           .exact .inr (.inl (.inr (.inl h)))
           .exact .inl h
           .exact .inr (.inl (.inr (.inr h)))
           .exact .inr (.inr h)
          .rintro(h|((h|h|h)|h))
           .exact .inl (.inr (.inr (.inl h)))
           .exact .inl (.inl h)
           .exact .inl (.inr (.inl h))
           .exact .inl (.inr (.inr (.inr h)))
           .exact .inr h
         rw[a3]at s';have hF:∀b∈M1,¬plus (a::(L1++M2)) Fr b:=λb U z=>by
          rcases z with z|z
          .simp only[V5,qb]at z
           rcases z with z|z|z
           .exact a5.1 (by rw[←z];simp[U])
           .exact nd1.2.2 b z b (by simp[U]) rfl
           .exact b0.2.2 b U b z rfl
          .exact(hL b (by simp[U])).1 z
         obtain⟨S2,s2,b1⟩:=s'.store (i:=j) (r1.own (W':=wn ob S' (plus M1 (plus (a::(L1++M2)) Fr))) hok.1) (by obtain⟨c1,c2⟩:=vy hok.1;simp[clean,c1,c2]) b0.1 hF;have a6:∀b,inS S2 b->inS S b∨H b=none:=λb ⟨j',z⟩=>by
          rcases b1 j' b z with⟨j2,z⟩|z
          .rcases mv.gr j2 b z with z|z|z
           .exact .inl z
           .cases z
           .exact .inr z
          .exact(hL b 1.22).2
         refine U _ _ h5 _ H2 S2 _ s2 _ ?_;intro a0 Y S3 I m3;have c7:(F.set j (some x))[j]? =some (some x):=by simp[b9]
         obtain⟨v',q1,q2,q3,q4⟩:=I.move hd';have ev:v'=x:=by
          have:=m3.pr j (by simp);rw[c7,q1]at this;simpa using this
         subst ev;have b3:∀b u,plus (a::(L1++M2)) Fr b->H2 b=some u->Y b=some u:=λb u U hu=>m3.kp b u hu (λ⟨j',z⟩=>s2.fdj j' b U z) (by simp);have tu:=(tO s2 m3).t;have a9:∀b,H2 b=none->inS S b∨H b=none:=λb U=>by
          by_cases hi:inS S b
          .exact .inl hi
          .cases h7:H b with
           |none=>exact .inr rfl
           |some u=>rw[mv.kp b u h7 hi (by simp)]at U;cases U
         have b6:∀j' b,b∈S3 j'->inS S b∨H b=none:=λj' b z=>by
          rcases m3.gr j' b z with z|z|z
          .exact a6 b z
          .cases z
          .exact a9 b z
         refine⟨by omega,ρ2.set j none,cz S3 j [],done++[d'],L1++S3 j,M2,?_,b3 a _ (.inl (by simp)) a1,?_,?_,oR r2 hok.2 tu λc Z u hu=>b3 c u (.inl (by simp[Z])) hu,?_,λb U=>?_,⟨λb u U hn hm=>?_,λk' b z=>?_,λk' a4=>?_⟩,?_,?_,ef⟩
         .have:plus (a::((L1++S3 j)++M2)) Fr=plus (S3 j) (plus (a::(L1++M2)) Fr):=by
           funext b;simp only[plus,V5,qb,eq_iff_iff];constructor
           .rintro((h|(h|h)|h)|h)
            .exact .inr (.inl (.inl h))
            .exact .inr (.inl (.inr (.inl h)))
            .exact .inl h
            .exact .inr (.inl (.inr (.inr h)))
            .exact .inr (.inr h)
           .rintro(h|((h|h|h)|h))
            .exact .inl (.inr (.inl (.inr h)))
            .exact .inl (.inl h)
            .exact .inl (.inr (.inl (.inl h)))
            .exact .inl (.inr (.inr h))
            .exact .inr h
          rw[this];exact q3
         .have e5:xs.take (k+1)=xs.take k++[v']:=by rw[Y7,J];rfl
          rw[e5];exact(oR rd od tu λc Z u hu=>b3 c u (.inl (by simp[Z])) hu).append (.one (q4.own hod))
         .have:∀(l:List D)(d:D),aW l=true->bJ d=true->aW (l++[d])=true:=λl d=>by
           induction l with
           |nil=>intro _ h;simp[aW,h]
           |cons e r ih=>intro h1 h2;simp[aW]at h1⊢;exact⟨h1.1,by simpa using ih h1.2 h2⟩
          exact this done d' od hod
         .refine List.nodup_cons.mpr ⟨λz=>?_,cP (cP nd1.1 (I.nd j) λb h1 h2=>I.fdj j b (.inl (by simp[h1])) h2) b0.2.1 λb h1 h2=>?_⟩
          .simp only[qb]at z
           rcases z with(z|z)|z
           .exact a5.1 1.22
           .exact I.fdj j a (.inl (by simp)) z
           .exact a5.1 1.22
          .rcases qb.mp h1 with z|z
           .exact nd1.2.2 b z b (by simp[h2]) rfl
           .exact I.fdj j b (.inl (by simp[h2])) z
         .simp only[V5,qb]at U
          rcases U with z|(z|z)|z
          .exact hL b 1.22
          .exact hL b 1.22
          .exact⟨λy=>I.fdj j b (.inr y) z,b6 j b z⟩
          .exact hL b 1.22
         .exact m3.kp b u (mv.kp b u U hn hm) (λz=>(a6 b z).elim hn λz=>by rw[U]at z;cases z) hm
         .rcases bL z with⟨_,z⟩|⟨_,z⟩
          .cases z
          .exact(b6 k' b z).imp id .inr
         .have hne:j≠k':=λz=>by rw[←z,c5]at a4;cases a4
          rw[m3.pr k' (by simp[a4]),List.getElem?_set_ne hne];exact mv.pr k' a4
         .rw[m3.pr i (by simp),List.getElem?_set_ne (WW c3)];exact a2
         .exact(Hq.mp q1).1
        .cases ef
       .cases ef
    .have hk2:k=ds.length:=by omega
     subst hk2;rw[Yt,forM]at ef;cases ef;refine .inl ⟨⟨xs,SqL.of a1,by omega⟩,?_⟩;rw[Yt]at rr;obtain⟨_,rfl⟩:=rr.inv0;rw[Wm]at s' nd hL;rw[b7,Z3]at rd;obtain⟨S2,s2,b1⟩:=s'.store (i:=i) (d:=.lst .own done) (v:=.ref a) (by rw[Rep];exact⟨a,xs,L1,rfl,rd.own od,a1,rfl⟩) (by obtain⟨c1,c2⟩:=dX od;simp[clean,az,aq,c1,c2]) nd λb U=>(hL b U).1;have b4:F.set i (some (.ref a))=F:=by
      refine Y6 λk=>?_;rw[List.getElem?_set];split
      .rename_i e;subst e
       rw[a2];simp[(Hq.mp a2).1]
      .rfl
     rw[b4]at s2;refine q F H' S2 s2 ⟨mv.kp,λj' b z=>?_,mv.pr⟩;rcases b1 j' b z with⟨j2,z⟩|z
     .exact mv.gr j2 b z
     .exact(hL b z).2.imp id .inr
  .cases e
 .cases e
end
end Jb
namespace PySem
open PySem.Builtin PySem.Builtin.List PySem.Builtin.SmallTypes
section
variable{prog:Program}{w:World}{A:Around}{E:Value->Shared->Prop}{z TI TO i1 i2 l1 l2 p:Addr}{k:Nat}{xs ys:Array Value}{x y u v:Value}{b:Bool}{h:Heap}{g:Array GenState}{d:Drawn}{tk:Nat}{os:OsState}
theorem q_{M:Model}{A:Xk}{E:Value->V0->Prop}{s:V0}{a:Addr}{Q:Option Obj->V0->Prop}(h:Q (s.heap.get? a) s):wpAny M A (Sem.loadIfAlive a Sem.pure) Q E s:=by
 intro B q p;rw[Sem.wp_loadIfAlive];exact h
theorem F.jb_sub_stop:isSubtype (.type "StopIteration") (.type "StopIteration")=pure true:=by rw[isSubtype_type];kernel_rfl
theorem F.jb_lk_zip_len:abG (.type "zip") "__len__"=pure none:=by rw[aa2,ZV];kernel_rfl
theorem F.jb_lk_zip_hint:abG (.type "zip") "__length_hint__"=pure none:=by rw[aa2,ZV];kernel_rfl
def xY(h:Heap)(z TI TO p:Addr)(b:Bool):Prop:=h.get? z=some {cls:=.type "zip",data:=.fields #[ZR p,.bool b,.bool false,.ref TI,.ref TO]}/\∃o,h.get? p=some o
theorem Gw{Q:Option Value->V0->Prop}(Y:A.handled=none)(ap:abW z TI TO i1 i2 l1 l2)(hz:xY h z TI TO p b)(hp:p≠z)(hT:abn h TI (.ref i1) (.ref i2))(O:h.IsListIter i1 l1 k)(B:h.IsListIter i2 l2 k)(p1:h.IsList l1 xs)(p2:h.IsList l2 ys)(J:xs[k]? =some x)(V:ys[k]? =some y)
  (N:∀h' q,xY h' z TI TO p true->abn h' TI (.ref i1) (.ref i2)->h'.IsListIter i1 l1 (k+1)->h'.IsListIter i2 l2 (k+1)->abn h' h.objs.size x y->h'.objs.size=h.objs.size+1->(∀c o,c≠z->c≠i1->c≠i2->h.get? c=some o->h'.get? c=some o)->Q (some (.ref h.objs.size)) ⟨h',g,d,q,os⟩) :
  wpAny 1.14 A (aa1 (.ref z)) Q E ⟨h,g,d,tk,os⟩:=by
 have a5:(⟨h,g,d,tk,os⟩:V0).TypeIs (.ref z) "zip":=⟨_,hz.1,rfl⟩;unfold aa1;refine gD (acX ?_);refine Yn a5 ZD ?_
 show 2
 refine Za ZD.plain F.entry_zip_next (ZD.check _ _ _ _ _ _ _ _ a5 (adC _) ?_);unfold Builtin.«zip.__next__»;obtain⟨a2,op,a7⟩:=hz
 show 2
 refine q_ ?_;have b3:(p:Int).toNat=p:=Yo p;rw[b3];show wpAny _ _ (if(h.get? p).isNone=true then _ else _) _ _ _;rw[a7];rw[show(some op:Option Obj).isNone=false from rfl,Wo WL];refine gD (ZJ a2 rfl (x:=.bool b) rfl ?_);refine L2.thn (Q:=λa s'=>a=false/\∃h1,s'=⟨h1,g,d,tk,os⟩/\h1.objs.size=h.objs.size/\(∀c,c≠z->h1.get? c=h.get? c)/\h1.get? z=some {cls:=.type "zip",data:=.fields #[ZR p,.bool true,.bool false,.ref TI,.ref TO]}) ?_ ?_
 .cases b with
  |true=>exact V3 ⟨rfl,h,rfl,rfl,λ_ _=>rfl,a2⟩
  |false=>
   refine gD (abd a2 rfl (by show 1<5;decide) ?_);exact V3 ⟨rfl,_,rfl,X8 ..,λc Z=>W5 h _ (WW Z),YZ _ a2 rfl⟩
 .rintro a s' ⟨rfl,h1,rfl,hsz,hk1,hz3⟩
  show wpAny _ _ (if false=true then _ else _) _ _ _;rw[Wo WL];dsimp only;rw[←adl];simp only[ab7,ad3];have b0:A.in1.handled=none:=Y;have q1:h1.IsListIter i1 l1 k:=O.at λo e=>(hk1 i1 ap.i1z).trans e;have q2:h1.IsListIter i2 l2 k:=B.at λo e=>(hk1 i2 ap.i2z).trans e;have U:h1.IsList l1 xs:=let⟨o,a,b⟩:=p1;⟨o,(hk1 l1 ap.l1z).trans a,b⟩;have r2:h1.IsList l2 ys:=let⟨o,a,b⟩:=p2;⟨o,(hk1 l2 ap.l2z).trans a,b⟩;have b4:k<xs.size:=(aby.mp J).1;have b2:k<ys.size:=(aby.mp V).1;refine gD (gD (gD (Xf ?_)));show wpAny _ _ (nextOf (.ref i1) >>=λv=>pure (some v)) _ _ _;refine gD ((acP b0 i1 l1 ap.l1i1 xs).item k _ _ _ b4 ⟨q1,U⟩ λx' h2 b5 a4 a9 a1=>?_);rw[J]at a4;cases a4;refine V3 ?_;refine V3 ?_;show wpAny _ _ (bind (bind _ _) _) _ _ _;refine gD (gD (Xf ?_));show wpAny _ _ (nextOf (.ref i2) >>=λv=>pure (some v)) _ _ _;refine gD ((acP b0 i2 l2 ap.l2i2 ys).item k _ _ _ b2 ⟨q2.at λo e=>(a1.2 i2 (WW ap.i12)).trans e,let⟨o,a,b⟩:=r2;⟨o,(a1.2 l2 ap.l2i1).trans a,b⟩⟩ λy' h3 a8 a6 a3 a0=>?_);rw[V]at a6;cases a6;refine V3 ?_;refine V3 ?_;refine V3 ?_;refine gD (acA ?_ (by show 2<=V6;decide));have e3:h3.objs.size=h.objs.size:=by rw[a0.1,a1.1,hsz]
  have kk:∀c o,c≠z->c≠i1->c≠i2->h.get? c=some o->h3.get? c=some o:=λc o n1 I n3 e=>(a0.2 c n3).trans ((a1.2 c I).trans ((hk1 c n1).trans e));refine V3 ?_;refine V3 ?_;show Q (some (.ref h3.objs.size)) ⟨h3.push {cls:=.type "tuple",data:=.seq #[x,y]},g,d,a8,os⟩;rw[e3];have nw:∀c o,h3.get? c=some o->(h3.push {cls:=.type "tuple",data:=.seq #[x,y]}).get? c=some o:=λc o e=>V2 _ e;have b1:∃o,h3.get? p=some o:=by
   by_cases e1:p=i1
   .obtain⟨⟨o,a,_⟩,_⟩:=a9;exact⟨o,by rw[a0.2 p (by rw[e1];exact ap.i12),e1];exact a⟩
   .by_cases e2:p=i2
    .obtain⟨⟨o,a,_⟩,_⟩:=a3;exact⟨o,by rw[e2];exact a⟩
    .exact⟨op,kk p op hp e1 e2 a7⟩
  refine N _ a8 ⟨nw _ _ ((a0.2 z (WW ap.i2z)).trans ((a1.2 z (WW ap.i1z)).trans hz3)),let⟨o,e⟩:=b1;⟨o,nw _ _ e⟩⟩ (nw _ _ (kk TI _ ap.TIz ap.TIi1 ap.TIi2 hT)) (a9.1.at λo e=>nw _ _ ((a0.2 i1 ap.i12).trans e)) (a3.1.at λo e=>nw _ _ e) ?_ (by rw[Yu,e3]) λc o n1 I n3 e=>nw _ _ (kk c o n1 I n3 e);rw[←e3];exact Wx _ rfl
theorem Iw{Q:Option Value->V0->Prop}(Y:A.handled=none)(ap:abW z TI TO i1 i2 l1 l2)(hz:xY h z TI TO p b)(hT:abn h TI (.ref i1) (.ref i2))(O:h.IsListIter i1 l1 k)(B:h.IsListIter i2 l2 k)(p1:h.IsList l1 xs)(p2:h.IsList l2 ys)(J:k<xs.size)(a7:k=ys.size)
  (N:∀h' q,(∀c o,c≠z->c≠i1->c≠i2->h.get? c=some o->h'.get? c=some o)->Q none ⟨h',g,d,q,os⟩) :
  wpAny 1.14 A (aa1 (.ref z)) Q E ⟨h,g,d,tk,os⟩:=by
 have a2:(⟨h,g,d,tk,os⟩:V0).TypeIs (.ref z) "zip":=⟨_,hz.1,rfl⟩;unfold aa1;refine gD (acX ?_);refine Yn a2 ZD ?_;obtain⟨a0,op,a8⟩:=hz
 show 2
 refine Za ZD.plain F.entry_zip_next (ZD.check _ _ _ _ _ _ _ _ a2 (adC _) ?_);unfold Builtin.«zip.__next__»
 show 2
 refine q_ ?_;have a9:(p:Int).toNat=p:=Yo p;rw[a9];show wpAny _ _ (if(h.get? p).isNone=true then _ else _) _ _ _;rw[a8];rw[show(some op:Option Obj).isNone=false from rfl,Wo WL];refine gD (ZJ a0 rfl (x:=.bool b) rfl ?_);refine L2.thn (Q:=λa s'=>a=false/\∃h1,s'=⟨h1,g,d,tk,os⟩/\h1.objs.size=h.objs.size/\(∀c,c≠z->h1.get? c=h.get? c)/\h1.get? z=some {cls:=.type "zip",data:=.fields #[ZR p,.bool true,.bool false,.ref TI,.ref TO]}) ?_ ?_
 .cases b with
  |true=>exact V3 ⟨rfl,h,rfl,rfl,λ_ _=>rfl,a0⟩
  |false=>
   refine gD (abd a0 rfl (by show 1<5;decide) ?_);exact V3 ⟨rfl,_,rfl,X8 ..,λc Z=>W5 h _ (WW Z),YZ _ a0 rfl⟩
 .rintro a s' ⟨rfl,h1,rfl,hsz,hk1,hz3⟩
  show wpAny _ _ (if false=true then _ else _) _ _ _;rw[Wo WL];dsimp only;rw[←adl];simp only[ab7,ad3];have a5:A.in1.handled=none:=Y;have q1:h1.IsListIter i1 l1 k:=O.at λo e=>(hk1 i1 ap.i1z).trans e;have q2:h1.IsListIter i2 l2 k:=B.at λo e=>(hk1 i2 ap.i2z).trans e;have U:h1.IsList l1 xs:=let⟨o,a,b⟩:=p1;⟨o,(hk1 l1 ap.l1z).trans a,b⟩;have r2:h1.IsList l2 ys:=let⟨o,a,b⟩:=p2;⟨o,(hk1 l2 ap.l2z).trans a,b⟩;subst a7;refine gD (gD (gD (Xf ?_)));show wpAny _ _ (nextOf (.ref i1) >>=λv=>pure (some v)) _ _ _;refine gD ((acP a5 i1 l1 ap.l1i1 xs).item _ _ _ _ J ⟨q1,U⟩ λx' h2 a3 b2 V a1=>?_);refine V3 ?_;refine V3 ?_;show wpAny _ _ (bind (bind _ _) _) _ _ _;refine gD (gD (Xf ?_));show wpAny _ _ (nextOf (.ref i2) >>=λv=>pure (some v)) _ _ _;refine gD ((acP a5 i2 l2 ap.l2i2 ys).done _ _ _ ⟨q2.at λo e=>(a1.2 i2 (WW ap.i12)).trans e,let⟨o,a,b⟩:=r2;⟨o,(a1.2 l2 ap.l2i1).trans a,b⟩⟩ λh3 e a4 hE=>?_);obtain⟨oe,b0,b1⟩:=hE;have a6:Shared.TypeIs ⟨h3,g,d,a3,os⟩ (.ref e) "StopIteration":=⟨oe,b0,b1⟩;refine gD (aaN a6 F.jb_sub_stop ?_);exact V3 (N h3 a3 λc o n1 I n3 e=>a4 c o n3 ((a1.2 c I).trans ((hk1 c n1).trans e)))
theorem Jv{Q:Bool->V0->Prop}(I:(⟨h,g,d,tk,os⟩:V0).TypeIs (.ref z) "zip")
  (N:∀b,Q b ⟨h,g,d,tk,os⟩):wpAny 1.14 A (listLengthHint (.ref z)) Q E ⟨h,g,d,tk,os⟩:=by
 unfold listLengthHint;refine gD (wpAny_specialOf I F.jb_lk_zip_len ?_);show wpAny _ _ (specialOf (.ref z) "__length_hint__" >>=_) _ _ _;refine gD (wpAny_specialOf I F.jb_lk_zip_hint ?_);dsimp only;exact V3 (N _)
variable{D:Addr}
theorem vJ{Q:ad6->V0->Prop}{f0:Value}(I:h.get? D=some (LO #[] 0))(Z:IsZip h z TI TO f0)(n1:D≠z)
  (N:∀h' J,(∀b,b≠D->h'.get? b=h.get? b)->h'.objs.size=h.objs.size->h'.get? D=some (LO #[] J)->Q (.again (.builtin "list.extend.loop" ⟨[.ref D,.ref z,.none],[]⟩)) ⟨h',g,d,tk,os⟩) :
  wpAny 1.14 A (Builtin.«list.__init__» ⟨[.ref D,.ref z],[]⟩) Q E ⟨h,g,d,tk,os⟩:=by
 unfold Builtin.«list.__init__»;show wpAny _ _ (listItems (.ref D) >>=_) _ _ _;refine gD (wpAny_listItems I rfl ?_);show wpAny _ _ (adm D (λ_=>#[]) >>=_) _ _ _;refine gD (aa6 I rfl ?_ (by decide) (by decide));have q1:IsL (h.update D (Xh λ_=>#[])) D #[] _:=Zg (show IsL h D #[] 0 from I) (λ_=>#[]);have V:∀b,b≠D->(h.update D (Xh λ_=>#[])).get? b=h.get? b:=λb U=>W5 h _ (WW U);have B:(h.update D (Xh λ_=>#[])).objs.size=h.objs.size:=X8 ..;refine gD (wpAny_letGo ?_);show wpAny _ _ (listExtendWith (.ref D) (.ref z) .none) _ _ ⟨h.update D (Xh λ_=>#[]),g,d,tk,os⟩;generalize h.update D (Xh λ_=>#[])=h1 at q1 V B⊢;have q:IsZip h1 z TI TO f0:=(V z (WW n1)).trans Z;have hT:(⟨h1,g,d,tk,os⟩:V0).TypeIs (.ref z) "zip":=⟨_,q,rfl⟩;unfold listExtendWith;refine gD (Zf hT ?_);have Y:listSameRef (.ref D) (.ref z)=false:=by
  unfold listSameRef;simp[n1]
 rw[Y,Wo (by decide)];refine gD (abX q ?_);refine gD (Xf (Jv hT λF=>?_));dsimp only;split
 .refine gD (aaq ?_)
  unfold listTouch;refine gD (gD ?_);show wpAny _ _ (adm D (λx=>x.push .none)) _ _ _;refine aa6 q1 rfl ?_ (by decide) (by decide);have q2:IsL (h1.update D (Xh (·.push .none))) D (#[].push .none) _:=Zg q1 (·.push .none);show wpAny _ _ (adm D (λx=>x.pop)) _ _ _;refine aa6 q2 rfl ?_ (by decide) (by decide);have O:IsL ((h1.update D (Xh (·.push .none))).update D (Xh (·.pop))) D ((#[].push .none).pop) _:=Zg q2 (·.pop);refine V3 (N _ _ (λb U=>?_) (by rw[X8,X8];exact B) O);exact(W5 _ _ (WW U)).trans ((W5 h1 _ (WW U)).trans (V b U))
 .exact V3 (N h1 _ V B q1)
def ZSt(h:Heap)(z TI TO i1 i2 l1 l2:Addr)(k:Nat):Prop:=((IsZip h z TI TO .none/\∃u v,abn h TO u v)∨∃p b,p≠z/\xY h z TI TO p b)/\abn h TI (.ref i1) (.ref i2)/\h.IsListIter i1 l1 k/\h.IsListIter i2 l2 k
theorem K5{Q:Option Value->V0->Prop}(Y:A.handled=none)(B:abW z TI TO i1 i2 l1 l2)(st:ZSt h z TI TO i1 i2 l1 l2 k)(p1:h.IsList l1 xs)(p2:h.IsList l2 ys)(J:xs[k]? =some x)(V:ys[k]? =some y)
  (N:∀h' q,ZSt h' z TI TO i1 i2 l1 l2 (k+1)->abn h' h.objs.size x y->h'.objs.size=h.objs.size+1->(∀c o,c≠z->c≠TO->c≠i1->c≠i2->h.get? c=some o->h'.get? c=some o)->Q (some (.ref h.objs.size)) ⟨h',g,d,q,os⟩) :
  wpAny 1.14 A (aa1 (.ref z)) Q E ⟨h,g,d,tk,os⟩:=by
 obtain⟨h1|⟨p,b,F,h1⟩,h2,Z,U⟩:=st
 .obtain⟨h1,u,v,h5⟩:=h1
  refine acC (s:=⟨h,g,d,tk,os⟩) B h1 h2 h5 Z U p1 p2 J V λh' g1 g3 g4 g5 g6 hsz k1=>?_;have O:z<h.objs.size:=V_ h1;exact N h' tk ⟨.inr ⟨h.objs.size,false,Yq O,g1,_,g6⟩,k1 TI _ B.TIz B.TITO B.TIi1 B.TIi2 h2,g4,g5⟩ g6 hsz k1
 .exact Gw Y B h1 F h2 Z U p1 p2 J V λh' q g1 g2 g4 g5 g6 hsz k1=>N h' q ⟨.inr ⟨p,true,F,g1⟩,g2,g4,g5⟩ g6 hsz λc o n1 _ I n3 e=>k1 c o n1 I n3 e
theorem N5{Q:Option Value->V0->Prop}(Y:A.handled=none)(B:abW z TI TO i1 i2 l1 l2)(st:ZSt h z TI TO i1 i2 l1 l2 k)(p1:h.IsList l1 xs)(p2:h.IsList l2 ys)(J:k<xs.size)(O:k=ys.size)
  (N:∀h' q,(∀c o,c≠z->c≠TO->c≠i1->c≠i2->h.get? c=some o->h'.get? c=some o)->Q none ⟨h',g,d,q,os⟩) :
  wpAny 1.14 A (aa1 (.ref z)) Q E ⟨h,g,d,tk,os⟩:=by
 obtain⟨h1|⟨p,b,F,h1⟩,h2,Z,U⟩:=st
 .obtain⟨h1,u,v,h5⟩:=h1
  exact acO (s:=⟨h,g,d,tk,os⟩) Y B h1 h2 h5 Z U p1 p2 (.inr (by rw[O];simp)) λh' V=>N h' tk V
 .exact Iw Y B h1 h2 Z U p1 p2 J O λh' q V=>N h' q λc o n1 _ I n3 e=>V c o n1 I n3 e
theorem ZSt.keep{h':Heap}(st:ZSt h z TI TO i1 i2 l1 l2 k)(kp:∀c o,c≠D->h.get? c=some o->h'.get? c=some o)(n:D≠z/\D≠TI/\D≠TO/\D≠i1/\D≠i2)(I:∃o,h'.get? D=some o):ZSt h' z TI TO i1 i2 l1 l2 k:=by
 obtain⟨h1,h2,Z,U⟩:=st;refine⟨?_,kp _ _ n.2.1.symm h2,Z.at λo e=>kp _ _ n.2.2.2.1.symm e,U.at λo e=>kp _ _ n.2.2.2.2.symm e⟩;rcases h1 with⟨h1,u,v,V⟩|⟨p,b,F,h1,o,V⟩
 .exact .inl ⟨kp _ _ n.1.symm h1,u,v,kp _ _ n.2.2.1.symm V⟩
 .refine .inr ⟨p,b,F,kp _ _ n.1.symm h1,?_⟩
  by_cases e:p=D
  .rw[e];exact I
  .exact⟨o,kp _ _ e V⟩
end
end PySem
namespace Jb
open PySem PySem.Spec PyProof.Rows L2
section
variable{X:Cx}{pins:List (Addr×Obj)}{σ:L2.St}{z TI TO i1 i2 l1 l2 D:Addr}
theorem SqL.but{K:V8}{H H':Hp}{a:Addr}{Y:List V}(h:SqL K H a Y)(I:∀b o,b≠D->H b=some o->H' b=some o)(hn:a≠D):SqL K H' a Y:=h.imp (λz=>z.imp (I a _ hn) λ⟨o,z⟩=>⟨o,I a _ hn z⟩) id
theorem Mj{R:Result->V0->Prop}{A:Xk}(hh:A.handled=none)(ap:abW z TI TO i1 i2 l1 l2)(n:D≠z/\D≠TI/\D≠TO/\D≠i1/\D≠i2)(n1:l1≠D)(n2:l2≠D){xs ys:List V}(hl:ys.length<xs.length):∀(m k:Nat)(us:List V)(H:Hp)(s:V0),Inv X pins σ H s->(∀b∈[z,TI,TO,i1,i2],jd X pins H b)->SqL X.K H l1 xs->SqL X.K H l2 ys->k+m=ys.length->us.length+m<=V6->H D=some (.lst us)->ZSt s.heap z TI TO i1 i2 l1 l2 k->(∀b∈[z,TI,TO,i1,i2],b<s.heap.objs.size)->
  (∀(H':Hp)(h':Heap)(a0:Nat)(as:List Addr),Inv X pins σ H' {s with heap:=h',toks:=a0}->(∀b o,b≠D->H b=some o->H' b=some o)->H' D=some (.lst (us++as.map V.ref))->as.Nodup->as.length=m->(∀a∈as,H a=none)->(∀(j:Nat)(a:Addr),as[j]? =some a->∃x y,xs[k+j]? =some x/\ys[k+j]? =some y/\H' a=some (.tup [x,y]))->R (.ok (.ret .none)) {s with heap:=h',toks:=a0})->
  Zw 1.12 A (.builtin "list.extend.loop" ⟨[.ref D,.ref z,.none],[]⟩) R s:=by
 intro m
 induction m with
 |zero=>
  intro k us H s I hf q1 q2 hk hs hD st a5 r;obtain⟨B,rv,pl,O⟩:=I.list q1;obtain⟨its',a4,a6,b5⟩:=I.list q2;refine YC F.jb_entry_ext ?_;rw[X7 F.jb_plain_ext _];unfold Builtin.«list.extend.loop»;dsimp only;have e1:=rv.length;have e2:=a4.length;obtain⟨h,g,d,tk,os⟩:=s;refine gD (N5 (show A.in1.handled=none from hh) ap st pl.isList a6.isList (by simp;omega) (by simp;omega) λh' a0 kp=>?_);refine V3 ?_;refine r H h' a0 [] ?_ (λ_ _ _ e=>e) (by simpa using hD) List.nodup_nil rfl (by simp) (by simp);exact ji (s:=⟨h,g,d,tk,os⟩) (t':=a0) (fp:=[z,TI,TO,i1,i2]) I hf λb u U e=>kp b u (λz=>U 1.22) (λz=>U 1.22) (λz=>U 1.22) (λz=>U 1.22) e
 |succ m ih=>
  intro k us H s I hf q1 q2 hk hs hD st a5 r;obtain⟨B,rv,pl,O⟩:=I.list q1;obtain⟨its',a4,a6,b5⟩:=I.list q2;refine YC F.jb_entry_ext ?_;rw[X7 F.jb_plain_ext _];unfold Builtin.«list.extend.loop»;dsimp only;have e1:=rv.length;have e2:=a4.length;have b2:xs[k]? =some xs[k]:=Wh 1.10;have a8:ys[k]? =some ys[k]:=Wh 1.10;obtain⟨u,hu,ru⟩:=rv.get b2;obtain⟨v,b9,N⟩:=a4.get a8;obtain⟨h,g,d,tk,os⟩:=s;refine gD (K5 (show A.in1.handled=none from hh) ap st pl.isList a6.isList (x:=u) (y:=v) (by simpa using hu) (by simpa using b9) λh1 a3 c1 b4 a7 b3=>?_);dsimp only;have hn:H h.objs.size=none:=I.hok.fresh (Wa _);have I1:Inv X pins σ (upd H h.objs.size (.tup [xs[k],ys[k]])) {(⟨h,g,d,tk,os⟩:V0)with heap:=h1,toks:=a3}:=by
   refine oK (s:=⟨h,g,d,tk,os⟩) (fp:=[z,TI,TO,i1,i2]) (t':=a3) I hf (λb o U e=>?_) (Wa _) ?_
   .exact b3 b o (λz=>U 1.22) (λz=>U 1.22) (λz=>U 1.22) (λz=>U 1.22) e
   .exact⟨by show 2<=V6;decide,[u,v],.cons ru (.cons N .nil),{cls:=.type "tuple",data:=.seq #[u,v]},b4,rfl,0,rfl,rfl⟩
  have a2:D≠h.objs.size:=λe=>by rw[e,hn]at hD;cases hD
  have b0:upd H h.objs.size (.tup [xs[k],ys[k]]) D=some (.lst us):=by rw[aK a2];exact hD
  obtain⟨c3,a1,cc,a9,b1⟩:=I1.hok D _ b0;have hL:=a9.length;show wpAny _ _ (adm D (λx=>x.push (.ref h.objs.size)) >>=_) _ _ _;refine gD (aa6 b1 rfl ?_ (by simp;omega) (by rw[Array.size_push];simp;omega));have q:IsL (h1.update D (Xh (·.push (.ref h.objs.size)))) D (a1.toArray.push (.ref h.objs.size)) _:=Zg (show IsL h1 D a1.toArray cc from b1) (·.push (.ref h.objs.size));have k2:∀b,b≠D->(h1.update D (Xh (·.push (.ref h.objs.size)))).get? b=h1.get? b:=λb U=>W5 h1 _ (WW U);have z2:(h1.update D (Xh (·.push (.ref h.objs.size)))).objs.size=h.objs.size+1:=by rw[X8];exact a7
  generalize h1.update D (Xh (·.push (.ref h.objs.size)))=h2 at q k2 z2⊢;refine V3 ⟨Y5 F.jb_plain_ext _,?_⟩;obtain⟨J,b7⟩:∃J,h2.get? D=some {cls:=.type "list",data:=.seq (a1++[Wb h.objs.size]).toArray J}:=⟨_,by rw[←adz];exact q⟩;have I2:Inv X pins σ (upd (upd H h.objs.size (.tup [xs[k],ys[k]])) D (.lst (us++[.ref h.objs.size]))) {(⟨h,g,d,tk,os⟩:V0)with heap:=h2,toks:=a3}:=by
   refine Inv.write (s:={(⟨h,g,d,tk,os⟩:V0)with heap:=h1,toks:=a3}) I1 (e:=D) (by rw[b0];trivial) (.inl rfl) (λb u U e=>(k2 b U).trans e) ⟨_,q⟩ ?_;refine⟨by simp;omega,a1++[.ref h.objs.size],J,a9.append (.cons (show RelV (V.ref h.objs.size) (Wb h.objs.size)from rfl) .nil),?_⟩;exact b7
  have kH:∀b o,b≠D->H b=some o->upd (upd H h.objs.size (.tup [xs[k],ys[k]])) D (.lst (us++[.ref h.objs.size])) b=some o:=λb o U e=>by
   rw[aK U,aK λz=>by rw[z,hn]at e;cases e];exact e
  have b6:∀b∈[z,TI,TO,i1,i2],jd X pins (upd (upd H h.objs.size (.tup [xs[k],ys[k]])) D (.lst (us++[.ref h.objs.size]))) b:=λb U=>by
   refine⟨?_,(hf b U).2⟩;have b8:b≠D:=by
    simp only[V5,YL,or_false]at U;rcases U with e|e|e|e|e<;>rw[e]
    .exact n.1.symm
    .exact n.2.1.symm
    .exact n.2.2.1.symm
    .exact n.2.2.2.1.symm
    .exact n.2.2.2.2.symm
   rw[aK b8,aK (Wj (a5 b U))];exact(hf b U).1
  refine ih (k+1) (us++[.ref h.objs.size]) _ _ I2 b6 (SqL.but q1 kH n1) (SqL.but q2 kH n2) 1.10 (by simp;omega) aM ?_ ?_ ?_
  .exact c1.keep (λc o Z e=>(k2 c Z).trans e) n ⟨_,q⟩
  .exact λb U=>Wg (a5 b U) (by show h.objs.size<=h2.objs.size;omega)
  .intro H' h' a0 as I' sm' hD' nd hl' hn' hg
   have c0:H' h.objs.size=some (.tup [xs[k],ys[k]]):=sm' _ _ a2.symm (by rw[aK a2.symm];exact aM);refine r H' h' a0 (h.objs.size::as) I' (λb o U e=>sm' b o U (kH b o U e)) (by simpa using hD') (List.nodup_cons.mpr ⟨λz=>?_,nd⟩) (by simp[hl']) (λa Y=>?_) λj a hj=>?_
   .have:=hn' _ z
    rw[aK a2.symm,aM]at this;cases this
   .rcases V5.mp Y with e|e
    .rw[e];exact hn
    .have:=hn' a e
     cases e2:H a with
     |none=>rfl
     |some o=>
      by_cases ed:a=D
      .rw[ed,aM]at this;cases this
      .rw[kH a o ed e2]at this;cases this
   .cases j with
    |zero=>
     cases hj;exact⟨_,_,b2,a8,c0⟩
    |succ j=>
     rw[show k+(j+1)=k+1+j by omega];exact hg j a (by simpa using hj)
def HF(K:V8)(t:TA):TE:=λσ H Q=>t σ H λvs H1=>∃a b xs ys,vs=[.ref a,.ref b]/\SqL K H1 a xs/\SqL K H1 b ys/\ys.length<xs.length/\∀(H2:Hp)(F:List Addr)(p:Addr),Same H1 H2->F.Nodup->F.length=ys.length->(∀c∈F,H1 c=none)->(∀(j:Nat)(c:Addr),F[j]? =some c->∃x y,xs[j]? =some x/\ys[j]? =some y/\H2 c=some (.tup [x,y]))->H1 p=none->H2 p=some (.lst (F.map V.ref))->Q (.ref p) H2
variable{a b:Expr}{t:TA}{p1 p2 q1 q2:Pos}
theorem C_(hg:Gl X "list")(J:X.mg "list"=none)(b3:X.mg "zip"=none)(Y:PA X [a,b] t)(a6:Gl X "zip":=by rfl)(hs:We [a,b] X.env=(false,eval a X.env)::We [b] X.env:=by rfl)(b8:We [b] X.env=[(false,eval b X.env)]:=by rfl)(Z:X.calm=true:=by rfl) :
  PE X (.Call (.Name "list" p1) [.Call (.Name "zip" p2) [a,b] [] q2] [] q1) (HF X.K t):=by
 intro pins s σ H Q I h;refine Zz (mF I hg J ab9 ?_);refine X4 ?_ rfl rfl;show wpAny _ _ (spliced ((false,eval (.Call (.Name "zip" p2) [a,b] [] q2) X.env)::Yj q1 (We [] X.env))) _ _ s;refine ada ?_;refine Zz (mF I a6 b3 boot_zip ?_);refine X4 (thn (Y q2 pins s σ H _ I h) λus O ⟨vs,H1,I1,r1,b9⟩=>?_) hs (by rw[b8];rfl);obtain⟨l,l',xs,ys,ev,N,b1,V,q⟩:=b9;subst ev;obtain⟨u,v,rfl,ru,b7⟩:∃u v,us=[u,v]/\RelV (.ref l) u/\RelV (.ref l') v:=by
  cases r1 with
  |cons h1 t=>
   cases t with
   |cons h2 t=>cases t;exact⟨_,_,rfl,h1,h2⟩
 cases ru;cases b7;obtain⟨B,rv,pl,hz⟩:=I1.list N;obtain⟨its',b2,b0,c2⟩:=I1.list b1;have a1:l<O.heap.objs.size:=let⟨_,h1,_⟩:=pl.isList;V_ h1;have a2:l'<O.heap.objs.size:=let⟨_,h1,_⟩:=b0.isList;V_ h1;refine call_zip_2 pl.isList b0.isList λh1 g1 g2 g3 g4 g5 hsz k1=>?_;refine adw ?_;obtain⟨h0,g,d,tk,os⟩:=O;have hh:X.A.handled=none:=I1.ok.hd Z;refine callType_codes (Q₁:=λobj a4=>obj= .ref h1.objs.size/\a4=⟨h1.push {cls:=.type "list",data:=.seq #[]},g,d,tk,os⟩) F.called_list (F.typeCall_list_1 _) F.entry_list_init (code_list_new _ ⟨rfl,rfl⟩) ?_;rintro obj a4 ⟨rfl,rfl⟩;have eD:(h1.push {cls:=.type "list",data:=.seq #[]}).get? h1.objs.size=some (LO #[] 0):=Wx _ rfl;have a0:h1.objs.size=h0.objs.size+5:=hsz;have b5:ZSt (h1.push {cls:=.type "list",data:=.seq #[]}) (h0.objs.size+4) (h0.objs.size+2) (h0.objs.size+3) h0.objs.size (h0.objs.size+1) l l' 0:=⟨.inl ⟨V2 _ g1,_,_,V2 _ g3⟩,V2 _ g2,g4.at λo e=>V2 _ e,g5.at λo e=>V2 _ e⟩;have nD:h1.objs.size≠h0.objs.size+4/\h1.objs.size≠h0.objs.size+2/\h1.objs.size≠h0.objs.size+3/\h1.objs.size≠h0.objs.size/\h1.objs.size≠h0.objs.size+1:=by rw[a0];refine⟨?_,?_,?_,?_,?_⟩<;>omega
 refine⟨⟨_,eD,rfl⟩,F.args_list_init_2 _ _,vJ (z:=h0.objs.size+4) (TI:=h0.objs.size+2) (TO:=h0.objs.size+3) (f0:=.none) eD (V2 _ g1) nD.1 λh' c' kp a9 a5=>⟨Y5 F.jb_plain_ext _,?_⟩⟩;have a7:=b5.keep (h':=h') (λc o Z e=>(kp c Z).trans e) nD ⟨_,a5⟩;have c0:h'.objs.size=h0.objs.size+6:=by rw[a9,Yu,a0]
 rw[a0]at kp a5 nD⊢;have b4:∀c o,h0.get? c=some o->h'.get? c=some o:=λc o e=>by
  have Z:c<h0.objs.size:=V_ e;rw[kp c (Wj (Wg Z (Z4 _ 5)))];exact V2 _ (k1 c o e)
 have a8:H1 (h0.objs.size+5)=none:=I1.hok.fresh (Z4 _ _);have I2:Inv X pins σ (upd H1 (h0.objs.size+5) (.lst [])) {(⟨h0,g,d,tk,os⟩:V0)with heap:=h',toks:=tk}:=I1.laid (t':=tk) b4 (Z4 _ _) ⟨by decide,[],c',.nil,a5⟩;have a3:∀c∈[h0.objs.size+4,h0.objs.size+2,h0.objs.size+3,h0.objs.size,h0.objs.size+1],h0.objs.size<=c/\c<h0.objs.size+5:=λc Z=>by
  simp only[V5,YL,or_false]at Z;rcases Z with e|e|e|e|e<;>rw[e]<;>(constructor<;>omega)
 have c3:l<h0.objs.size:=a1;have c1:l'<h0.objs.size:=a2;have w1:l≠h0.objs.size+5:=Wj (Wg a1 (Z4 _ 5));have w2:l'≠h0.objs.size+5:=Wj (Wg a2 (Z4 _ 5));have kH:∀b o,b≠h0.objs.size+5->H1 b=some o->upd H1 (h0.objs.size+5) (.lst []) b=some o:=λb o U e=>by rw[aK U];exact e
 refine Mj (X:=X) (pins:=pins) (σ:=σ) (A:=X.A.in1) hh (zipApart_new a1 a2) nD w1 w2 V ys.length 0 [] _ _ I2 (λc Z=>I1.fpOk (a3 c Z).1 (by rw[aK (Wj (a3 c Z).2)];exact I1.hok.fresh (a3 c Z).1)) (SqL.but N kH w1) (SqL.but b1 kH w2) 1.10 (by have:=b2.length;simp;omega) aM a7 (λc Z=>Wg (a3 c Z).2 (by show h0.objs.size+5<=h'.objs.size;omega)) ?_;intro H2 h2 c4 as I3 sm hD nd hl hn a6;have b6:∀c∈as,H1 c=none:=λc Z=>by
  have:=hn c Z;by_cases e:c=h0.objs.size+5
  .rw[e,aM]at this;cases this
  .rwa[aK e]at this
 refine⟨rfl,.ref (h0.objs.size+5),H2,I3,rfl,q H2 as _ (λb o e=>?_) nd hl b6 (λj c hj=>by simpa using a6 j c hj) a8 (by simpa using hD)⟩;have U:b≠h0.objs.size+5:=λz=>by rw[z,a8]at e;cases e
 exact sm b o U (kH b o U e)
end
theorem J6{P:WY}{w:World}{K:V8}{mg:Str->Option Value}{base:Heap}{k:Nat}{f:Addr}{fd:Xq}{ps:List Str}{G:Gc}:gJ P w K mg base CX0 k f fd ps (spP G λ_=>none):=
 ⟨λvs H Q E ⟨ds,Fr,r,_,_,_,d,e,_⟩=>(by cases e),λA outer s H args us vs Q E O V U N ⟨ds,Fr,r,_,_,_,d,e,_⟩=>(by cases e)⟩
section
variable{ι:Type}{X:ι->Cx}{G:Gc}{ob P:Nat->Bool}
theorem Io(i j:Nat){x y:Str}{V:List Stmt}{p1 p2 pos:Pos}{f:En->Option Fl}(F:∀c,abh (model (X c).prog (X c).w) (X c).A (X c).env (X c).xe)(Z:∀c,(X c).calm=true)(O:∀c,(X c).N.Nodup)(U:mK X G ob (λk=>k==j||k==i||P k) V f)
  (q:P j=false:=by rfl) (hi:∀c,(X c).N[i]? =some x:=by intro _;rfl) (Y:∀c,Vis (X c).env.scope x:=by intro _;first|exact Yk rfl|exact Xv (Yk rfl)|exact Xv (Xv rfl)) (hd:1.20=false:=by decide) (B:(x==("__classdict__":Str))=false:=by decide)
  (I:∀c,(X c).N[j]? =some y:=by intro _;rfl) (J:∀c,Loc (X c).env.scope y:=by intro _;first|exact Yk rfl|exact Xv rfl) (hf:∀c,(X c).fn y=true∨(X c).env.scope.names.lookup y=some .local:=by intro _;first|exact .inl rfl|exact .inr rfl) (hK:∀c,(X c).K=G.K:=by intro _;rfl) (hs:∀c,∀v,Xl (.Name x p2) (X c).env v=pure v:=by intro _;intro _;rfl) :
  PVS X G ob P (.For (.Name y p1) (.Name x p2) V [] pos) (v5 i j f):=
 let⟨u,b1,b2⟩:=U.ex
 ⟨_,λc=>Cm (F c) (Z c) (by rw[←hK c];exact Ih (Km (hi c) (Y c) hd B)) (tE (O c) (I c) (J c) (hf c)) (b1 c) (hs c),Il q b2⟩
end
mutual
theorem HR:∀{d:D},vm d=true->bJ d=true
 |.non,_=>rfl
 |.bl _,_=>rfl
 |.int _,_=>rfl
 |.str _,_=>rfl
 |.ty _,_=>rfl
 |.tup ds,h=>by simp only[vm]at h;simp only[bJ];exact m6 h
 |.lst _ _,h=>by cases h
 |.dct _ _ _,h=>by cases h
 |.ins _ _ _ _,h=>by cases h
theorem m6:∀{ds:List D},dJ ds=true->aW ds=true
 |[],_=>rfl
 |d::r,h=>by
  simp only[dJ,Wr]at h;simp only[aW,Wr];exact⟨HR h.1,m6 h.2⟩
end
def jo:List D->Option D
 |[.lst _ es,.lst _ fs]=>if dJ es=true/\dJ fs=true/\fs.length<es.length then some (.lst .own (nP es fs))else none
 |_=>none
section
variable{ι:Type}{X:ι->Cx}{G:Gc}{ob P:Nat->Bool}
theorem Eh{H2:Hp}{W:Wn}:∀{es fs:List D}{xs ys:List V}{F:List Addr},aD G H2 W es xs []->aD G H2 W fs ys []->fs.length<=es.length->F.length=fs.length->(∀(j:Nat)(c:Addr),F[j]? =some c->∃x y,xs[j]? =some x/\ys[j]? =some y/\H2 c=some (.tup [x,y]))->aD G H2 W (nP es fs) (F.map V.ref) []
 |es,[],xs,ys,F,h1,h2,hl,ha,hg=>by
  obtain rfl:F=[]:=by cases F with|nil=>rfl|cons a r=>simp at ha
  have:nP es []=[]:=by simp[nP]
  rw[this];exact .nil
 |[],f::fs,xs,ys,F,h1,h2,hl,ha,hg=>by simp at hl
 |e::es,f::fs,xs,ys,F,h1,h2,hl,ha,hg=>by
  cases F with
  |nil=>simp at ha
  |cons a F=>
  obtain⟨x,xr,M,M',rfl,e1,q1,q2⟩:=h1.inv;obtain⟨y,Y,N,N',rfl,e2,O,q4⟩:=h2.inv;obtain⟨rfl,rfl⟩:M=[]/\M'=[]:=by simpa using e1.symm
  obtain⟨rfl,rfl⟩:N=[]/\N'=[]:=by simpa using e2.symm
  obtain⟨U,J,Z,q,B⟩:=hg 0 a rfl;cases Z;cases q;refine aD.cons (M:=[]) (M':=[]) ?_ (Eh q2 q4 (by simpa using hl) (by simpa using ha) λj c I=>hg (j+1) c (by simpa using I));rw[Rep];exact⟨a,_,rfl,B,aD.cons (M:=[]) (M':=[]) q1 (aD.cons (M:=[]) (M':=[]) O .nil)⟩
theorem za:CaV G (λvs H1 Q=>∃a b xs ys,vs=[.ref a,.ref b]/\SqL G.K H1 a xs/\SqL G.K H1 b ys/\ys.length<xs.length/\∀(H2:Hp)(as:List Addr)(p:Addr),Same H1 H2->as.Nodup->as.length=ys.length->(∀c∈as,H1 c=none)->(∀(j:Nat)(c:Addr),as[j]? =some c->∃x y,xs[j]? =some x/\ys[j]? =some y/\H2 c=some (.tup [x,y]))->H1 p=none->H2 p=some (.lst (as.map V.ref))->Q (.ref p) H2) jo:=λds d e xs H W L0 r nd hn w Q q=>by
 unfold jo at e;split at e
 .rename_i m es m' fs
  split at e
  .rename_i hc
   cases e;obtain⟨x,yr,M,M',rfl,rfl,q1,q2⟩:=r.inv;obtain⟨y,zr,N,N',rfl,rfl,q3,q4⟩:=q2.inv;obtain⟨rfl,rfl⟩:=q4.inv0;rw[Rep]at q1 q3;obtain⟨a,xs,M1,rfl,U,O⟩:=q1;obtain⟨b,ys,M2,rfl,Z,B⟩:=q3;have z1:=kh U hc.1;have J:=kh Z hc.2.1;subst z1 J;refine⟨a,b,xs,ys,rfl,O.sq,B.sq,by rw[←U.length,←Z.length];exact hc.2.2,λH2 as p I a2 Y a3 hg F a0=>?_⟩;refine q (.ref p) H2 [p] I ?_ (λc a1=>.inr (by rw[Wl.mp a1];exact F)) (List.nodup_cons.mpr ⟨by simp,List.nodup_nil⟩);rw[Rep];refine⟨p,_,[],rfl,Eh (oR U (m6 hc.1) (λb ys h=>I b _ h) (by simp)) (oR Z (m6 hc.2.1) (λb ys h=>I b _ h) (by simp)) (YS hc.2.2) (by rw[Y,Z.length]) hg,a0,rfl⟩
  .cases e
 .cases e
theorem Ca{a b:Expr}{p1 p2 q1 q2:Pos}{f:En->Option (List D)}(q:∀c,Gl (X c) "list")(J:∀c,(X c).mg "list"=none)(B:∀c,(X c).mg "zip"=none)(Y:PVA X G ob [a,b] f)(N:∀c,Gl (X c) "zip":=by intro _;rfl)(hs:∀c,We [a,b] (X c).env=(false,eval a (X c).env)::We [b] (X c).env:=by intro _;rfl)(F:∀c,We [b] (X c).env=[(false,eval b (X c).env)]:=by intro _;rfl)(Z:∀c,(X c).calm=true:=by intro _;rfl)(I:∀c,(X c).K=G.K:=by intro _;rfl) :
  PV X G ob (.Call (.Name "list" p1) [.Call (.Name "zip" p2) [a,b] [] q2] [] q1) (eAp jo f):=
 let⟨t,a1,a2⟩:=Y.ex
 ⟨_,λc=>(by have:=C_ (p1:=p1) (p2:=p2) (q1:=q1) (q2:=q2) (q c) (J c) (B c) (a1 c) (N c) (hs c) (F c) (Z c);rw[I c]at this;exact this),t_ za a2⟩
end
def vC(i j:Nat):En->Option Fl:=λρ=>match ρ[i]? with
 |some (some d)=>(match(ρ.set i none)[j]? with
  |some (some d')=>some (.ret (.tup [d,d']) ((ρ.set i none).set j none))
  |_=>none)
 |_=>none
section
variable{ι:Type}{X:ι->Cx}{G:Gc}{ob P:Nat->Bool}
theorem Hk{i j:Nat}:RfS G ob P (Nx (U8 (zz (By i) (zz (By j) Ra)))) (vC i j):=λρ r e σ H S Fr s E q=>by
 unfold vC at e;split at e
 .rename_i d h1
  split at e
  .rename_i d' h2
   cases e;obtain⟨v,V,a2,O,Z⟩:=s.move h1;obtain⟨B,b1,J,b3,b4⟩:=O.move h2;have I:∀k a,a∈cz S i [] k->a∈S k:=λk a z=>(bL z).elim (λz=>by cases z.2) λz=>z.2;have N:∀k a,a∈cz (cz S i []) j [] k->a∈cz S i [] k:=λk a z=>(bL z).elim (λz=>by cases z.2) λz=>z.2;have a5:=(by simpa[clean]using a2:az d=true/\aq d=true);have a0:=(by simpa[clean]using J:az d'=true/\aq d'=true);refine⟨v,V,B,b1,(by show 2<=V6;decide),λp F=>?_⟩;have sm:Same H (upd H p (.tup [v,B])):=Same.new F;have a6:∀a,plus (S i++cz S i [] j) Fr a↔plus (cz S i [] j) (plus (S i) Fr) a:=λa=>by
    unfold plus;rw[qb];constructor
    .rintro((z|z)|z)
     .exact .inr (.inl z)
     .exact .inl z
     .exact .inr (.inr z)
    .rintro(z|z|z)
     .exact .inl (.inr z)
     .exact .inl (.inl z)
     .exact .inr z
   refine q (.ref p) σ (upd H p (.tup [v,B])) (S i++cz S i [] j) (cz (cz S i []) j []) (b3.grow sm λa Y=>.inl ((a6 a).mp Y)) ?_ ?_ ?_ ?_ ?_
   .rw[Rep]
    refine⟨p,[v,B],rfl,aM,?_⟩;have w1:∀{M:List Addr}{b:Addr},(wn ob (cz S i []) (plus (S i) Fr)).free b->(wn ob (cz (cz S i []) j []) (plus (S i++cz S i [] j) Fr)).free b:=λ{M b} f=>by
     refine⟨λz=>?_,λ⟨k,q1,q2⟩=>f.2.1 ⟨k,q1,N k b q2⟩,λ⟨k,q1,q2⟩=>f.2.2 ⟨k,q1,N k b q2⟩⟩;rcases(a6 b).mp z with z|z
     .cases ho:ob j with
      |false=>exact f.2.1 ⟨j,ho,z⟩
      |true=>exact f.2.2 ⟨j,ho,z⟩
     .exact f.1 z
    have a7:Evo H (upd H p (.tup [v,B])) (wn ob (cz S i []) (plus (S i) Fr)) (wn ob (cz (cz S i []) j []) (plus (S i++cz S i [] j) Fr)):=⟨λb u h f=>⟨sm b u h,w1 (M:=[]) f⟩,λb xs h=>sm b _ h⟩;have a8:Evo H (upd H p (.tup [v,B])) (wn ob (cz (cz S i []) j []) (plus (cz S i [] j) (plus (S i) Fr))) (wn ob (cz (cz S i []) j []) (plus (S i++cz S i [] j) Fr)):=⟨λb u h f=>⟨sm b u h,⟨λz=>f.1 ((a6 b).mp z),f.2⟩⟩,λb xs h=>sm b _ h⟩;exact aD.cons (Z.mono a7 (.inl a5.1) (.inl a5.2) λc _ u e=>sm c u e) (aD.one (b4.mono a8 (.inl a0.1) (.inl a0.2) λc _ u e=>sm c u e))
   .simp[clean,az,aq,aA,aB,a5.1,a5.2,a0.1,a0.2]
   .refine Wi.mpr ⟨s.nd i,O.nd j,λa Y b U e=>?_⟩
    subst e;rcases bL U with⟨_,z⟩|⟨n,z⟩
    .cases z
    .exact n (s.dj i j a Y z).symm
   .intro a Y
    rcases qb.mp Y with z|z
    .exact .inl ⟨i,z⟩
    .exact .inl ⟨j,I j a z⟩
   .exact⟨λb u h _ _=>sm b u h,λk a z=>.inl ⟨k,I k a (N k a z)⟩,.refl⟩
  .cases e
 .cases e
theorem Gv(i j:Nat){x y:Str}{p1 p2 J pos:Pos}{x1}(U:∀c,(X c).N[i]? =some x:=by intro _;rfl)(Y:∀c,Vis (X c).env.scope x:=by intro _;first|exact Yk rfl|exact Xv (Yk rfl)|exact Xv (Xv rfl))(hd:1.20=false:=by decide)(B:(x==("__classdict__":Str))=false:=by decide)
  (V:∀c,(X c).N[j]? =some y:=by intro _;rfl) (O:∀c,Vis (X c).env.scope y:=by intro _;first|exact Yk rfl|exact Xv (Yk rfl)|exact Xv (Xv rfl)) (q:(y==("__debug__":Str))=false:=by decide) (I:(y==("__classdict__":Str))=false:=by decide)
  (hs:∀c,We [.Name x p1,.Name y p2] (X c).env=(false,eval (.Name x p1) (X c).env)::We [.Name y p2] (X c).env:=by intro _;rfl) (F:∀c,We [.Name y p2] (X c).env=(false,eval (.Name y p2) (X c).env)::We [] (X c).env:=by intro _;rfl):PVS X G ob P (.Return (some (.Tuple [.Name x p1,.Name y p2] x1 J)) pos) (vC i j):=
 ⟨_,λc=>xx (Cw (pU (pv i (U c) (Y c) hd B) (pU (pv j (V c) (O c) q I) Ku (F c)) (hs c))),Hk⟩
end
noncomputable def du:List D->Option D:=fnP 2 4 ((bC (cI (eC (.int 0)) (tgN 2))
 (bC (sIf (eB (e2 gLt (au false 1) (eAp dh (ao 1.21 aH)))) (cI (e2 gIx 1.21 (au false 1)) (tgN 2)) iQ)
 (bC (cI (e2 fu (eAp lL (ao (au false 2) aH)) (eAp nF (ao (e2 gGe (eAp lL (ao (au false 2) aH)) (e2 j4 (eC (.int 10)) (eC (.int 18)))) aH))) (tgN 3))
 (kj (eAp bB (ao (au false 3) (ao (e2 gY (e2 fu (e2 cF (e2 cF (e2 gY (au false 2) (eC (.int 2147483647))) (e2 fu (eC (.int 7919)) (au false 1))) (eC (.int 11))) (eC (.int 48271))) (eC (.int 2147483629))) aH))))))))
noncomputable def aC:List D->Option (D×List D):=fnI (λi=>i==0) 2 4 ((bC (sIf (eB (e2 gGt (e2 gIx (au true 0) (eC (.int 0))) (eC (.int 0)))) (bC (cI (e2 gY (e2 gIx (au true 0) (eC (.int 0))) (au false 1)) (tgN 2))
 (bC (cI (e2 g_ (e2 gIx (au true 0) (eC (.int 0))) (au false 1)) (rJ gH 0 (gk 0) (eC (.int 0))))
 (j_ 2))) iQ)
 (bC (cI (e2 gY (e2 cF (e2 fu (e2 gIx (au true 0) (eC (.int 1))) (eC (.int 48271))) (eC (.int 39373))) (eC (.int 2147483647))) (rJ gH 0 (gk 0) (eC (.int 1))))
 (bC (cI (e2 gY (e2 fu (e2 gIx (au true 0) (eC (.int 1))) (e2 cF (e2 gY (e2 gIx (au true 0) (eC (.int 1))) (eC (.int 40009))) (eC (.int 7)))) (eC (.int 2147483587))) (tgN 3))
 (kj (e2 gY (e2 g_ (au false 3) (eC (.int 64))) (au false 1)))))))
noncomputable def dW:List D->Option (D×List D):=fnI (λi=>i==0) 1 4 ((bC (cI (eMt uQ (eC (.str "b aa zebra c quartzes ab m knows d mm likes z a ba abcdefgh y")) (ao (eC (.str " ")) aH)) (tgN 1))
 (bC (dR (eIo aC [0] (cO (ao (eC (.int 16)) aH))) (tgN 2))
 (bC (dR (ee2 gIx (lJ bB (bW (eIo aC [0] (cO (ao (eC (.int 3)) aH))) (bW (ee2 cF (eUp (eC (.int 10))) (eIo aC [0] (cO (ao (eC (.int 5)) aH)))) (bW (ee2 cF (eUp (eC (.int 4))) (eIo aC [0] (cO (ao (eC (.int 5)) aH)))) (cO aH))))) (lJ ie (bW (eUp (eC (.int 2))) (bW (eIo aC [0] (cO (ao (eC (.int 8)) aH))) (cO aH))))) (tgN 3))
 (kj (ik [none,some 1,some 2] (o8 (ao (au false 3) aH)) (tpN 0) eTT (e2 gIx (au false 1) (e2 gY (e2 cF (au false 2) (e2 fu (eC (.int 5)) 1.21)) (eC (.int 16))))))))))
noncomputable def cR:List D->Option (D×List D):=fnI (λi=>i==0) 3 12 ((bC (cI (eAp bB aH) (tgN 3))
 (bC (dR (ee2 gIx (eUp (eAp bB (ao (eC (.int 3)) (ao (eC (.int 3)) (ao (eC (.int 12)) (ao (eC (.int 12)) (ao (eC (.int 12)) (ao (e2 fu (eC (.int 4)) (e2 j4 (eC (.int 10)) (eC (.int 11)))) aH)))))))) (eIo aC [0] (cO (ao (eC (.int 6)) aH)))) (tgN 4))
 (bC (dR (lJ qt (bW (lY [none,some 4,some 0] (itS (au false 1)) (tgN 0) eTT (lJ bT (bW (eUp 1.21) (bW (ee2 g8 (eIo aC [2] (cO (ao (e2 fu (eC (.int 2)) (au false 1)) aH))) (eUp (au false 1))) (cO aH))))) (cO aH))) (tgN 5))
 (bC (dR (ee2 gIx (eUp (eAp bB (ao (eC (.int 0)) (ao (eC (.int 0)) (ao (eC (.int 3)) (ao (eC (.int 12)) aH)))))) (eIo aC [0] (cO (ao (eC (.int 4)) aH)))) (tgN 6))
 (bC (Am (zX (bW (eIo aC [0] (cO (ao (e2 cF (e2 fu (eC (.int 2)) (eAp dh (ao (au false 1) aH))) (eC (.int 1))) aH))) (cO aH))) (tgN 7) (bC (uw (bW (ee2 gIx (eUp (au false 1)) (eIo aC [0] (cO (ao (eAp dh (ao (au false 1) aH)) aH)))) (bW (ee2 gIx (eUp (au false 1)) (eIo aC [0] (cO (ao (eAp dh (ao (au false 1) aH)) aH)))) (cO aH))) (aU (tgN 8) (aU (tgN 9) dq)))
 (bC (dR (eIo aC [0] (cO (ao (eC (.int 9)) aH))) (tgN 10))
 (bC (sIf (eB (e2 gEq (au false 10) (eC (.int 0)))) (cI (au false 8) (tgN 9)) iQ)
 (bC (sIf (vL (eB (e2 gEq (au false 10) (eC (.int 1)))) (eB (e2 gNe (au false 3) (eAp bB aH)))) (dR (Kl (ee2 gIx (eUp (au false 3)) (eIo aC [0] (cO (ao (eAp dh (ao (au false 3) aH)) aH)))) rY (oX (eC (.int 2)))) (tgT 2 (aU (tgN 8) (aU (tgN 9) dq)))) iQ)
 (bC (sIf (vL (eB (e2 gEq (au false 10) (eC (.int 2)))) (eB (e2 gNe (au false 3) (eAp bB aH)))) (dR (Kl (ee2 gIx (eUp (au false 3)) (eIo aC [0] (cO (ao (eAp dh (ao (au false 3) aH)) aH)))) rY (oX (eC (.int 2)))) (tgT 2 (aU (tgN 9) (aU (tgN 8) dq)))) iQ)
 (bC (dR (ee2 cF (eUp (e2 g8 (e2 gIx (au false 5) (au false 9)) (e2 gIx (au false 5) (au false 8)))) (ee2 fu (eUp (au false 2)) (ee2 g8 (eIo aC [0] (cO (ao (eC (.int 5)) aH))) (eUp (eC (.int 2)))))) (tgN 11))
 (bC (Bm (vZ (vA (eB (e2 gGt (au false 6) (eC (.int 0))))) (eeB (ee2 gEq (eIo aC [0] (cO (ao (au false 6) aH))) (eUp (eC (.int 0)))))) (dR (ee2 cF (eUp (au false 11)) (ee2 gIx (eUp (eAp bB (ao (eC (.int 1)) (ao (e1 jb (eC (.int 1))) (ao (eC (.int 2)) (ao (e2 j4 (eC (.int 10)) (eC (.int 11))) aH)))))) (eIo aC [0] (cO (ao (eC (.int 4)) aH))))) (tgN 11)) iQ)
 (jE aN 3 (gk 3) (ao (eAp bT (ao (au false 8) (ao (au false 9) (ao (au false 11) aH)))) aH))))))))))
 (j_ 3)))))))
noncomputable def b_:List D->Option D:=fnP 2 8 ((bC (cI (ik [none] (itS 1.21) (tpN 0) eTT (eAp bB (ao 1.21 aH))) (tgN 2))
 (bC (lM (itS (au false 1)) (tgT 3 (aU (tgN 3) (aU (tgN 4) (aU (tgN 5) dq)))) (bC (sFz 2 (cI (e2 gIx (ik [none,some 3] (itS (au false 2)) (tpN 0) (eB (e2 gIn (au false 1) 1.21)) 1.21) (eC (.int 0))) (tgN 6)))
 (bC (cI (e2 gIx (ik [none,some 4] (itS (au false 2)) (tpN 0) (eB (e2 gIn (au false 1) 1.21)) 1.21) (eC (.int 0))) (tgN 7))
 (sIf (eB (e2 gNe (au false 6) (au false 7))) (cI (e2 cF (ik [none,some 6,some 7] (itS (au false 2)) (tpN 0) (vL (eB (e2 gNe 1.21 (au false 1))) (eB (e2 gNe 1.21 (au false 2)))) 1.21) (eAp bB (ao (e2 cF (au false 6) (au false 7)) aH))) (tgN 2)) iQ))))
 (kj (eAp cT (ao (ik [none] (itS (au false 2)) (tpN 0) eTT (eAp cT (ao 1.21 aH))) aH))))))
noncomputable def cQ:List D->Option D:=fnP 2 7 ((bC (cI (qj [none] (itS 1.21) (tpN 0) eTT 1.21 (eAp bB aH)) (tgN 2))
 (bC (lM (itE (ao (au false 1) aH)) (tgT 2 (aU (tgN 3) (aU (tgT 3 (aU (tgN 4) (aU (tgN 5) (aU (tgN 6) dq)))) dq))) (bC (jE aN 2 (yf 2 (gk 2) (au false 4)) (ao (eAp bT (ao (au false 3) (ao (eC (.int 1)) (ao (au false 5) aH)))) aH))
 (jE aN 2 (yf 2 (gk 2) (au false 5)) (ao (eAp bT (ao (au false 3) (ao (e1 jb (eC (.int 1))) (ao (au false 4) aH)))) aH))))
 (j_ 2))))
noncomputable def dM:List D->Option D:=fnP 2 8 ((bC (cI (Ac (tL (au false 1) (eAp bT aH) FJ)) (tgN 2))
 (bC (cI (eAp bB (ao (au false 1) aH)) (tgN 3))
 (bC (jY (vA (lK (au true 3))) (bC (dR (nZ jJ 3 (gk 3) (ao (eC (.int 0)) aH)) (tgN 4))
 (lM (itS (e2 gIx 1.21 (au false 4))) (tgT 3 (aU (tgN 5) (aU (tgN 6) (aU (tgN 7) dq)))) (sIf (eB (e2 lz (au false 7) (au false 2))) (bC (cI (e2 cF (e2 gIx (au false 2) (au false 4)) (eAp bT (ao (eAp bT (ao (au false 5) (ao (au false 6) aH))) aH))) (rJ gH 2 (gk 2) (au false 7)))
 (jE aN 3 (gk 3) (ao (au false 7) aH))) iQ))) 1000000)
 (j_ 2)))))
noncomputable def gV:List D->Option D:=fnP 2 7 ((bC (cI (eAp (cD cQ) (ao 1.21 (ao (au false 1) aH))) (tgN 2))
 (bC (cI (eAp HJ aH) (tgN 3))
 (bC (cI (eAp bB aH) (tgN 4))
 (bC (lM (itS (eAp cT (ao 1.21 aH))) (tgN 5) (sIf (eB (e2 lz (au false 5) (au false 3))) (bC (cI (eAp (cD dM) (ao (au false 2) (ao (au false 5) aH))) (tgN 6))
 (bC (sFz 6 (jE jr 3 (gk 3) (ao (au false 6) aH)))
 (jE aN 4 (gk 4) (ao (au false 6) aH)))) iQ))
 (j_ 4))))))
noncomputable def bK:List D->Option D:=fnP 2 2 ((kj (ik [none] (itS (eAp (cD gV) (ao 1.21 (ao (au false 1) aH)))) (tpN 0) eTT (eAp cT (ao 1.21 aH)))))
noncomputable def eE:List D->Option (D×List D):=fnI (λi=>i==0) 1 1 ((t7 (ee2 gIx (eUp (eAp bB (ao (eC (.int 0)) (ao (eC (.int 0)) (ao (eC (.int 0)) (ao (eC (.int 2)) (ao (eC (.int 3)) (ao (eC (.int 7)) (ao (eC (.int 1000)) (ao (eC (.int 1)) aH)))))))))) (eIo aC [0] (cO (ao (eC (.int 8)) aH))))))
noncomputable def dO:List D->Option (D×List D):=fnI (λi=>i==0) 2 10 ((bC (cI (ik [none] (o8 (ao (eC (.int 40)) aH)) (tpN 0) eTT (e2 cF (e2 gIx (eC (.str "abcdefgh")) (e2 gY 1.21 (eC (.int 8)))) (e2 gIx (eC (.str "klmno")) (e2 g_ 1.21 (eC (.int 8)))))) (tgN 2))
 (bC (sFz 2 (dR (lJ qt (bW (lY [none,some 0] (itS (au false 2)) (tgN 0) eTT (lJ bT (bW (eUp 1.21) (bW (ee2 g8 (eIo aC [1] (cO (ao (eC (.int 25)) aH))) (eUp (eC (.int 12)))) (cO aH))))) (cO aH))) (tgN 3)))
 (bC (cI (eAp bB aH) (tgN 4))
 (bC (sFz 2 (lM (itS (au false 2)) (tgN 5) (ur jG 4 (gk 4) (bW (eIo aC [0] (cO (ao (e2 cF (eAp dh (ao (au false 4) aH)) (eC (.int 1))) aH))) (cO (ao (au false 5) aH))))))
 (bC (cI (eAp jo (ao (au false 4) (ao (eSl (au false 4) (oX (eC (.int 1))) rY) aH))) (tgN 6))
 (bC (dR (ee2 cF (eUp (au false 6)) (lY [none,some 2,some 0] (o8 (ao (eC (.int 80)) aH)) (tgN 0) eTT (lJ bT (bW (ee2 gIx (eUp (au false 1)) (eIo aC [2] (cO (ao (eC (.int 40)) aH)))) (bW (ee2 gIx (eUp (au false 1)) (eIo aC [2] (cO (ao (eC (.int 40)) aH)))) (cO aH)))))) (tgN 6))
 (bC (cI (eAp bB aH) (tgN 7))
 (bC (sFz 6 (lM (itS (au false 6)) (tgT 2 (aU (tgN 8) (aU (tgN 9) dq))) (ur aN 7 (gk 7) (bW (lJ bT (bW (eUp (au false 8)) (bW (eUp (au false 9)) (bW (ee2 cF (eUp (e2 g8 (e2 gIx (au false 3) (au false 9)) (e2 gIx (au false 3) (au false 8)))) (ee2 fu (eUp (au false 1)) (ee2 g8 (eIo aC [0] (cO (ao (eC (.int 3)) aH))) (eUp (eC (.int 1)))))) (cO aH))))) (cO aH)))))
 (vC 2 7))))))))))
def aR(Frec:List D->Option D):List D->Option D:=fnP 2 2 ((bC (sIf (lK (eAp dH (ao (au false 1) (ao (eAp bT (ao (eC (.ty "list")) (ao (eC (.ty "tuple")) aH))) aH)))) (bC (sIf (eOr (qT (lK (eAp dH (ao 1.21 (ao (eAp bT (ao (eC (.ty "list")) (ao (eC (.ty "tuple")) aH))) aH))))) (eB (e2 gNe (eAp dH (ao 1.21 (ao (eC (.ty "list")) aH))) (eAp dH (ao (au false 1) (ao (eC (.ty "list")) aH)))))) (kj (eC (.bl false))) iQ)
 (kj (zm (e2 gEq (eAp dh (ao 1.21 aH)) (eAp dh (ao (au false 1) aH))) (eAp J5 (ao (ik [none,none] (itZ (ao 1.21 (ao (au false 1) aH))) (tpT 2 (aU (tpN 0) (aU (tpN 1) dq))) eTT (eAp (cD Frec) (ao 1.21 (ao (au false 1) aH)))) aH))))) iQ)
 (bC (sIf (eOr (eB (e2 gIs (au false 1) (eC .non))) (lK (eAp dH (ao (au false 1) (ao (eC (.ty "str")) aH))))) (kj (zm (e2 gEq 1.21 (au false 1)) (e2 gEq (eAp dH (ao 1.21 (ao (eC (.ty "str")) aH))) (eAp dH (ao (au false 1) (ao (eC (.ty "str")) aH)))))) iQ)
 (kj (zm (eAp dH (ao 1.21 (ao (eC (.ty "int")) aH))) (zm (e2 gEq (eAp dH (ao 1.21 (ao (eC (.ty "bool")) aH))) (eAp dH (ao (au false 1) (ao (eC (.ty "bool")) aH)))) (e2 gEq 1.21 (au false 1))))))))
noncomputable def bz:List D->Option D:=(aR (aR (aR (aR (λ_=>none)))))
noncomputable def kW:List D->Option D:=fnP 1 13 ((bC (lM (o8 (ao (e2 cF (eC (.int 1)) (eAp ie (ao (eC (.int 12)) (ao (eAp dh (ao 1.21 aH)) aH)))) aH)) (tgN 1) (bC (cI (eAp (cD du) (ao 1.21 (ao (au false 1) aH))) (tgN 2))
 (bC (dR (eIo dW [2] (cO aH)) (tgN 3))
 (bC (dR (eIo cR [2] (bW (eUp (au false 3)) (bW (eIo eE [2] (cO aH)) (cO aH)))) (tgN 4))
 (bC (Bm (vZ (vA (eB (e2 gEq (au false 1) (eC (.int 0))))) (eeB (ee2 gEq (eIo aC [2] (cO (ao (eC (.int 16)) aH))) (eUp (eC (.int 0)))))) (dR (eIo dO [2] (cO (ao (eC (.int 0)) aH))) (tgT 2 (aU (tgN 3) (aU (tgN 4) dq)))) iQ)
 (bC (sFz 3 (cI (eAp (cD b_) (ao (au false 3) (ao (au false 4) aH))) (tgN 5)))
 (bC (v8 4 [3,0] (bC (dR (ee2 gIx (eUp (eAp bB (ao (eAp bT (ao (au false 3) (ao (au false 4) aH))) (ao (eAp bT (ao (eAp d_ (ao (au false 3) aH)) (ao (eAp d_ (ao (au false 4) aH)) aH))) aH)))) (eIo aC [2] (cO (ao (eC (.int 2)) aH)))) (tgN 6))
 (bC (cI (eAp xN (ao (au false 6) aH)) (tgN 7))
 (bC (cI (eAp (cD bK) (ao (e2 gIx (au false 6) (eC (.int 0))) (ao (e2 gIx (au false 6) (eC (.int 1))) aH))) (tgN 8))
 (bC (sIf (eOr (qT (lK (eAp (cD bz) (ao (au false 8) (ao (au false 5) aH))))) (eB (e2 gNe (eAp xN (ao (au false 6) aH)) (au false 7)))) (kj (eC (.bl false))) iQ)
 (bC (v5 8 9 (jE aN 9 (gk 9) (ao (eC (.str "z")) aH)))
 (bC (jE m9 8 (gk 8) aH)
 (bC (cI (ik [none,none,none] (itS (e2 gw (au false 4) (e1 jb (eC (.int 1))))) (tpT 3 (aU (tpN 0) (aU (tpN 1) (aU (tpN 2) dq)))) eTT (eAp bT (ao (au false 1) (ao 1.21 (ao (e1 jb (au false 2)) aH))))) (tgN 10))
 (bC (sIf (eOr (qT (lK (eAp (cD bz) (ao (eAp (cD bK) (ao (e2 gIx (au false 6) (eC (.int 0))) (ao (e2 gIx (au false 6) (eC (.int 1))) aH))) (ao (au false 5) aH))))) (qT (lK (eAp (cD bz) (ao (eAp (cD bK) (ao (e2 gw (au false 3) (e1 jb (eC (.int 1)))) (ao (au false 10) aH))) (ao (au false 5) aH)))))) (kj (eC (.bl false))) iQ)
 (cI (eAp (cD bK) (ao (au false 3) (ao (au false 4) aH))) (tgN 11)))))))))))
 (bC (sIf (eB (e2 gNe (au false 3) (eAp bB aH))) (ur aN 4 (gk 4) (bW (lJ bT (bW (ee2 gIx (eUp (au false 3)) (eIo aC [2] (cO (ao (eAp dh (ao (au false 3) aH)) aH)))) (cO (ao (e2 gIx (au false 3) (e1 jb (eC (.int 1)))) (ao (eC (.int 0)) aH))))) (cO aH))) iQ)
 (bC (cI (eAp (cD bK) (ao (au false 3) (ao (au false 4) aH))) (tgN 12))
 (sIf (eOr (qT (lK (eAp (cD bz) (ao (au false 11) (ao (au false 5) aH))))) (qT (lK (eAp (cD bz) (ao (au false 12) (ao (eAp (cD b_) (ao (au false 3) (ao (au false 4) aH))) aH)))))) (kj (eC (.bl false))) iQ))))))))))
 (kj (e2 gEq (eAp (cD bK) (ao (eAp bB aH) (ao (eAp bB aH) aH))) (eAp bB aH)))))
abbrev tp(a b:Int):D:=.lst .own [.int a,.int b]
def Dr(a b m:Int)(q:D×List D):Prop:=∃r N U:Int,q=(.int r,[tp N U,.int m])/\0<=r/\r<m/\0<=N
local macro_rules
 |`(tactic|simp_arith[$xs,*])=>`(tactic|simp[aJ,yu,bu,dB,w_ite,Pb,cI,dR,U_,uw,sIf,Bm,sEx,kj,t7,Sy,j_,iQ,VD,VM,lM,Am,sFz,lU,jE,ur,nZ,upS,tgN,tgT,aU,dq,rJ,tpN,tpT,gk,yf,au,eC,aH,ao,eAp,eUp,vA,cO,ee2,ee1,bW,lJ,e2,e1,eB,eeB,lK,U5,vL,eOr,qT,vZ,Vk,Tc,zm,vOr,VP,U6,eTT,isB,o8,Vq,itS,itE,zX,Vv,cH,ik,lY,eSl,Kl,JZ,wN,rY,oX,eMt,R7,Vp,UT,eIo,objs,mQ,cD,fY,fj,clean,az,aq,aA,aB,jw,jq,view,eZ,mkV,mkF,fz,fzL,fzo,iU,mkO,fnP,fnI,en0,outs,iK,h_,obC,truth,$xs,*])
theorem K8{a b m:Int}(Y:0<=a)(q:0<m)(B:m<2 ^ 60):Wp (aC [tp a b,.int m]) (Dr a b m):=by
 have h2:m<18446744073709551616:=by omega
 have J:∀x:Int,-18446744073709551616<x % 40009+7/\x % 40009+7<18446744073709551616:=λx=>by omega
 by_cases h:0<a
 .simp_arith[aC,cF,g8,fu,g_,gY,j4,jb,gLt,gLe,gGt,gGe,gIx,bB,bT,dh,lL,nF,ie,mR,gIs,ju,jU,atI,ixN,aN,gH,gSl,gw,d_,mj,h,q,h2,J]
  exact⟨_,_,_,rfl,adU _ 1.10,adn _ q,Int.ediv_nonneg Y 1.10⟩
 .simp_arith[aC,cF,g8,fu,g_,gY,j4,jb,gLt,gLe,gGt,gGe,gIx,bB,bT,dh,lL,nF,ie,mR,gIs,ju,jU,atI,ixN,aN,gH,gSl,gw,d_,mj,h,q,h2,J]
  exact⟨_,_,_,rfl,adU _ 1.10,adn _ q,Y⟩
theorem qG{a b m:Int}(Y:0<=a)(J:0<m)(B:m<2 ^ 60):∃r N U,aC [tp a b,.int m]=some (.int r,[tp N U,.int m])/\0<=r/\r<m/\0<=N:=by
 obtain⟨q,e,r,N,U,rfl,h⟩:=K8 (b:=b) Y J B;exact⟨r,N,U,e,h⟩
theorem dY{a b m:Int}{Q:D×List D->Prop}(Y:0<=a)(J:0<m)(B:m<2 ^ 60)(h:∀r N U,0<=r->r<m->0<=N->Q (.int r,[tp N U,.int m])):Wp (aC [tp a b,.int m]) Q:=by
 refine(K8 (b:=b) Y J B).mono ?_;rintro _ ⟨r,N,U,rfl,h1,h2,Z⟩;exact h r N U h1 h2 Z
def Tn(q:D×List D):Prop:=∃t N U:Int,q=(.int t,[tp N U])/\0<=t/\t<=1000/\0<=N
theorem Q5{a b:Int}(Y:0<=a):Wp (eE [tp a b]) Tn:=by
 obtain⟨r,N,U,e,h1,h2,Z⟩:=qG (b:=b) Y (show(0:Int)<8 by decide) (by decide);have O:r=0∨r=1∨r=2∨r=3∨r=4∨r=5∨r=6∨r=7:=by omega
 rcases O with rfl|rfl|rfl|rfl|rfl|rfl|rfl|rfl<;>simp_arith[eE,cF,g8,fu,g_,gY,j4,jb,gLt,gLe,gGt,gGe,gIx,bB,bT,dh,lL,nF,ie,mR,gIs,ju,jU,atI,ixN,aN,gH,gSl,gw,d_,mj,e]<;>exact⟨_,_,_,rfl,by decide,by decide,Z⟩
def pN:List Str:=["b","aa","zebra","c","quartzes","ab","m","knows","d","mm","likes","z","a","ba","abcdefgh","y"]
def Nm(q:D×List D):Prop:=∃(ns:List Str)(N U:Int),q=(.lst .own (ns.map D.str),[tp N U])/\(∀x∈ns,x∈pN∨x="")/\ns.Nodup/\ns.length<=14/\0<=N
theorem LR:xQ "b aa zebra c quartzes ab m knows d mm likes z a ba abcdefgh y" " "=some pN:=by decide +kernel
theorem R9:∀m:Fin 16,((WD 14).map λ(k:Nat)=>(pN[(((m.val:Int)+5*(k:Int)) % 16).toNat]?).getD "").Nodup:=by decide +kernel
theorem Ui{r:Int}{n:Nat}(N:0<=r)(O:r<16)(hn:n<=14):((WD n).map λ(k:Nat)=>(pN[((r+5*(k:Int)) % 16).toNat]?).getD "").Nodup:=by
 obtain⟨m,rfl⟩:∃m:Nat,r=m:=⟨r.toNat,by omega⟩;have h:=R9 ⟨m,by omega⟩;exact List.Nodup.sublist (List.Sublist.map _ (List.range_sublist.mpr hn)) h
theorem Ow{a b:Int}(Y:0<=a):Wp (dW [tp a b]) Nm:=by
 obtain⟨U,V,I,e1,b7,a9,a7⟩:=qG (b:=b) Y (show(0:Int)<16 by decide) (by decide);obtain⟨Z,a2,b2,e2,a0,c5,a8⟩:=qG (b:=I) a7 (show(0:Int)<3 by decide) (by decide);obtain⟨F,O,b3,N,c4,c6,b6⟩:=qG (b:=b2) a8 (show(0:Int)<5 by decide) (by decide);obtain⟨r4,a4,b4,e4,c1,c2,b8⟩:=qG (b:=b3) b6 (show(0:Int)<5 by decide) (by decide);obtain⟨r5,a5,b5,e5,c0,c3,b0⟩:=qG (b:=b4) b8 (show(0:Int)<8 by decide) (by decide);simp_arith[dW,uQ,LR,bB,cF,ie,e1,e2,N,e4,e5];clear e1 e2 N e4 e5;obtain⟨n,hn,n0,n1⟩:∃n:Int,gIx (D.lst Mk.own [D.int Z,D.int (10+F),D.int (4+r4)]) (D.int (if r5<2 then r5 else 2))=some (.int n)/\0<=n/\n<=14:=by
  have:r5=0∨r5=1∨2<=r5:=by omega
  rcases this with rfl|rfl|h
  .exact⟨Z,rfl,a0,by omega⟩
  .exact⟨10+F,rfl,by omega,by omega⟩
  .rw[Wo 1.10]
   exact⟨4+r4,rfl,by omega,by omega⟩
 simp only[hn,bw,aY,aJ,view,az,aq,true_and];rw[Wd 1.10,aJ];refine⟨by rw[mV];omega,?_⟩;rw[jz (p:=λ_=>true) (f:=λd=>match d with|.int k=>.str ((pN[((U+5*k) % 16).toNat]?).getD "")|_=>.non)]
 .rw[aJ,filter_tt,Ei]
  have e:(WD n.toNat).map (λ(k:Nat)=>D.str ((pN[((U+5*(k:Int)) % 16).toNat]?).getD ""))=((WD n.toNat).map λ(k:Nat)=>(pN[((U+5*(k:Int)) % 16).toNat]?).getD "").map D.str:=by rw[V9];rfl
  show(aA ((WD n.toNat).map (λ(k:Nat)=>D.str ((pN[((U+5*(k:Int)) % 16).toNat]?).getD "")))=true/\aB ((WD n.toNat).map (λ(k:Nat)=>D.str ((pN[((U+5*(k:Int)) % 16).toNat]?).getD "")))=true)/\Nm (D.lst Mk.own ((WD n.toNat).map (λ(k:Nat)=>D.str ((pN[((U+5*(k:Int)) % 16).toNat]?).getD ""))),[tp a5 b5]);rw[e];refine⟨⟨bw _,aY _⟩,_,_,_,rfl,λx J=>?_,Ui b7 a9 1.10,by simp;omega,b0⟩;obtain⟨k,_,rfl⟩:=V4.mp J;cases q:pN[((U+5*(k:Int)) % 16).toNat]? with
  |none=>exact .inr rfl
  |some y=>exact .inl (Wu q)
 .intro d hd
  obtain⟨k,B,rfl⟩:=Dv hd;have hm:(-18446744073709551616:Int)<5:=by decide
  obtain⟨x,J,a6,b9⟩:=jh (f:=D.str) (l:=pN) (i:=(U+5*(k:Int)) % 16) 1.10 (by show _<(16:Int);omega);simp[tpN,aJ,eTT,e2,au,view,bf,eC,fu,cF,gY,gIx,a6,b9]
def Jo(ns:List Str)(t:Int)(q:D×List D):Prop:=∃(js:List Jt)(N U:Int),q=(.lst .own (js.map jD),[tp N U,.lst .frz (ns.map D.str),.int t])/\(∀j∈js,j.1∈ns/\j.2.1∈ns)/\js.length<=2*ns.length/\0<=N/\∀j∈js,j.2.2.natAbs<=1000000000000
def JoI(ns:List Str)(t w:Int)(k:Nat)(acc:List D)(ρ:En):Prop:=∃(ps:List (Str×Int))(N U:Int),acc=ps.map pD/\ps.map (·.1)=ns.take k/\(∀p∈ps,p.2.natAbs<=400000000000)/\0<=N/\ρ=[some (tp N U),some 1.19,some (D.int t),some (D.lst Mk.own []),some (D.int w),none,none,none,none,none,none,none]
def JoF(ns:List Str)(t w sl:Int)(ks:List Key)(ds:List D)(k:Nat)(ρ:En):Prop:=∃(js:List Jt)(N U:Int)(V Y J B q:Option D),ρ=[some (tp N U),some 1.19,some (D.int t),some (D.lst Mk.own (js.map jD)),some (D.int w),some (D.dct .own ks ds),some (D.int sl),V,Y,J,B,q]/\(∀j∈js,j.1∈ns/\j.2.1∈ns)/\js.length<=k/\0<=N/\∀j∈js,j.2.2.natAbs<=1000000000000
theorem zY{ps:List (Str×Int)}{B:Nat}(Y:ps.length<=50000)(U:∀p∈ps,p.2.natAbs<=B):Wp (qt [.lst .own (ps.map pD)]) λd=>(∃ks ds,d= .dct .own ks ds/\(∀e∈ds,∃i:Int,e= .int i/\i.natAbs<=B)/\∀x∈ps.map (·.1),∃(j:Nat)(i:Int),fU ks (.inr x)=some j/\ds[j]? =some (.int i))/\clean d=true:=by
 simp only[qt];rw[Wd ⟨rfl,by simpa using Y⟩,FP];refine aJ.mpr ?_;have hok:=vH (es:=ps.map λp=>((WN p.1:Key),D.int p.2)) (ks:=[]) (ds:=[]) rfl;have I:=jM (λd=>∃i:Int,d= .int i/\i.natAbs<=B) (es:=ps.map λp=>((WN p.1:Key),D.int p.2)) (ks:=[]) (ds:=[]) (by simp) (λq N=>by obtain⟨p,F,rfl⟩:=V4.mp N;exact⟨p.2,rfl,U p F⟩);refine⟨⟨_,_,rfl,I,λx J=>?_⟩,wD (bA λd hd=>by obtain⟨i,rfl,_⟩:=I d hd;rfl) (aZ λd hd=>by obtain⟨i,rfl,_⟩:=I d hd;rfl)⟩;obtain⟨p,F,rfl⟩:=V4.mp J;obtain⟨j,h1,h2⟩:=OJ ((hok.2 (WN p.1)).mpr (.inr ⟨_,V4.mpr ⟨p,F,rfl⟩,rfl⟩));have Z:j<(bD [] [] (ps.map λp=>((WN p.1:Key),D.int p.2))).2.length:=by rw[←hok.1];exact h2
 obtain⟨i,hi,_⟩:=I _ (YK Z);exact⟨j,i,h1,by rw[Wh Z,hi]⟩
theorem B_{a b t:Int}{ns:List Str}(Y:0<=a)(g3:ns.length<=1000)(ht:0<=t/\t<=1000):Wp (cR [tp a b,.lst .frz (ns.map D.str),.int t]) (Jo ns t):=by
 simp only[cR,fnI,en0,WK,Xe,V7,Xi,XX,WM,bu,Nat.reduceAdd,Nat.reduceSub,W0,List.nil_append];refine bh (λρ=>ρ=[some (tp a b),some 1.19,some (D.int t),some (D.lst Mk.own []),none,none,none,none,none,none,none,none]) (λQ q=>?_) ?_
 .simp_arith[bB]
  exact q _ rfl
 rintro _ rfl;refine bh (λρ=>∃(w a1 b1:Int),3<=w/\w<=400000000000/\0<=a1/\ρ=[some (tp a1 b1),some 1.19,some (D.int t),some (D.lst Mk.own []),some (D.int w),none,none,none,none,none,none,none]) (λQ q=>?_) ?_
 .simp_arith[bB,fu,j4]
  refine dY Y 1.10 1.10 λr1 a1 b1 p1 q1 O=>?_;obtain⟨w,hw,w0,w1⟩:∃w:Int,gIx (D.lst Mk.own [D.int 3,D.int 3,D.int 12,D.int 12,D.int 12,D.int 400000000000]) (D.int r1)=some (.int w)/\3<=w/\w<=400000000000:=by
   have:r1=0∨r1=1∨r1=2∨r1=3∨r1=4∨r1=5:=by omega
   rcases this with rfl|rfl|rfl|rfl|rfl|rfl<;>exact⟨_,rfl,by decide,by decide⟩
  simp_arith[hw];exact q _ ⟨w,a1,b1,w0,w1,O,rfl⟩
 rintro _ ⟨w,a1,b1,w0,w1,O,rfl⟩;refine bh (λρ=>∃(ks:List Key)(ds:List D)(N b':Int),0<=N/\(∀e∈ds,∃i:Int,e= .int i/\i.natAbs<=400000000000)/\(∀x∈ns,∃(j:Nat)(i:Int),fU ks (.inr x)=some j/\ds[j]? =some (.int i))/\ρ=[some (tp N b'),some 1.19,some (D.int t),some (D.lst Mk.own []),some (D.int w),some (D.dct .own ks ds),none,none,none,none,none,none]) (λQ q=>?_) ?_
 .simp_arith[bf,cC,bw,aY]
  refine⟨by omega,uL (JoI ns t w) ⟨[],a1,b1,rfl,rfl,by simp,O,rfl⟩ ?_ ?_⟩
  .rintro i d acc ρ hi ⟨ps,a2,b2,rfl,hps,hpb,B,rfl⟩
   rw[List.getElem?_map]at hi;cases J:ns[i]? with
   |none=>simp[J]at hi
   |some x=>
    obtain rfl:D.str x=d:=by simpa[J]using hi
    simp_arith[fu,bT];refine dY B 1.10 1.10 λr3 a3 b3 p3 q3 s3=>?_;simp_arith[g8];exact⟨ps++[(x,r3-w)],_,_,by simp[pD],by rw[Ww,hps,Y7,J];rfl,λp F=>(qb.mp F).elim (hpb p) λz=>by rw[Wl.mp z];show(r3-w).natAbs<=_;omega,s3,rfl⟩
  .rintro ys ρ ⟨ps,a2,b2,rfl,hps,hpb,B,rfl⟩
   rw[Wc,Z3]at hps;have e9:aB (ps.map pD)=true:=aZ λd hd=>by obtain⟨x,_,rfl⟩:=V4.mp hd;rfl
   have g2:ps.length=ns.length:=by rw[←hps];simp
   refine⟨e9,Wp.mono (zY 1.10 hpb) ?_⟩;rintro _ ⟨⟨ks,ds,rfl,c2,c1⟩,d5⟩;rw[hps]at c1;have d2:(az (D.dct .own ks ds)=true/\aq (D.dct .own ks ds)=true):=by simpa[clean]using d5
   exact⟨d2,q _ ⟨ks,ds,a2,b2,B,c2,c1,rfl⟩⟩
 rintro _ ⟨ks,ds,a2,b2,B,c2,c1,rfl⟩;refine bh (λρ=>∃(sl N b':Int),0<=sl/\sl<=12/\0<=N/\ρ=[some (tp N b'),some 1.19,some (D.int t),some (D.lst Mk.own []),some (D.int w),some (D.dct .own ks ds),some (D.int sl),none,none,none,none,none]) (λQ q=>?_) ?_
 .simp_arith[bB]
  refine dY B 1.10 1.10 λr4 a4 b4 p4 q4 s4=>?_;obtain⟨sl,e0,c9,sl1⟩:∃w:Int,gIx (D.lst Mk.own [D.int 0,D.int 0,D.int 3,D.int 12]) (D.int r4)=some (.int w)/\0<=w/\w<=12:=by
   have:r4=0∨r4=1∨r4=2∨r4=3:=by omega
   rcases this with rfl|rfl|rfl|rfl<;>exact⟨_,rfl,by decide,by decide⟩
  simp_arith[e0];exact q _ ⟨sl,a4,b4,c9,sl1,s4,rfl⟩
 rintro _ ⟨sl,a4,b4,c9,sl1,s4,rfl⟩;refine bh (JoF ns t w sl ks ds (2*ns.length)) (λQ q=>?_) ?_
 .simp_arith[dh,bf,cF,fu]
  refine dY s4 1.10 1.10 λr5 a5 b5 p5 q5 s5=>?_;simp_arith[aJ];refine⟨by omega,mC (JoF ns t w sl ks ds) ⟨[],a5,b5,_,_,_,_,_,rfl,by simp,by simp,s5,by simp⟩ ?_ ?_⟩
  .rintro k d ρ hk ⟨js,a6,b6,x7,x8,x9,c7,a0,rfl,b0,c8,s6,c3⟩
   obtain⟨f9,rfl⟩:=xM hk;have hn:0<ns.length:=by omega
   simp only[tgN,clean,az,aq,Z8,WM,aJ,XN,Yw];refine bh (λρ=>∃(x y:Str)(N b':Int),x∈ns/\y∈ns/\0<=N/\ρ=[some (tp N b'),some 1.19,some (D.int t),some (D.lst Mk.own (js.map jD)),some (D.int w),some (D.dct .own ks ds),some (D.int sl),some (D.int k),some (D.str x),some (D.str y),c7,a0]) (λQ q=>?_) ?_
   .simp_arith[bw,aY,bf,bH,cC,eX,e_,fZ,fX,gQ,oV,pH,oU,o4,pI,jP,gW,len_strs,eY,cN,nW,pG,eq_int,gO]
    refine dY s6 1.10 1.10 λr7 a7 b7 p7 q7 s7=>?_;obtain⟨x,J,_,e1⟩:=jh (f:=D.str) (l:=ns) p7 q7;simp_arith[bw,aY,bf,bH,cC,eX,e_,fZ,fX,gQ,oV,pH,oU,o4,pI,jP,gW,len_strs,eY,cN,nW,pG,eq_int,gO,e1];refine dY s7 1.10 1.10 λr8 a8 b8 p8 q8 s8=>?_;obtain⟨y,V,_,f0⟩:=jh (f:=D.str) (l:=ns) p8 q8;simp_arith[bw,aY,bf,bH,cC,eX,e_,fZ,fX,gQ,oV,pH,oU,o4,pI,jP,gW,len_strs,eY,cN,nW,pG,eq_int,gO,f0];exact q _ ⟨x,y,_,_,J,V,s8,rfl⟩
   rintro _ ⟨x,y,a7,b7,J,V,s7,rfl⟩;refine bh (λρ=>∃(v:Int)(N b':Int),0<=N/\ρ=[some (tp N b'),some 1.19,some (D.int t),some (D.lst Mk.own (js.map jD)),some (D.int w),some (D.dct .own ks ds),some (D.int sl),some (D.int k),some (D.str x),some (D.str y),some (D.int v),a0]) (λQ q=>?_) ?_
   .simp_arith[aJ]
    refine dY s7 1.10 1.10 λr8 a8 b8 p8 q8 s8=>?_;simp_arith[aJ];exact q _ ⟨_,_,_,s8,rfl⟩
   rintro _ ⟨v,a8,b8,s8,rfl⟩;refine bh (λρ=>∃(y:Str),y∈ns/\ρ=[some (tp a8 b8),some 1.19,some (D.int t),some (D.lst Mk.own (js.map jD)),some (D.int w),some (D.dct .own ks ds),some (D.int sl),some (D.int k),some (D.str x),some (D.str y),some (D.int v),a0]) (λQ q=>?_) ?_
   .simp_arith[eq_int]
    split
    .exact q _ ⟨x,J,rfl⟩
    .exact q _ ⟨y,V,rfl⟩
   clear V y;rintro _ ⟨y,V,rfl⟩;have two:∀{Q:Fl->Prop}{a8 b8:Int}{x y:Str}(c:Int)(sw:Bool),x∈ns->y∈ns->0<=a8->(∀x y N b',x∈ns->y∈ns->0<=N->Q (.nx [some (tp N b'),some 1.19,some (D.int t),some (D.lst Mk.own (js.map jD)),some (D.int w),some (D.dct .own ks ds),some (D.int sl),some (D.int k),some (D.str x),some (D.str y),some (D.int v),a0]))->
     Wp (sIf (vL (eB (e2 gEq (au false 10) (eC (.int c)))) (eB (e2 gNe (au false 3) (eAp bB aH)))) (dR (Kl (ee2 gIx (eUp (au false 3)) (eIo aC [0] (cO (ao (eAp dh (ao (au false 3) aH)) aH)))) rY (oX (eC (.int 2)))) (tgT 2 (if sw then aU (tgN 9) (aU (tgN 8) dq)else aU (tgN 8) (aU (tgN 9) dq)))) iQ [some (tp a8 b8),some 1.19,some (D.int t),some (D.lst Mk.own (js.map jD)),some (D.int w),some (D.dct .own ks ds),some (D.int sl),some (D.int k),some (D.str x),some (D.str y),some (D.int v),a0]) Q:=by
    intro Q a8 b8 x y c sw J V s8 q;simp_arith[bw,aY,bf,bH,cC,eX,e_,fZ,fX,gQ,oV,pH,oU,o4,pI,jP,gW,len_strs,eY,cN,nW,pG,eq_int,gO,bB];split
    .by_cases hjn:js=[]
     .subst hjn
      simp;exact q _ _ _ _ J V s8
     .have hjp:0<js.length:=ac6.mpr hjn
      simp_arith[hjn,bw,aY,bf,bH,cC,eX,e_,fZ,fX,gQ,oV,pH,oU,o4,pI,jP,gW,len_strs,eY,cN,nW,pG,eq_int,gO];refine dY s8 1.10 1.10 λr9 a9 b9 p9 q9 s9=>?_;obtain⟨j,I,_,e8⟩:=jh (f:=jD) (l:=js) p9 q9;cases sw<;>simp_arith[bw,aY,bf,bH,cC,eX,e_,fZ,fX,gQ,oV,pH,oU,o4,pI,jP,gW,len_strs,eY,cN,nW,pG,eq_int,gO,e8]
      .exact q _ _ _ _ (b0 j I).1 (b0 j I).2 s9
      .exact q _ _ _ _ (b0 j I).2 (b0 j I).1 s9
    .exact q _ _ _ _ J V s8
   refine bh (λρ=>∃(x y:Str)(N b':Int),x∈ns/\y∈ns/\0<=N/\ρ=[some (tp N b'),some 1.19,some (D.int t),some (D.lst Mk.own (js.map jD)),some (D.int w),some (D.dct .own ks ds),some (D.int sl),some (D.int k),some (D.str x),some (D.str y),some (D.int v),a0]) (λQ q=>two 1 false J V s8 λx y N b' h1 h2 Z=>q _ ⟨x,y,N,b',h1,h2,Z,rfl⟩) ?_;clear J V x y;rintro _ ⟨x,y,a9,b9,J,V,s9,rfl⟩;refine bh (λρ=>∃(x y:Str)(N b':Int),x∈ns/\y∈ns/\0<=N/\ρ=[some (tp N b'),some 1.19,some (D.int t),some (D.lst Mk.own (js.map jD)),some (D.int w),some (D.dct .own ks ds),some (D.int sl),some (D.int k),some (D.str x),some (D.str y),some (D.int v),a0]) (λQ q=>two 2 true J V s9 λx y N b' h1 h2 Z=>q _ ⟨x,y,N,b',h1,h2,Z,rfl⟩) ?_;clear J V x y;rintro _ ⟨x,y,f4,f8,J,V,d9,rfl⟩;obtain⟨jx,ix,d7,d1⟩:=c1 x J;obtain⟨jy,iy,e4,d4⟩:=c1 y V;have bx:ix.natAbs<=400000000000:=by obtain⟨i,e,h⟩:=c2 _ (Wu d1);cases e;exact h
   have bY:iy.natAbs<=400000000000:=by obtain⟨i,e,h⟩:=c2 _ (Wu d4);cases e;exact h
   have e3:eZ false ds=ds:=by
    rw[bR]
    conv=>rhs;rw[←YQ ds]
    exact Wz λd hd=>by obtain⟨i,rfl,_⟩:=c2 d hd;rfl
   refine bh (λρ=>∃(st:Int)(N b':Int),st.natAbs<=800000002000/\0<=N/\ρ=[some (tp N b'),some 1.19,some (D.int t),some (D.lst Mk.own (js.map jD)),some (D.int w),some (D.dct .own ks ds),some (D.int sl),some (D.int k),some (D.str x),some (D.str y),some (D.int v),some (D.int st)]) (λQ q=>?_) ?_
   .have ht1: -18446744073709551616<t/\t<18446744073709551616:=by omega
    simp_arith[gIx,fG,e3,d7,d1,e4,d4,g8];refine dY d9 1.10 1.10 λc0 d8 e5 f7 f3 c5=>?_;simp_arith[g8,fu,cF,ht1];have U:(t*(c0-2)).natAbs<=2000:=by
     have h5:c0=0∨c0=1∨c0=2∨c0=3∨c0=4:=by omega
     rcases h5 with rfl|rfl|rfl|rfl|rfl<;>omega
    exact q _ ⟨_,_,_,by omega,c5,rfl⟩
   rintro _ ⟨st,d8,e5,f6,c5,rfl⟩;refine bh (λρ=>∃(st:Int)(N b':Int),st.natAbs<=1000000000000/\0<=N/\ρ=[some (tp N b'),some 1.19,some (D.int t),some (D.lst Mk.own (js.map jD)),some (D.int w),some (D.dct .own ks ds),some (D.int sl),some (D.int k),some (D.str x),some (D.str y),some (D.int v),some (D.int st)]) (λQ q=>?_) ?_
   .simp_arith[gGt]
    split
    .refine dY c5 1.10 1.10 λf1 d6 e7 g4 f5 c4=>?_
     simp_arith[eq_int];split
     .simp_arith[bB,jb,j4]
      refine dY c4 1.10 1.10 λc6 g0 g5 f2 g1 e6=>?_;have:c6=0∨c6=1∨c6=2∨c6=3:=by omega
      rcases this with rfl|rfl|rfl|rfl<;>simp_arith[gIx,atI,ixN,cF]<;>exact q _ ⟨_,_,_,by omega,e6,rfl⟩
     .exact q _ ⟨_,_,_,by omega,c4,rfl⟩
    .exact q _ ⟨_,_,_,by omega,c5,rfl⟩
   rintro _ ⟨d3,d6,e7,d0,c4,rfl⟩;simp_arith[aN,bT];refine⟨by omega,⟨js++[(x,y,d3)],_,_,_,_,_,_,_,by rw[Ww];rfl,?_,by simp;omega,c4,λj I=>(qb.mp I).elim (c3 j) λz=>by rw[Wl.mp z];exact d0⟩⟩;intro j I;rcases qb.mp I with z|z
   .exact b0 j z
   .obtain rfl:j=(x,y,d3):=by simpa using z
    exact⟨J,V⟩
  .rintro ρ ⟨js,a6,b6,x7,x8,x9,c7,a0,rfl,b0,c8,s6,c3⟩
   rw[mV]at c8;exact q _ ⟨js,a6,b6,x7,x8,x9,c7,a0,rfl,b0,by omega,s6,c3⟩
 rintro _ ⟨js,a6,b6,x7,x8,x9,c7,a0,rfl,b0,c8,s6,c3⟩;simp[j_,aJ,outs,dB];exact⟨js,a6,b6,rfl,b0,c8,s6,c3⟩
inductive Tyd:D->Prop
 |non:Tyd .non
 |bl (b:Bool):Tyd (.bl b)
 |int (i:Int):Tyd (.int i)
 |str (x:Str):Tyd (.str x)
 |tup {ds:List D}:(∀e∈ds,Tyd e)->Tyd (.tup ds)
 |lst {ds:List D}:(∀e∈ds,Tyd e)->Tyd (.lst .frz ds)
theorem gR{f:D->D}{ds:List D}(h:∀e∈ds,f e=e):ds.map f=ds:=by
 conv=>rhs;rw[←YQ ds]
 exact Wz h
theorem Tyd.all{d:D}(h:Tyd d):fz d=d/\fzo d=d/\(∀b,view b d=d)/\az d=true/\aq d=true/\gG d=true:=by
 induction h with
 |non=>exact⟨rfl,rfl,λ_=>rfl,rfl,rfl,rfl⟩
 |bl b=>exact⟨rfl,rfl,λ_=>rfl,rfl,rfl,rfl⟩
 |int b=>exact⟨rfl,rfl,λ_=>rfl,rfl,rfl,rfl⟩
 |str b=>exact⟨rfl,rfl,λ_=>rfl,rfl,rfl,rfl⟩
 |@tup ds _ O=>
  have hd:∀l:List D,(∀e∈l,gG e=true)->iW l=true:=λl=>by
   induction l with
   |nil=>intro _;rfl
   |cons x r q=>intro z;simp[iW,z x (by simp),q λe V=>z e (by simp[V])]
  exact⟨by rw[fz,dZ,gR λe V=>(O e V).1],by rw[fzo,dU,gR λe V=>(O e V).2.1],λb=>by rw[view,bR,gR λe V=>(O e V).2.2.1 b],by rw[az];exact bA λe V=>(O e V).2.2.2.1,by rw[aq];exact aZ λe V=>(O e V).2.2.2.2.1,by rw[gG];exact hd ds λe V=>(O e V).2.2.2.2.2⟩
 |@lst ds _ O=>
  have hd:∀l:List D,(∀e∈l,gG e=true)->iW l=true:=λl=>by
   induction l with
   |nil=>intro _;rfl
   |cons x r q=>intro z;simp[iW,z x (by simp),q λe V=>z e (by simp[V])]
  refine⟨by rw[fz,dZ,gR λe V=>(O e V).1];rfl,by rw[fzo,dU,gR λe V=>(O e V).2.1];rfl,λb=>by rw[view,bR,gR λe V=>(O e V).2.2.1 b];cases b<;>rfl,?_,?_,by rw[gG];exact hd ds λe V=>(O e V).2.2.2.2.2⟩
  .simp[az,bA λe V=>(O e V).2.2.2.1]
  .simp[aq,aZ λe V=>(O e V).2.2.2.2.1]
theorem Tyd.ofL{ds:List D}(h:∀e∈ds,Tyd e):fzL ds=ds/\iU ds=ds/\(∀b,eZ b ds=ds)/\aA ds=true/\aB ds=true:=
 ⟨by rw[dZ,gR λe V=>(h e V).all.1],by rw[dU,gR λe V=>(h e V).all.2.1],λb=>by rw[bR,gR λe V=>(h e V).all.2.2.1 b],bA λe V=>(h e V).all.2.2.2.1,aZ λe V=>(h e V).all.2.2.2.2.1⟩
theorem Fw(f:D->Bool):∀ds:List D,Bw (ds.map λd=>.bl (f d))=some (ds.map f)
 |[]=>rfl
 |d::r=>by simp[Bw,Fw f r]
theorem all_map(f:D->Bool)(ds:List D):J5 [.lst .own (ds.map λd=>.bl (f d))]=some (.bl (ds.all f)):=by
 simp[J5,Fw,adg]
abbrev Pt:=Int×Int
def ptD(p:Pt):D:=.tup [.int p.1,.int p.2]
theorem Sw(l:List Pt):aA (l.map ptD)=true:=bA λd hd=>by obtain⟨x,_,rfl⟩:=V4.mp hd;rfl
theorem SJ(l:List Pt):aB (l.map ptD)=true:=aZ λd hd=>by obtain⟨x,_,rfl⟩:=V4.mp hd;rfl
theorem Td(b:Bool)(l:List Pt):eZ b (l.map ptD)=l.map ptD:=by rw[bR,V9];rfl
theorem SM(l:List Pt):fzL (l.map ptD)=l.map ptD:=by rw[dZ,V9];rfl
theorem TF(l:List Pt):iU (l.map ptD)=l.map ptD:=by rw[dU,V9];rfl
structure JJ(J:D)(js:List Jt):Prop where
 f:fz J=J
 v:∀b,view b J=J
 b:az J=true
 o:aq J=true
 l:dh [J]=some (.int js.length)
 x:∀i,gIx J (.int i)=atI (js.map jD) i
 s:cH J=some (true,js.map jD)
 e:itE (λ_=>some [J]) []=some (true,lF 0 (js.map jD))
theorem JJ.lst(js:List Jt):JJ (.lst .frz (js.map jD)) js:=⟨by simp[fz,fX,mkF],λb=>by cases b<;>simp[view,fZ,mkV],by simp[az,eX],by simp[aq,e_],by simp[dh],λ_=>rfl,by simp[cH,clean,az,aq,eX,e_,gQ],by simp[itE,cH,clean,az,aq,eX,e_,gQ]⟩
theorem JJ.tup(js:List Jt):JJ (.tup (js.map jD)) js:=⟨by simp[fz,fX],λb=>by simp[view,fZ],by simp[az,eX],by simp[aq,e_],by simp[dh],λ_=>rfl,by simp[cH,clean,az,aq,eX,e_,gQ],by simp[itE,cH,clean,az,aq,eX,e_,gQ]⟩
def ends(j:Jt)(s:Int):Str×Str:=if s=1 then(j.1,j.2.1)else(j.2.1,j.1)
def stp(js:List Jt)(p:Pt):Option (Str×Str):=if 0<=p.1/\p.1<js.length then(js[p.1.toNat]?).map λj=>ends j p.2 else none
def lst(h:Str):List Str->Str
 |[]=>h
 |x::r=>lst x r
def mt(js:List Jt):Str->List Pt->Option (List Str)
 |_,[]=>some []
 |h,p::r=>(stp js p).bind λq=>if q.1=h then(mt js q.2 r).map λt=>q.2::t else none
theorem Es:∀(l:List Str)(h x:Str),lst h (l++[x])=x
 |[],_,_=>rfl
 |_::r,_,x=>Es r _ x
theorem Fj{js:List Jt}:∀(ps:List Pt)(h:Str)(p:Pt),mt js h (ps++[p])=(mt js h ps).bind λl=>(stp js p).bind λq=>if q.1=lst h l then some (l++[q.2])else none
 |[],h,p=>by
  rw[List.nil_append,mt,mt,V1];cases stp js p with
  |none=>rfl
  |some q=>
   simp only[V1];by_cases N:q.1=h
   .rw[Wd N,Wd (show q.1=lst h []from N)];rfl
   .rw[Wo N,Wo (show ¬q.1=lst h []from N)]
 |a::r,h,p=>by
  rw[W0,mt,mt];cases e:stp js a with
  |none=>simp
  |some q=>
   simp only[V1];by_cases N:q.1=h
   .rw[Wd N,Wd N,Fj r q.2 p]
    cases e2:mt js q.2 r with
    |none=>simp
    |some l=>
     cases B:stp js p with
     |none=>simp
     |some u=>
      simp only[V1,W2];by_cases F:u.1=lst q.2 l
      .rw[Wd F,Wd (show u.1=lst h (q.2::l)from F)];rfl
      .rw[Wo F,Wo (show ¬u.1=lst h (q.2::l)from F)];rfl
   .rw[Wo N,Wo N]
    rfl
theorem ne_str{x y:Str}:gNe (.str x) (.str y)=some (.bl (!decide (x=y))):=by
 unfold gNe;rw[Wd ⟨rfl,rfl,by simp[dt,dp],by simp[dt,dp]⟩];simp[dt,eqD];exact aaf.mpr (by simp)
theorem Jh{h:Str}{l:List Str}:atI ((h::l).map D.str) (-1)=some (.str (lst h l)):=by
 have:∀(l:List Str)(h:Str),((h::l).map D.str)[l.length]? =some (.str (lst h l)):=by
  intro l
  induction l with
  |nil=>intro h;rfl
  |cons x r O=>intro h;exact O x
 unfold atI ixN;rw[Wo (by decide),Wd (by simp;omega)];simp only[V1];rw[show((-1:Int)+(((h::l).map D.str).length:Nat)).toNat=l.length by simp;omega];exact this l h
def tot(js:List Jt):List Pt->Int
 |[]=>0
 |p::r=>p.2*((js[p.1.toNat]?).map λj=>j.2.2).getD 0+tot js r
theorem qd:∀l:List Str,zU (l.map D.str)=some (l.map WN)
 |[]=>rfl
 |x::r=>by simp[zU,fG,qd r]
def dS(l:List Str):Nat:=(Qj (l.map WN)).length
theorem Ny{m:Mk}{l:List Str}(h:l.length<=1000):o_ [.lst m (l.map D.str)]=some (.int (dS l)):=by
 have:(l.map D.str).length<4000:=by simp;omega
 simp[o_,qd,dS];omega
theorem Pq{a b:Bool}:gEq (.bl a) (.bl b)=some (.bl (a==b)):=by
 unfold gEq;rw[Wd ⟨rfl,rfl,by simp[dt,dp],by simp[dt,dp]⟩];simp[dt,eqD]
theorem eq_str{a:Str}:gEq (.str a) (.str a)=some (.bl true):=by
 unfold gEq;rw[Wd ⟨rfl,rfl,by simp[dt,dp],by simp[dt,dp]⟩];simp[dt,eqD]
mutual
def tz:D->Nat
 |.int i=>if i.natAbs<1000000000000000000 then 20 else i.natAbs+2
 |.str x=>(reprText x).length
 |.tup ds=>4+tzL ds
 |.lst _ ds=>4+tzL ds
 |_=>5
def tzL:List D->Nat
 |[]=>0
 |d::r=>tz d+2+tzL r
end
mutual
def dz:D->Nat
 |.tup ds=>1+dzL ds
 |.lst _ ds=>1+dzL ds
 |_=>0
def dzL:List D->Nat
 |[]=>0
 |d::r=>max (dz d) (dzL r)
end
theorem Ef:∀(ts:List Str)(k:Nat)(a:Str),(textFrom k a ts).length<=a.length+(ts.map λt=>t.length+2).sum
 |[],k,a=>by rw[textFrom.eq_1];simp
 |t::ts,k,a=>by
  rw[textFrom.eq_2];have h1:=Ef ts (k+1) (a++YT (if k>0 then ", " else "")++t);rw[ZQ,ZQ]at h1;have Z:(YT (if k>0 then ", " else "")).length<=2:=by split<;>decide
  rw[V7,abz];omega
theorem zL:∀ts:List Str,piled ts=(ts.map λt=>t.length+2).sum
 |[]=>rfl
 |t::r=>by rw[V7,abz,←zL r];simp[piled]
theorem O5(ts:List Str):(Str.join ", " ts).length<=(ts.map λt=>t.length+2).sum:=by
 cases ts with
 |nil=>decide
 |cons t r=>
  have:=join_length_add (t::r) (by simp);rw[zL]at this;omega
theorem Gh{i:Int}(h:i.natAbs<1000000000000000000):(YT (toString i)).length<=19:=by
 have q:∀n:Nat,n<1000000000000000000->(Nat.repr n).length<=18:=λn hn=>by
  have:=toDigits_len_pow (b:=10) (k:=18) (by decide) (by decide) (n:=n) (by simpa using hn);simpa[Nat.repr]using this
 rw[ofString_len];cases i with
 |ofNat m=>exact Xu (q m h) (by decide)
 |negSucc m=>
  have:=q (m+1) h;show("-"++Nat.repr (m+1)).length<=19;rw[String.length_append];have h1:"-".length=1:=by decide
  omega
mutual
theorem Bk:∀{d:D},gG d=true->tz d<=1000000->(pyD (dt d)).shown.length<=tz d/\(pyD (dt d)).showable=true/\(pyD (dt d)).depth<=dz d
 |.non,_,_=>⟨by decide,rfl,by decide⟩
 |.bl b,_,_=>by cases b<;>exact⟨by decide,rfl,by decide⟩
 |.int i,_,h=>by
  rw[tz]at h;by_cases hs:i.natAbs<1000000000000000000
  .refine⟨?_,?_,by simp[dt,pyD,PyData.depth]⟩
   .have:=Gh hs
    simp only[dt,pyD,abY,tz,hs,WM];omega
   .simp only[dt,pyD,aag]
    refine XJ ?_;by_cases N:i.natAbs=0
    .rw[N];decide
    .exact(Nat.log2_lt N).mpr (Wg (show i.natAbs<2 ^ 60 by omega) (Nat.pow_le_pow_right (by decide) (by decide)))
  .rw[Wo hs]at h
   omega
 |.str x,_,_=>⟨by simp[dt,pyD,abY,tz],by simp[dt,pyD,aag],by simp[dt,pyD,PyData.depth,dz]⟩
 |.tup ds,h,hz=>by
  rw[gG]at h;rw[tz]at hz;obtain⟨h1,h2,Z⟩:=qU h 1.10;refine⟨?_,by simpa[dt,pyD,aag]using h2,by simp only[dt,pyD,PyData.depth,dz];omega⟩;simp only[dt,pyD,abY,tz];unfold tupleText;rw[ZQ,ZQ];have U:(YT "(").length=1:=by decide
  have V:(YT (if((ZF (pyL (dtL ds))).length==1)=true then ",)" else ")")).length<=2:=by split<;>decide
  have J:=O5 (ZF (pyL (dtL ds)));omega
 |.lst m ds,h,hz=>by
  rw[gG]at h;rw[tz]at hz;obtain⟨h1,h2,Z⟩:=qU h 1.10;refine⟨?_,by simpa[dt,pyD,aag]using h2,by simp only[dt,pyD,PyData.depth,dz];omega⟩;simp only[dt,pyD,abY,tz];unfold listText;rw[ZQ];have U:(YT "[").length=1:=by decide
  have V:(YT "]").length=1:=by decide
  have J:=Ef (ZF (pyL (dtL ds))) 0 "[";omega
 |.ty _,h,_=>by simp[gG]at h
 |.dct _ _ _,h,_=>by simp[gG]at h
 |.ins _ _ _ _,h,_=>by simp[gG]at h
theorem qU:∀{ds:List D},iW ds=true->tzL ds<=1000000->((ZF (pyL (dtL ds))).map λt=>t.length+2).sum<=tzL ds/\abo (pyL (dtL ds))=true/\ab_ (pyL (dtL ds))<=dzL ds
 |[],_,_=>by simp[dtL,pyL,ZF,abo,ab_,tzL,dzL]
 |d::r,h,hz=>by
  rw[iW,Wr]at h;rw[tzL]at hz;obtain⟨h1,h2,Z⟩:=Bk h.1 1.10;obtain⟨V,F,q⟩:=qU h.2 1.10;simp only[dtL,pyL,ZF,abo,ab_,tzL,dzL,V7,abz,h2,F];refine⟨by omega,rfl,?_⟩;omega
end
theorem RJ{d:D}(h:gG d=true)(O:tz d<=1000000)(hd:dz d<=50):∃x,xN [d]=some (.str x):=by
 obtain⟨h1,h2,Z⟩:=Bk h O;have hs:(1000000:Nat)<=V6:=by decide
 cases d with
 |non=>exact⟨_,rfl⟩
 |bl b=>exact⟨_,rfl⟩
 |int i=>
  have U:i.natAbs.log2<1920:=by simpa[dt,pyD,aag]using h2
  exact⟨_,by simp only[xN];rw[Wd U]⟩
 |str x=>exact⟨_,rfl⟩
 |tup ds=>exact⟨_,by simp only[xN];rw[Wd ⟨h,by omega,h2,by omega⟩]⟩
 |lst m ds=>exact⟨_,by simp only[xN];rw[Wd ⟨h,by omega,h2,by omega⟩]⟩
 |ty n=>simp[gG]at h
 |dct m ks ds=>simp[gG]at h
 |ins m c fs ds=>simp[gG]at h
abbrev Tt:=Int×Int×Str
def tD(t:Tt):D:=.tup [.int t.1,.int t.2.1,.str t.2.2]
theorem Pj(l:List Tt):aA (l.map tD)=true:=bA λd hd=>by obtain⟨x,_,rfl⟩:=V4.mp hd;rfl
theorem Py(l:List Tt):aB (l.map tD)=true:=aZ λd hd=>by obtain⟨x,_,rfl⟩:=V4.mp hd;rfl
theorem Qc(b:Bool)(l:List Tt):eZ b (l.map tD)=l.map tD:=by rw[bR,V9];rfl
theorem Vb(l:List Tt):iU (l.map tD)=l.map tD:=by rw[dU,V9];rfl
theorem NT{m:Mk}{ds:List D}(h1:iW ds=true)(h2:dpL (dtL ds)<=50):gNe (.lst m ds) (.lst .own [])=some (.bl (!ds.isEmpty)):=by
 unfold gNe;rw[Wd ⟨by simpa[gG]using h1,rfl,by simp only[dt,dp];omega,by decide⟩];cases ds with
 |nil=>rfl
 |cons j r=>rfl
theorem Cz:∀{ds:List D}{m:Nat},(∀e∈ds,tz e<=m)->tzL ds<=ds.length*(m+2)
 |[],m,_=>by simp[tzL]
 |d::r,m,h=>by
  have h1:=h d (by simp);have h2:=Cz (ds:=r) λe V=>h e (by simp[V]);rw[tzL,WK,Nat.succ_mul];omega
theorem CQ:∀{ds:List D}{m:Nat},(∀e∈ds,dz e<=m)->dzL ds<=m
 |[],m,_=>by simp[dzL]
 |d::r,m,h=>by
  have h1:=h d (by simp);have h2:=CQ (ds:=r) λe V=>h e (by simp[V]);rw[dzL];omega
def one(n:Nat):Str:=⟨#[n]⟩
theorem Fe(n:Nat):(one n).length=1:=rfl
theorem Vj{f:En->Option (List D)}{ρ:En}{j:Int}(h:f ρ=some [.int j])(h1: -(2 ^ 62)<=j)(h2:j<2 ^ 62):o8 f ρ=some (true,iu 0 j.toNat):=by
 unfold o8;rw[h];simp only[V1];rw[Wd ⟨h1,h2⟩]
theorem CV{f:En->Option (List D)}{ρ:En}{n:Nat}(h:f ρ=some [.int n])(hn:n<=100):o8 f ρ=some (true,iu 0 n):=by
 have h1:(n:Int)<=100:=by omega
 have:=Vj h (aa4 (by decide) (Int.natCast_nonneg n)) (Int.lt_of_le_of_lt h1 (by decide));rw[Yo]at this;exact this
theorem sY(b:Bool)(l:List Int):eZ b (l.map D.int)=l.map D.int:=by rw[bR,V9];rfl
theorem Oh(l:List Int):fzL (l.map D.int)=l.map D.int:=by rw[dZ,V9];rfl
def Tw(d:D):Prop:=∃a b:Int,d=tp a b/\0<=a
theorem QF{ns:List Int}{k:Int}(J:0<=k)(I:k<=100)(N:ns.length<=63):Wp (du [.lst .scr (ns.map D.int),.int k]) Tw:=by
 have U:dh [.lst .scr (ns.map D.int)]=some (.int ns.length):=by simp[dh]
 have Z:∀c:Int,∀Q:Fl->Prop,(∀a b B,0<=a->Q (.ret (tp a b) B))->Wp (bC (cI (e2 fu (eAp lL (ao (au false 2) aH)) (eAp nF (ao (e2 gGe (eAp lL (ao (au false 2) aH)) (e2 j4 (eC (.int 10)) (eC (.int 18)))) aH))) (tgN 3)) (kj (eAp bB (ao (au false 3) (ao (e2 gY (e2 fu (e2 cF (e2 cF (e2 gY (au false 2) (eC (.int 2147483647))) (e2 fu (eC (.int 7919)) (au false 1))) (eC (.int 11))) (eC (.int 48271))) (eC (.int 2147483629))) aH)))) [some (.lst .scr (ns.map D.int)),some (.int k),some (.int c),none]) Q:=by
  intro c Q q;simp_arith[lL,j4,gGe,nF,fu,gY,cF,bB];have F:(0:Int)<=if c<0 then -c else c:=by split<;>omega
  generalize (if c<0 then -c else c)=u at F⊢;refine⟨.inr ?_,q _ _ _ ?_⟩
  .split<;>omega
  .split
   .omega
   .omega
 by_cases h:k<(ns.length:Int)
 .obtain⟨c,_,_,hc⟩:=jh (f:=D.int) (l:=ns) (i:=k) J h
  simp only[du,fnP,en0,WK,Xe,V7,Xi,XX,WM,bu,Nat.reduceAdd,Nat.reduceSub,W0,List.nil_append];refine bh (λρ=>ρ=[some (.lst .scr (ns.map D.int)),some (.int k),some (.int 0),none]) (λQ q=>by simp_arith[aJ];exact q _ rfl) ?_;rintro _ rfl;refine bh (λρ=>ρ=[some (.lst .scr (ns.map D.int)),some (.int k),some (.int c),none]) (λQ q=>by simp_arith[sY,U,gLt,h,nW,hc];exact q _ rfl) ?_;rintro _ rfl;exact Z c _ λa b B Y=>aJ.mpr ⟨a,b,rfl,Y⟩
 .simp only[du,fnP,en0,WK,Xe,V7,Xi,XX,WM,bu,Nat.reduceAdd,Nat.reduceSub,W0,List.nil_append]
  refine bh (λρ=>ρ=[some (.lst .scr (ns.map D.int)),some (.int k),some (.int 0),none]) (λQ q=>by simp_arith[aJ];exact q _ rfl) ?_;rintro _ rfl;refine bh (λρ=>ρ=[some (.lst .scr (ns.map D.int)),some (.int k),some (.int 0),none]) (λQ q=>by simp_arith[sY,U,gLt,h];exact q _ rfl) ?_;rintro _ rfl;exact Z 0 _ λa b B Y=>aJ.mpr ⟨a,b,rfl,Y⟩
mutual
theorem Js:∀d:D,dp (dt d)<=dz d
 |.tup ds=>by have:=Do ds;simp only[dt,dp,dz];omega
 |.lst _ ds=>by have:=Do ds;simp only[dt,dp,dz];omega
 |.non=>by simp[dt,dp]
 |.bl _=>by simp[dt,dp]
 |.int _=>by simp[dt,dp]
 |.str _=>by simp[dt,dp]
 |.ty _=>by simp[dt,dp]
 |.dct _ _ _=>by simp[dt,dp]
 |.ins _ _ _ _=>by simp[dt,dp]
theorem Do:∀ds:List D,dpL (dtL ds)<=dzL ds
 |[]=>by simp[dtL,dpL]
 |d::r=>by have:=Js d;have:=Do r;simp only[dtL,dpL,dzL];omega
end
def M3(ns:List Str):D->Bool
 |.str x=>decide (x∈ns)
 |_=>false
theorem jt:∀ns:List Str,dtL (ns.map D.str)=ns.map Dt.str
 |[]=>rfl
 |x::r=>by rw[V7,dtL,jt r];rfl
theorem j0:∀ns:List Str,dpL (ns.map Dt.str)=0
 |[]=>rfl
 |x::r=>by rw[V7,dpL,j0 r];rfl
theorem Aq{ns:List Str}{e:D}(h:Tyd e):((ns.map Dt.str).any λd=>eqD d (dt e))=M3 ns e:=by
 rw[List.any_map];cases h with
 |str x=>
  simp only[M3,dt];rw[aaf,aaP,decide_eq_true_iff];simp only[Xr,eqD,beq_iff_eq];exact⟨λ⟨y,h1,h2⟩=>h2▸h1,λh=>⟨x,h,rfl⟩⟩
 |_=>simp[M3,dt,eqD,Xr]
theorem j6:∀ns:List Str,vR (ns.map D.str)=some (ns.map V.str)
 |[]=>rfl
 |x::r=>by simp[vR,scV,j6 r]
theorem pM{x:Str}{ns:List Str}:inV (.str x) (ns.map V.str)=decide (x∈ns):=by
 unfold inV;rw[List.any_map,aaf,aaP,decide_eq_true_iff];simp only[Xr,eqV,beq_iff_eq];exact⟨λ⟨y,h1,h2⟩=>h2▸h1,λh=>⟨x,h,rfl⟩⟩
structure NK(N:D)(ns:List Str):Prop where
 f:fz N=N
 v:∀b,view b N=N
 b:az N=true
 o:aq N=true
 l:dh [N]=some (.int ns.length)
 x:∀i,gIx N (.int i)=atI (ns.map D.str) i
 i:∀y,gIn (.str y) N=some (.bl (decide (y∈ns)))
 ni:∀y,lz (.str y) N=some (.bl (!decide (y∈ns)))
 d:∀e,Tyd e->dz e<=50->R0 e N=some (.bl (M3 ns e))
 s:cH N=some (true,ns.map D.str)
 k:ns.length<=1000->o_ [N]=some (.int (dS ns))
theorem NK.lst(ns:List Str):NK 1.16 ns:=⟨by simp[fz,bH,mkF],λb=>by cases b<;>simp[view,bf,mkV],by simp[az,bw],by simp[aq,aY],by simp[dh],λ_=>rfl,λy=>by simp[gIn,vg,scV,j6,pM],λy=>by simp[lz,vg,scV,j6,pM],λe h O=>by
 have:=Js e;obtain⟨_,_,_,_,_,J⟩:=h.all;simp only[R0,HS,V1,jt,j0];rw[Wd ⟨J,jj ns,by omega,by omega⟩,Aq h],by simp[cH,clean,az,aq,bw,aY,cC],λh=>Ny h⟩
theorem lsT{l:List Str}(h:l.length<=1000):o_ [.tup (l.map D.str)]=some (.int (dS l)):=by
 simp[o_,qd,dS];omega
theorem NK.tup(ns:List Str):NK (.tup (ns.map D.str)) ns:=⟨by simp[fz,bH],λb=>by simp[view,bf],by simp[az,bw],by simp[aq,aY],by simp[dh],λ_=>rfl,λy=>by simp[gIn,vg,scV,j6,pM],λy=>by simp[lz,vg,scV,j6,pM],λe h O=>by
 have:=Js e;obtain⟨_,_,_,_,_,J⟩:=h.all;simp only[R0,HS,V1,jt,j0];rw[Wd ⟨J,jj ns,by omega,by omega⟩,Aq h],by simp[cH,clean,az,aq,bw,aY,cC],λh=>lsT h⟩
abbrev Gz:=Bool×List Str
def mkB(b:Bool):Mk:=if b then .own else .frz
def zD(z:Gz):D:=.lst (mkB z.1) (z.2.map D.str)
def fr(g:List Str):D:=.lst .frz (g.map D.str)
theorem Tj(l:List Gz):fzL (l.map zD)=(l.map (·.2)).map fr:=by
 rw[dZ,V9,V9];refine Wz λz _=>?_;simp only[Xr,zD,fr,fz,bH];cases z.1<;>rfl
theorem Pa(l:List Gz):aA (l.map zD)=true:=bA λd hd=>by
 obtain⟨z,_,rfl⟩:=V4.mp hd;simp only[zD,az,bw];cases z.1<;>rfl
theorem PQ(l:List Gz):aB (l.map zD)=true:=aZ λd hd=>by
 obtain⟨z,_,rfl⟩:=V4.mp hd;simp only[zD,aq,aY];cases z.1<;>rfl
theorem yl(b:Bool)(g:List Str):view b (fr g)=fr g:=by cases b<;>simp[fr,view,bf,mkV]
theorem Fy(b:Bool)(l:List (List Str)):eZ b (l.map fr)=l.map fr:=by
 rw[bR,V9];exact Wz λg _=>yl b g
theorem K4(l:List (List Str)):iU (l.map fr)=l.map fr:=by
 rw[dU,V9];refine Wz λg _=>?_;simp[fr,fzo,cC,mkO]
theorem PJ(g:List Str):az (fr g)=true/\aq (fr g)=true:=by simp[fr,az,aq,bw,aY]
theorem zF:∀a b:List Str,eqL (a.map Dt.str) (b.map Dt.str)=decide (a=b)
 |[],[]=>rfl
 |[],_::_=>rfl
 |_::_,[]=>rfl
 |x::r,y::q=>by
  rw[V7,V7,eqL,zF r q,aaf];simp[eqD]
theorem O9{f s:List Str}:gNe (fr f) (fr s)=some (.bl (!decide (f=s))):=by
 unfold gNe;rw[Wd ⟨jj f,jj s,by simp[fr,dt,dp,jt,j0],by simp[fr,dt,dp,jt,j0]⟩];simp[fr,dt,jt,eqD,zF]
theorem jK:∀g:List Str,strsOf (g.map D.str)=some g
 |[]=>rfl
 |y::r=>by simp[strsOf,jK r]
def Wt(gs:List (List Str)):Nat:=(gs.map λg=>g.length+1).sum
theorem RZ:∀gs:List (List Str),gs.length<=Wt gs
 |[]=>by simp
 |x::r=>by have:=RZ r;simp only[Wt,V7,abz,WK]at this⊢;omega
theorem Vm(ns:List Str):fB (tpN 0) eTT (eAp bB (ao 1.21 aH)) [none] (ns.map D.str)=some ((ns.map λx=>((true,[x]):Gz)).map zD):=by
 rw[jz (p:=λ_=>true) (f:=λd=>.lst .own [d])]
 .rw[filter_tt,V9,V9]
  rfl
 .intro d hd
  obtain⟨x,_,rfl⟩:=V4.mp hd;simp_arith[bB]
theorem Tf(x:Str)(gs:List (List Str)):fB (tpN 0) (eB (e2 gIn (au false 1) 1.21)) 1.21 [none,some (.str x)] (gs.map fr)=some ((gs.filter λg=>decide (x∈g)).map fr):=by
 have F:∀g:List Str,gIn (.str x) (fr g)=some (.bl (decide (x∈g))):=λg=>(NK.lst g).i x;rw[jz (p:=λd=>match d with|.lst _ ds=>(strsOf ds).any (λg=>decide (x∈g))|_=>false) (f:=id)]
 .rw[YQ,adV]
  congr 2;refine adD λg _=>?_;simp[Xr,fr,jK]
 .intro d hd
  obtain⟨g,_,rfl⟩:=V4.mp hd;simp[tpN,aJ,eB,e2,au,yl,view,F,isB];simp[fr,jK]
theorem Vh(f s:List Str)(gs:List (List Str)):fB (tpN 0) (vL (eB (e2 gNe 1.21 (au false 1))) (eB (e2 gNe 1.21 (au false 2)))) 1.21 [none,some (fr f),some (fr s)] (gs.map fr)=some ((gs.filter λg=>!decide (g=f)&& !decide (g=s)).map fr):=by
 have V:=jK;rw[jz (p:=λd=>match d with|.lst _ ds=>(strsOf ds).any (λg=>!decide (g=f)&& !decide (g=s))|_=>false) (f:=id)]
 .rw[YQ,adV]
  congr 2;refine adD λg _=>?_;simp[Xr,fr,V]
 .intro d hd
  obtain⟨g,_,rfl⟩:=V4.mp hd;simp[tpN,aJ,vL,eB,e2,au,yl,O9,isB];by_cases h1:g=f<;>by_cases h2:g=s<;>simp[h1,h2,fr,V]
def bI(g:List Str):List Str:=(nA (g.map λx=>[x])).map λk=>k.headD ""
theorem fH(g:List Str):Xp (bI g) g:=by
 have:=(eF (g.map λx=>[x])).map λk=>k.headD ("":Str);rw[V9]at this;refine this.trans ?_;rw[show((λk:List Str=>k.headD "")∘λx=>[x])=id from rfl,YQ]
theorem wC:∀g:List Str,Bh (g.map D.str)=some (g.map λx=>[x])
 |[]=>rfl
 |x::r=>by simp[Bh,wC r]
theorem zP{m:Mk}{g:List Str}(h:g.length<64):jf [.lst m (g.map D.str)]=some (.lst .own ((bI g).map D.str)):=by
 simp only[jf,Wc,h,WM,wC];rw[bI,V9];rfl
theorem FT:∀F:List (List Str),lstK .own (F.map (fL .own))=some F
 |[]=>rfl
 |x::r=>by
  have:=jK x;simp[lstK,fL,this,FT r]
theorem G4{F:List (List Str)}(h:F.length<64):jf [.lst .own (F.map (fL .own))]=some (.lst .own ((nA F).map (fL .own))):=by
 simp only[jf,Wc,h,WM];cases F with
 |nil=>rfl
 |cons x r=>
  have:=FT (x::r);simp only[V7,fL,Bh]at this⊢;rw[this];rfl
def Con(js:List Jt)(g:List Str):Prop:=∀P:Str->Prop,(∃x∈g,P x)->(∃y∈g,¬P y)->∃j∈js,j.1∈g/\j.2.1∈g/\((P j.1/\¬P j.2.1)∨(¬P j.1/\P j.2.1))
theorem tK{js:List Jt}(x:Str):Con js [x]:=λP ⟨a,Y,p⟩⟨b,U,q⟩=>by
 rw[Wl]at Y U;subst Y U;exact absurd p q
theorem qQ{js:List Jt}{f s:List Str}{j:Jt}(I:j∈js)(h1:j.1∈f)(h2:j.2.1∈s)(B:Con js f)(q:Con js s):Con js (f++s):=λP ⟨a,Y,O⟩⟨b,U,J⟩=>by
 by_cases Z:(∃x∈f,P x)/\∃y∈f,¬P y
 .obtain⟨k,hk,k1,k2,k3⟩:=B P Z.1 Z.2
  exact⟨k,hk,Wf _ k1,Wf _ k2,k3⟩
 .by_cases hs:(∃x∈s,P x)/\∃y∈s,¬P y
  .obtain⟨k,hk,k1,k2,k3⟩:=q P hs.1 hs.2
   exact⟨k,hk,VR _ k1,VR _ k2,k3⟩
  .refine⟨j,I,Wf _ h1,VR _ h2,?_⟩
   by_cases p1:P j.1
   .refine .inl ⟨p1,λp2=>?_⟩
    rcases qb.mp U with z|z
    .exact Z ⟨⟨_,h1,p1⟩,⟨b,z,J⟩⟩
    .exact hs ⟨⟨_,h2,p2⟩,⟨b,z,J⟩⟩
   .refine .inr ⟨p1,abJ λp2=>?_⟩
    rcases qb.mp Y with z|z
    .exact Z ⟨⟨a,z,O⟩,⟨_,h1,p1⟩⟩
    .exact hs ⟨⟨a,z,O⟩,⟨_,h2,p2⟩⟩
theorem Ik{js:List Jt}{g g':List Str}(h:Xp g' g)(c:Con js g):Con js g':=λP ⟨a,Y,O⟩⟨b,U,J⟩=>by
 obtain⟨j,I,q,F,B⟩:=c P ⟨a,h.mem_iff.mp Y,O⟩ ⟨b,h.mem_iff.mp U,J⟩;exact⟨j,I,h.mem_iff.mpr q,h.mem_iff.mpr F,B⟩
theorem sx{m:Mk}{ds:List D}:cT [.lst m ds]=jf [.lst m ds]:=rfl
theorem BR{α:Type}[DecidableEq α]:∀{ks ns:List α},ks.Nodup->(∀k∈ks,k∈ns)->ks.length<=ns.length
 |[],_,_,_=>Ym _
 |k::r,ns,h,hs=>by
  have N:=hs k (.head _);have h1:=BR (ks:=r) (ns:=ns.erase k) (W_.mp h).2 λx J=>(List.mem_erase_of_ne (show x≠k from λe=>(W_.mp h).1 (by rw[←e];exact J))).mpr (hs x (.tail _ J));rw[List.length_erase_of_mem N]at h1;have:=acn N;simp only[WK];omega
theorem kI{ys:List Str}{x:Str}:(fU (ys.map WN) (WN x)).isSome=decide (x∈ys):=by
 cases e:fU (ys.map WN) (WN x)with
 |none=>
  unfold fU at e;rw[Ye]at e;refine(WQ λh=>?_).symm;have:=e (WN x) (V4.mpr ⟨x,h,rfl⟩);simp at this
 |some j=>
  obtain⟨Y,B,_⟩:=W6.mp e;have h2:(ys.map (WN:Str->Key))[j]=WN x:=by simpa using B
  have Z:WN x∈ys.map (WN:Str->Key):=h2▸YK Y;obtain⟨y,V,U⟩:=V4.mp Z;cases U;exact(XJ V).symm
theorem Jc{A B:List Str}:bI A=bI B↔Xp A B:=by
 constructor
 .intro h
  exact(fH A).symm.trans (h▸fH B)
 .intro h
  unfold bI;have h2:=h.map λx=>[x];rw[oN ((eF _).trans (h2.trans (eF _).symm)) (jR _) (jR _)]
structure Prt(js:List Jt)(ns:List Str)(gs:List (List Str)):Prop where
 p:Xp gs.flatten ns
 e:∀g∈gs,g≠[]
 c:∀g∈gs,Con js g
def kE(js:List Jt)(gs:List (List Str)):Prop:=∀j∈js,∃g∈gs,j.1∈g/\j.2.1∈g
section
variable{js:List Jt}{ns:List Str}{gs hs:List (List Str)}
theorem Prt.one(h:Prt js ns gs)(hn:ns.Nodup){g g':List Str}{x:Str}(h1:g∈gs)(h2:g'∈gs)(x1:x∈g)(N:x∈g'):g=g':=by
 have Z:gs.flatten.Nodup:=h.p.nodup_iff.mpr hn;obtain⟨_,F⟩:=aaY.mp Z;rw[Zc]at F;obtain⟨i,hi,rfl⟩:=XR h1;obtain⟨j,I,rfl⟩:=XR h2;rcases adE i j with z|z|z
 .exact absurd rfl (F i j hi I z x x1 x N)
 .subst z;rfl
 .exact absurd rfl (F j i I hi z x N x x1)
theorem Prt.nd1(h:Prt js ns gs)(hn:ns.Nodup){g:List Str}(h1:g∈gs):g.Nodup:=by
 have Z:gs.flatten.Nodup:=h.p.nodup_iff.mpr hn;exact(aaY.mp Z).1 g h1
theorem Prt.mem(h:Prt js ns gs){x:Str}:x∈ns↔∃g∈gs,x∈g:=by
 rw[←h.p.mem_iff,Zq]
theorem Prt.nd(h:Prt js ns gs)(hn:ns.Nodup):gs.Nodup:=by
 have Z:gs.flatten.Nodup:=h.p.nodup_iff.mpr hn;obtain⟨_,F⟩:=aaY.mp Z;refine Zo (λ{a b} Y U O e=>?_) F;subst e;cases a with
 |nil=>exact h.e _ Y rfl
 |cons x r=>exact O x (by simp) x (by simp) rfl
theorem Prt.ndS(h:Prt js ns gs)(hn:ns.Nodup):(gs.map bI).Nodup:=by
 have:=h.nd hn;refine ZP.mpr (Zo (λ{a b} Y U O e=>O ?_) this);have F:=Jc.mp e;cases a with
 |nil=>exact absurd rfl (h.e _ Y)
 |cons x r=>exact h.one hn Y U (x:=x) (by simp) (F.mem_iff.mp (by simp))
theorem Prt.sub(a:Prt js ns gs)(b:Prt js ns hs)(hn:ns.Nodup)(U:kE js hs){g h:List Str}{x:Str}(q:g∈gs)(Y:h∈hs)(x1:x∈g)(N:x∈h):∀y∈g,y∈h:=λy V=>by
 refine abJ λZ=>?_;obtain⟨j,I,j1,F,j3⟩:=a.c g q (·∈h) ⟨x,x1,N⟩ ⟨y,V,Z⟩;obtain⟨h',h1,h2,O⟩:=U j I;rcases j3 with⟨B,J⟩|⟨B,J⟩
 .exact J (b.one hn h1 Y h2 B▸O)
 .exact B (b.one hn h1 Y O J▸h2)
theorem Prt.perm(a:Prt js ns gs)(F:kE js gs)(b:Prt js ns hs)(U:kE js hs)(hn:ns.Nodup):Xp (gs.map bI) (hs.map bI):=by
 have Z:∀{gs hs:List (List Str)},Prt js ns gs->kE js gs->Prt js ns hs->kE js hs->∀r∈gs.map bI,r∈hs.map bI:=λ{gs hs} a F b U r O=>by
  obtain⟨g,q,rfl⟩:=V4.mp O;cases B:g with
  |nil=>exact absurd B (a.e _ q)
  |cons x t=>
  have J:x∈g:=by rw[B];simp
  obtain⟨h,Y,I⟩:=b.mem.mp (a.mem.mpr ⟨g,q,J⟩);rw[←B];refine V4.mpr ⟨h,Y,?_⟩;refine Jc.mpr ((Z9 (b.nd1 hn Y) (a.nd1 hn q)).mpr λy=>⟨b.sub a hn F Y q I J y,a.sub b hn U q Y J I y⟩)
 exact(Z9 (a.ndS hn) (b.ndS hn)).mpr λr=>⟨Z a F b U r,Z b U a F r⟩
theorem Prt.canon(a:Prt js ns gs)(F:kE js gs)(b:Prt js ns hs)(U:kE js hs)(hn:ns.Nodup):nA (gs.map bI)=nA (hs.map bI):=
 oN ((eF _).trans ((a.perm F b U hn).trans (eF _).symm)) (jR _) (jR _)
theorem uo{g:List Str}:∀{gs:List (List Str)},gs.Nodup->g∈gs->Xp gs (g::gs.filter λx=>!decide (x=g))
 |x::r,hn,h=>by
  obtain⟨h1,h2⟩:=W_.mp hn;by_cases J:x=g
  .subst J
   rw[aaM,Wo (by simp)];have:r.filter (λy=>!decide (y=x))=r:=List.filter_eq_self.mpr λy V=>by
    simp;exact λe=>h1 (e▸V)
   rw[this]
  .rw[aaM,Wd (by simpa using J)]
   exact((uo h2 ((V5.mp h).resolve_left λz=>J z.symm)).cons x).trans (.swap g x _)
theorem Prt.merge{f s:List Str}{j:Jt}(h:Prt js ns gs)(hn:ns.Nodup)(Z:f∈gs)(hs:s∈gs)(F:f≠s)(I:j∈js)(h1:j.1∈f)(h2:j.2.1∈s):Prt js ns ((gs.filter λg=>!decide (g=f)&& !decide (g=s))++[f++s])where
 p:=by
  refine adW ?_ h.p;have V:=uo (h.nd hn) Z;have B:(gs.filter λx=>!decide (x=f)).Nodup:=(h.nd hn).filter _;have J:=uo B (Yy.mpr ⟨hs,by simpa using λz=>F z.symm⟩);rw[List.filter_filter]at J;have e:(gs.filter λg=>!decide (g=f)&& !decide (g=s))=gs.filter λg=>!decide (g=s)&& !decide (g=f):=by
   congr 1;funext g;exact Bool.and_comm _ _
  rw[←e]at J;have O:=(V.trans (J.cons f)).flatten;refine adW ?_ O.symm;rw[aa7];simp only[YF,abZ,Wm];refine Yv.trans ?_;rw[YD]
 e:=λg q=>by
  rcases qb.mp q with z|z
  .exact h.e g (Yy.mp z).1
  .rw[Wl.mp z]
   intro e;exact h.e f Z (List.append_eq_nil_iff.mp e).1
 c:=λg q=>by
  rcases qb.mp q with z|z
  .exact h.c g (Yy.mp z).1
  .rw[Wl.mp z]
   exact qQ I h1 h2 (h.c f Z) (h.c s hs)
theorem Prt.start(js:List Jt)(ns:List Str):Prt js ns (ns.map λx=>[x])where
 p:=by
  have:(ns.map λx=>[x]).flatten=ns:=by
   induction ns with
   |nil=>rfl
   |cons x r O=>simp only[V7,YF,O];rfl
  rw[this]
 e:=λg q=>by obtain⟨x,_,rfl⟩:=V4.mp q;simp
 c:=λg q=>by obtain⟨x,_,rfl⟩:=V4.mp q;exact tK x
theorem u_:∀{gs:List (List Str)},(∀g∈gs,g≠[])->gs.length<=gs.flatten.length
 |[],_=>by simp
 |g::r,h=>by
  have:=u_ (gs:=r) λx J=>h x (by simp[J]);have q:0<g.length:=ac6.mpr (h g (by simp));simp only[YF,Xn,WK];omega
theorem Prt.len(h:Prt js ns gs):gs.length<=ns.length:=by rw[←h.p.length_eq];exact u_ h.e
theorem Prt.len1(h:Prt js ns gs){g:List Str}(q:g∈gs):g.length<=ns.length:=by
 rw[←h.p.length_eq];have:∀{gs:List (List Str)},g∈gs->g.length<=gs.flatten.length:=by
  intro gs
  induction gs with
  |nil=>intro h;cases h
  |cons x r O=>
   intro h;simp only[YF,Xn];rcases V5.mp h with rfl|z
   .omega
   .have:=O z;omega
 exact this q
theorem Gu{f s:List Str}{j:Jt}{ps:List Jt}(h:kE ps gs)(Z:f∈gs)(hs:s∈gs)(h1:j.1∈f)(h2:j.2.1∈s):kE (ps++[j]) ((gs.filter λg=>!decide (g=f)&& !decide (g=s))++[f++s]):=λi hi=>by
 rcases qb.mp hi with z|z
 .obtain⟨g,hg,g1,g2⟩:=h i z
  by_cases e1:g=f
  .exact⟨f++s,by simp,by simp[e1▸g1],by simp[e1▸g2]⟩
  .by_cases e2:g=s
   .exact⟨f++s,by simp,by simp[e2▸g1],by simp[e2▸g2]⟩
   .exact⟨g,Wf _ (Yy.mpr ⟨hg,by simp[e1,e2]⟩),g1,g2⟩
 .rw[Wl.mp z]
  exact⟨f++s,by simp,by simp[h1],by simp[h2]⟩
end
theorem Kd{x:Str}{gs:List (List Str)}(h:∃g∈gs,x∈g):∃f∈gs,x∈f/\gIx (.lst .own ((gs.filter λg=>decide (x∈g)).map fr)) (.int 0)=some (fr f):=by
 obtain⟨g,q,B⟩:=h;have J:g∈gs.filter λg=>decide (x∈g):=Yy.mpr ⟨q,by simpa using B⟩;obtain⟨f,Z,_,V⟩:=jh (f:=fr) (l:=gs.filter λg=>decide (x∈g)) (i:=0) (Yr 0) (by have:=acn J;omega);obtain⟨h1,h2⟩:=Yy.mp Z;exact⟨f,h1,by simpa using h2,V⟩
def ClK(js:List Jt)(ns:List Str)(d:D):Prop:=∃gs:List (List Str),d= .lst .own ((nA (gs.map bI)).map (fL .own))/\Prt js ns gs/\kE js gs
def ClG(N J:D)(js:List Jt)(ns:List Str)(k:Nat)(ρ:En):Prop:=∃(b:Bool)(zs:List Gz)(U F O Z V:Option D),ρ=[some N,some J,some (.lst (mkB b) (zs.map zD)),U,F,O,Z,V]/\Prt js ns (zs.map (·.2))/\kE (js.take k) (zs.map (·.2))
theorem vX{N J:D}{ns:List Str}{js:List Jt}(U:NK N ns)(hJ:JJ J js)(hn:ns.Nodup)(I:∀j∈js,j.1∈ns/\j.2.1∈ns)(Y:ns.length<=40):Wp (b_ [N,J]) (ClK js ns):=by
 simp only[b_,fnP,en0,WK,Xe,V7,Xi,XX,WM,bu,Nat.reduceAdd,Nat.reduceSub,W0,List.nil_append];refine bh (ClG N J js ns 0) (λQ hQ=>?_) ?_
 .simp_arith[-cH,U.v,U.s]
  refine⟨by omega,pB (Vm ns) ?_⟩;rw[Pa,PQ];refine⟨by decide,hQ _ ⟨true,_,_,_,_,_,_,rfl,?_,λj I=>by simp at I⟩⟩;rw[V9];exact Prt.start js ns
 rintro ρ0 ⟨b0,b3,y3,y4,y5,y6,y7,rfl,b1,b5⟩;refine bh (ClG N J js ns js.length) (λQ hQ=>?_) ?_
 .simp[lM,itS,au,hJ.v,hJ.s,bu,aJ,w_ite]
  refine mC (ClG N J js ns) ⟨b0,b3,y3,y4,y5,y6,y7,rfl,b1,b5⟩ ?_ (λρ h=>hQ _ (by simpa using h));rintro k d ρ B ⟨b,zs,x3,x4,x5,x6,x7,rfl,q,a0⟩;rw[List.getElem?_map]at B;cases a4:js[k]? with
  |none=>simp[a4]at B
  |some j=>
   obtain rfl:jD j=d:=by simpa[a4]using B
   have a8:j∈js:=Wu a4;obtain⟨b2,b9⟩:=I j a8;have a7:js.take (k+1)=js.take k++[j]:=by rw[Y7,a4];rfl
   generalize b7:zs.map (·.2)=gs at q a0;have c0:fz (.lst (mkB b) (zs.map zD))= .lst .frz (gs.map fr):=by
    rw[fz,Tj,b7];cases b<;>rfl
   have c7:gs.length<=40:=Xu q.len Y;obtain⟨f,Z,a6,ef⟩:=Kd (q.mem.mp b2);obtain⟨s,hs,a5,es⟩:=Kd (q.mem.mp b9);simp[jD,tgT,aU,dq,tgN,aA,aB,clean,az,aq,aJ];refine bh (λρ=>ρ=[some N,some J,some (.lst .frz (gs.map fr)),some (.str j.1),some (.str j.2.1),some (.int j.2.2),some (fr f),x7]) (λQ hQ=>?_) ?_
   .simp_arith[-fz,c0,Fy,K4]
    refine⟨by omega,pB (Tf j.1 gs) ?_⟩;rw[ef,aJ];exact⟨PJ f,hQ _ rfl⟩
   rintro _ rfl;refine bh (λρ=>ρ=[some N,some J,some (.lst .frz (gs.map fr)),some (.str j.1),some (.str j.2.1),some (.int j.2.2),some (fr f),some (fr s)]) (λQ hQ=>?_) ?_
   .simp_arith[Fy,K4]
    refine⟨by omega,pB (Tf j.2.1 gs) ?_⟩;rw[es,aJ];exact⟨PJ s,hQ _ rfl⟩
   rintro _ rfl;have c3:=q.len1 Z;have c6:=q.len1 hs;simp_arith[-view,yl,O9];by_cases a3:f=s
   .simp only[a3,WM]
    refine⟨false,gs.map λg=>(false,g),_,_,_,_,_,by rw[V9];rfl,?_,?_⟩
    .rw[V9,show((λz:Gz=>z.2)∘λg=>(false,g))=id from rfl,YQ];exact q
    .rw[V9,show((λz:Gz=>z.2)∘λg=>(false,g))=id from rfl,YQ,a7]
     intro i hi;rcases qb.mp hi with z|z
     .exact a0 i z
     .rw[Wl.mp z]
      exact⟨f,Z,a6,a3▸a5⟩
   .simp only[a3,XD]
    have c4:view false (.lst .frz (gs.map fr))= .lst .frz (gs.map fr):=by rw[view,Fy];rfl
    rw[Fy,K4];refine⟨by simp;omega,pB (Vh f s gs) ?_⟩;have V:cF (fr f) (fr s)=some (.lst .own ((f++s).map D.str)):=by
     simp[fr,cF];omega
    have c8:=List.length_filter_le (λg=>!decide (g=f)&& !decide (g=s)) gs;have a2:cF (.lst .own ((gs.filter λg=>!decide (g=f)&& !decide (g=s)).map fr)) (.lst .own [.lst .own ((f++s).map D.str)])=some (.lst .own (((gs.filter λg=>!decide (g=f)&& !decide (g=s)).map λg=>((false,g):Gz)).map zD++[((true,f++s):Gz)].map zD)):=by
     have h1:((gs.filter λg=>!decide (g=f)&& !decide (g=s)).map fr).length+1<=1000000:=by rw[Wc];omega
     simp only[cF,WK,Xe,Zm];rw[Wd ⟨by decide,by decide,h1⟩,V9];rfl
    rw[V,aJ];simp only[bB,WK,Xe,aJ,WM,Zm,Nat.reduceLeDiff];rw[a2,aJ,←Ww];simp only[az,aq,Pa,PQ];refine⟨by decide,true,_,_,_,_,_,_,rfl,?_,?_⟩
    .rw[Ww,V9,show((λz:Gz=>z.2)∘λg=>(false,g))=id from rfl,YQ]
     exact q.merge hn Z hs a3 a8 a6 a5
    .rw[Ww,V9,show((λz:Gz=>z.2)∘λg=>(false,g))=id from rfl,YQ,a7]
     exact Gu a0 Z hs a6 a5
 rintro _ ⟨b,zs,x3,x4,x5,x6,x7,rfl,q,a0⟩;have c5:zs.length<=40:=by have:=q.len;simp at this;omega
 have a9:∀z∈zs,z.2.length<64:=λz O=>by have:=q.len1 (List.mem_map_of_mem (f:=(·.2)) O);omega
 have b8:view false (.lst (mkB b) (zs.map zD))= .lst (mkV false (mkB b)) (zs.map λz=>.lst (mkV false (mkB z.1)) (z.2.map D.str)):=by
  rw[view,bR,V9];congr 1;refine Wz λz _=>?_;simp[Xr,zD,view,bf]
 have c2:iU (zs.map λz=>D.lst (mkV false (mkB z.1)) (z.2.map D.str))=zs.map λz=>D.lst (mkV false (mkB z.1)) (z.2.map D.str):=by
  rw[dU,V9];refine Wz λz _=>?_;simp only[Xr,fzo,cC];cases z.1<;>rfl
 have b6:fB (tpN 0) eTT (eAp cT (ao 1.21 aH)) [none] (zs.map λz=>D.lst (mkV false (mkB z.1)) (z.2.map D.str))=some (((zs.map λz=>bI z.2)).map (fL .own)):=by
  rw[jz (p:=λ_=>true) (f:=λd=>match d with|.lst _ ds=>.lst .own ((bI ((strsOf ds).getD [])).map D.str)|_=>.non)]
  .rw[filter_tt,V9,V9]
   congr 1;refine Wz λz _=>?_;have:=jK z.2;simp[Xr,this,fL]
  .intro d hd
   obtain⟨z,O,rfl⟩:=V4.mp hd;have:=jK z.2;have hv:view false (.lst (mkV false (mkB z.1)) (z.2.map D.str))= .lst (mkV false (mkB z.1)) (z.2.map D.str):=by
    rw[view,bf];cases z.1<;>rfl
   simp[tpN,aJ,eTT,eAp,ao,au,aH,hv,sx,zP (a9 z O),this]
 simp_arith[-view,-mkV,b8,c2];refine⟨by omega,pB b6 ?_⟩;rw[sx,G4 (by simp;omega),aJ];have b4:∀F:List (List Str),aA (F.map (fL .own))=true:=λF=>bA λd hd=>by
  obtain⟨z,_,rfl⟩:=V4.mp hd;simp[fL,az,bw]
 have c1:∀F:List (List Str),aB (F.map (fL .own))=true:=λF=>aZ λd hd=>by
  obtain⟨z,_,rfl⟩:=V4.mp hd;simp[fL,aq,aY]
 simp only[az,aq,b4,c1];refine⟨by decide,zs.map (·.2),by rw[V9];rfl,q,?_⟩;rw[Z3]at a0;exact a0
def lT(l:List Tt):D:=.lst .own (l.map tD)
def lead(ns:List Str)(f:Str->List Tt):D:=.dct .own (ns.map WN) (ns.map λy=>lT (f y))
def upF(f:Str->List Tt)(x:Str)(t:Tt):Str->List Tt:=λy=>if y=x then f y++[t]else f y
def adj(js:List Jt):Nat->Str->List Tt
 |0=>λ_=>[]
 |k+1=>match js[k]? with
  |some j=>upF (upF (adj js k) j.1 (k,1,j.2.1)) j.2.1 (k,-1,j.1)
  |none=>adj js k
theorem yZ{ns:List Str}{x:Str}(J:x∈ns):∃i,fU (ns.map WN) (WN x)=some i/\ns[i]? =some x/\i<ns.length:=by
 have h:=kI (ys:=ns) (x:=x);rw[XJ J]at h;obtain⟨i,hi⟩:=abQ.mp h;obtain⟨Y,B,_⟩:=W6.mp hi;have N:i<ns.length:=by simpa using Y
 refine⟨i,hi,?_,N⟩;rw[Wh N];simpa using B
theorem R8{α:Type}{ns:List Str}{g g':Str->α}{i:Nat}{x:Str}{a:α}(hn:ns.Nodup)(hi:ns[i]? =some x)(Y:g' x=a)(q:∀y,y≠x->g' y=g y):(ns.map g).set i a=ns.map g':=by
 apply Y6;intro k;rw[List.getElem?_set];have N:i<ns.length:=(Hq.mp hi).1;by_cases e:i=k
 .subst e
  rw[Wd rfl,Wd (by simpa using N),List.getElem?_map,hi,←Y];rfl
 .rw[Wo e,List.getElem?_map,List.getElem?_map]
  cases B:ns[k]? with
  |none=>rfl
  |some y=>
   have F:y≠x:=λz=>by
    rw[z]at B;obtain⟨h1,h2⟩:=Hq.mp hi;obtain⟨Z,U⟩:=Hq.mp B;exact e ((abO hn).mp (h2.trans U.symm))
   simp[q y F]
theorem zA{ns:List Str}{f:Str->List Tt}{ρ:En}{i:Nat}{x:Str}{t:Tt}{fa:En->Option (List D)}(hn:ns.Nodup)(h2:ρ[2]? =some (some (lead ns f)))(h4:au false i ρ=some (.str x))(J:x∈ns)(hl:(f x).length<1000000)(Y:fa ρ=some [tD t]) :
  jE aN 2 (yf 2 (gk 2) (au false i)) fa ρ=some (.nx (ρ.set 2 (some (lead ns (upF f x t))))):=by
 obtain⟨k,B,F,q⟩:=yZ J;have I:(ns.map λy=>lT (f y))[k]? =some (lT (f x)):=by rw[List.getElem?_map,F];rfl
 have e1:ixP (lead ns f) (.str x)=some k:=by simp[ixP,lead,fG,B,q]
 have e2:kids (lead ns f)=ns.map λy=>lT (f y):=rfl;have N:fj [k] (lT (f x++[t])) (lead ns f)=lead ns (upF f x t):=by
  have hs:=R8 (g:=λy=>lT (f y)) (g':=λy=>lT (upF f x t y)) (a:=lT (f x++[t])) hn F (by simp[upF]) (λy V=>by simp[upF,V]);rw[fj,e2,I];simp only[fj];rw[hs];rfl
 have Z:fY [k] (lead ns f)=some (lT (f x)):=by simp[fY,e2,I]
 have O:aN (lT (f x)) [tD t]=some (lT (f x++[t]),.non):=by simp[lT,aN,hl]
 have e0:fY [] (lead ns f)=some (lead ns f):=rfl;have e6:yf 2 (gk 2) (au false i) ρ=some [k]:=by
  unfold yf gk;rw[h2,h4];simp only[V1,e0,e1,e2,Wc,q,WM,List.nil_append]
 have U:aA [tD t]=true/\aB [tD t]=true:=⟨rfl,rfl⟩;unfold jE nZ;rw[e6,Y];simp only[V1];unfold upS;rw[h2];simp only[Z,V1,U.1,U.2,and_self,WM,O,W2,N]
theorem xO{f:Str->List Tt}{x y:Str}{t:Tt}:(upF f x t y).length<=(f y).length+1:=by unfold upF;split<;>simp
theorem yI(js:List Jt)(y:Str):∀k,(adj js k y).length<=2*k
 |0=>by simp[adj]
 |k+1=>by
  have O:=yI js y k;rw[adj];cases I:js[k]? with
  |some j=>
   simp only;have h1:=xO (f:=upF (adj js k) j.1 (k,1,j.2.1)) (x:=j.2.1) (y:=y) (t:=((k:Int),-1,j.1));have h2:=xO (f:=adj js k) (x:=j.1) (y:=y) (t:=((k:Int),1,j.2.1));omega
  |none=>simp only;omega
theorem sX(js:List Jt)(y:Str){t:Tt}:∀k,t∈adj js k y↔∃(n:Nat)(j:Jt),n<k/\js[n]? =some j/\((j.1=y/\t=((n:Int),1,j.2.1))∨(j.2.1=y/\t=((n:Int),-1,j.1)))
 |0=>by simp[adj]
 |k+1=>by
  have O:=sX js y (t:=t) k;have up:∀(f:Str->List Tt)(x:Str)(u:Tt),t∈upF f x u y↔t∈f y∨(x=y/\t=u):=λf x u=>by
   unfold upF;by_cases e:y=x
   .simp[e]
   .have e':¬x=y:=λz=>e z.symm
    simp[e,e']
  rw[adj];cases I:js[k]? with
  |none=>
   simp only;rw[O];constructor
   .rintro⟨n,j,h1,h2⟩;exact⟨n,j,by omega,h2⟩
   .rintro⟨n,j,h1,h2,h3⟩
    refine⟨n,j,?_,h2,h3⟩;have:n≠k:=λz=>by rw[z,I]at h2;cases h2
    omega
  |some j=>
   simp only;rw[up,up,O];constructor
   .rintro((⟨n,i,h1,h2⟩|h)|h)
    .exact⟨n,i,by omega,h2⟩
    .exact⟨k,j,by omega,I,.inl h⟩
    .exact⟨k,j,by omega,I,.inr h⟩
   .rintro⟨n,i,h1,h2,h3⟩
    by_cases e:n=k
    .subst e
     rw[I]at h2;cases h2;rcases h3 with z|z
     .exact .inl (.inr z)
     .exact .inr z
    .exact .inl (.inl ⟨n,i,by omega,h2,h3⟩)
def EbI(N J:D)(ns:List Str)(js:List Jt)(k:Nat)(ρ:En):Prop:=∃U F O Z:Option D,ρ=[some N,some J,some (lead ns (adj js k)),U,F,O,Z]
theorem Sq:∀ns:List Str,jk (tpN 0) eTT 1.21 (eAp bB aH) [none] (ns.map D.str)=some (ns.map λy=>((WN y:Key),D.lst .own []))
 |[]=>rfl
 |x::r=>by
  rw[V7,jk,Sq r];simp_arith[cF,g8,fu,g_,gY,j4,jb,gLt,gLe,gGt,gGe,gIx,bB,bT,dh,lL,nF,ie,mR,gIs,ju,jU,atI,ixN,aN,gH,gSl,gw,d_,mj,fG]
theorem Rg{N J:D}{ns:List Str}{js:List Jt}(U:NK N ns)(V:JJ J js)(hn:ns.Nodup)(I:∀j∈js,j.1∈ns/\j.2.1∈ns)(Y:ns.length<=1000)(a4:js.length<=1000):cQ [N,J]=some (lead ns (adj js js.length)):=by
 apply Wp.eq;simp only[cQ,fnP,en0,WK,Xe,V7,Xi,XX,WM,bu,Nat.reduceAdd,Nat.reduceSub,W0,List.nil_append];refine bh (EbI N J ns js 0) (λQ q=>?_) ?_
 .have hnd:(ns.map λy=>(WN y:Key)).Nodup:=ZP.mpr (hn.imp λh e=>h (by cases e;rfl))
  simp_arith[-cH,qj,U.v,U.s,Sq];refine⟨by omega,?_⟩;rw[ut,V9,V9,show((λx:Key×D=>x.1)∘λy=>((WN y:Key),D.lst .own []))=WN from rfl];rw[Wd hnd,aJ];refine⟨⟨?_,?_⟩,q _ ⟨_,_,_,_,rfl⟩⟩
  .simp only[az];rw[bA λd hd=>by obtain⟨y,_,rfl⟩:=V4.mp hd;rfl];rfl
  .simp only[aq];rw[aZ λd hd=>by obtain⟨y,_,rfl⟩:=V4.mp hd;rfl];rfl
 rintro _ ⟨y3,y4,y5,y6,rfl⟩;refine bh (EbI N J ns js js.length) (λQ q=>?_) ?_
 .simp[lM,itE,au,ao,aH,V.v,V.s,bu,aJ,w_ite]
  refine mC (EbI N J ns js) ⟨y3,y4,y5,y6,rfl⟩ ?_ (λρ h=>q _ (by rw[mW]at h;simpa using h));rintro k d ρ B ⟨x3,F,O,Z,rfl⟩;rw[nq,List.getElem?_map]at B;cases a0:js[k]? with
  |none=>simp[a0]at B
  |some j=>
   obtain rfl:D.tup [.int (k:Int),jD j]=d:=by simpa[a0]using B
   obtain⟨a1,a2⟩:=I j (Wu a0);have a3:k<js.length:=(Hq.mp a0).1;simp[jD,tgT,aU,dq,tgN,aA,aB,clean,az,aq,aJ];refine bh (λρ=>ρ=[some N,some J,some (lead ns (upF (adj js k) j.1 (k,1,j.2.1))),some (.int k),some (.str j.1),some (.str j.2.1),some (.int j.2.2)]) (λQ q=>?_) ?_
   .refine pB (zA (t:=((k:Int),1,j.2.1)) hn rfl (x:=j.1) (by simp[au,view]) a1 (by have:=yI js j.1 k;omega) (by simp_arith[cF,g8,fu,g_,gY,j4,jb,gLt,gLe,gGt,gGe,gIx,bB,bT,dh,lL,nF,ie,mR,gIs,ju,jU,atI,ixN,aN,gH,gSl,gw,d_,mj,tD])) (q _ rfl)
   rintro _ rfl;refine pB (zA (t:=((k:Int),-1,j.1)) hn rfl (x:=j.2.1) (by simp[au,view]) a2 (by have:=yI js j.2.1 k;have:=xO (f:=adj js k) (x:=j.1) (y:=j.2.1) (t:=((k:Int),1,j.2.1));omega) (by simp_arith[cF,g8,fu,g_,gY,j4,jb,gLt,gLe,gGt,gGe,gIx,bB,bT,dh,lL,nF,ie,mR,gIs,ju,jU,atI,ixN,aN,gH,gSl,gw,d_,mj,tD])) ⟨some (.int k),some (.str j.1),some (.str j.2.1),some (.int j.2.2),?_⟩;rw[adj,a0];rfl
 rintro _ ⟨x3,F,O,Z,rfl⟩;simp[j_,aJ]
theorem yK{c:En->Option (Bool×En)}{V:En->Option Fl}{Q:Fl->Prop}(I:Nat->En->Prop)(B:Nat)(hs:∀p ρ,I p ρ->Wp (c ρ) λb=>if b.1=true then(p<B/\Wp (V b.2) λr=>match r with
   |.nx ρ2=>I (p+1) ρ2
   |.cnt ρ2=>I (p+1) ρ2
   |.brk ρ2=>Q (.nx ρ2)
   |.ret d ρ2=>Q (.ret d ρ2))else Q (.nx b.2)):∀(q p:Nat)(ρ:En),I p ρ->B-p<q->Wp (jY c V q ρ) Q
 |0,p,ρ,_,h=>by omega
 |q+1,p,ρ,hI,h=>by
  obtain⟨⟨b,ρ1⟩,e1,w⟩:=hs p ρ hI;rw[jY,e1,V1];cases b with
  |false=>
   simp only[WT,XD]at w⊢;exact aJ.mpr w
  |true=>
   simp only[WM]at w⊢;obtain⟨F,r,e2,w⟩:=w;rw[e2];cases r with
   |nx ρ2=>exact yK I B hs q (p+1) ρ2 w 1.10
   |cnt ρ2=>exact yK I B hs q (p+1) ρ2 w 1.10
   |brk ρ2=>exact aJ.mpr w
   |ret d ρ2=>exact aJ.mpr w
abbrev Uw:=Str×List Pt
def pT(ps:List Pt):D:=.tup (ps.map ptD)
def wM(m:Mk)(us:List Uw):D:=.dct m ((us.map (·.1)).map WN) (us.map λu=>pT u.2)
theorem Gs(ps:List Pt):az (pT ps)=true/\aq (pT ps)=true/\(∀b,view b (pT ps)=pT ps)/\fz (pT ps)=pT ps/\fzo (pT ps)=pT ps:=by
 refine⟨?_,?_,λb=>?_,?_,?_⟩<;>simp[pT,az,aq,Sw,SJ,view,Td,fz,SM,fzo,TF]
theorem PN(b:Bool)(us:List Uw):eZ b (us.map λu=>pT u.2)=us.map λu=>pT u.2:=by
 rw[bR,V9];exact Wz λu _=>(Gs u.2).2.2.1 b
theorem Ve(us:List Uw):fzL (us.map λu=>pT u.2)=us.map λu=>pT u.2:=by
 rw[dZ,V9];exact Wz λu _=>(Gs u.2).2.2.2.1
theorem SN(us:List Uw):aA (us.map λu=>pT u.2)=true:=bA λd hd=>by obtain⟨u,_,rfl⟩:=V4.mp hd;exact(Gs u.2).1
theorem Uc(us:List Uw):aB (us.map λu=>pT u.2)=true:=aZ λd hd=>by obtain⟨u,_,rfl⟩:=V4.mp hd;exact(Gs u.2).2.1
theorem QG{us:List Uw}:view false (wM .own us)=wM .brw us:=by simp only[wM,view,PN];rfl
theorem JG{us:List Uw}:view false (wM .frz us)=wM .frz us:=by simp only[wM,view,PN];rfl
theorem Vw{us:List Uw}{m:Mk}(h:m≠.scr):fz (wM m us)=wM .frz us:=by
 simp only[wM,fz,Ve];cases m<;>first|rfl|exact absurd rfl h
theorem Cd{us:List Uw}{m:Mk}(h:m= .own∨m= .frz):az (wM m us)=true/\aq (wM m us)=true:=by
 rcases h with rfl|rfl<;>simp[wM,az,aq,SN,Uc]
theorem PB{us:List Uw}{m:Mk}{x:Str}:lz (.str x) (wM m us)=some (.bl (!decide (x∈us.map (·.1)))):=by
 simp only[lz,wM,vg,fG,W2,kI]
theorem Sg{us:List Uw}{m:Mk}{x:Str}(J:x∈us.map (·.1)):∃ps,(x,ps)∈us/\gIx (wM m us) (.str x)=some (pT ps):=by
 obtain⟨i,h1,h2,Z⟩:=yZ J;rw[List.getElem?_map]at h2;cases e:us[i]? with
 |none=>simp[e]at h2
 |some u=>
  have e2:u.1=x:=by simpa[e]using h2
  refine⟨u.2,e2▸Wu e,?_⟩;simp only[gIx,wM,fG,V1,h1,List.getElem?_map,e,W2]
theorem RK{us:List Uw}{x:Str}{ps:List Pt}(J:x∉us.map (·.1))(Y:us.length<1000000):gH (wM .own us) [.str x,pT ps]=some (wM .own (us++[(x,ps)]),.non):=by
 have h1:fU ((us.map (·.1)).map WN) (WN x)=none:=by
  cases e:fU ((us.map (·.1)).map WN) (WN x)with
  |none=>rfl
  |some j=>have:=kI (ys:=us.map (·.1)) (x:=x);rw[e]at this;exact absurd (of_decide_eq_true this.symm) J
 simp only[gH,wM,fG,V1,Wc,Y,WM,gP,h1,Ww,V7,Xi]
theorem Dk{js:List Jt}{f s:List Str}{j:Jt}(I:j∈js)(h1:j.2.1∈f)(h2:j.1∈s)(B:Con js f)(q:Con js s):Con js (f++s):=
 Ik Yv (qQ I h2 h1 q B)
def ig(ns:List Str)(f:Str->List Tt):D:=.dct .frz (ns.map WN) (ns.map λy=>.lst .frz ((f y).map tD))
theorem M7{ns:List Str}{f:Str->List Tt}(b:Bool):view b (ig ns f)=ig ns f:=by
 simp only[ig,view,bR,V9];congr 1;refine Wz λy _=>?_;simp only[Xr,view,Qc];rfl
theorem Hv{ns:List Str}{f:Str->List Tt}{x:Str}(J:x∈ns):gIx (ig ns f) (.str x)=some (.lst .frz ((f x).map tD)):=by
 obtain⟨i,h1,h2,Z⟩:=yZ J;simp only[gIx,ig,fG,V1,h1,List.getElem?_map,h2,W2]
def Led(js:List Jt)(h:Str)(ps:List Pt)(y:Str):Prop:=(∃l,mt js h ps=some l/\lst h l=y)/\∀p∈ps,p.2=1∨p.2= -1
theorem Jr{js:List Jt}{h y:Str}{ps:List Pt}{p:Pt}{z:Str}(F:Led js h ps y)(hs:stp js p=some (y,z))(N:p.2=1∨p.2= -1):Led js h (ps++[p]) z:=by
 obtain⟨⟨l,h1,h2⟩,Z⟩:=F;refine⟨⟨l++[z],?_,Es l h z⟩,λq B=>?_⟩
 .rw[Fj,h1,V1,hs,V1]
  simp[h2]
 .rcases qb.mp B with e|e
  .exact Z q e
  .rw[Wl.mp e];exact N
structure Wy(js:List Jt)(ns:List Str)(h:Str)(us:List Uw):Prop where
 n:(us.map (·.1)).Nodup
 i:∀x∈us.map (·.1),x∈ns
 w:∀u∈us,Led js h u.2 u.1/\u.2.length<us.length
 c:Con js (us.map (·.1))
 h:∃r,us=(h,[])::r
theorem Wy.len{js:List Jt}{ns:List Str}{h:Str}{us:List Uw}(w:Wy js ns h us):us.length<=ns.length:=by
 have:=BR w.n w.i;simpa using this
theorem Wy.one{js:List Jt}{ns:List Str}{h:Str}(Y:h∈ns):Wy js ns h [(h,[])]where
 n:=by simp
 i:=by simp[Y]
 w:=λu F=>by
  obtain rfl:=Wl.mp F;exact⟨⟨⟨[],rfl,rfl⟩,by simp⟩,by simp⟩
 c:=tK h
 h:=⟨[],rfl⟩
theorem Nk{js:List Jt}{x:Str}{t:Tt}(h:t∈adj js js.length x):stp js (t.1,t.2.1)=some (x,t.2.2)/\(t.2.1=1∨t.2.1= -1)/\∃j∈js,(j.1=x/\j.2.1=t.2.2)∨(j.2.1=x/\j.1=t.2.2):=by
 obtain⟨n,j,h1,h2,Z⟩:=(sX js x js.length).mp h;have J:j∈js:=Wu h2;rcases Z with⟨e1,rfl⟩|⟨e1,rfl⟩
 .refine⟨?_,.inl rfl,j,J,.inl ⟨e1,rfl⟩⟩
  unfold stp;simp only;rw[Wd ⟨by omega,by omega⟩,Yo,h2];simp[ends,e1]
 .refine⟨?_,.inr rfl,j,J,.inr ⟨e1,rfl⟩⟩
  unfold stp;simp only;rw[Wd ⟨by omega,by omega⟩,Yo,h2];simp[ends,e1]
theorem Wy.add{js:List Jt}{ns:List Str}{h x:Str}{us:List Uw}{ps:List Pt}{t:Tt}(w:Wy js ns h us)(J:(x,ps)∈us)(F:t∈adj js js.length x)(I:∀j∈js,j.1∈ns/\j.2.1∈ns)(hn:t.2.2∉us.map (·.1)):Wy js ns h (us++[(t.2.2,ps++[(t.1,t.2.1)])]):=by
 obtain⟨O,B,j,q,V⟩:=Nk F;have N:x∈us.map (·.1):=V4.mpr ⟨_,J,rfl⟩;refine⟨?_,?_,?_,?_,?_⟩
 .rw[Ww,Wi]
  exact⟨w.n,by simp,λa Y b U e=>hn (by rw[show b=t.2.2 by simpa using U]at e;exact e▸Y)⟩
 .intro y hy
  rw[Ww,qb]at hy;rcases hy with z|z
  .exact w.i y z
  .rw[show y=t.2.2 by simpa using z]
   rcases V with⟨_,e⟩|⟨_,e⟩
   .rw[←e];exact(I j q).2
   .rw[←e];exact(I j q).1
 .intro u hu
  rcases qb.mp hu with z|z
  .exact⟨(w.w u z).1,by have:=(w.w u z).2;simp;omega⟩
  .obtain rfl:=Wl.mp z
   exact⟨Jr (w.w _ J).1 O B,by have:=(w.w _ J).2;simp at this⊢;omega⟩
 .rw[Ww]
  rcases V with⟨e1,e2⟩|⟨e1,e2⟩
  .exact qQ q (e1▸N) (by simp[e2]) w.c (tK _)
  .exact Dk q (e1▸N) (by simp[e2]) w.c (tK _)
 .obtain⟨r,e⟩:=w.h
  exact⟨r++[(t.2.2,ps++[(t.1,t.2.1)])],by rw[e];rfl⟩
def ky(us:List Uw):List Str:=us.map (·.1)
def zQ(js:List Jt)(us:List Uw)(p:Nat):Prop:=∀i,i<p->∀x,(ky us)[i]? =some x->∀t∈adj js js.length x,t.2.2∈ky us
def WyD(js:List Jt)(ns:List Str)(h:Str)(d:D):Prop:=∃us,d=wM .own us/\Wy js ns h us/\∀x∈ky us,∀t∈adj js js.length x,t.2.2∈ky us
def WfI(L:D)(js:List Jt)(ns:List Str)(h:Str)(p:Nat)(ρ:En):Prop:=∃(us:List Uw)(F O Z V:Option D),ρ=[some L,some (.str h),some (wM .own us),some (.lst .own (((ky us).drop p).map D.str)),F,O,Z,V]/\Wy js ns h us/\p<=us.length/\zQ js us p
def WfJ(L:D)(js:List Jt)(ns:List Str)(h:Str)(p:Nat)(x:Str)(k:Nat)(ρ:En):Prop:=∃(us:List Uw)(O Z V:Option D),ρ=[some L,some (.str h),some (wM .own us),some (.lst .own (((ky us).drop (p+1)).map D.str)),some (.str x),O,Z,V]/\Wy js ns h us/\p+1<=us.length/\(ky us)[p]? =some x/\zQ js us p/\∀t∈(adj js js.length x).take k,t.2.2∈ky us
theorem jX(us:List Uw):(ky us).length=us.length:=by simp[ky]
theorem tW(us:List Uw)(u:Uw):ky (us++[u])=ky us++[u.1]:=by simp[ky]
theorem Uz{l:List Tt}{k:Nat}{d:D}(h:(l.map tD)[k]? =some d):∃t,l[k]? =some t/\d=tD t:=by
 rw[List.getElem?_map]at h;cases e:l[k]? with
 |none=>simp[e]at h
 |some t=>exact⟨t,rfl,by simpa[e]using h.symm⟩
theorem RV{js:List Jt}{ns:List Str}{h:Str}(hh:h∈ns)(I:∀j∈js,j.1∈ns/\j.2.1∈ns)(Y:ns.length<=1000):Wp (dM [ig ns (adj js js.length),.str h]) (WyD js ns h):=by
 simp only[dM,fnP,en0,WK,Xe,V7,Xi,XX,WM,bu,Nat.reduceAdd,Nat.reduceSub,W0,List.nil_append];refine bh (λρ=>ρ=[some (ig ns (adj js js.length)),some (.str h),some (wM .own [(h,[])]),none,none,none,none,none]) (λQ q=>?_) ?_
 .have:ut [((WN h:Key),D.tup [])]=some (wM .own [(h,[])]):=by
   unfold ut;rw[Wd (by simp)];rfl
  simp_arith[cF,g8,fu,g_,gY,j4,jb,gLt,gLe,gGt,gGe,gIx,bB,bT,dh,lL,nF,ie,mR,gIs,ju,jU,atI,ixN,aN,gH,gSl,gw,d_,mj,Ac,tL,FJ,fG,this];exact⟨Cd (.inl rfl),q _ rfl⟩
 rintro _ rfl;refine bh (λρ=>ρ=[some (ig ns (adj js js.length)),some (.str h),some (wM .own [(h,[])]),some (.lst .own [.str h]),none,none,none,none]) (λQ q=>?_) ?_
 .simp_arith[cF,g8,fu,g_,gY,j4,jb,gLt,gLe,gGt,gGe,gIx,bB,bT,dh,lL,nF,ie,mR,gIs,ju,jU,atI,ixN,aN,gH,gSl,gw,d_,mj]
  exact q _ rfl
 rintro _ rfl;refine bh (λρ=>∃p,WfI (ig ns (adj js js.length)) js ns h p ρ/\∀us x4 x5 x6 x7 m,ρ=[some (ig ns (adj js js.length)),some (.str h),some (wM .own us),some m,x4,x5,x6,x7]->us.length<=p) (λQ q=>?_) ?_
 .refine yK (WfI (ig ns (adj js js.length)) js ns h) ns.length ?_ 1000000 0 _ ⟨[(h,[])],none,none,none,none,rfl,Wy.one hh,by simp,λi hi=>absurd hi (adX i)⟩ 1.10
  rintro p ρ ⟨us,x4,x5,x6,x7,rfl,B,F,Z⟩;have c6:=B.len;cases e:(ky us).drop p with
  |nil=>
   have a4:us.length<=p:=by
    have:=congrArg Yl e;rw[Ys,jX]at this;simp at this;omega
   simp[vA,lK,au,view,eZ,truth,dB,aJ,e];refine q _ ⟨p,⟨us,x4,x5,x6,x7,by rw[e];rfl,B,F,Z⟩,?_⟩;intro c0 y4 y5 y6 y7 m e2;simp only[adS,ZM]at e2;have:=e2.2.2.1;have h2:us.map (λu=>pT u.2)=c0.map λu=>pT u.2:=by unfold wM at this;injection this
   have:=congrArg Yl h2;simp at this;omega
  |cons x r=>
   have J:(ky us)[p]? =some x:=by
    have:=congrArg (λl=>l[0]?) e;simpa using this
   have a4:p<us.length:=by have:=(Hq.mp J).1;rw[jX]at this;exact this
   have O:r=(ky us).drop (p+1):=by
    have:=congrArg List.tail e;simpa using this.symm
   have c1:x∈ns:=B.i x (Wu J);have U:((ky us).drop p).length<1000000:=by rw[Ys,jX];omega
   rw[e]at U;simp[vA,lK,au,view,eZ,truth,dB,aJ];refine⟨by omega,?_⟩;refine bh (WfJ (ig ns (adj js js.length)) js ns h p x 0) (λQ q=>?_) ?_
   .have hpop:jJ (.lst .own ((x::r).map D.str)) [.int 0]=some (.lst .own (r.map D.str),.str x):=by
     simp only[jJ,Wc,U,WM];simp[ixN]
    have N:upS jJ 3 [] [.int 0] [some (ig ns (adj js js.length)),some (.str h),some (wM .own us),some (.lst .own ((x::r).map D.str)),x4,x5,x6,x7]=some (.str x,[some (ig ns (adj js js.length)),some (.str h),some (wM .own us),some (.lst .own (r.map D.str)),x4,x5,x6,x7]):=by
     unfold upS;simp only[W3,Xa,fY,V1];rw[Wd ⟨rfl,rfl⟩,hpop];rfl
    simp only[V7]at N;simp[dR,nZ,gk,ao,aH,eC,dB,bu,aJ,N,tgN,az,aq,clean];exact q _ ⟨us,x5,x6,x7,by rw[O],B,a4,J,Z,by simp⟩
   rintro _ ⟨b5,y5,y6,y7,rfl,b2,b9,b6,b3,_⟩;have a6:cH (.lst .frz ((adj js js.length x).map tD))=some (true,(adj js js.length x).map tD):=by simp[cH,clean,az,aq,Pj,Py,Vb]
   simp[lM,itS,e2,au,M7,view,bu,aJ,Hv c1,a6,-List.map_drop];refine mC (WfJ (ig ns (adj js js.length)) js ns h p x) ⟨b5,y5,y6,y7,rfl,b2,b9,b6,b3,by simp⟩ ?_ ?_
   .rintro k d ρ hk ⟨us1,z5,z6,z7,rfl,hw1,hp1,hx1,hc1,hd1⟩
    obtain⟨t,ht,rfl⟩:=Uz hk;have b7:t∈adj js js.length x:=Wu ht;have a7:(adj js js.length x).take (k+1)=(adj js js.length x).take k++[t]:=by rw[Y7,ht];rfl
    have c4:=hw1.len;have b4:x∈us1.map (·.1):=Wu hx1;obtain⟨ps,b0,b8⟩:=Sg (m:=.brw) b4;have c3:ps.length<us1.length:=(hw1.w _ b0).2;simp[tD,tgT,aU,dq,tgN,aA,aB,clean,az,aq,aJ,-List.map_drop];simp[sIf,eB,e2,au,QG,view,PB,isB,bu,aJ,w_ite,-List.map_drop];by_cases a0:t.2.2∈us1.map (·.1)
    .have hin':∃a,(t.2.2,a)∈us1:=by obtain⟨u,hu,e⟩:=V4.mp a0;exact⟨u.2,by rw[←e];exact hu⟩
     simp[hin',iQ,aJ,-List.map_drop];refine⟨us1,_,_,_,rfl,hw1,hp1,hx1,hc1,λu hu=>?_⟩;rw[a7]at hu;rcases qb.mp hu with z|z
     .exact hd1 u z
     .rw[Wl.mp z];exact a0
    .have hin':¬∃a,(t.2.2,a)∈us1:=λ⟨a,z⟩=>a0 (V4.mpr ⟨_,z,rfl⟩)
     simp[hin',-List.map_drop];have b1:cF (pT ps) (.tup [.tup [.int t.1,.int t.2.1]])=some (pT (ps++[(t.1,t.2.1)])):=by
      simp[pT,cF,ptD];omega
     refine bh (λρ=>ρ=[some (ig ns (adj js js.length)),some (.str h),some (wM .own (us1++[(t.2.2,ps++[(t.1,t.2.1)])])),some (.lst .own (((ky us1).drop (p+1)).map D.str)),some (.str x),some (.int t.1),some (.int t.2.1),some (.str t.2.2)]) (λQ q=>?_) ?_
     .have hset:=RK (us:=us1) (x:=t.2.2) (ps:=ps++[(t.1,t.2.1)]) a0 1.10
      have a8:=Gs (ps++[(t.1,t.2.1)]);simp[cI,e2,au,QG,view,b8,eAp,ao,aH,bT,b1,bu,dB,aJ,rJ,gk,upS,fY,fj,hset,aA,aB,az,aq,a8.1,a8.2.1,clean,-List.map_drop];exact q _ rfl
     rintro _ rfl;have c2:(((ky us1).drop (p+1)).map D.str).length<1000000:=by rw[Wc,Ys,jX];omega
     have a9:aN (.lst .own (((ky us1).drop (p+1)).map D.str)) [.str t.2.2]=some (.lst .own (((ky us1).drop (p+1)).map D.str++[.str t.2.2]),.non):=by
      simp only[aN,c2,WM]
     simp only[jE,nZ,gk,ao,aH,au,view,W3,Xa,V1,W2,upS,fY,aA,aB,az,aq,Z8,and_self,WM,a9,fj,aJ,XN,Yw];have a2:(ky (us1++[(t.2.2,ps++[(t.1,t.2.1)])])).drop (p+1)=(ky us1).drop (p+1)++[t.2.2]:=by
      rw[tW,List.drop_append_of_le_length (by rw[jX];exact hp1)]
     have a1:∀y,y∈ky us1->y∈ky (us1++[(t.2.2,ps++[(t.1,t.2.1)])]):=λy V=>by rw[tW];exact Wf _ V
     have a5:∀i y,i<us1.length->(ky (us1++[(t.2.2,ps++[(t.1,t.2.1)])]))[i]? =some y->(ky us1)[i]? =some y:=λi y hi e=>by
      rw[tW,WX (by rw[jX];exact hi)]at e;exact e
     refine⟨us1++[(t.2.2,ps++[(t.1,t.2.1)])],_,_,_,by rw[a2,Ww];rfl,hw1.add b0 b7 I a0,by simp;omega,?_,λi hi y V u hu=>a1 _ (hc1 i hi y (a5 i y 1.10 V) u hu),λu hu=>?_⟩
     .rw[tW,WX (by rw[jX];omega)];exact hx1
     .rw[a7]at hu
      rcases qb.mp hu with z|z
      .exact a1 _ (hd1 u z)
      .rw[Wl.mp z,tW];simp
   .rintro ρ ⟨us1,z5,z6,z7,rfl,hw1,hp1,hx1,hc1,hd1⟩
    refine⟨us1,_,z5,z6,z7,rfl,hw1,hp1,λi hi y V=>?_⟩;by_cases ei:i=p
    .subst ei
     rw[hx1]at V;cases V;rw[Wc,Z3]at hd1;exact hd1
    .exact hc1 i 1.10 y V
 rintro _ ⟨p,⟨us,x4,x5,x6,x7,rfl,B,F,Z⟩,a3⟩;have c5:=a3 us _ _ _ _ _ rfl;simp[j_,aJ];refine⟨us,rfl,B,λx J=>?_⟩;obtain⟨i,hi,rfl⟩:=XR J;exact Z i (by rw[jX]at hi;omega) _ (Wh hi)
theorem Vt{m:Mk}{g:List Str}(h:g.length<64):cT [.lst m (g.map D.str)]=some (.lst .own ((bI g).map D.str)):=zP (m:=m) h
theorem Vg{g:List Str}(h:g.length<64):cT [.tup (g.map D.str)]=some (.lst .own ((bI g).map D.str)):=by
 simp only[cT,Wc,h,WM,jK,W2];rfl
theorem vW:∀l:List Str,rP (l.map WN)=some l
 |[]=>rfl
 |x::r=>by simp[rP,vW r]
theorem VN{us:List Uw}{m:Mk}(h:us.length<64)(J:(m== .scr)=false):cT [wM m us]=some (.lst .own ((bI (ky us)).map D.str)):=by
 simp only[cT,wM,Wc,h,J,vW,W2];rfl
theorem Ba(g:List Str):YG (λa b=>ltS [b] [a]=false) (bI g):=by
 unfold bI;have h1:=jR (g.map λx=>[x]);have h2:∀k∈nA (g.map λx=>[x]),∃x,k=[x]:=λk B=>by
  obtain⟨x,_,rfl⟩:=V4.mp ((eF _).mem_iff.mp B);exact⟨x,rfl⟩
 refine ZP.mpr (Zo (λ{a b} Y U O=>?_) h1);obtain⟨x,rfl⟩:=h2 a Y;obtain⟨y,rfl⟩:=h2 b U;exact O
theorem CZ{g:List Str}{s:Str}(hs:s∈g)(J:∀x∈g,ltS [x] [s]=false):∃t,bI g=s::t:=by
 have F:=fH g;cases e:bI g with
 |nil=>rw[e]at F;have:=F.symm.eq_nil;rw[this]at hs;cases hs
 |cons m t=>
  have O:=Ba g;rw[e]at O F;have q:m∈g:=F.mem_iff.mp (by simp);have h1:=J m q;have h2:ltS [s] [m]=false:=by
   rcases V5.mp (F.mem_iff.mpr hs)with z|z
   .rw[z];exact jA _
   .exact(YW.mp O).1 s z
  have Z:=m8 [s] [m] h2 h1;exact⟨t,by rw[List.cons.inj Z |>.1]⟩
theorem Ko{a b:Str}{r q:List Str}(F:a≠b)(h:ltS [b] [a]=false):ltS (b::q) (a::r)=false:=by
 have B:¬b=a:=λz=>F z.symm;simp only[ltS,B,XD]at h⊢;exact h
structure TrC(js:List Jt)(ns:List Str)(us:List Uw):Prop where
 w:∃h,Wy js ns h us
 c:∀x∈ky us,∀t∈adj js js.length x,t.2.2∈ky us
theorem TrC.both{js:List Jt}{ns:List Str}{us:List Uw}(h:TrC js ns us){j:Jt}(I:j∈js):j.1∈ky us↔j.2.1∈ky us:=by
 obtain⟨n,hn,rfl⟩:=XR I;have q:js[n]? =some js[n]:=Wh hn;constructor
 .intro z
  exact h.c _ z ((n:Int),1,js[n].2.1) ((sX js _ js.length).mpr ⟨n,js[n],hn,q,.inl ⟨rfl,rfl⟩⟩)
 .intro z
  exact h.c _ z ((n:Int),-1,js[n].1) ((sX js _ js.length).mpr ⟨n,js[n],hn,q,.inr ⟨rfl,rfl⟩⟩)
structure TrS(js:List Jt)(ns:List Str)(k:Nat)(hs:List (List Uw)):Prop where
 t:∀us∈hs,TrC js ns us/\∃(i:Nat)(s:Str)(r:List Str),i<k/\(bI ns)[i]? =some s/\bI (ky us)=s::r
 n:(ky hs.flatten).Nodup
 c:∀i,i<k->∀x,(bI ns)[i]? =some x->x∈ky hs.flatten
 r:RiL ((hs.map ky).map bI)
theorem jL:∀hs:List (List Uw),ky hs.flatten=(hs.map ky).flatten
 |[]=>rfl
 |u::r=>by
  have:=jL r;unfold ky at this⊢;simp only[YF,Ww,V7,this]
theorem TrS.nil(js:List Jt)(ns:List Str):TrS js ns 0 []:=⟨λ_ h=>(by cases h),List.nodup_nil,λi hi=>absurd hi (adX i),ady⟩
theorem TrS.skip{js:List Jt}{ns:List Str}{k:Nat}{hs:List (List Uw)}{x:Str}(h:TrS js ns k hs)(J:(bI ns)[k]? =some x)(O:x∈ky hs.flatten):TrS js ns (k+1) hs:=by
 refine⟨λus F=>?_,h.n,λi hi y V=>?_,h.r⟩
 .obtain⟨a,i,s,r,h1,h2⟩:=h.t us F
  exact⟨a,i,s,r,by omega,h2⟩
 .by_cases e:i=k
  .subst e;rw[J]at V;cases V;exact O
  .exact h.c i 1.10 y V
theorem TrS.add{js:List Jt}{ns:List Str}{k:Nat}{hs:List (List Uw)}{us:List Uw}{x:Str}(h:TrS js ns k hs)(hn:ns.Nodup)(J:(bI ns)[k]? =some x)(O:x∉ky hs.flatten)(B:Wy js ns x us)(Z:∀y∈ky us,∀t∈adj js js.length y,t.2.2∈ky us):TrS js ns (k+1) (hs++[us])/\∀y∈ky us,y∉ky hs.flatten:=by
 have a3:x∈ky us:=by obtain⟨r,e⟩:=B.h;rw[e];simp[ky]
 have a0:∀y∈ky us,y∉ky hs.flatten:=λy V a5=>by
  rw[jL,Zq]at a5;obtain⟨l,hl,a8⟩:=a5;obtain⟨vs,a1,rfl⟩:=V4.mp hl;have a6:x∉ky vs:=λz=>O (by rw[jL,Zq];exact⟨_,V4.mpr ⟨vs,a1,rfl⟩,z⟩);obtain⟨j,I,j1,j2,j3⟩:=B.c (·∈ky vs) ⟨y,V,a8⟩ ⟨x,a3,a6⟩;have U:=(h.t vs a1).1.both I;rcases j3 with⟨z1,z2⟩|⟨z1,z2⟩
  .exact z2 (U.mp z1)
  .exact z1 (U.mpr z2)
 have b0:(bI ns).Nodup:=(fH ns).nodup_iff.mpr hn;have hS:=Zc.mp (Ba ns);have q:k<(bI ns).length:=(Hq.mp J).1;have a2:(bI ns)[k]=x:=(Hq.mp J).2;obtain⟨t,F⟩:∃t,bI (ky us)=x::t:=by
  refine CZ a3 λy V=>?_;have a7:y∈bI ns:=(fH ns).mem_iff.mpr (B.i y V);obtain⟨i,hi,rfl⟩:=XR a7;rcases adE i k with z|z|z
  .exact absurd (h.c i z _ (Wh hi)) (a0 _ V)
  .subst z;rw[a2];exact jA _
  .rw[←a2];exact hS k i q hi z
 refine⟨⟨λvs N=>?_,?_,λi hi y V=>?_,?_⟩,a0⟩
 .rcases qb.mp N with z|z
  .obtain⟨a,i,s,r,h1,h2⟩:=h.t vs z
   exact⟨a,i,s,r,by omega,h2⟩
  .rw[Wl.mp z]
   exact⟨⟨⟨x,B⟩,Z⟩,k,x,t,by omega,J,F⟩
 .rw[aa7,YF,abZ,Wm]
  unfold ky;rw[Ww,Wi];exact⟨h.n,B.n,λa Y b U e=>a0 b U (e▸Y)⟩
 .rw[aa7,YF,abZ,Wm]
  unfold ky;rw[Ww,qb];by_cases e:i=k
  .subst e;rw[J]at V;cases V;exact .inr a3
  .exact .inl (h.c i 1.10 y V)
 .rw[Ww,Ww]
  refine List.pairwise_append.mpr ⟨h.r,by simp,λa Y b U=>?_⟩;obtain⟨l,hl,rfl⟩:=V4.mp Y;obtain⟨vs,a1,rfl⟩:=V4.mp hl;obtain rfl:b=bI (ky us):=by simpa using U
  obtain⟨_,i,s,r,h1,h2,h3⟩:=h.t vs a1;rw[h3,F];have a9:i<(bI ns).length:=(Hq.mp h2).1;have a4:(bI ns)[i]=s:=(Hq.mp h2).2;refine Ko (λe=>?_) (by rw[←a2,←a4];exact hS i k a9 q h1);have:=(abO b0).mp (a4.trans (e.trans a2.symm));omega
theorem TrS.fin{js:List Jt}{ns:List Str}{hs:List (List Uw)}(h:TrS js ns (bI ns).length hs)(hn:ns.Nodup)(I:∀j∈js,j.1∈ns/\j.2.1∈ns):Prt js ns (hs.map ky)/\kE js (hs.map ky)/\RiL ((hs.map ky).map bI):=by
 have O:∀x∈ns,x∈ky hs.flatten:=λx J=>by
  obtain⟨i,hi,rfl⟩:=XR ((fH ns).mem_iff.mpr J);exact h.c i hi _ (Wh hi)
 refine⟨⟨?_,λg q=>?_,λg q=>?_⟩,λj U=>?_,h.r⟩
 .rw[←jL]
  refine(Z9 h.n hn).mpr λx=>⟨λJ=>?_,O x⟩;rw[jL,Zq]at J;obtain⟨l,Y,N⟩:=J;obtain⟨us,F,rfl⟩:=V4.mp Y;obtain⟨⟨⟨y,B⟩,_⟩,_⟩:=h.t us F;exact B.i x N
 .obtain⟨us,F,rfl⟩:=V4.mp q
  obtain⟨⟨⟨y,B⟩,_⟩,_⟩:=h.t us F;obtain⟨r,e⟩:=B.h;rw[e];simp[ky]
 .obtain⟨us,F,rfl⟩:=V4.mp q
  obtain⟨⟨⟨y,B⟩,_⟩,_⟩:=h.t us F;exact B.c
 .have h1:=O j.1 (I j U).1
  rw[jL,Zq]at h1;obtain⟨l,Y,N⟩:=h1;obtain⟨us,F,rfl⟩:=V4.mp Y;exact⟨_,Y,N,((h.t us F).1.both U).mp N⟩
theorem Fv:∀{es:List (Key×D)}{ks:List Key}{ds:List D},ks.length=ds.length->(es.map (·.1)).Nodup->(∀k∈es.map (·.1),k∉ks)->bD ks ds es=(ks++es.map (·.1),ds++es.map (·.2))
 |[],ks,ds,_,_,_=>by simp[bD]
 |p::r,ks,ds,hl,hn,hd=>by
  rw[V7,W_]at hn;have h1:fU ks p.1=none:=xu (hd p.1 (by simp));rw[bD,gP,h1];simp only;rw[Fv (ks:=ks++[p.1]) (ds:=ds++[p.2]) (by simp[hl]) hn.2 λk B z=>?_]
  .simp
  .rcases qb.mp z with y|y
   .exact hd k (by simp[V4.mp B]) y
   .rw[Wl.mp y]at B;exact hn.1 B
theorem RC{vs us:List Uw}(hn:(ky us).Nodup)(hd:∀y∈ky us,y∉ky vs)(Y:vs.length+us.length<=50000):jr (wM .own vs) [wM .frz us]=some (wM .own (vs++us),.non):=by
 have e1:(((us.map (·.1)).map (WN:Str->Key)).zip (us.map λu=>pT u.2))=us.map λu=>((WN u.1:Key),pT u.2):=by
  rw[V9,List.zip_map'];rfl
 have q:∀{l:List Str}{x:Str},(WN x:Key)∈l.map WN↔x∈l:=λ{l x}=>by
  rw[V4];exact⟨λ⟨y,h1,h2⟩=>by cases h2;exact h1,λh=>⟨x,h,rfl⟩⟩
 have e2:=Fv (es:=us.map λu=>((WN u.1:Key),pT u.2)) (ks:=(vs.map (·.1)).map WN) (ds:=vs.map λu=>pT u.2) (by simp) (by
  rw[V9];have:((λx:Key×D=>x.1)∘λu:Uw=>((WN u.1:Key),pT u.2))=WN∘λu:Uw=>u.1:=rfl;rw[this,←V9];exact ZP.mpr (hn.imp λh e=>h (by cases e;rfl))) (λk B=>by
  rw[V9]at B;obtain⟨u,F,rfl⟩:=V4.mp B;intro z;exact hd u.1 (V4.mpr ⟨u,F,rfl⟩) (q.mp z))
 simp only[jr,wM,Wc,Y,e1,e2];simp[wM]
theorem Rq(us:List Uw):bJ (wM .own us)=true:=by
 have h2:∀l:List Pt,aW (l.map ptD)=true:=by
  intro l
  induction l with
  |nil=>rfl
  |cons p r O=>rw[V7,aW,O];rfl
 have h1:aW (us.map λu=>pT u.2)=true:=by
  induction us with
  |nil=>rfl
  |cons u r O=>rw[V7,aW,O,pT,bJ,h2];rfl
 simp only[wM,bJ,h1];rfl
def TrD(js:List Jt)(ns:List Str)(d:D):Prop:=∃hs:List (List Uw),d= .lst .own (hs.map (wM .frz))/\TrS js ns (bI ns).length hs
structure NS(N:D)(ns:List Str):Prop where
 k:NK N ns
 s:cT [N]=some (.lst .own ((bI ns).map D.str))
theorem NS.lst{ns:List Str}(h:ns.length<=40):NS 1.16 ns:=⟨NK.lst ns,Vt 1.10⟩
theorem NS.tup{ns:List Str}(h:ns.length<=40):NS (.tup (ns.map D.str)) ns:=⟨NK.tup ns,Vg 1.10⟩
def TrI(N J:D)(js:List Jt)(ns:List Str)(k:Nat)(ρ:En):Prop:=∃(hs:List (List Uw))(O Z:Option D),ρ=[some N,some J,some (lead ns (adj js js.length)),some (wM .own hs.flatten),some (.lst .own (hs.map (wM .frz))),O,Z]/\TrS js ns k hs
theorem T3(hs:List (List Uw)):aA (hs.map (wM .frz))=true:=bA λd hd=>by obtain⟨u,_,rfl⟩:=V4.mp hd;exact(Cd (.inr rfl)).1
theorem Sd(hs:List (List Uw)):aB (hs.map (wM .frz))=true:=aZ λd hd=>by obtain⟨u,_,rfl⟩:=V4.mp hd;exact(Cd (.inr rfl)).2
theorem TrS.len{js:List Jt}{ns:List Str}{k:Nat}{hs:List (List Uw)}(h:TrS js ns k hs):hs.flatten.length<=ns.length/\hs.length<=ns.length:=by
 have h1:(ky hs.flatten).length<=ns.length:=BR h.n λx J=>by
  rw[jL,Zq]at J;obtain⟨l,Y,N⟩:=J;obtain⟨us,F,rfl⟩:=V4.mp Y;obtain⟨⟨⟨y,B⟩,_⟩,_⟩:=h.t us F;exact B.i x N
 have h2:=u_ (gs:=hs.map ky) λg q=>by
  obtain⟨us,F,rfl⟩:=V4.mp q;obtain⟨⟨⟨y,B⟩,_⟩,_⟩:=h.t us F;obtain⟨r,e⟩:=B.h;rw[e];simp[ky]
 rw[←jL,Wc]at h2;rw[jX]at h1;exact⟨h1,by rw[jX]at h2;omega⟩
theorem M4{N J:D}{ns:List Str}{js:List Jt}(U:NS N ns)(hJ:JJ J js)(hn:ns.Nodup)(I:∀j∈js,j.1∈ns/\j.2.1∈ns)(Y:ns.length<=40)(a7:js.length<=1000):Wp (gV [N,J]) (TrD js ns):=by
 simp only[gV,fnP,en0,WK,Xe,V7,Xi,XX,WM,bu,Nat.reduceAdd,Nat.reduceSub,W0,List.nil_append];refine bh (λρ=>ρ=[some N,some J,some (lead ns (adj js js.length)),none,none,none,none]) (λQ q=>?_) ?_
 .have he:=Rg U.k hJ hn I 1.10 a7
  have V:az (lead ns (adj js js.length))=true/\aq (lead ns (adj js js.length))=true:=by
   constructor
   .simp only[lead,az];rw[bA λd hd=>by obtain⟨y,_,rfl⟩:=V4.mp hd;simp[lT,az,Pj]];rfl
   .simp only[lead,aq];rw[aZ λd hd=>by obtain⟨y,_,rfl⟩:=V4.mp hd;simp[lT,aq,Py]];rfl
  simp[cI,eAp,cD,ao,aH,au,U.k.v,hJ.v,fzL,U.k.f,hJ.f,he,aA,aB,U.k.b,U.k.o,hJ.b,hJ.o,bu,dB,aJ,tgN,clean,V.1,V.2];exact q _ rfl
 rintro _ rfl;refine bh (λρ=>ρ=[some N,some J,some (lead ns (adj js js.length)),some (wM .own []),none,none,none]) (λQ q=>?_) ?_
 .simp_arith[HJ]
  exact q _ rfl
 rintro _ rfl;refine bh (λρ=>ρ=[some N,some J,some (lead ns (adj js js.length)),some (wM .own []),some (.lst .own []),none,none]) (λQ q=>?_) ?_
 .simp_arith[cF,g8,fu,g_,gY,j4,jb,gLt,gLe,gGt,gGe,gIx,bB,bT,dh,lL,nF,ie,mR,gIs,ju,jU,atI,ixN,aN,gH,gSl,gw,d_,mj,-az,-aq]
  exact q _ rfl
 rintro _ rfl;have a3:∃d,view false (lead ns (adj js js.length))=d/\fz d=ig ns (adj js js.length):=by
  refine⟨_,rfl,?_⟩;simp only[lead,ig,view,fz,bR,dZ,V9];congr 1;refine Wz λy _=>?_;simp only[Xr,lT,view,fz,Qc,dZ,V9];rfl
 obtain⟨Lv,a8,a6⟩:=a3;refine bh (TrI N J js ns (bI ns).length) (λQ q=>?_) ?_
 .have hseq:cH (.lst .own ((bI ns).map D.str))=some (true,(bI ns).map D.str):=by simp[cH,clean,az,aq,bw,aY,cC]
  simp[lM,itS,eAp,ao,aH,au,U.k.v,U.s,hseq,bu,aJ,w_ite];refine mC (TrI N J js ns) ⟨[],none,none,rfl,TrS.nil js ns⟩ ?_ (λρ h=>q _ (by rw[Wc]at h;exact h));rintro k d ρ B ⟨hs,x5,x6,rfl,F⟩;rw[List.getElem?_map]at B;cases a0:(bI ns)[k]? with
  |none=>simp[a0]at B
  |some x=>
   obtain rfl:D.str x=d:=by simpa[a0]using B
   have a5:x∈ns:=(fH ns).mem_iff.mp (Wu a0);obtain⟨b0,b1⟩:=F.len;simp[tgN,az,aq,clean,aJ];simp[sIf,eB,e2,au,QG,view,PB,isB,bu,aJ,w_ite,-List.mem_map,-List.mem_flatten,-List.map_flatten];by_cases O:x∈ky hs.flatten
   .have hin':x∈hs.flatten.map (·.1):=O
    simp only[hin',WM,iQ,aJ];exact⟨hs,_,_,rfl,F.skip a0 O⟩
   .have hin':¬x∈hs.flatten.map (·.1):=O
    simp only[hin',XD];obtain⟨_,e,us,rfl,hw,Z⟩:=RV a5 I 1.10;have a9:=hw.len;obtain⟨a4,a2⟩:=F.add hn a0 O hw Z;refine bh (λρ=>ρ=[some N,some J,some (lead ns (adj js js.length)),some (wM .own hs.flatten),some (.lst .own (hs.map (wM .frz))),some (.str x),some (wM .own us)]) (λQ q=>?_) ?_
    .have V:=Cd (us:=us) (m:=.own) (.inl rfl)
     simp[cI,eAp,cD,ao,aH,au,a8,view,fzL,a6,fz,e,Rq,bu,dB,aJ,tgN,clean,V.1,V.2];exact q _ rfl
    rintro _ rfl;refine bh (λρ=>ρ=[some N,some J,some (lead ns (adj js js.length)),some (wM .own (hs.flatten++us)),some (.lst .own (hs.map (wM .frz))),some (.str x),some (wM .frz us)]) (λQ q=>?_) ?_
    .have hup:=RC (vs:=hs.flatten) (us:=us) hw.n a2 1.10
     have V:=Cd (us:=us) (m:=.frz) (.inr rfl);simp[sFz,lU,Vw,jE,nZ,gk,ao,aH,au,JG,upS,fY,fj,aA,aB,V.1,V.2,hup,bu,dB,aJ];exact q _ rfl
    rintro _ rfl;have V:=Cd (us:=us) (m:=.frz) (.inr rfl);have a1:aN (.lst .own (hs.map (wM .frz))) [wM .frz us]=some (.lst .own (hs.map (wM .frz)++[wM .frz us]),.non):=by
     simp only[aN,Wc,show hs.length<1000000 by omega,WM]
    simp[jE,nZ,gk,ao,aH,au,JG,upS,fY,fj,aA,aB,V.1,V.2,a1,bu,dB,aJ];refine⟨hs++[us],some (.str x),some (wM .frz us),?_,a4⟩;simp
 rintro _ ⟨hs,x5,x6,rfl,F⟩;simp[j_,aJ];exact⟨hs,rfl,F⟩
theorem Uu{N J:D}{ns:List Str}{js:List Jt}(U:NS N ns)(hJ:JJ J js)(hn:ns.Nodup)(I:∀j∈js,j.1∈ns/\j.2.1∈ns)(Y:ns.length<=40)(a3:js.length<=1000):Wp (bK [N,J]) (ClK js ns):=by
 obtain⟨_,e,hs,rfl,ht⟩:=M4 U hJ hn I Y a3;obtain⟨h1,h2,Z⟩:=ht.fin hn I;obtain⟨a5,a6⟩:=ht.len;have a4:iU (hs.map (wM .frz))=hs.map (wM .frz):=by
  rw[dU,V9];refine Wz λu _=>?_;simp only[Xr,wM,fzo,dU,V9];congr 1;exact Wz λv _=>(Gs v.2).2.2.2.2
 have q:fB (tpN 0) eTT (eAp cT (ao 1.21 aH)) [none] (hs.map (wM .frz))=some ((hs.map λu=>bI (ky u)).map (fL .own)):=by
  have:∀l:List (List Uw),(∀u∈l,u.length<64)->fB (tpN 0) eTT (eAp cT (ao 1.21 aH)) [none] (l.map (wM .frz))=some ((l.map λu=>bI (ky u)).map (fL .own)):=by
   intro l
   induction l with
   |nil=>intro _;rfl
   |cons u r O=>
    intro h;have hs:=VN (us:=u) (m:=.frz) (h u (by simp)) rfl;rw[V7,fB,O λv hv=>h v (by simp[hv])];have V:=Cd (us:=u) (m:=.frz) (.inr rfl);simp[tpN,eTT,eAp,ao,aH,au,JG,hs,fL,az,aq,bw,aY,clean]
  refine this hs λu F=>?_;obtain⟨⟨⟨y,B⟩,_⟩,_⟩:=ht.t u F;have:=B.len;omega
 have a0:clean (.lst .own (hs.map (wM .frz)))=true:=by simp[clean,az,aq,T3,Sd]
 simp only[bK,fnP,en0,WK,Xe,V7,Xi,XX,WM,bu,Nat.reduceAdd,Nat.reduceSub,W0,List.nil_append];simp[kj,ik,itS,eAp,cD,ao,aH,au,U.k.v,hJ.v,fzL,U.k.f,hJ.f,e,aA,aB,U.k.b,U.k.o,hJ.b,hJ.o,bu,dB,aJ,w_ite,cH,a4,a0,iK,q];have a1:∀rs:List (List Str),aA (rs.map (fL .own))=true:=λrs=>bA λd hd=>by
  obtain⟨z,_,rfl⟩:=V4.mp hd;simp[fL,az,bw]
 have a2:∀rs:List (List Str),aB (rs.map (fL .own))=true:=λrs=>aZ λd hd=>by
  obtain⟨z,_,rfl⟩:=V4.mp hd;simp[fL,aq,aY]
 rw[←V9,Wd 1.10,Wd (by simp only[clean,az,aq,a1,a2];rfl)];refine⟨hs.map ky,?_,h1,h2⟩;rw[oN (eF _) (jR _) Z,V9,V9,V9];rfl
theorem T6{es:List D}:dH [.lst .frz es,.tup [.ty "list",.ty "tuple"]]=some (.bl true)/\dH [.lst .frz es,.ty "list"]=some (.bl true):=⟨rfl,rfl⟩
theorem Ss{x:Str}:dH [.str x,.tup [.ty "list",.ty "tuple"]]=some (.bl false)/\dH [.str x,.ty "str"]=some (.bl true):=⟨rfl,rfl⟩
theorem QB{x:Str}:gIs (.str x) .non=some (.bl false):=rfl
theorem TQ{a b:Bool}:gNe (.bl a) (.bl b)=some (.bl (!(a==b))):=by
 unfold gNe;rw[Wd ⟨rfl,rfl,by simp[dt,dp],by simp[dt,dp]⟩];simp[dt,eqD]
theorem Rr{Fr:List D->Option D}{x:Str}:aR Fr [.str x,.str x]=some (.bl true):=by
 apply Wp.eq;simp_arith[aR,bT,Ss.1,Ss.2,eq_str,Pq,QB]
theorem wu:∀es:List D,nP es es=es.map λe=>.tup [e,e]
 |[]=>rfl
 |e::r=>by have:=wu r;unfold nP at this⊢;simp[this]
theorem Hx{Fr:List D->Option D}:∀{es:List D},(∀e∈es,Tyd e/\Fr [e,e]=some (.bl true))->fB (tpT 2 (aU (tpN 0) (aU (tpN 1) dq))) eTT (eAp (cD Fr) (ao 1.21 (ao (au false 1) aH))) [none,none] (es.map λe=>.tup [e,e])=some (es.map λ_=>.bl true)
 |[],_=>rfl
 |e::r,h=>by
  obtain⟨h1,h2⟩:=h e (by simp);obtain⟨V,I,N,q,B,F⟩:=h1.all;rw[V7,fB,Hx λx J=>h x (by simp[J])];simp[tpT,aU,tpN,dq,eTT,eAp,cD,ao,aH,au,N,fzL,V,h2,aA,aB,q,B,clean,az,aq]
theorem JK{Fr:List D->Option D}{es:List D}(h:∀e∈es,Tyd e/\Fr [e,e]=some (.bl true))(Y:es.length<=1000):aR Fr [.lst .frz es,.lst .frz es]=some (.bl true):=by
 obtain⟨Z,q,B,I,F⟩:=Tyd.ofL λe V=>(h e V).1;have O:=Hx h;apply Wp.eq;simp_arith[aR,bT,dh,T6.1,T6.2,eq_int,Pq,TQ,itZ,Dw,q,B,I,F,wu,O];refine⟨by omega,?_⟩;rw[all_map (λ_=>true) es,aJ];simp[az,aq]
theorem PX{z:Str}{n:Nat}{i:Int}(hn:z.cps.toList.length=n)(O:z.length<=V6)(N:0<=i)(h1:i<n):gIx (.str z) (.int i)=some (.str (one ((z.cps.toList[i.toNat]?).getD 0))):=by
 obtain⟨x,q,B⟩:=pQ (l:=z.cps.toList) (i:=i) N (by rw[hn];exact h1);simp only[gIx];rw[Wd O,q,B];rfl
def nmG(k:Int):Str:=one ((("abcdefgh":Str).cps.toList[(k % 8).toNat]?).getD 0)++one ((("klmno":Str).cps.toList[(k / 8).toNat]?).getD 0)
def eO:List Str:=(WD 40).map λ(k:Nat)=>nmG k
theorem N_:eO.Nodup:=by decide +kernel
theorem jF:eO.length=40:=by simp[eO]
theorem KY:("abcdefgh":Str).cps.toList.length=8/\("abcdefgh":Str).length<=V6:=by decide +kernel
theorem HW:("klmno":Str).cps.toList.length=5/\("klmno":Str).length<=V6:=by decide +kernel
theorem g_c:fB (tpN 0) eTT (e2 cF (e2 gIx (eC (.str "abcdefgh")) (e2 gY 1.21 (eC (.int 8)))) (e2 gIx (eC (.str "klmno")) (e2 g_ 1.21 (eC (.int 8))))) [none] (iu 0 40)=some (eO.map D.str):=by
 rw[jz (p:=λ_=>true) (f:=λd=>match d with|.int k=>.str (nmG k)|_=>.non)]
 .rw[filter_tt,Ei,eO,V9]
  rfl
 .intro d hd
  obtain⟨k,B,rfl⟩:=Dv hd;have hs:(2:Nat)<=V6:=by decide
  have l1:∀c J,(one c).length+(one J).length<=V6:=λc J=>by rw[Fe,Fe];omega
  simp[tpN,aJ,eTT,e2,eC,au,view,gY,g_,PX KY.1 KY.2 (i:=(k:Int) % 8) 1.10 1.10,PX HW.1 HW.2 (i:=(k:Int) / 8) 1.10 1.10,cF,l1,nmG]
abbrev Qt:=Str×Str
def qD(q:Qt):D:=.tup [.str q.1,.str q.2]
theorem Fp(l:List Qt):aA (l.map qD)=true:=bA λd hd=>by obtain⟨x,_,rfl⟩:=V4.mp hd;rfl
theorem Ff(l:List Qt):aB (l.map qD)=true:=aZ λd hd=>by obtain⟨x,_,rfl⟩:=V4.mp hd;rfl
theorem Pk(b:Bool)(l:List Qt):eZ b (l.map qD)=l.map qD:=by rw[bR,V9];rfl
theorem U3(l:List Qt):fzL (l.map qD)=l.map qD:=by rw[dZ,V9];rfl
theorem Tv(l:List Qt):iU (l.map qD)=l.map qD:=by rw[dU,V9];rfl
def Gt(q:D×List D):Prop:=∃(js:List Jt)(N U:Int),q=(.tup [.lst .frz (eO.map D.str),.lst .own (js.map jD)],[tp N U,.int 0])/\(∀j∈js,j.1∈eO/\j.2.1∈eO)/\js.length<=119/\0<=N/\∀j∈js,j.2.2.natAbs<=1000000000000
def GtI(k:Nat)(acc:List D)(ρ:En):Prop:=∃(ps:List (Str×Int))(N U:Int),acc=ps.map pD/\ps.map (·.1)=eO.take k/\(∀p∈ps,p.2.natAbs<=400000000000)/\0<=N/\ρ=[some (tp N U),some (.int 0),some (.lst .frz (eO.map D.str)),none,none,none,none,none,none,none]
def GtO(ks:List Key)(ds:List D)(k:Nat)(ρ:En):Prop:=∃(os:List Str)(N U:Int)(O:Option D),ρ=[some (tp N U),some (.int 0),some (.lst .frz (eO.map D.str)),some (.dct .own ks ds),some (.lst .own (os.map D.str)),O,none,none,none,none]/\os.length=k/\(∀x∈os,x∈eO)/\0<=N
def GtP(ks:List Key)(ds:List D)(os:List Str)(O:Option D)(V:List Qt)(k:Nat)(acc:List D)(ρ:En):Prop:=∃(B:List Qt)(N U:Int),acc=B.map qD/\B.length=k/\(∀q∈B,q.1∈eO/\q.2∈eO)/\0<=N/\ρ=[some (tp N U),some (.int 0),some (.lst .frz (eO.map D.str)),some (.dct .own ks ds),some (.lst .own (os.map D.str)),O,some (.lst .own (V.map qD)),none,none,none]
def GtF(ks:List Key)(ds:List D)(os:List Str)(O:Option D)(B:List Qt)(k:Nat)(ρ:En):Prop:=∃(js:List Jt)(N U:Int)(Y J:Option D),ρ=[some (tp N U),some (.int 0),some (.lst .frz (eO.map D.str)),some (.dct .own ks ds),some (.lst .own (os.map D.str)),O,some (.lst .frz (B.map qD)),some (.lst .own (js.map jD)),Y,J]/\(∀j∈js,j.1∈eO/\j.2.1∈eO)/\js.length<=k/\0<=N/\∀j∈js,j.2.2.natAbs<=1000000000000
theorem JV{os:List Str}{i:Int}{x:Str}(N:0<=i)(h1:i<1000)(Y:os.length<1000):∃B:List Str,jG (.lst .own (os.map D.str)) [.int i,.str x]=some (.lst .own (B.map D.str),.non)/\B.length=os.length+1/\∀y∈B,y∈os∨y=x:=by
 refine⟨os.take (ud os.length i)++x::os.drop (ud os.length i),?_,?_,λy V=>?_⟩
 .simp only[jG,Wc]
  rw[Wd ⟨by omega,by omega,by omega⟩,Ww,V7,List.map_take,List.map_drop]
 .simp only[Xn,WK,YJ,Ys];omega
 .rcases qb.mp V with z|z
  .exact .inl (aa3 z)
  .rcases V5.mp z with z|z
   .exact .inr z
   .exact .inl (Z1 z)
theorem sl1{m:Mk}{os:List Str}(Y:os.length<=1000)(N:0<os.length):gSl (.lst m (os.map D.str)) (some 1) none=some (.lst .own ((os.drop 1).map D.str)):=by
 have h1:HT.sIx os.length 0 (some 1)=1:=by
  have:=HT.sIx_nat os.length 0 1;rw[show((1:Nat):Int)=1 from rfl]at this;rw[this];omega
 simp only[gSl,cutD,Wc,h1,HT.sIx_none];rw[List.map_drop,YM (by simp)]
theorem Ab:∀(a b:List Str),nP (a.map D.str) (b.map D.str)=(a.zip b).map qD
 |[],b=>by simp[nP]
 |x::r,[]=>by simp[nP]
 |x::r,y::q=>by have:=Ab r q;unfold nP at this⊢;simp[this,qD]
theorem qi:∀l:List Str,dJ (l.map D.str)=true
 |[]=>rfl
 |x::r=>by rw[V7,dJ,qi r];rfl
theorem O3{a b:Int}(Y:0<=a):Wp (dO [tp a b,.int 0]) Gt:=by
 simp only[dO,fnI,en0,WK,Xe,V7,Xi,XX,WM,bu,Nat.reduceAdd,Nat.reduceSub,W0,List.nil_append];refine bh (λρ=>ρ=[some (tp a b),some (.int 0),some (.lst .own (eO.map D.str)),none,none,none,none,none,none,none]) (λQ hQ=>?_) ?_
 .have hr:o8 (ao (eC (.int 40)) aH) [some (tp a b),some (.int 0),none,none,none,none,none,none,none,none]=some (true,iu 0 40):=CV (n:=40) rfl 1.10
  simp only[cI,ik,hr,bu,dB,aJ,w_ite,mV,iK,V7,Xi,g_c,tgN,clean,az,aq,bw,aY];simp;refine pB g_c ?_;simp[bw,aY,aJ];exact hQ _ rfl
 rintro _ rfl;refine bh (λρ=>∃(ks:List Key)(ds:List D)(a' b':Int),ρ=[some (tp a' b'),some (.int 0),some (.lst .frz (eO.map D.str)),some (.dct .own ks ds),none,none,none,none,none,none]/\0<=a'/\(∀e∈ds,∃i:Int,e= .int i/\i.natAbs<=400000000000)/\∀x∈eO,∃(j:Nat)(i:Int),fU ks (.inr x)=some j/\ds[j]? =some (.int i)) (λQ hQ=>?_) ?_
 .simp_arith[bf,cC,bw,aY,bH,jF]
  refine uL GtI ⟨[],a,b,rfl,rfl,by simp,Y,rfl⟩ ?_ ?_
  .rintro i d acc ρ hi ⟨ps,a2,b2,rfl,hps,hpb,s2,rfl⟩
   rw[List.getElem?_map]at hi;cases J:eO[i]? with
   |none=>simp[J]at hi
   |some x=>
    obtain rfl:D.str x=d:=by simpa[J]using hi
    simp_arith[fu,bT];refine dY s2 1.10 1.10 λr3 a3 b3 p3 q3 s3=>?_;simp_arith[g8];exact⟨ps++[(x,r3-12)],_,_,by simp[pD],by rw[Ww,hps,Y7,J];rfl,λp F=>(qb.mp F).elim (hpb p) λz=>by rw[Wl.mp z];show(r3-12).natAbs<=_;omega,s3,rfl⟩
  .rintro ys ρ ⟨ps,a2,b2,rfl,hps,hpb,s2,rfl⟩
   rw[Wc,Z3]at hps;have d6:aB (ps.map pD)=true:=aZ λd hd=>by obtain⟨x,_,rfl⟩:=V4.mp hd;rfl
   have d9:ps.length=40:=by rw[←jF,←hps];simp
   refine⟨d6,Wp.mono (zY 1.10 hpb) ?_⟩;rintro _ ⟨⟨ks,ds,rfl,b0,a9⟩,c8⟩;rw[hps]at a9;have c3:(az (D.dct .own ks ds)=true/\aq (D.dct .own ks ds)=true):=by simpa[clean]using c8
   exact⟨c3,hQ _ ⟨ks,ds,_,_,rfl,s2,b0,a9⟩⟩
 rintro _ ⟨ks,ds,a1,b1,rfl,O,b0,a9⟩;refine bh (λρ=>ρ=[some (tp a1 b1),some (.int 0),some (.lst .frz (eO.map D.str)),some (.dct .own ks ds),some (.lst .own []),none,none,none,none,none]) (λQ hQ=>?_) ?_
 .simp_arith[cF,g8,fu,g_,gY,j4,jb,gLt,gLe,gGt,gGe,gIx,bB,bT,dh,lL,nF,ie,mR,gIs,ju,jU,atI,ixN,aN,gH,gSl,gw,d_,mj]
  exact hQ _ rfl
 rintro _ rfl;refine bh (GtO ks ds 40) (λQ hQ=>?_) ?_
 .simp[sFz,lU,lM,itS,au,fz,bH,mkF,view,mkV,cH,clean,az,aq,bw,aY,bf,cC,bu,aJ,w_ite]
  refine mC (GtO ks ds) ⟨[],a1,b1,none,rfl,rfl,by simp,O⟩ ?_ (λρ h=>hQ _ (by rw[Wc,jF]at h;exact h));rintro k d ρ B ⟨os,a2,b2,x5,rfl,d5,b6,s2⟩;rw[List.getElem?_map]at B;cases J:eO[k]? with
  |none=>simp[J]at B
  |some x=>
   obtain rfl:D.str x=d:=by simpa[J]using B
   have d3:k<40:=by rw[←jF];exact(Hq.mp J).1
   simp_arith[dh,bf,cF];refine dY s2 1.10 1.10 λr3 a3 b3 p3 q3 s3=>?_;obtain⟨c6,h1,h2,Z⟩:=JV (os:=os) (i:=r3) (x:=x) p3 1.10 1.10;simp_arith[h1];exact⟨c6,a3,b3,_,rfl,by omega,λy V=>(Z y V).elim (b6 y) λz=>z▸Wu J,s3⟩
 rintro _ ⟨os,a2,b2,x5,rfl,d5,b6,s2⟩;refine bh (λρ=>∃q0:List Qt,ρ=[some (tp a2 b2),some (.int 0),some (.lst .frz (eO.map D.str)),some (.dct .own ks ds),some (.lst .own (os.map D.str)),x5,some (.lst .own (q0.map qD)),none,none,none]/\q0.length=39/\∀q∈q0,q.1∈eO/\q.2∈eO) (λQ hQ=>?_) ?_
 .have hz:jo [.lst .brw (os.map D.str),.lst .own ((os.drop 1).map D.str)]=some (.lst .own ((os.zip (os.drop 1)).map qD)):=by
   simp only[jo,qi,Wc,Ys,true_and];rw[Wd 1.10,Ab]
  have d4:eAp jo (ao (au false 4) (ao (eSl (au false 4) (oX (eC (.int 1))) rY) aH)) [some (tp a2 b2),some (.int 0),some (.lst .frz (eO.map D.str)),some (.dct .own ks ds),some (.lst .own (os.map D.str)),x5,none,none,none,none]=some (.lst .own ((os.zip (os.drop 1)).map qD)):=by
   have h1:=sl1 (m:=.brw) (os:=os) 1.10 1.10;simp only[eAp,ao,aH,au,eSl,JZ,oX,rY,eC,W3,Xa,W2,V1,view,mkV,bf,h1,hz];simp[view,mkV,bf,h1,hz,-List.map_drop,-List.drop_one]
  simp only[cI,d4,bu,aJ,dB,tgN,clean,az,aq,Fp,Ff];simp[aJ,-List.drop_one];refine hQ _ ⟨os.zip (os.drop 1),rfl,by simp;omega,λq N=>?_⟩;obtain⟨z1,z2⟩:=aae N;exact⟨b6 _ z1,b6 _ (Z1 z2)⟩
 rintro _ ⟨q0,rfl,b9,d1⟩;refine bh (λρ=>∃(qs:List Qt)(a' b':Int),ρ=[some (tp a' b'),some (.int 0),some (.lst .frz (eO.map D.str)),some (.dct .own ks ds),some (.lst .own (os.map D.str)),x5,some (.lst .own (qs.map qD)),none,none,none]/\qs.length=119/\(∀q∈qs,q.1∈eO/\q.2∈eO)/\0<=a') (λQ hQ=>?_) ?_
 .have hr:o8 (ao (eC (.int 80)) aH) [some (tp a2 b2),some (.int 0),some (.lst .frz (eO.map D.str)),some (.dct .own ks ds),some (.lst .own (os.map D.str)),x5,some (.lst .own (q0.map qD)),none,none,none]=some (true,iu 0 80):=CV (n:=80) rfl 1.10
  simp[dR,ee2,eUp,au,view,mkV,Pk,lY,hr,mV,bu,dB,aJ,w_ite];refine uL (GtP ks ds os x5 q0) ⟨[],a2,b2,rfl,rfl,by simp,s2,rfl⟩ ?_ ?_
  .rintro i d acc ρ hi ⟨qs,a3,b3,rfl,a0,a6,s3,rfl⟩
   obtain⟨d8,rfl⟩:=xM hi;simp_arith[bw,aY,bf,bH,cC,eX,e_,fZ,fX,gQ,oV,pH,oU,o4,pI,jP,gW,len_strs,eY,cN,nW,pG,eq_int,gO,bT];refine dY s3 1.10 1.10 λr7 a7 b7 p7 q7 s7=>?_;obtain⟨x,J,_,d0⟩:=jh (f:=D.str) (l:=eO) p7 (by rw[jF];exact q7);simp_arith[bw,aY,bf,bH,cC,eX,e_,fZ,fX,gQ,oV,pH,oU,o4,pI,jP,gW,len_strs,eY,cN,nW,pG,eq_int,gO,d0];refine dY s7 1.10 1.10 λr8 a8 b8 p8 q8 s8=>?_;obtain⟨y,V,_,d7⟩:=jh (f:=D.str) (l:=eO) p8 (by rw[jF];exact q8);simp_arith[bw,aY,bf,bH,cC,eX,e_,fZ,fX,gQ,oV,pH,oU,o4,pI,jP,gW,len_strs,eY,cN,nW,pG,eq_int,gO,d7];exact⟨qs++[(x,y)],a8,b8,by simp[qD],by simp[a0],λq N=>(qb.mp N).elim (a6 q) λz=>by rw[Wl.mp z];exact⟨J,V⟩,s8,rfl⟩
  .rintro ys ρ ⟨qs,a3,b3,rfl,a0,a6,s3,rfl⟩
   rw[mV]at a0;simp[cF,Fp,Ff,tgN,clean,az,aq,aJ,dB,bu,w_ite,b9,a0];rw[←Ww,Wd ⟨Fp _,Ff _⟩];exact hQ _ ⟨q0++qs,a3,b3,rfl,by simp[b9,a0],λq N=>(qb.mp N).elim (d1 q) (a6 q),s3⟩
 rintro _ ⟨qs,a3,b3,rfl,a0,a6,s3⟩;refine bh (λρ=>ρ=[some (tp a3 b3),some (.int 0),some (.lst .frz (eO.map D.str)),some (.dct .own ks ds),some (.lst .own (os.map D.str)),x5,some (.lst .own (qs.map qD)),some (.lst .own []),none,none]) (λQ hQ=>?_) ?_
 .simp_arith[cF,g8,fu,g_,gY,j4,jb,gLt,gLe,gGt,gGe,gIx,bB,bT,dh,lL,nF,ie,mR,gIs,ju,jU,atI,ixN,aN,gH,gSl,gw,d_,mj]
  exact hQ _ rfl
 rintro _ rfl;refine bh (GtF ks ds os x5 qs 119) (λQ hQ=>?_) ?_
 .simp[sFz,lU,lM,itS,au,fz,U3,mkF,view,mkV,cH,clean,az,aq,Fp,Ff,Pk,Tv,bu,aJ,w_ite]
  refine mC (GtF ks ds os x5 qs) ⟨[],a3,b3,none,none,rfl,by simp,by simp,s3,by simp⟩ ?_ (λρ h=>hQ _ (by rw[Wc,a0]at h;exact h));rintro k d ρ B ⟨js,a4,b4,x8,x9,rfl,h1,h2,s4,Z⟩;rw[List.getElem?_map]at B;cases N:qs[k]? with
  |none=>simp[N]at B
  |some q=>
   obtain rfl:qD q=d:=by simpa[N]using B
   have d3:k<119:=by rw[←a0];exact(Hq.mp N).1
   obtain⟨m1,m2⟩:=a6 q (Wu N);obtain⟨j1,i1,e1,c2⟩:=a9 q.1 m1;obtain⟨j2,i2,e3,e4⟩:=a9 q.2 m2;have b1:i1.natAbs<=400000000000:=by obtain⟨i,hi,U⟩:=b0 _ (Wu c2);cases hi;exact U
   have b2:i2.natAbs<=400000000000:=by obtain⟨i,hi,U⟩:=b0 _ (Wu e4);cases hi;exact U
   have d2:view false (.dct .own ks ds)= .dct .brw ks ds:=by
    have:eZ false ds=ds:=by rw[bR];exact(Wz λd hd=>by obtain⟨i,rfl,_⟩:=b0 d hd;rfl).trans (YQ _)
    rw[view,this];rfl
   have g1:gIx (.dct .brw ks ds) (.str q.1)=some (.int i1):=by simp[gIx,fG,e1,c2]
   have g2:gIx (.dct .brw ks ds) (.str q.2)=some (.int i2):=by simp[gIx,fG,e3,e4]
   simp[qD,tgT,aU,dq,tgN,aA,aB,clean,az,aq,aJ];have c7:∀x:Str,view false (.str x)= .str x:=λ_=>rfl;have c9:∀x:Int,view false (.int x)= .int x:=λ_=>rfl;simp_arith[-view,d2,c7,c9,g1,g2,g8];refine dY s4 1.10 1.10 λr5 a5 b5 p5 q5 s5=>?_;have c1:fu (.int 0) (.int (r5-1))=some (.int 0):=by
    simp only[fu];rw[Wd 1.10,Int.zero_mul]
   have c4:cF (.int (i2-i1)) (.int 0)=some (.int (i2-i1)):=by simp[cF]
   have c5:aN (.lst .own (js.map jD)) [jD (q.1,q.2,i2-i1)]=some (.lst .own ((js++[(q.1,q.2,i2-i1)]).map jD),.non):=by
    simp only[aN,Wc,show js.length<1000000 by omega,WM,Ww,V7,Xi]
   have c0:aN (.lst .own (js.map jD)) [.tup [.str q.1,.str q.2,.int (i2-i1)]]=_:=c5;simp_arith[-view,g8,c1,c4,bT,c0];exact⟨js++[(q.1,q.2,i2-i1)],a5,b5,some (.str q.1),some (.str q.2),by simp,λj I=>(qb.mp I).elim (h1 j) λz=>by rw[Wl.mp z];exact⟨m1,m2⟩,by simp;omega,s5,λj I=>(qb.mp I).elim (Z j) λz=>by rw[Wl.mp z];show(i2-i1).natAbs<=_;omega⟩
 rintro _ ⟨js,a4,b4,x8,x9,rfl,h1,h2,s4,Z⟩;simp[vC,aJ,outs,dB];exact⟨js,a4,b4,rfl,h1,h2,s4,Z⟩
theorem H_:∀l:List Jt,aW (l.map jD)=true
 |[]=>rfl
 |j::r=>by simp[aW,jD,bJ,H_ r]
theorem Te:(""::pN:List Str).all (λx=>decide (tz (.str x)<=40))=true:=by decide +kernel
theorem Vn{x:Str}(h:x∈pN∨x=""):tz (.str x)<=40:=by
 have:=Zn.mp Te x (h.elim (λz=>Ws _ z) λz=>by rw[z];exact WR);simpa using this
def rD(F:List (List Str)):D:=.lst .own (F.map (fL .own))
def rF(F:List (List Str)):D:=.lst .frz (F.map fr)
def Can(js:List Jt)(ns:List Str)(F:List (List Str)):Prop:=∃gs,F=nA (gs.map bI)/\Prt js ns gs/\kE js gs
theorem Can.uniq{js:List Jt}{ns:List Str}{F B:List (List Str)}(hn:ns.Nodup)(a:Can js ns F)(b:Can js ns B):F=B:=by
 obtain⟨gs,rfl,V,q⟩:=a;obtain⟨hs,rfl,I,J⟩:=b;exact V.canon q I J hn
def trn(j:Jt):Jt:=(j.2.1,j.1,-j.2.2)
theorem Can.turn{js:List Jt}{ns:List Str}{F:List (List Str)}(a:Can (js.reverse.map trn) ns.reverse F):Can js ns F:=by
 obtain⟨gs,rfl,V,N⟩:=a;refine⟨gs,rfl,⟨V.p.trans (adF ns),V.e,λg q P h1 h2=>?_⟩,λj I=>?_⟩
 .obtain⟨i,hi,i1,i2,i3⟩:=V.c g q P h1 h2
  obtain⟨j,I,rfl⟩:=V4.mp hi;refine⟨j,Z5.mp I,i2,i1,?_⟩;rcases i3 with⟨B,J⟩|⟨B,J⟩
  .exact .inr ⟨J,B⟩
  .exact .inl ⟨J,B⟩
 .obtain⟨g,q,g1,g2⟩:=N (trn j) (V4.mpr ⟨j,Z5.mpr I,rfl⟩)
  exact⟨g,q,g2,g1⟩
theorem Can.len{js:List Jt}{ns:List Str}{B:List (List Str)}(a:Can js ns B):B.length<=ns.length/\∀r∈B,r.length<=ns.length:=by
 obtain⟨gs,rfl,V,I⟩:=a;have F:=eF (gs.map bI);refine⟨by rw[F.length_eq,Wc];exact V.len,λr O=>?_⟩;obtain⟨g,q,rfl⟩:=V4.mp (F.mem_iff.mp O);rw[(fH g).length_eq];exact V.len1 q
theorem uc:∀l:List Str,aW (l.map D.str)=true
 |[]=>rfl
 |x::r=>by rw[V7,aW,uc r];rfl
theorem Bs(F:List (List Str)):bJ (rD F)=true:=by
 have:∀F:List (List Str),aW (F.map (fL .own))=true:=by
  intro F
  induction F with
  |nil=>rfl
  |cons r q O=>rw[V7,aW,O,fL,bJ,uc];rfl
 rw[rD,bJ,this];rfl
theorem PL(F:List (List Str)):fz (rD F)=rF F:=by
 simp only[rD,rF,fz,dZ,V9];congr 1;refine Wz λr _=>?_;simp only[Xr,fL,fr,fz,bH];rfl
theorem yP(b:Bool)(F:List (List Str)):fz (view b (rD F))=rF F:=by
 simp only[rD,rF,view,fz,bR,dZ,V9];cases b <;>
 .congr 1
  refine Wz λr _=>?_;simp only[Xr,fL,fr,view,fz,bf,bH];rfl
theorem rE(F:List (List Str)):az (rD F)=true/\aq (rD F)=true:=by
 constructor
 .simp only[rD,az];rw[bA λd hd=>by obtain⟨z,_,rfl⟩:=V4.mp hd;simp[fL,az,bw]];rfl
 .simp only[rD,aq];rw[aZ λd hd=>by obtain⟨z,_,rfl⟩:=V4.mp hd;simp[fL,aq,aY]];rfl
theorem call_of{F:List D->Option D}{ds:List D}{d:D}(h:F (fzL ds)=some d)(N:bJ d=true):cD F ds=some d:=by
 unfold cD;rw[h,V1,N,Bool.or_true,Wd rfl]
theorem tG{F:List (List Str)}{a b:D}(Y:fz a=rF F)(U:fz b=rF F)(h1:F.length<=1000)(h2:∀r∈F,r.length<=1000):cD bz [a,b]=some (.bl true):=by
 refine call_of ?_ rfl;simp only[fzL,Y,U,rF,bz];have q:∀x:Str,Tyd (.str x):=λx=>.str x;refine JK (λe V=>?_) (by simpa using h1);obtain⟨r,O,rfl⟩:=V4.mp V;have hs:∀e∈r.map D.str,Tyd e:=λe V=>by obtain⟨x,_,rfl⟩:=V4.mp V;exact q x
 refine⟨.lst hs,JK (λe V=>?_) (by simpa using h2 r O)⟩;obtain⟨x,_,rfl⟩:=V4.mp V;exact⟨q x,Rr⟩
theorem yD{js:List Jt}{ns:List Str}(hn:ns.Nodup)(I:∀j∈js,j.1∈ns/\j.2.1∈ns)(Y:ns.length<=40)(O:js.length<=1000):∃rs,Can js ns rs/\∀N J,NS (fz N) ns->JJ (fz J) js->cD b_ [N,J]=some (rD rs)/\cD bK [N,J]=some (rD rs):=by
 obtain⟨_,_,gs,rfl,Z,q⟩:=vX (NK.lst ns) (JJ.lst js) hn I Y;refine⟨_,⟨gs,rfl,Z,q⟩,λN J U V=>?_⟩;have B:∀{F:List D->Option D},Wp (F [fz N,fz J]) (ClK js ns)->cD F [N,J]=some (rD (nA (gs.map bI))):=λ{F}⟨_,e,hs,e2,h1,h2⟩=>by
  subst e2;rw[Z.canon q h1 h2 hn];exact call_of e (Bs _)
 exact⟨B (vX U.k V hn I Y),B (Uu U V hn I Y O)⟩
theorem R4:eO.all (λx=>decide (tz (.str x)<=40))=true:=by decide +kernel
theorem Ez(ns:List Str):∀e∈ns.map D.str,Tyd e:=λe V=>by obtain⟨x,_,rfl⟩:=V4.mp V;exact .str x
theorem Qi(js:List Jt):∀e∈js.map jD,Tyd e:=λe V=>by
 obtain⟨j,_,rfl⟩:=V4.mp V;refine .tup λe V=>?_;simp only[V5,YL,or_false]at V;rcases V with rfl|rfl|rfl
 .exact .str _
 .exact .str _
 .exact .int _
theorem QK{ns:List Str}{js:List Jt}(hs:∀x∈ns,tz (.str x)<=40)(Y:ns.length<=40)(I:∀j∈js,j.1∈ns/\j.2.1∈ns)(O:js.length<=119)(U:∀j∈js,j.2.2.natAbs<=1000000000000){N J:D}(hN:N= .lst .frz (ns.map D.str)∨N= .tup (ns.map D.str))(hJ:J= .lst .frz (js.map jD)∨J= .tup (js.map jD)):Tyd (.tup [N,J])/\∃x,xN [.tup [N,J]]=some (.str x):=by
 have tN:Tyd N:=by
  rcases hN with rfl|rfl
  .exact .lst (Ez ns)
  .exact .tup (Ez ns)
 have tJ:Tyd J:=by
  rcases hJ with rfl|rfl
  .exact .lst (Qi js)
  .exact .tup (Qi js)
 have h1:=Cz (ds:=ns.map D.str) (m:=40) λe V=>by obtain⟨x,hx,rfl⟩:=V4.mp V;exact hs x hx
 have h2:=Cz (ds:=js.map jD) (m:=120) λe V=>by
  obtain⟨j,q,rfl⟩:=V4.mp V;have B:=hs _ (I j q).1;have z2:=hs _ (I j q).2;have z3:=U j q;have z4:tz (.int j.2.2)=20:=by rw[tz,Wd 1.10]
  simp only[jD,tz,tzL]at B z2⊢;rw[tz]at z4;omega
 have Z:=CQ (ds:=ns.map D.str) (m:=0) λe V=>by obtain⟨x,hx,rfl⟩:=V4.mp V;simp[dz]
 have h4:=CQ (ds:=js.map jD) (m:=1) λe V=>by obtain⟨x,hx,rfl⟩:=V4.mp V;simp[jD,dz,dzL]
 have B:tz N<=2000:=by
  have:(ns.map D.str).length*(40+2)<=40*42:=acQ _ (by simpa using Y);rcases hN with rfl|rfl<;>simp only[tz]<;>omega
 have z2:tz J<=20000:=by
  have:(js.map jD).length*(120+2)<=119*122:=acQ _ (by simpa using O);rcases hJ with rfl|rfl<;>simp only[tz]<;>omega
 have z3:dz N<=3:=by rcases hN with rfl|rfl<;>simp only[dz]<;>omega
 have z4:dz J<=3:=by rcases hJ with rfl|rfl<;>simp only[dz]<;>omega
 have F:Tyd (.tup [N,J]):=.tup λe V=>by
  simp only[V5,YL,or_false]at V;rcases V with rfl|rfl
  .exact tN
  .exact tJ
 obtain⟨_,_,_,_,_,h6⟩:=F.all;exact⟨F,RJ h6 (by simp only[tz,tzL];omega) (by simp only[dz,dzL];omega)⟩
theorem Q8{i:Nat}{ks:List Nat}{f:En->Option Fl}{ρ:En}{es:List D}{Q:Fl->Prop}(h1:ρ[i]? =some (some (.lst .own es)))(h2:dJ es=true)(Z:ks.all (yL ρ)=true)(U:ks.contains i=false)(h:Wp (f (ρ.set i (some (.lst .frz es)))) λr=>match r with
  |.nx B=>B.length=ρ.length/\Q (.nx (lO i es ks ρ B))
  |r=>Q r):Wp (v8 i ks f ρ) Q:=by
 unfold v8;rw[h1];simp only[h2,Z,U,and_self,WM];obtain⟨r,e,h⟩:=h;rw[e,V1];cases r with
 |nx B=>
  simp only at h⊢;rw[Wd h.1];exact aJ.mpr h.2
 |ret d B=>exact aJ.mpr h
 |brk B=>exact aJ.mpr h
 |cnt B=>exact aJ.mpr h
theorem Sh{ρ:En}{r:List Str}(h:9<ρ.length)(O:r.length<1000000):jE aN 9 (gk 9) (ao (eC (.str "z")) aH) (ρ.set 9 (some (fL .own r)))=some (.nx (ρ.set 9 (some (fL .own (r++[("z":Str)]))))):=by
 have q:(ρ.set 9 (some (fL .own r)))[9]? =some (some (fL .own r)):=by rw[List.getElem?_set];simp[h]
 have Y:aN (fL .own r) [.str "z"]=some (fL .own (r++[("z":Str)]),.non):=by
  simp only[fL,aN,Wc,O,WM,Ww,V7,Xi]
 unfold jE nZ gk;rw[q];simp only[V1,ao,eC,aH,W2];unfold upS;rw[q];simp only[fY,V1,aA,aB,az,aq,Z8,and_self,WM,Y,W2,fj,List.set_set]
theorem HQ:∀{F:List (List Str)}{done:List D}{ρ:En},9<ρ.length->ρ[9]? =some none->(∀r∈F,r.length<1000000)->forM 9 (jE aN 9 (gk 9) (ao (eC (.str "z")) aH)) done (F.map (fL .own)) ρ=some (done++(F.map (·++[("z":Str)])).map (fL .own),ρ)
 |[],done,ρ,_,_,_=>by simp[forM]
 |r::q,done,ρ,h1,h2,h3=>by
  rw[V7,forM,Sh h1 (h3 r (by simp))];have B:(ρ.set 9 (some (fL .own (r++[("z":Str)]))))[9]? =some (some (fL .own (r++[("z":Str)]))):=by rw[List.getElem?_set];simp[h1]
  have N:bJ (fL .own (r++[("z":Str)]))=true:=by rw[fL,bJ,uc];rfl
  have hs:(ρ.set 9 (some (fL .own (r++[("z":Str)])))).set 9 none=ρ:=by
   rw[List.set_set];apply Y6;intro i;rw[List.getElem?_set];by_cases e:9=i
   .subst e;rw[Wd rfl,Wd h1,h2]
   .rw[Wo e]
  simp only[V1,B,N,WM,hs];rw[HQ h1 h2 λr O=>h3 r (by simp[O])];simp
theorem Q_{ρ:En}{F:List (List Str)}{Q:Fl->Prop}(q:ρ[8]? =some (some (rD F)))(Y:9<ρ.length)(O:∀r∈F,r.length<1000000)(h:Q (.nx (((ρ.set 8 none).set 9 none).set 8 (some (rD (F.map (·++[("z":Str)]))))))):Wp (v5 8 9 (jE aN 9 (gk 9) (ao (eC (.str "z")) aH)) ρ) Q:=by
 have N:aW (F.map (fL .own))=true:=by have:=Bs F;rw[rD,bJ,Wr]at this;exact this.2
 unfold v5;rw[q];simp only[rD];rw[Wd ⟨by decide,N,Y⟩,HQ (by simpa using Y) (by rw[List.getElem?_set];simp[Y]) O];exact aJ.mpr h
theorem Pn:∀l:List Jt,fB (tpT 3 (aU (tpN 0) (aU (tpN 1) (aU (tpN 2) dq)))) eTT (eAp bT (ao (au false 1) (ao 1.21 (ao (e1 jb (au false 2)) aH)))) [none,none,none] (l.map jD)=some ((l.map trn).map jD)
 |[]=>rfl
 |j::r=>by
  rw[V7,fB,Pn r];simp[jD,trn,tpT,aU,tpN,dq,eTT,eAp,bT,ao,aH,au,e1,jb,view,aA,aB,az,aq,clean]
theorem Fo:∀l:List Jt,dJ (l.map jD)=true
 |[]=>rfl
 |x::r=>by rw[V7,dJ,Fo r];rfl
theorem wV:∀l:List Int,dJ (l.map D.int)=true
 |[]=>rfl
 |x::r=>by rw[V7,dJ,wV r];rfl
def LwI(F:List Int)(k:Nat)(ρ:En):Prop:=∃(x1 N U x4 O Z V Y J B q I:Option D),ρ=[some (.lst .scr (F.map D.int)),x1,N,U,x4,O,Z,V,Y,J,B,q,I]
abbrev scD(F:List Int):D:=.lst .scr (F.map D.int)
theorem Hu(sc:List Int)(hl:sc.length<=63):kW [.lst .scr (sc.map D.int)]=some (.bl true):=by
 apply Wp.eq;have U:dh [.lst .scr (sc.map D.int)]=some (.int sc.length):=by simp[dh]
 have j3:aA (sc.map D.int)=true:=bA λd hd=>by obtain⟨x,_,rfl⟩:=V4.mp hd;rfl
 have j5:aB (sc.map D.int)=true:=aZ λd hd=>by obtain⟨x,_,rfl⟩:=V4.mp hd;rfl
 have i4:o8 (ao (e2 cF (eC (.int 1)) (eAp ie (ao (eC (.int 12)) (ao (eAp dh (ao 1.21 aH)) aH)))) aH) [some (.lst .scr (sc.map D.int)),none,none,none,none,none,none,none,none,none,none,none,none]=some (true,iu 0 (1+min 12 sc.length)):=by
  refine CV ?_ 1.10;simp only[ao,e2,eC,eAp,au,aH,Xa,view,mkV,sY,V1,U,ie,cF];congr 3;split<;>omega
 simp only[kW,fnP,en0,WK,Xe,V7,Xi,XX,WM,bu,Nat.reduceAdd,Nat.reduceSub,W0,List.nil_append];refine bh (LwI sc (1+min 12 sc.length)) (λQ hQ=>?_) ?_
 .simp only[lM,i4,bu,aJ,w_ite,WM]
  refine mC (LwI sc) ⟨none,none,none,none,none,none,none,none,none,none,none,none,rfl⟩ ?_ (λρ h=>hQ _ (by rw[mV]at h;exact h));rintro k d ρ B ⟨x1,x2,x3,x4,x5,x6,x7,x8,x9,b0,a9,a0,rfl⟩;obtain⟨k0,rfl⟩:=xM B;simp only[tgN,clean,az,aq,Z8,WM,aJ,XN,Yw];refine bh (λρ=>∃a b:Int,0<=a/\ρ=[some (scD sc),some (.int k),some (tp a b),x3,x4,x5,x6,x7,x8,x9,b0,a9,a0]) (λQ hQ=>?_) ?_
  .simp_arith[sY,Oh,j3,j5]
   refine Wp.mono (QF 1.10 1.10 hl) ?_;rintro _ ⟨a,b,rfl,Y⟩;simp_arith[aJ];exact hQ _ ⟨a,b,Y,rfl⟩
  rintro _ ⟨a1,b1,s1,rfl⟩;refine bh (λρ=>∃(ns:List Str)(a b:Int),ns.length<=14/\(∀x∈ns,tz (.str x)<=40)/\ns.Nodup/\0<=a/\ρ=[some (scD sc),some (.int k),some (tp a b),some (.lst .own (ns.map D.str)),x4,x5,x6,x7,x8,x9,b0,a9,a0]) (λQ hQ=>?_) ?_
  .simp_arith[aJ]
   refine Wp.mono (Ow s1) ?_;rintro _ ⟨ns,a2,b2,rfl,i9,c6,b8,s2⟩;simp_arith[bw,aY];exact hQ _ ⟨ns,_,_,b8,λx hx=>Vn (i9 x hx),c6,s2,rfl⟩
  rintro _ ⟨c5,a2,b2,h5,a8,d3,s2,rfl⟩;refine bh (λρ=>∃(js:List Jt)(a b:Int),(∀j∈js,j.1∈c5/\j.2.1∈c5)/\(∀j∈js,j.2.2.natAbs<=1000000000000)/\js.length<=30/\0<=a/\ρ=[some (scD sc),some (.int k),some (tp a b),some (.lst .own (c5.map D.str)),some (.lst .own (js.map jD)),x5,x6,x7,x8,x9,b0,a9,a0]) (λQ hQ=>?_) ?_
  .simp_arith[bf,bH,aY]
   refine Wp.mono (Q5 s2) ?_;rintro _ ⟨t,a3,b3,rfl,t0,t1,s3⟩;have i5:=B_ (b:=b3) (ns:=c5) s3 1.10 ⟨t0,t1⟩;simp_arith[bf,bH,aY];refine Wp.mono i5 ?_;rintro _ ⟨js,a5,b5,rfl,c0,d9,s5,d2⟩;simp_arith[bJ,aW,H_,eX,e_];exact hQ _ ⟨js,_,_,c0,d2,by omega,s5,rfl⟩
  rintro _ ⟨g4,a3,b3,c9,d0,g3,s3,rfl⟩;refine bh (λρ=>∃(ns:List Str)(js:List Jt)(m:Mk)(a b:Int),(m= .own∨m= .frz)/\ns.length<=40/\(∀x∈ns,tz (.str x)<=40)/\ns.Nodup/\(∀j∈js,j.1∈ns/\j.2.1∈ns)/\(∀j∈js,j.2.2.natAbs<=1000000000000)/\js.length<=119/\0<=a/\ρ=[some (scD sc),some (.int k),some (tp a b),some (.lst m (ns.map D.str)),some (.lst .own (js.map jD)),x5,x6,x7,x8,x9,b0,a9,a0]) (λQ hQ=>?_) ?_
  .have hk0:gEq (.int (k:Int)) (.int 0)=some (.bl (decide (k=0))):=by rw[eq_int];simp
   simp_arith[hk0];by_cases d5:k=0
   .simp_arith[d5]
    refine dY s3 1.10 1.10 λr4 a4 b4 p4 q4 s4=>?_;simp_arith[eq_int];by_cases O:r4=0
    .simp_arith[O]
     refine Wp.mono (O3 s4) ?_;rintro _ ⟨js,a5,b5,rfl,c0,d9,s5,d2⟩;simp_arith[bw,aY,eX,e_];exact hQ _ ⟨eO,js,.frz,a5,b5,.inr rfl,by rw[jF];exact Wa _,λx hx=>by have:=Zn.mp R4 x hx;simpa using this,N_,c0,d2,d9,s5,by rw[d5];rfl⟩
    .simp_arith[O]
     exact hQ _ ⟨c5,g4,.own,a4,b4,.inl rfl,by omega,a8,d3,c9,d0,by omega,s4,by rw[d5];rfl⟩
   .simp_arith[d5]
    exact hQ _ ⟨c5,g4,.own,a3,b3,.inl rfl,by omega,a8,d3,c9,d0,by omega,s3,rfl⟩
  clear h5 a8 d3 s2 c9 d0 g3 s3;rintro _ ⟨ns,js,m,a4,b4,hm,b8,i0,c6,c0,d2,d9,s4,rfl⟩;obtain⟨F,e4,b9⟩:=yD c6 c0 b8 1.10;obtain⟨k1,e0⟩:=e4.len;refine bh (λρ=>ρ=[some (scD sc),some (.int k),some (tp a4 b4),some 1.16,some (.lst .own (js.map jD)),some (rD F),x6,x7,x8,x9,b0,a9,a0]) (λQ hQ=>?_) ?_
  .have hb:=(b9 1.16 (.lst .brw (js.map jD)) (by simp only[fz,bH];exact NS.lst b8) (by simp only[fz,fX];exact JJ.lst js)).1
   have h8:fz (.lst m (ns.map D.str))= .lst .frz (ns.map D.str):=by simp only[fz,bH];rcases hm with rfl|rfl<;>rfl
   simp only[sFz,lU,W3,Xa,h8,XN,Yw];simp[cI,eAp,ao,aH,au,view,mkV,bf,fZ,hb,bu,dB,aJ,tgN,clean,(rE F).1,(rE F).2];exact hQ _ rfl
  rintro _ rfl;refine bh (λρ=>∃(y6 y7 y8 y9 d6 e8:Option D)(a b:Int),0<=a/\ρ=[some (scD sc),some (.int k),some (tp a b),some 1.16,some (.lst .own (js.map jD)),some (rD F),y6,y7,y8,y9,d6,some (rD F),e8]) (λQ hQ=>?_) ?_
  .refine Q8 (es:=js.map jD) rfl (Fo js) ?_ rfl ?_
   .simp[yL,Bg,qi,wV]
   simp only[XN,Yw];refine bh (λρ=>∃(N J:D)(a b:Int),(N= .lst .frz (ns.map D.str)∨N= .tup (ns.map D.str))/\(J= .lst .frz (js.map jD)∨J= .tup (js.map jD))/\0<=a/\ρ=[some (scD sc),some (.int k),some (tp a b),some 1.16,some (.lst .frz (js.map jD)),some (rD F),some (.tup [N,J]),x7,x8,x9,b0,a9,a0]) (λQ hQ=>?_) ?_
   .have hT1:d_ [.lst .frz (ns.map D.str)]=some (.tup (ns.map D.str)):=by simp[d_]
    have j2:d_ [.lst .frz (js.map jD)]=some (.tup (js.map jD)):=by simp[d_]
    simp_arith[bw,aY,bf,bH,cC,eX,e_,fZ,fX,gQ,oV,pH,oU,o4,pI,jP,gW,len_strs,eY,cN,nW,pG,eq_int,gO,bB,bT,hT1,j2];refine dY s4 (by decide) (by decide) λr7 a7 b7 p7 q7 s7=>?_;have O:r7=0∨r7=1:=by omega
    rcases O with rfl|rfl
    .simp_arith[bw,aY,bf,bH,cC,eX,e_,fZ,fX,gQ,oV,pH,oU,o4,pI,jP,gW,len_strs,eY,cN,nW,pG,eq_int,gO,atI,ixN]
     exact hQ _ ⟨_,_,a7,b7,.inl rfl,.inl rfl,s7,rfl⟩
    .simp_arith[bw,aY,bf,bH,cC,eX,e_,fZ,fX,gQ,oV,pH,oU,o4,pI,jP,gW,len_strs,eY,cN,nW,pG,eq_int,gO,atI,ixN]
     exact hQ _ ⟨_,_,a7,b7,.inr rfl,.inr rfl,s7,rfl⟩
   rintro _ ⟨N,J,a5,b5,hN,hJ,s5,rfl⟩;obtain⟨j1,sx,g6⟩:=QK i0 b8 c0 d9 d2 hN hJ;obtain⟨f1,f2,f3,f4,f5,f6⟩:=j1.all;have i6:NS (fz N) ns:=by
    rcases hN with rfl|rfl
    .simp only[fz,bH];exact NS.lst b8
    .simp only[fz,bH];exact NS.tup b8
   have h0:JJ (fz J) js:=by
    rcases hJ with rfl|rfl
    .simp only[fz,fX];exact JJ.lst js
    .simp only[fz,fX];exact JJ.tup js
   have d1:=(b9 N J i6 h0).2;have j9:az N=true/\aq N=true:=by
    simp only[az,aq,aA,aB,Wr]at f4 f5;exact⟨f4.1,f5.1⟩
   have k2:az J=true/\aq J=true:=by
    simp only[az,aq,aA,aB,Wr]at f4 f5;exact⟨f4.2.1,f5.2.1⟩
   have e3:gIx (.tup [N,J]) (.int 0)=some N:=rfl;have e5:gIx (.tup [N,J]) (.int 1)=some J:=rfl;obtain⟨TJ,c8⟩:∃TJ,TJ=(js.reverse.map trn).map jD:=⟨_,rfl⟩;have e9:∀b,fz (view b (rD F))=rF F:=λb=>yP b F;have f8:cD bz [view false (rD F),view false (rD F)]=some (.bl true):=tG (e9 _) (e9 _) 1.10 λr O=>by have:=e0 r O;omega
   have f7:cD bz [rD F,view false (rD F)]=some (.bl true):=tG (PL F) (e9 _) 1.10 λr O=>by have:=e0 r O;omega
   refine bh (λρ=>ρ=[some (scD sc),some (.int k),some (tp a5 b5),some 1.16,some (.lst .frz (js.map jD)),some (rD F),some (.tup [N,J]),some (.str sx),x8,x9,b0,a9,a0]) (λQ hQ=>?_) ?_
   .simp[cI,eAp,ao,aH,au,f3,g6,bu,dB,aJ,tgN,clean,az,aq]
    exact hQ _ rfl
   rintro _ rfl;refine bh (λρ=>ρ=[some (scD sc),some (.int k),some (tp a5 b5),some 1.16,some (.lst .frz (js.map jD)),some (rD F),some (.tup [N,J]),some (.str sx),some (rD F),x9,b0,a9,a0]) (λQ hQ=>?_) ?_
   .simp[cI,eAp,e2,eC,ao,aH,au,f3,e3,e5,d1,bu,dB,aJ,tgN,clean,(rE F).1,(rE F).2]
    exact hQ _ rfl
   rintro _ rfl;refine bh (λρ=>ρ=[some (scD sc),some (.int k),some (tp a5 b5),some 1.16,some (.lst .frz (js.map jD)),some (rD F),some (.tup [N,J]),some (.str sx),some (rD F),x9,b0,a9,a0]) (λQ hQ=>?_) ?_
   .have hvx:view false (.str sx)= .str sx:=rfl
    simp[sIf,eOr,qT,lK,eB,eAp,e2,eC,ao,aH,au,f3,hvx,f8,g6,truth,ne_str,isB,bu,dB,aJ,w_ite,iQ];exact hQ _ rfl
   rintro _ rfl;refine bh (λρ=>∃g1,ρ=[some (scD sc),some (.int k),some (tp a5 b5),some 1.16,some (.lst .frz (js.map jD)),some (rD F),some (.tup [N,J]),some (.str sx),some (rD g1),none,b0,a9,a0]) (λQ hQ=>?_) ?_
   .exact Q_ rfl (by simp) (λr O=>by have:=e0 r O;omega) (hQ _ ⟨_,rfl⟩)
   rintro _ ⟨g1,rfl⟩;refine bh (λρ=>ρ=[some (scD sc),some (.int k),some (tp a5 b5),some 1.16,some (.lst .frz (js.map jD)),some (rD F),some (.tup [N,J]),some (.str sx),some (.lst .own []),none,b0,a9,a0]) (λQ hQ=>?_) ?_
   .simp[jE,nZ,gk,aH,upS,fY,fj,aA,aB,rD,m9,bu,dB,aJ,w_ite]
    exact hQ _ rfl
   rintro _ rfl;refine bh (λρ=>ρ=[some (scD sc),some (.int k),some (tp a5 b5),some 1.16,some (.lst .frz (js.map jD)),some (rD F),some (.tup [N,J]),some (.str sx),some (.lst .own []),none,some (.lst .own TJ),a9,a0]) (λQ hQ=>?_) ?_
   .have e6:gw (.lst .frz (js.map jD)) (.int (-1))=some (.lst .own (js.reverse.map jD)):=by simp[gw]
    have j4:view false (.lst .frz (js.map jD))= .lst .frz (js.map jD):=by simp only[view,fZ];rfl
    have h9:cH (.lst .own (js.reverse.map jD))=some (true,js.reverse.map jD):=by simp only[cH,clean,az,aq,eX,e_,gQ];rfl
    have e7:(js.reverse.map jD).length<=1000000:=by simp;omega
    have f9:jb (.int 1)=some (.int (-1)):=rfl;simp only[cI,ik,itS,e2,e1,eC,au,W3,Xa,j4,f9,e6,h9,e7,V1,W2,bu,dB,aJ,w_ite,WM,iK,V7,Xi];refine pB (Pn js.reverse) ?_;rw[←c8];simp only[tgN,clean,az,aq];have g0:aA TJ=true:=by rw[c8];exact eX _
    have f0:aB TJ=true:=by rw[c8];exact e_ _
    simp only[g0,f0];exact aJ.mpr (hQ _ rfl)
   rintro _ rfl;have i7:(js.reverse.map trn).length<=1000:=by simp;omega
   obtain⟨c2,c4,c1⟩:=yD (js:=js.reverse.map trn) (ns:=ns.reverse) ((adF ns).nodup_iff.mpr c6) (λj I=>by
    obtain⟨i,hi,rfl⟩:=V4.mp I;have:=c0 i (Z5.mp hi);exact⟨Z5.mpr this.2,Z5.mpr this.1⟩) (by simpa using b8) i7
   obtain rfl:F=c2:=e4.uniq c6 c4.turn;have d7:=(c1 (.lst .own (ns.reverse.map D.str)) (.lst .brw TJ) (by simp only[fz,bH];exact NS.lst (by simpa using b8)) (by rw[c8];simp only[fz,fX];exact JJ.lst _)).2;refine bh (λρ=>ρ=[some (scD sc),some (.int k),some (tp a5 b5),some 1.16,some (.lst .frz (js.map jD)),some (rD F),some (.tup [N,J]),some (.str sx),some (.lst .own []),none,some (.lst .own TJ),a9,a0]) (λQ hQ=>?_) ?_
   .have hvn:view false 1.16= .lst .frz (ns.map D.str):=by simp only[view,bf];rfl
    have e6:gw 1.16 (.int (-1))=some (.lst .own (ns.reverse.map D.str)):=by simp[gw]
    have i3:view false (.lst .own TJ)= .lst .brw TJ:=by rw[c8];simp only[view,fZ];rfl
    have f9:jb (.int 1)=some (.int (-1)):=rfl;simp only[sIf,eOr,qT,lK,eAp,e2,e1,eC,ao,aH,au,W3,Xa,f3,hvn,i3,f9,e6,e3,e5,d1,d7,f7,truth,V1,W2,bu,dB,aJ,w_ite,iQ];simp only[aaK,WT,XD,aJ];exact hQ _ rfl
   rintro _ rfl;have d8:=(b9 1.16 (.lst .frz (js.map jD)) (by simp only[fz,bH];exact NS.lst b8) (by simp only[fz,fX];exact JJ.lst js)).2;have c7:view false 1.16= .lst .frz (ns.map D.str):=by simp only[view,bf];rfl
   have d4:view false (.lst .frz (js.map jD))= .lst .frz (js.map jD):=by simp only[view,fZ];rfl
   simp only[cI,eAp,ao,aH,au,W3,Xa,c7,d4,d8,V1,W2,bu,dB,aJ,tgN,clean,(rE F).1,(rE F).2,Z8,WM,XN,Yw];refine⟨rfl,hQ _ ⟨Ay (some (.tup [N,J])),some (.str sx),some (.lst .own []),none,Ay (some (.lst .own TJ)),Ay a0,a5,b5,s5,?_⟩⟩;simp[lO,Ay,bJ,aW,Bs]
  rintro _ ⟨y6,y7,y8,y9,d6,e8,a5,b5,s5,rfl⟩;refine bh (λρ=>∃(c3:List Jt)(a b:Int),(∀j∈c3,j.1∈ns/\j.2.1∈ns)/\c3.length<=120/\ρ=[some (scD sc),some (.int k),some (tp a b),some 1.16,some (.lst .own (c3.map jD)),some (rD F),y6,y7,y8,y9,d6,some (rD F),e8]) (λQ hQ=>?_) ?_
  .have hne:gNe 1.16 (.lst .own [])=some (.bl (!ns.isEmpty)):=by
    have:=NT (m:=.frz) (ds:=ns.map D.str) (jj ns) (by rw[jt,j0];omega);simpa using this
   have c7:view false 1.16= .lst .frz (ns.map D.str):=by simp only[view,bf];rfl
   cases a8:ns with
   |nil=>
    subst a8;simp only[List.isEmpty_nil,aaK]at hne;simp only[sIf,eB,e2,au,eAp,bB,aH,W3,Xa,c7,hne,V1,W2,bu,dB,aJ,w_ite,isB,Xe,iQ];simp[aJ,isB];exact hQ _ ⟨js,a5,b5,c0,by omega,rfl⟩
   |cons x0 r0=>
    have j7:0<ns.length:=by rw[a8];simp
    have g2:gNe 1.16 (.lst .own [])=some (.bl true):=by rw[hne,a8];rfl
    rw[←a8];obtain⟨y,V,_,j6⟩:∃y,y∈ns/\True/\atI (ns.map D.str) (-1)=some (.str y):=by
     rw[a8];have:=Jh (h:=x0) (l:=r0);refine⟨_,?_,trivial,this⟩;cases r0 with
     |nil=>simp[lst]
     |cons z q=>
      have:∀(l:List Str)(h:Str),lst h l∈h::l:=by
       intro l
       induction l with
       |nil=>intro h;simp[lst]
       |cons w v ih=>intro h;rw[lst];exact Ws _ (ih w)
      exact this _ _
    simp_arith[bw,aY,bf,bH,cC,eX,e_,fZ,fX,gQ,oV,pH,oU,o4,pI,jP,gW,len_strs,eY,cN,nW,pG,eq_int,gO,bB,g2,jb];refine dY s5 1.10 1.10 λr7 a7 b7 p7 q7 s7=>?_;obtain⟨x,hx,_,h7⟩:=jh (f:=D.str) (l:=ns) p7 q7;simp_arith[bw,aY,bf,bH,cC,eX,e_,fZ,fX,gQ,oV,pH,oU,o4,pI,jP,gW,len_strs,eY,cN,nW,pG,eq_int,gO,h7,j6,bT];have g7:aN (.lst .own (js.map jD)) [.tup [.str x,.str y,.int 0]]=some (.lst .own ((js++[(x,y,0)]).map jD),.non):=by
     simp only[aN,Wc,show js.length<1000000 by omega,WM,Ww,V7,Xi];rfl
    rw[g7,aJ];exact hQ _ ⟨js++[(x,y,0)],a7,b7,λj I=>(qb.mp I).elim (c0 j) λz=>by rw[Wl.mp z];exact⟨hx,V⟩,by simp;omega,rfl⟩
  rintro _ ⟨c3,a6,b6,g5,j8,rfl⟩;obtain⟨c2,c4,c1⟩:=yD c6 g5 b8 1.10;obtain⟨k3,h3⟩:=c4.len;obtain⟨g0,f0⟩:=c1 1.16 (.lst .brw (c3.map jD)) (by simp only[fz,bH];exact NS.lst b8) (by simp only[fz,fX];exact JJ.lst _);have c7:view false 1.16= .lst .frz (ns.map D.str):=by simp only[view,bf];rfl
  have d4:view false (.lst .own (c3.map jD))= .lst .brw (c3.map jD):=by simp only[view,fZ];rfl
  have f8:cD bz [view false (rD F),view false (rD F)]=some (.bl true):=tG (yP _ F) (yP _ F) 1.10 λr O=>by have:=e0 r O;omega
  have f7:cD bz [view false (rD c2),rD c2]=some (.bl true):=tG (yP _ c2) (PL c2) 1.10 λr O=>by have:=h3 r O;omega
  refine bh (λρ=>ρ=[some (scD sc),some (.int k),some (tp a6 b6),some 1.16,some (.lst .own (c3.map jD)),some (rD F),y6,y7,y8,y9,d6,some (rD F),some (rD c2)]) (λQ hQ=>?_) ?_
  .simp only[cI,eAp,ao,aH,au,W3,Xa,c7,d4,f0,V1,W2,bu,dB,aJ,tgN,clean,(rE c2).1,(rE c2).2,Z8,WM,XN,Yw]
   exact hQ _ rfl
  rintro _ rfl;simp only[sIf,eOr,qT,lK,eAp,ao,aH,au,W3,Xa,c7,d4,g0,f8,f7,truth,V1,W2,bu,dB,aJ,w_ite,iQ,aaK,WT,XD];exact⟨_,_,_,_,_,_,_,_,_,_,_,_,rfl⟩
 rintro _ ⟨x1,x2,x3,x4,x5,x6,x7,x8,x9,b0,a9,a0,rfl⟩;obtain⟨F,⟨gs,h6,h4,k4⟩,b9⟩:=yD (js:=[]) (ns:=[]) List.nodup_nil (by simp) (by simp) (by simp);have i8:gs=[]:=by
  have:=h4.len;exact List.length_eq_zero_iff.mp (Nat.le_zero.mp this)
 subst i8;have g9:F=[]:=h6;subst g9;have Z:=(b9 (.lst .own []) (.lst .own []) (NS.lst (ns:=[]) (by simp)) (JJ.lst [])).2;have g8:gEq (rD []) (.lst .own [])=some (.bl true):=by
  unfold gEq;rw[Wd ⟨rfl,rfl,by decide,by decide⟩];rfl
 simp only[kj,e2,eAp,ao,aH,bB,Xe,V1,W2,Z,g8,bu,dB,aJ];simp[bB,Z,g8,aJ,clean,az,aq]
def top(i:Nat):Stmt:=acZ.main.body.getD i (.Pass ⟨0,0,0,0⟩)
local macro_rules
 |`(tactic|trivial)=>`(tactic|exact⟨rfl,by decide +kernel,by decide +kernel,by decide +kernel,rfl,by decide +kernel⟩)
open PySem.W (Frag nsIn fnOf keepIn codeIn mg_of mg_none_of)
abbrev nl0:List Str:=["_law_found","_law_due"]
abbrev nl1:List Str:=["names","joinings"]
abbrev nl2:List Str:=["_law_tape_here"]
abbrev nl3:List Str:=["_law_names_here","_law_joinings_here","_law_groups","_law_one","_law_other","_law_step","_law_first","_law_second"]
abbrev nl4:List Str:=["_law_script","_law_k"]
abbrev nl5:List Str:=["_law_tape_here","_law_many"]
abbrev nl6:List Str:=["_law_tape_here","_law_names_here","_law_turn_here"]
abbrev nl7:List Str:=["_law_names_here","_law_joinings_here"]
abbrev nl8:List Str:=["leading","start"]
abbrev nl9:List Str:=["_law_tape_here","_law_turn_here","_law_names_here","_law_kept","_law_order","_law_name","_law_pairs","_law_found","_law_one","_law_other"]
abbrev M6:List Str:=["_law_tape_here","_law_turn_here"]
abbrev N7:List Str:=["_law_script"]
abbrev Ue:List Str:=["_law_tape_here","_law_some","_law_first","_law_many"]
abbrev U9:List Str:=["_law_k","_law_some","_law_first"]
abbrev Su:List Str:=["_law_tape_here","_law_names_here","_law_turn_here","_law_found","_law_wide","_law_kept","_law_slips","_law_turn_by","_law_one","_law_other","_law_way","_law_step"]
abbrev Ul:List Str:=["_law_name","_law_wide","_law_tape_here"]
abbrev S_:List Str:=["_law_group","_law_first","_law_second"]
abbrev TX:List Str:=["names","joinings","leading","number","one","other","step"]
abbrev Vf:List Str:=["_law_name","_law_tape_here"]
abbrev TV:List Str:=["_law_again","_law_names_here","_law_tape_here"]
abbrev U7:List Str:=["_law_script","_law_k","_law_tape_here","_law_names_here","_law_joinings_here","_law_due","_law_handed","_law_kept","_law_found","_law_group","_law_turned","_law_ahead","_law_behind"]
abbrev Uq:List Str:=["_law_one","_law_other","_law_step"]
abbrev ob0:Nat->Bool:=λi=>i==0
abbrev gn(P:WY)(w:World)(K:Frag)(mg:Str->Option Value)(base:Heap):Prop:=Cal P w K mg base 1 "_law_draw" nl5 (spI ⟨K,mg⟩ ob0 ob0 aC)
abbrev lW(P:WY)(w:World)(K:Frag)(mg:Str->Option Value)(base:Heap):Prop:=Cal P w K mg base 1 "ends_by_name" nl1 (spP ⟨K,mg⟩ cQ)
abbrev rO(P:WY)(w:World)(K:Frag)(mg:Str->Option Value)(base:Heap):Prop:=Cal P w K mg base 1 "ways_from" nl8 (spP ⟨K,mg⟩ dM)
abbrev Ec(P:WY)(w:World)(K:Frag)(mg:Str->Option Value)(base:Heap):Prop:=Cal P w K mg base 2 "trees" nl1 (spP ⟨K,mg⟩ gV)
abbrev rW(P:WY)(w:World)(K:Frag)(mg:Str->Option Value)(base:Heap):Prop:=Cal P w K mg base 1 "_law_tape" nl4 (spP ⟨K,mg⟩ du)
abbrev pJ(P:WY)(w:World)(K:Frag)(mg:Str->Option Value)(base:Heap):Prop:=Cal P w K mg base 2 "_law_names" nl2 (spI ⟨K,mg⟩ ob0 ob0 dW)
abbrev lE(P:WY)(w:World)(K:Frag)(mg:Str->Option Value)(base:Heap):Prop:=Cal P w K mg base 2 "_law_joinings" nl6 (spI ⟨K,mg⟩ ob0 ob0 cR)
abbrev lZ(P:WY)(w:World)(K:Frag)(mg:Str->Option Value)(base:Heap):Prop:=Cal P w K mg base 1 "_law_classes" nl7 (spP ⟨K,mg⟩ b_)
abbrev wA(P:WY)(w:World)(K:Frag)(mg:Str->Option Value)(base:Heap):Prop:=Cal P w K mg base 3 "classes" nl1 (spP ⟨K,mg⟩ bK)
abbrev rZ(P:WY)(w:World)(K:Frag)(mg:Str->Option Value)(base:Heap):Prop:=Cal P w K mg base 2 "_law_turn" nl2 (spI ⟨K,mg⟩ ob0 ob0 eE)
abbrev pL(P:WY)(w:World)(K:Frag)(mg:Str->Option Value)(base:Heap):Prop:=Cal P w K mg base 2 "_law_great" M6 (spI ⟨K,mg⟩ ob0 ob0 dO)
abbrev rz(P:WY)(w:World)(K:Frag)(mg:Str->Option Value)(base:Heap):Prop:=Cal P w K mg base 4 "_law_same" nl0 (spP ⟨K,mg⟩ bz)
abbrev iB:Stmt:=top 6
abbrev ir:Stmt:=top 7
abbrev fD:Stmt:=top 9
abbrev cZ:Stmt:=top 11
abbrev bV:Stmt:=top 12
abbrev cW:Stmt:=top 1
abbrev gF:Stmt:=top 2
abbrev m7:Stmt:=top 3
abbrev iz:Stmt:=top 4
abbrev iC:Stmt:=top 10
abbrev dw:Stmt:=top 13
abbrev gj:Stmt:=top 8
abbrev nJ:Stmt:=top 14
structure Blt(mg:Str->Option Value):Prop where
 abs:mg "abs"=none
 all:mg "all"=none
 bool_:mg "bool"=none
 dict:mg "dict"=none
 enumerate:mg "enumerate"=none
 int_:mg "int"=none
 isinstance:mg "isinstance"=none
 len:mg "len"=none
 list_:mg "list"=none
 min:mg "min"=none
 range:mg "range"=none
 sorted:mg "sorted"=none
 str_:mg "str"=none
 tuple:mg "tuple"=none
 zip:mg "zip"=none
theorem aP{k:Nat}{A:Xk}(r:je k A):A.units+1<cLine:=by have:=r.units;omega
theorem tB{k:Nat}{A:Xk}(r:je k A):A.units+2<cLine:=by have:=r.units;omega
section
variable{P:Program}{w:World}{K:Frag}{mg:Str->Option Value}{base:Heap}
theorem rH:di ["_law_script","_law_k","_law_cell","_law_digits"] nl4 (aL iB):=⟨rfl,rfl,rfl,by decide +kernel,rfl,by decide +kernel,by decide +kernel⟩
theorem Ae{f:Addr}{fd:Xq}(F:Fun K "_law_tape" "_law_tape" iB f fd)(B:Blt mg):gJ P w K mg base CX0 1 f fd nl4 (spP ⟨K,mg⟩ du):=by
 have nd:∀_:Unit,_:=λ_=>rH.nd;refine okP (k:=0) (ob:=(λi=>false)) (Pr:=λ_=>false) F rH λJ A outer s H E O=>?_;exact(aG (bM 2 nd aF)
  (aG (gm (cJ UG (aj false 1) (bc gK (λ_=>rfl) (λ_=>B.len) ZK (aa (aj false 0) ak))) (aX (bM 2 nd (fQ 1.18 (aj false 0) (aj false 1)))) dD)
  (aG (bM 3 nd (cA jl (bc DN (λ_=>rfl) (λ_=>B.abs) boot_abs (aa (aj false 2) ak)) (j9 LQ (λ_=>rfl) (λ_=>B.int_) boot_int (aa (nO R_ (bc DN (λ_=>rfl) (λ_=>B.abs) boot_abs (aa (aj false 2) ak)) (cA BX aF aF)) ak))))
  (aX (fW (dN (aa (aj false 3) (aa (cA kY (cA jl (cA eQ (cA eQ (cA kY (aj false 2) aF) (cA jl aF (aj false 1))) aF) aF) aF) ak))))))))
theorem rR:di ["_law_tape_here","_law_many","_law_found","_law_once"] nl5 (aL ir):=⟨rfl,rfl,rfl,by decide +kernel,rfl,by decide +kernel,by decide +kernel⟩
theorem Aj{f:Addr}{fd:Xq}(F:Fun K "_law_draw" "_law_draw" ir f fd)(B:Blt mg):gJ P w K mg base CX0 1 f fd nl5 (spI ⟨K,mg⟩ ob0 ob0 aC):=by
 have nd:∀_:Unit,_:=λ_=>rR.nd;refine okI (k:=0) (ob:=ob0) (pr:=ob0) F rR λJ A outer s H E O=>?_;exact(aG (gm (cJ PP (fQ 1.18 (aj true 0) aF) aF) (aG (bM 2 nd (cA kY (fQ 1.18 (aj true 0) aF) (aj false 1)))
  (aG (xn (cA yw (fQ 1.18 (aj true 0) aF) (aj false 1)) (xZ (xq (λ_=>aP O)) (d8 0) aF))
  (aX (mq 2)))) dD)
  (aG (xn (cA kY (cA eQ (cA jl (fQ 1.18 (aj true 0) aF) aF) aF) aF) (xZ (xq (λ_=>aP O)) (d8 0) aF))
  (aG (bM 3 nd (cA kY (cA jl (fQ 1.18 (aj true 0) aF) (cA eQ (cA kY (fQ 1.18 (aj true 0) aF) aF) aF)) aF))
  (aX (fW (cA kY (cA yw (aj false 3) aF) (aj false 1)))))))
theorem o7:di Ue nl2 (aL fD):=⟨rfl,rfl,rfl,by decide +kernel,rfl,by decide +kernel,by decide +kernel⟩
def sI:Scope:={kind:=.function,names:=[(".0",.local),("_law_k",.local),("_law_first",.free),("_law_some",.free)],isGenerator:=false,isCoroutine:=false}
theorem vz:(U9:List Str).Nodup:=by decide +kernel
theorem uX:bZ (aL fD) Ue U9 sI [none,some 1,some 2]:=by trivial
theorem xU{f:Addr}{fd:Xq}(F:Fun K "_law_names" "_law_names" fD f fd)(B:Blt mg)(I:gn P w K mg base):gJ P w K mg base CX0 2 f fd nl2 (spI ⟨K,mg⟩ ob0 ob0 dW):=by
 have nd:∀_:Unit,_:=λ_=>o7.nd;refine okI (k:=1) (ob:=ob0) (pr:=ob0) F o7 λJ A outer s H E O=>?_;exact(aG (bM 1 nd (Tg Hn PySem.F.plainAttrs_str PySem.F.slot_str_split PySem.F.type_str_split uh (aa uh ak)))
  (aG (dF 2 nd 1.24)
  (aG (dF 3 nd (iH 1.18 (Ng (a_ 1.24 (a_ (jc eQ (bU aF) 1.24) (a_ (jc eQ (bU aF) 1.24) (aQ ak))))) (Hg (zc (λ_=>rfl)) (λ_=>rfl) (λ_=>B.min) boot_min (a_ (bU aF) (a_ 1.24 (aQ ak))))))
  (aX (fW (jN [none,some 1,some 2] ob0 (λ_=>rfl) (λ_=>rfl) (λ_=>uX) (eU rfl) (xP (λ_=>rfl) (λ_=>B.range) (aa (aj false 3) ak)) (cL 0 (λ_=>vz)) fK (fQ 1.18 (aj false 1) (cA kY (cA eQ (aj false 2) (cA jl aF (aj false 0))) aF))))))))
theorem lG:di Su nl6 (aL cZ):=⟨rfl,rfl,rfl,by decide +kernel,rfl,by decide +kernel,by decide +kernel⟩
def nU:Scope:={kind:=.function,names:=[(".0",.local),("_law_name",.local),("_law_draw",.globalImplicit),("_law_tape_here",.free),("_law_wide",.free)],isGenerator:=false,isCoroutine:=false}
theorem pF:(Ul:List Str).Nodup:=by decide +kernel
theorem oO:bZ (aL cZ) Su Ul nU [none,some 4,some 0]:=by trivial
theorem sO{f:Addr}{fd:Xq}(F:Fun K "_law_joinings" "_law_joinings" cZ f fd)(B:Blt mg)(I:gn P w K mg base):gJ P w K mg base CX0 2 f fd nl6 (spI ⟨K,mg⟩ ob0 ob0 cR):=by
 have nd:∀_:Unit,_:=λ_=>lG.nd;refine okI (k:=1) (ob:=ob0) (pr:=ob0) F lG λJ A outer s H E O=>?_;exact(aG (bM 3 nd (dN ak))
  (aG (dF 4 nd (iH 1.18 (bU (dN (aa aF (aa aF (aa aF (aa aF (aa aF (aa (cA jl aF (cA BX aF aF)) ak)))))))) 1.24))
  (aG (dF 5 nd (vo (Be (λ_=>rfl)) (λ_=>rfl) (λ_=>B.dict) boot_dict (a_ (tV [none,some 4,some 0] ob0 (λ_=>rfl) (λ_=>rfl) (λ_=>oO) (yM rfl) (eU rfl) (d7 (aj false 1)) (qH 0 (λ_=>pF)) fK (oM (a_ (bU (aj false 0)) (a_ (jc qg (cu [2] (λ_=>I) 1.11 (bG 2 (bF (aQ (aa (cA jl aF (aj false 1)) ak))))) (bU (aj false 1))) (aQ ak))))) (aQ ak))))
  (aG (dF 6 nd (iH 1.18 (bU (dN (aa aF (aa aF (aa aF (aa aF ak)))))) 1.24))
  (aG (JF (λ_=>Yg) (λ_=>rfl) (Ms (λ_=>rfl) (λ_=>B.range) (a_ (cu [0] (λ_=>I) 1.11 (bG 0 (bF (aQ (aa (cA eQ (cA jl aF (bc gK (λ_=>rfl) (λ_=>B.len) ZK (aa (aj false 1) ak))) aF) ak))))) (aQ ak))) (bO 7 nd) (aG (JB 8 9 (λ_=>rfl) nd (a_ (iH 1.18 (bU (aj false 1)) (cu [0] (λ_=>I) 1.11 (bG 0 (bF (aQ (aa (bc gK (λ_=>rfl) (λ_=>B.len) ZK (aa (aj false 1) ak)) ak)))))) (a_ (iH 1.18 (bU (aj false 1)) (cu [0] (λ_=>I) 1.11 (bG 0 (bF (aQ (aa (bc gK (λ_=>rfl) (λ_=>B.len) ZK (aa (aj false 1) ak)) ak)))))) (aQ ak))))
  (aG (dF 10 nd 1.24)
  (aG (gm (cJ (cb_eq _ (λ_=>rfl) O.units) (aj false 10) aF) (aX (bM 9 nd (aj false 8))) dD)
  (aG (gm (rB (yg (cJ (cb_eq _ (λ_=>rfl) O.units) (aj false 10) aF) (ug (cJ (rC _ (λ_=>rfl) O.units) (aj false 3) (dN ak))))) (aX (uT (vY slb (iH 1.18 (bU (aj false 3)) (cu [0] (λ_=>I) 1.11 (bG 0 (bF (aQ (aa (bc gK (λ_=>rfl) (λ_=>B.len) ZK (aa (aj false 3) ak)) ak)))))) ul (tX aF)) (jO (λ_=>rfl) (bN (bO 8 nd) (bN (bO 9 nd) i_))))) dD)
  (aG (gm (rB (yg (cJ (cb_eq _ (λ_=>rfl) O.units) (aj false 10) aF) (ug (cJ (rC _ (λ_=>rfl) O.units) (aj false 3) (dN ak))))) (aX (uT (vY slb (iH 1.18 (bU (aj false 3)) (cu [0] (λ_=>I) 1.11 (bG 0 (bF (aQ (aa (bc gK (λ_=>rfl) (λ_=>B.len) ZK (aa (aj false 3) ak)) ak)))))) ul (tX aF)) (jO (λ_=>rfl) (bN (bO 9 nd) (bN (bO 8 nd) i_))))) dD)
  (aG (dF 11 nd (jc eQ (bU (cA qg (fQ 1.18 (aj false 5) (aj false 9)) (fQ 1.18 (aj false 5) (aj false 8)))) (jc jl (bU (aj false 2)) (jc qg 1.24 (bU aF)))))
  (aG (FZ (JD (Ax (yE (cJ PP (aj false 6) aF)) (wg (Bp (cb_eq _ (λ_=>rfl) O.units) (cu [0] (λ_=>I) 1.11 (bG 0 (bF (aQ (aa (aj false 6) ak))))) (bU aF))))) (aX (dF 11 nd (jc eQ (bU (aj false 11)) (iH 1.18 (bU (dN (aa aF (aa (wG qF aF) (aa aF (aa (cA BX aF aF) ak)))))) 1.24)))) dD)
  (aX (kZ fP Xb Xw Xx (d8 3) (aa (jB (aa (aj false 8) (aa (aj false 9) (aa (aj false 11) ak)))) ak)))))))))))
  (aX (mq 3)))))))
theorem lR:di nl3 nl7 (aL bV):=⟨rfl,rfl,rfl,by decide +kernel,rfl,by decide +kernel,by decide +kernel⟩
def ph:Scope:={kind:=.function,names:=[(".0",.local),("_law_name",.local)],isGenerator:=false,isCoroutine:=false}
theorem qI:(["_law_name"]:List Str).Nodup:=by decide +kernel
theorem qN:bZ (aL bV) nl3 ["_law_name"] ph [none]:=by trivial
def pA:Scope:={kind:=.function,names:=[(".0",.local),("_law_group",.local),("_law_one",.free)],isGenerator:=false,isCoroutine:=false}
theorem ql:(["_law_group","_law_one"]:List Str).Nodup:=by decide +kernel
theorem qz:bZ (aL bV) nl3 ["_law_group","_law_one"] pA [none,some 3]:=by trivial
def oZ:Scope:={kind:=.function,names:=[(".0",.local),("_law_group",.local),("_law_other",.free)],isGenerator:=false,isCoroutine:=false}
theorem qP:(["_law_group","_law_other"]:List Str).Nodup:=by decide +kernel
theorem qM:bZ (aL bV) nl3 ["_law_group","_law_other"] oZ [none,some 4]:=by trivial
def oY:Scope:={kind:=.function,names:=[(".0",.local),("_law_group",.local),("_law_first",.free),("_law_second",.free)],isGenerator:=false,isCoroutine:=false}
theorem qL:(S_:List Str).Nodup:=by decide +kernel
theorem qK:bZ (aL bV) nl3 S_ oY [none,some 6,some 7]:=by trivial
def pq:Scope:={kind:=.function,names:=[(".0",.local),("_law_group",.local),("sorted",.globalImplicit)],isGenerator:=false,isCoroutine:=false}
theorem qZ:(["_law_group"]:List Str).Nodup:=by decide +kernel
theorem qu:bZ (aL bV) nl3 ["_law_group"] pq [none]:=by trivial
theorem vd{f:Addr}{fd:Xq}(F:Fun K "_law_classes" "_law_classes" bV f fd)(B:Blt mg):gJ P w K mg base CX0 1 f fd nl7 (spP ⟨K,mg⟩ b_):=by
 have nd:∀_:Unit,_:=λ_=>lR.nd;refine okP (k:=0) (ob:=(λi=>false)) (Pr:=λ_=>false) F lR λJ A outer s H E O=>?_;exact(aG (zy 2 [none] ob0 nd (λ_=>rfl) (λ_=>rfl) (λ_=>qN) (eU rfl) (d7 (aj false 0)) (cL 0 (λ_=>qI)) fK (dN (aa (aj false 0) ak)))
  (aG (k_ (λ_=>Yg) (λ_=>rfl) (d7 (aj false 1)) (jO (λ_=>rfl) (bN (bO 3 nd) (bN (bO 4 nd) (bN (bO 5 nd) i_)))) (aG (qC 2 (bM 6 nd (fQ 1.18 (jN [none,some 3] ob0 (λ_=>rfl) (λ_=>rfl) (λ_=>qz) (eU rfl) (d7 (aj false 2)) (cL 0 (λ_=>ql)) (um (cJ (PK (λ_=>aP O)) (aj false 1) (aj false 0))) (aj false 0)) aF)))
  (aG (bM 7 nd (fQ 1.18 (jN [none,some 4] ob0 (λ_=>rfl) (λ_=>rfl) (λ_=>qM) (eU rfl) (d7 (aj false 2)) (cL 0 (λ_=>qP)) (um (cJ (PK (λ_=>aP O)) (aj false 1) (aj false 0))) (aj false 0)) aF))
  (aX (gm (cJ (rC _ (λ_=>rfl) O.units) (aj false 6) (aj false 7)) (aX (bM 2 nd (cA eQ (jN [none,some 6,some 7] ob0 (λ_=>rfl) (λ_=>rfl) (λ_=>qK) (eU rfl) (d7 (aj false 2)) (cL 0 (λ_=>qL)) (um (rB (yg (cJ (rC _ (λ_=>rfl) O.units) (aj false 0) (aj false 1)) (ug (cJ (rC _ (λ_=>rfl) O.units) (aj false 0) (aj false 2)))))) (aj false 0)) (dN (aa (cA eQ (aj false 6) (aj false 7)) ak))))) dD)))))
  (aX (fW (bc (jQ _ (λ_=>rfl) (tB O) (λ_=>rfl)) (λ_=>rfl) (λ_=>B.sorted) aco (aa (jN [none] ob0 (λ_=>rfl) (λ_=>rfl) (λ_=>qu) (eU rfl) (d7 (aj false 2)) (cL 0 (λ_=>qZ)) fK (bc (jQ _ (λ_=>rfl) (tB O) (λ_=>rfl)) (λ_=>rfl) (λ_=>B.sorted) aco (aa (aj false 0) ak))) ak))))))
theorem lD:di TX nl1 (aL cW):=⟨rfl,rfl,rfl,by decide +kernel,rfl,by decide +kernel,by decide +kernel⟩
def oh:Scope:={kind:=.function,names:=[(".0",.local),("name",.local)],isGenerator:=false,isCoroutine:=false}
theorem oJ:(["name"]:List Str).Nodup:=by decide +kernel
theorem pO:bZ (aL cW) TX ["name"] oh [none]:=by trivial
theorem sS{f:Addr}{fd:Xq}(F:Fun K "ends_by_name" "ends_by_name" cW f fd)(B:Blt mg):gJ P w K mg base CX0 1 f fd nl1 (spP ⟨K,mg⟩ cQ):=by
 have nd:∀_:Unit,_:=λ_=>lD.nd;refine okP (k:=0) (ob:=(λi=>false)) (Pr:=λ_=>false) F lD λJ A outer s H E O=>?_;exact(aG (Kf 2 [none] ob0 nd (λ_=>rfl) (λ_=>rfl) (λ_=>pO) (eU rfl) (d7 (aj false 0)) (cL 0 (λ_=>oJ)) fK (aj false 0) (dN ak))
  (aG (k_ (λ_=>Yg) (λ_=>rfl) (Ja (λ_=>rfl) (λ_=>B.enumerate) (aa (aj false 1) ak)) (jO (λ_=>rfl) (bN (bO 3 nd) (bN (jO (λ_=>rfl) (bN (bO 4 nd) (bN (bO 5 nd) (bN (bO 6 nd) i_)))) i_))) (aG (kZ fP Xb Xw Xx (Eb (λ_=>aP O) (d8 2) (aj false 4)) (aa (jB (aa (aj false 3) (aa aF (aa (aj false 5) ak)))) ak))
  (aX (kZ fP Xb Xw Xx (Eb (λ_=>aP O) (d8 2) (aj false 5)) (aa (jB (aa (aj false 3) (aa (wG qF aF) (aa (aj false 4) ak)))) ak)))))
  (aX (mq 2))))
theorem oW:di ["leading","start","ways","waiting","name","number","side","end"] nl8 (aL gF):=⟨rfl,rfl,rfl,by decide +kernel,rfl,by decide +kernel,by decide +kernel⟩
theorem ye{f:Addr}{fd:Xq}(F:Fun K "ways_from" "ways_from" gF f fd)(B:Blt mg):gJ P w K mg base CX0 1 f fd nl8 (spP ⟨K,mg⟩ dM):=by
 have nd:∀_:Unit,_:=λ_=>oW.nd;refine okP (k:=0) (ob:=(λi=>i==3)) (Pr:=λ_=>false) F oW λJ A outer s H E O=>?_;exact(aG (bM 2 nd (Nt (Gf (aj false 1) (jB ak) Ii)))
  (aG (bM 3 nd (dN (aa (aj false 1) ak)))
  (aG (Hb 1000000 (λ_=>Yg) (yE (jg (aj true 3))) (aG (dF 4 nd (N8 Gd Xb PySem.F.slot_list_pop PySem.F.type_list_pop (d8 3) (aa aF ak)))
  (aX (k_ (λ_=>Yg) (λ_=>rfl) (d7 (fQ 1.18 (aj false 0) (aj false 4))) (jO (λ_=>rfl) (bN (bO 5 nd) (bN (bO 6 nd) (bN (bO 7 nd) i_)))) (aX (gm (cJ (zW (λ_=>aP O)) (aj false 7) (aj false 2)) (aG (xn (cA eQ (fQ 1.18 (aj false 2) (aj false 4)) (jB (aa (jB (aa (aj false 5) (aa (aj false 6) ak))) ak))) (xZ (xq (λ_=>aP O)) (d8 2) (aj false 7)))
  (aX (kZ fP Xb Xw Xx (d8 3) (aa (aj false 7) ak)))) dD))))))
  (aX (mq 2)))))
theorem Ai:di ["names","joinings","leading","placed","found","name","ways"] nl1 (aL m7):=⟨rfl,rfl,rfl,by decide +kernel,rfl,by decide +kernel,by decide +kernel⟩
theorem Jm{f:Addr}{fd:Xq}(F:Fun K "trees" "trees" m7 f fd)(B:Blt mg)(q:lW P w K mg base)(I:rO P w K mg base):gJ P w K mg base CX0 2 f fd nl1 (spP ⟨K,mg⟩ gV):=by
 have nd:∀_:Unit,_:=λ_=>Ai.nd;refine okP (k:=1) (ob:=(λi=>false)) (Pr:=λ_=>false) F Ai λJ A outer s H E O=>?_;exact(aG (bM 2 nd (eG (λ_=>q) 1.11 (aa (aj false 0) (aa (aj false 1) ak))))
  (aG (bM 3 nd MF)
  (aG (bM 4 nd (dN ak))
  (aG (k_ (λ_=>Yg) (λ_=>rfl) (d7 (bc (jQ _ (λ_=>rfl) (tB O) (λ_=>rfl)) (λ_=>rfl) (λ_=>B.sorted) aco (aa (aj false 0) ak))) (bO 5 nd) (aX (gm (cJ (zW (λ_=>aP O)) (aj false 5) (aj false 3)) (aG (bM 6 nd (eG (λ_=>I) 1.11 (aa (aj false 2) (aa (aj false 5) ak))))
  (aG (qC 6 (kZ (Bt (λ_=>rfl)) PySem.F.plainAttrs_dict PySem.F.slot_dict_update PySem.F.type_dict_update (d8 3) (aa (aj false 6) ak)))
  (aX (kZ fP Xb Xw Xx (d8 4) (aa (aj false 6) ak))))) dD)))
  (aX (mq 4))))))
theorem tU:di nl1 nl1 (aL iz):=⟨rfl,rfl,rfl,by decide +kernel,rfl,by decide +kernel,by decide +kernel⟩
def vM:Scope:={kind:=.function,names:=[(".0",.local),("ways",.local),("sorted",.globalImplicit)],isGenerator:=false,isCoroutine:=false}
theorem yx:(["ways"]:List Str).Nodup:=by decide +kernel
theorem yU:bZ (aL iz) nl1 ["ways"] vM [none]:=by trivial
theorem Ck{f:Addr}{fd:Xq}(F:Fun K "classes" "classes" iz f fd)(B:Blt mg)(q:Ec P w K mg base):gJ P w K mg base CX0 3 f fd nl1 (spP ⟨K,mg⟩ bK):=by
 have nd:∀_:Unit,_:=λ_=>tU.nd;refine okP (k:=2) (ob:=(λi=>false)) (Pr:=λ_=>false) F tU λJ A outer s H E O=>?_;exact(aX (fW (jN [none] ob0 (λ_=>rfl) (λ_=>rfl) (λ_=>yU) (eU rfl) (d7 (eG (λ_=>q) 1.11 (aa (aj false 0) (aa (aj false 1) ak)))) (cL 0 (λ_=>yx)) fK (bc (jQ _ (λ_=>rfl) (tB O) (λ_=>rfl)) (λ_=>rfl) (λ_=>B.sorted) aco (aa (aj false 0) ak)))))
theorem rK:di nl2 nl2 (aL iC):=⟨rfl,rfl,rfl,by decide +kernel,rfl,by decide +kernel,by decide +kernel⟩
theorem Aw{f:Addr}{fd:Xq}(F:Fun K "_law_turn" "_law_turn" iC f fd)(B:Blt mg)(I:gn P w K mg base):gJ P w K mg base CX0 2 f fd nl2 (spI ⟨K,mg⟩ ob0 ob0 eE):=by
 have nd:∀_:Unit,_:=λ_=>rK.nd;refine okI (k:=1) (ob:=ob0) (pr:=ob0) F rK λJ A outer s H E O=>?_;exact(aX (Li (iH 1.18 (bU (dN (aa aF (aa aF (aa aF (aa aF (aa aF (aa aF (aa aF (aa aF ak)))))))))) 1.24)))
theorem pY:di nl9 M6 (aL dw):=⟨rfl,rfl,rfl,by decide +kernel,rfl,by decide +kernel,by decide +kernel⟩
def sU:Scope:={kind:=.function,names:=[(".0",.local),("_law_k",.local)],isGenerator:=false,isCoroutine:=false}
theorem uI:(["_law_k"]:List Str).Nodup:=by decide +kernel
theorem tQ:bZ (aL dw) nl9 ["_law_k"] sU [none]:=by trivial
def sr:Scope:={kind:=.function,names:=[(".0",.local),("_law_name",.local),("_law_draw",.globalImplicit),("_law_tape_here",.free)],isGenerator:=false,isCoroutine:=false}
theorem uW:(Vf:List Str).Nodup:=by decide +kernel
theorem tZ:bZ (aL dw) nl9 Vf sr [none,some 0]:=by trivial
def sE:Scope:={kind:=.function,names:=[(".0",.local),("_law_again",.local),("_law_draw",.globalImplicit),("_law_names_here",.free),("_law_tape_here",.free)],isGenerator:=false,isCoroutine:=false}
theorem u9:(TV:List Str).Nodup:=by decide +kernel
theorem uF:bZ (aL dw) nl9 TV sE [none,some 2,some 0]:=by trivial
theorem xW{f:Addr}{fd:Xq}(F:Fun K "_law_great" "_law_great" dw f fd)(B:Blt mg)(I:gn P w K mg base):gJ P w K mg base CX0 2 f fd M6 (spI ⟨K,mg⟩ ob0 ob0 dO):=by
 have nd:∀_:Unit,_:=λ_=>pY.nd;refine okI (k:=1) (ob:=ob0) (pr:=ob0) F pY λJ A outer s H E O=>?_;exact(aG (bM 2 nd (jN [none] ob0 (λ_=>rfl) (λ_=>rfl) (λ_=>tQ) (eU rfl) (xP (λ_=>rfl) (λ_=>B.range) (aa aF ak)) (cL 0 (λ_=>uI)) fK (cA eQ (fQ 1.18 uh (cA kY (aj false 0) aF)) (fQ 1.18 uh (cA yw (aj false 0) aF)))))
  (aG (qC 2 (dF 3 nd (vo (Be (λ_=>rfl)) (λ_=>rfl) (λ_=>B.dict) boot_dict (a_ (tV [none,some 0] ob0 (λ_=>rfl) (λ_=>rfl) (λ_=>tZ) (yM rfl) (eU rfl) (d7 (aj false 2)) (qH 0 (λ_=>uW)) fK (oM (a_ (bU (aj false 0)) (a_ (jc qg (cu [1] (λ_=>I) 1.11 (bG 1 (bF (aQ (aa aF ak))))) (bU aF)) (aQ ak))))) (aQ ak)))))
  (aG (bM 4 nd (dN ak))
  (aG (qC 2 (k_ (λ_=>Yg) (λ_=>rfl) (d7 (aj false 2)) (bO 5 nd) (aX (tR Cv Xb PySem.F.slot_list_insert PySem.F.type_list_insert (d8 4) (a_ (cu [0] (λ_=>I) 1.11 (bG 0 (bF (aQ (aa (cA eQ (bc gK (λ_=>rfl) (λ_=>B.len) ZK (aa (aj false 4) ak)) aF) ak))))) (aQ (aa (aj false 5) ak))) (show KpS 4 _ from by repeat first|exact CJ|exact xG|apply uV|apply Dc|apply JH|apply J_|(apply Dh rfl)|apply Cu)))))
  (aG (bM 6 nd (Ca (λ_=>rfl) (λ_=>B.list_) (λ_=>B.zip) (aa (aj false 4) (aa (Ij slb (aj false 4) (tX aF) ul) ak))))
  (aG (dF 6 nd (jc eQ (bU (aj false 6)) (tV [none,some 2,some 0] ob0 (λ_=>rfl) (λ_=>rfl) (λ_=>uF) (yM rfl) (eU rfl) (xP (λ_=>rfl) (λ_=>B.range) (aa aF ak)) (qH 0 (λ_=>u9)) fK (oM (a_ (iH 1.18 (bU (aj false 1)) (cu [2] (λ_=>I) 1.11 (bG 2 (bF (aQ (aa aF ak)))))) (a_ (iH 1.18 (bU (aj false 1)) (cu [2] (λ_=>I) 1.11 (bG 2 (bF (aQ (aa aF ak)))))) (aQ ak)))))))
  (aG (bM 7 nd (dN ak))
  (aG (qC 6 (k_ (λ_=>Yg) (λ_=>rfl) (d7 (aj false 6)) (jO (λ_=>rfl) (bN (bO 8 nd) (bN (bO 9 nd) i_))) (aX (tR fP Xb Xw Xx (d8 7) (a_ (oM (a_ (bU (aj false 8)) (a_ (bU (aj false 9)) (a_ (jc eQ (bU (cA qg (fQ 1.18 (aj false 3) (aj false 9)) (fQ 1.18 (aj false 3) (aj false 8)))) (jc jl (bU (aj false 1)) (jc qg 1.24 (bU aF)))) (aQ ak))))) (aQ ak)) (show KpS 7 _ from by repeat first|exact CJ|exact xG|apply uV|apply Dc|apply JH|apply J_|(apply Dh rfl)|apply Cu)))))
  (aX (Gv 2 7))))))))))
theorem rm:di nl0 nl0 (aL gj):=⟨rfl,rfl,rfl,by decide +kernel,rfl,by decide +kernel,by decide +kernel⟩
def uG:Scope:={kind:=.function,names:=[(".0",.local),("_law_one",.local),("_law_other",.local),("_law_same",.globalImplicit)],isGenerator:=false,isCoroutine:=false}
theorem nM:(["_law_one","_law_other"]:List Str).Nodup:=by decide +kernel
theorem vN:bZ (aL gj) nl0 ["_law_one","_law_other"] uG [none,none]:=by trivial
theorem jT{f:Addr}{fd:Xq}{n:Nat}{Frec:List D->Option D}(F:Fun K "_law_same" "_law_same" gj f fd)(B:Blt mg)(N:Cal P w K mg base (0+n) "_law_same" nl0 (spP ⟨K,mg⟩ Frec)):gJ P w K mg base CX0 (0+n+1) f fd nl0 (spP ⟨K,mg⟩ (aR Frec)):=by
 have nd:∀_:Unit,_:=λ_=>rm.nd;refine okP (k:=0+n) (ob:=(λi=>false)) (Pr:=λ_=>false) F rm λJ A outer s H E O=>?_;exact(aG (gm (jg (bc dG (λ_=>rfl) (λ_=>B.isinstance) Yh (aa (aj false 1) (aa (jB (aa (lH (λ_=>rfl) (λ_=>B.list_) ab9) (aa (lH (λ_=>rfl) (λ_=>B.tuple) acR) ak))) ak)))) (aG (gm (rB (tY (mZ (jg (bc dG (λ_=>rfl) (λ_=>B.isinstance) Yh (aa (aj false 0) (aa (jB (aa (lH (λ_=>rfl) (λ_=>B.list_) ab9) (aa (lH (λ_=>rfl) (λ_=>B.tuple) acR) ak))) ak))))) (o5 (cJ (rC _ (λ_=>rfl) O.units) (bc dG (λ_=>rfl) (λ_=>B.isinstance) Yh (aa (aj false 0) (aa (lH (λ_=>rfl) (λ_=>B.list_) ab9) ak))) (bc dG (λ_=>rfl) (λ_=>B.isinstance) Yh (aa (aj false 1) (aa (lH (λ_=>rfl) (λ_=>B.list_) ab9) ak))))))) (aX (fW Ex)) dD)
  (aX (fW (yQ (nO (cb_eq _ (λ_=>rfl) O.units) (bc gK (λ_=>rfl) (λ_=>B.len) ZK (aa (aj false 0) ak)) (bc gK (λ_=>rfl) (λ_=>B.len) ZK (aa (aj false 1) ak))) (CK (bc (M9 (λ_=>rfl)) (λ_=>rfl) (λ_=>B.all) boot_all (aa (jN [none,none] (λi=>i==0||i==1) (λ_=>rfl) (λ_=>rfl) (λ_=>vN) (eU rfl) (O2 (λ_=>rfl) (λ_=>B.zip) (aa (aj false 0) (aa (aj false 1) ak))) (Bb (λ_=>rfl) (jm (cL 0 (λ_=>nM)) (jm (cL 1 (λ_=>nM)) ww))) fK (eG (λ_=>N) (λ_=>O.mono 1.10) (aa (aj false 0) (aa (aj false 1) ak)))) ak))))))) dD)
  (aG (gm (rB (tY (cJ T9 (aj false 1) Qm) (o5 (jg (bc dG (λ_=>rfl) (λ_=>B.isinstance) Yh (aa (aj false 1) (aa (lH (λ_=>rfl) (λ_=>B.str_) acS) ak))))))) (aX (fW (yQ (nO (cb_eq _ (λ_=>rfl) O.units) (aj false 0) (aj false 1)) (CK (nO (cb_eq _ (λ_=>rfl) O.units) (bc dG (λ_=>rfl) (λ_=>B.isinstance) Yh (aa (aj false 0) (aa (lH (λ_=>rfl) (λ_=>B.str_) acS) ak))) (bc dG (λ_=>rfl) (λ_=>B.isinstance) Yh (aa (aj false 1) (aa (lH (λ_=>rfl) (λ_=>B.str_) acS) ak)))))))) dD)
  (aX (fW (yQ (bc dG (λ_=>rfl) (λ_=>B.isinstance) Yh (aa (aj false 0) (aa (lH (λ_=>rfl) (λ_=>B.int_) boot_int) ak))) (yQ (nO (cb_eq _ (λ_=>rfl) O.units) (bc dG (λ_=>rfl) (λ_=>B.isinstance) Yh (aa (aj false 0) (aa (lH (λ_=>rfl) (λ_=>B.bool_) boot_bool) ak))) (bc dG (λ_=>rfl) (λ_=>B.isinstance) Yh (aa (aj false 1) (aa (lH (λ_=>rfl) (λ_=>B.bool_) boot_bool) ak)))) (CK (nO (cb_eq _ (λ_=>rfl) O.units) (aj false 0) (aj false 1)))))))))
theorem Ln:di U7 N7 (aL nJ):=⟨rfl,rfl,rfl,by decide +kernel,rfl,by decide +kernel,by decide +kernel⟩
def Ge:Scope:={kind:=.function,names:=[(".0",.local),("_law_one",.local),("_law_other",.local),("_law_step",.local)],isGenerator:=false,isCoroutine:=false}
theorem uU:(Uq:List Str).Nodup:=by decide +kernel
theorem J4:bZ (aL nJ) U7 Uq Ge [none,none,none]:=by trivial
theorem Rj{f:Addr}{fd:Xq}(F:Fun K "law" "law" nJ f fd)(B:Blt mg)(Y:rW P w K mg base)(V:pJ P w K mg base)(q:lE P w K mg base)(Z:lZ P w K mg base)(U:wA P w K mg base)(a1:rZ P w K mg base)(a0:pL P w K mg base)(I:gn P w K mg base)(N:rz P w K mg base):gJ P w K mg base CX0 5 f fd N7 (spP ⟨K,mg⟩ kW):=by
 have nd:∀_:Unit,_:=λ_=>Ln.nd;refine okP (k:=4) (ob:=(λi=>i==2)) (Pr:=λ_=>false) F Ln λJ A outer s H E O=>?_;exact(aG (k_ (λ_=>Yg) (λ_=>rfl) (xP (λ_=>rfl) (λ_=>B.range) (aa (cA eQ aF (bc (zc (λ_=>rfl)) (λ_=>rfl) (λ_=>B.min) boot_min (aa aF (aa (bc gK (λ_=>rfl) (λ_=>B.len) ZK (aa (aj false 0) ak)) ak)))) ak)) (bO 1 nd) (aG (bM 2 nd (eG (λ_=>Y) 1.11 (aa (aj false 0) (aa (aj false 1) ak))))
  (aG (dF 3 nd (cu [2] (λ_=>V) 1.11 (bG 2 (bF (aQ ak)))))
  (aG (dF 4 nd (cu [2] (λ_=>q) 1.11 (bG 2 (bF (a_ (bU (aj false 3)) (a_ (cu [2] (λ_=>a1) 1.11 (bG 2 (bF (aQ ak)))) (aQ ak)))))))
  (aG (FZ (JD (Ax (yE (cJ (cb_eq _ (λ_=>rfl) O.units) (aj false 1) aF)) (wg (Bp (cb_eq _ (λ_=>rfl) O.units) (cu [2] (λ_=>I) 1.11 (bG 2 (bF (aQ (aa aF ak))))) (bU aF))))) (aX (uT (cu [2] (λ_=>a0) 1.11 (bG 2 (bF (aQ (aa aF ak))))) (jO (λ_=>rfl) (bN (bO 3 nd) (bN (bO 4 nd) i_))))) dD)
  (aG (qC 3 (bM 5 nd (eG (λ_=>Z) 1.11 (aa (aj false 3) (aa (aj false 4) ak)))))
  (Kr 4 [3,0] 9 (aG (dF 6 nd (iH 1.18 (bU (dN (aa (jB (aa (aj false 3) (aa (aj false 4) ak))) (aa (jB (aa (j9 v7 (λ_=>rfl) (λ_=>B.tuple) acR (aa (aj false 3) ak)) (aa (j9 v7 (λ_=>rfl) (λ_=>B.tuple) acR (aa (aj false 4) ak)) ak))) ak)))) (cu [2] (λ_=>I) 1.11 (bG 2 (bF (aQ (aa aF ak)))))))
  (aG (bM 7 nd (j9 (Ew _ (λ_=>rfl) O.gd O.units) (λ_=>rfl) (λ_=>B.str_) acS (aa (aj false 6) ak)))
  (aG (bM 8 nd (eG (λ_=>U) 1.11 (aa (fQ 1.18 (aj false 6) aF) (aa (fQ 1.18 (aj false 6) aF) ak))))
  (aG (gm (rB (tY (mZ (jg (eG (λ_=>N) 1.11 (aa (aj false 8) (aa (aj false 5) ak))))) (o5 (cJ (rC _ (λ_=>rfl) O.units) (j9 (Ew _ (λ_=>rfl) O.gd O.units) (λ_=>rfl) (λ_=>B.str_) acS (aa (aj false 6) ak)) (aj false 7))))) (aX (fW Ex)) dD)
  (aG (Io 8 9 (λ_=>Yg) (λ_=>rfl) nd (aX (kZ fP Xb Xw Xx (d8 9) (aa uh ak))))
  (aG (Ib GJ Xb PySem.F.slot_list_clear PySem.F.type_list_clear (d8 8))
  (aG (zy 10 [none,none,none] (λi=>i==0||i==1||i==2) nd (λ_=>rfl) (λ_=>rfl) (λ_=>J4) (eU rfl) (d7 (Ds (aj false 4) (wG qF aF))) (Bb (λ_=>rfl) (jm (cL 0 (λ_=>uU)) (jm (cL 1 (λ_=>uU)) (jm (cL 2 (λ_=>uU)) ww)))) fK (jB (aa (aj false 1) (aa (aj false 0) (aa (wG qF (aj false 2)) ak)))))
  (aG (gm (rB (tY (mZ (jg (eG (λ_=>N) 1.11 (aa (eG (λ_=>U) 1.11 (aa (fQ 1.18 (aj false 6) aF) (aa (fQ 1.18 (aj false 6) aF) ak))) (aa (aj false 5) ak))))) (o5 (mZ (jg (eG (λ_=>N) 1.11 (aa (eG (λ_=>U) 1.11 (aa (Ds (aj false 3) (wG qF aF)) (aa (aj false 10) ak))) (aa (aj false 5) ak)))))))) (aX (fW Ex)) dD)
  (aX (bM 11 nd (eG (λ_=>U) 1.11 (aa (aj false 3) (aa (aj false 4) ak)))))))))))))
  (aG (gm (cJ (rC _ (λ_=>rfl) O.units) (aj false 3) (dN ak)) (aX (tR fP Xb Xw Xx (d8 4) (a_ (oM (a_ (iH 1.18 (bU (aj false 3)) (cu [2] (λ_=>I) 1.11 (bG 2 (bF (aQ (aa (bc gK (λ_=>rfl) (λ_=>B.len) ZK (aa (aj false 3) ak)) ak)))))) (aQ (aa (fQ 1.18 (aj false 3) (wG qF aF)) (aa aF ak))))) (aQ ak)) (show KpS 4 _ from by repeat first|exact CJ|exact xG|apply uV|apply Dc|apply JH|apply J_|(apply Dh rfl)|apply Cu))) dD)
  (aG (bM 12 nd (eG (λ_=>U) 1.11 (aa (aj false 3) (aa (aj false 4) ak))))
  (aX (gm (rB (tY (mZ (jg (eG (λ_=>N) 1.11 (aa (aj false 11) (aa (aj false 5) ak))))) (o5 (mZ (jg (eG (λ_=>N) 1.11 (aa (aj false 12) (aa (eG (λ_=>Z) 1.11 (aa (aj false 3) (aa (aj false 4) ak))) ak)))))))) (aX (fW Ex)) dD)))))))))))
  (aX (fW (nO (cb_eq _ (λ_=>rfl) O.units) (eG (λ_=>U) 1.11 (aa (dN ak) (aa (dN ak) ak))) (dN ak)))))
end
theorem zx{G:Gc}{H:Hp}{W:Wn}:∀ns:List Int,aD G H W (ns.map D.int) (ns.map V.int) []
 |[]=>.nil
 |x::r=>aD.cons (M:=[]) (M':=[]) dI (zx r)
theorem RX{K:Frag}{mg:Str->Option Value}{H:Hp}{a:Addr}{ns:List Int}{Q:VK}{E:XK}(Y:ns.length<=63)(Z:SqL K H a (ns.map V.int))(q:∀H',Q (.bl true) H'):spP ⟨K,mg⟩ kW [.ref a] H Q E:=by
 refine⟨[.lst .scr (ns.map D.int)],λ_=>False,?_,?_,?_,λ_ z=>z.elim,.bl true,Hu ns Y,λv H' L s r fr nd c=>?_⟩
 .refine aD.one (M:=[]) ?_
  rw[Rep];refine⟨a,_,[],rfl,zx ns,?_,rfl,rfl⟩;rcases Z with z|z
  .exact .inl ⟨z,⟨λz=>z,λz=>z,λz=>z⟩⟩
  .exact .inr ⟨_,rfl,z⟩
 .simp[aA,az,bA (ds:=ns.map D.int) (by simp[az])]
 .simp[aB,aq,aZ (ds:=ns.map D.int) (by simp[aq])]
 .rw[(n_ r).1];exact q H'
def Lw(K:Frag):Sp:=λvs H Q _=>∃(a:Addr)(ns:List Int),vs=[.ref a]/\SqL K H a (ns.map V.int)/\ns.length<=63/\∀H',Q (.bl true) H'
theorem all_mk{l:ab6}{w:World}{K:Frag}{h:Heap}{mg:Str->Option Value}{fa f1 f2 f3 f4 f5 f6 f7 f8 f9 e4 e1 e3 e2:Addr}(X:K.In h)(G:h.Ns Wv mg)(p7:mg "law"=some (.ref fa))
  {q5 v1 u3 r8 o5 t4 o2 v0 u2 n1 o3 q6 m8 m9 s1 o8 u7 o9 e7 g1 g2 h7 i0 g7 h8 e0:Option Addr} {sl1 o1 s7 p5 r1 j8 t7 t1 o6 j1 g6 j6 h5:Array (Option Value)} {m4 m5 r9 q4 h6 t8 r2 l0 u9 n8 i8 t5 p4 s2 q0 r5 e6 n5 n0 q7 o4 u6 h4 u0 n9 t3 r3 s9 i3 u4 t9 s4 s0 q9 j2 n3 t2 m0 p0 m1 h0 u1 t6 u8 j9 s5 h3 s8 n7 m6 n6 m2 g9 r7 h9 e8 g0 g8 d3 j5 f0 j7 i6 g5 d4 j4 j0 j3 e5 i9 d8 g3 e9 d5 d7 d6 d2 d9:Value}
  (a1:nsIn K Wv "_law_tape"=some (some (.ref f1))) (l1:K.lookup f1=some ⟨m4,q5,.func (fnOf "_law_tape" "_law_tape" (dm iB) (cG iB) (aL iB) .none m5 r9 q4 v1 h6 t8),sl1⟩) (c1:codeIn K h6 "_law_tape"=true) (V:keepIn K (.ref f1)=true)
  (a2:nsIn K Wv "_law_draw"=some (some (.ref f2))) (l2:K.lookup f2=some ⟨r2,u3,.func (fnOf "_law_draw" "_law_draw" (dm ir) (cG ir) (aL ir) .none l0 u9 n8 r8 i8 t5),o1⟩) (J:codeIn K i8 "_law_draw"=true) (F:keepIn K (.ref f2)=true)
  (a3:nsIn K Wv "_law_names"=some (some (.ref f3))) (l3:K.lookup f3=some ⟨p4,o5,.func (fnOf "_law_names" "_law_names" (dm fD) (cG fD) (aL fD) .none s2 q0 r5 t4 e6 n5),s7⟩) (c3:codeIn K e6 "_law_names"=true) (k3:keepIn K (.ref f3)=true)
  (a4:nsIn K Wv "_law_joinings"=some (some (.ref f4))) (l4:K.lookup f4=some ⟨n0,o2,.func (fnOf "_law_joinings" "_law_joinings" (dm cZ) (cG cZ) (aL cZ) .none q7 o4 u6 v0 h4 u0),p5⟩) (c4:codeIn K h4 "_law_joinings"=true) (k4:keepIn K (.ref f4)=true)
  (a5:nsIn K Wv "_law_classes"=some (some (.ref f5))) (l5:K.lookup f5=some ⟨n9,u2,.func (fnOf "_law_classes" "_law_classes" (dm bV) (cG bV) (aL bV) .none t3 r3 s9 n1 i3 u4),r1⟩) (c5:codeIn K i3 "_law_classes"=true) (k5:keepIn K (.ref f5)=true)
  (a6:nsIn K Wv "ends_by_name"=some (some (.ref f6))) (l6:K.lookup f6=some ⟨t9,o3,.func (fnOf "ends_by_name" "ends_by_name" (dm cW) (cG cW) (aL cW) .none s4 s0 q9 q6 j2 n3),j8⟩) (c6:codeIn K j2 "ends_by_name"=true) (k6:keepIn K (.ref f6)=true)
  (a7:nsIn K Wv "ways_from"=some (some (.ref f7))) (l7:K.lookup f7=some ⟨t2,m8,.func (fnOf "ways_from" "ways_from" (dm gF) (cG gF) (aL gF) .none m0 p0 m1 m9 h0 u1),t7⟩) (c7:codeIn K h0 "ways_from"=true) (k7:keepIn K (.ref f7)=true)
  (a8:nsIn K Wv "trees"=some (some (.ref f8))) (l8:K.lookup f8=some ⟨t6,s1,.func (fnOf "trees" "trees" (dm m7) (cG m7) (aL m7) .none u8 j9 s5 o8 h3 s8),t1⟩) (c8:codeIn K h3 "trees"=true) (k8:keepIn K (.ref f8)=true)
  (a9:nsIn K Wv "classes"=some (some (.ref f9))) (l9:K.lookup f9=some ⟨n7,u7,.func (fnOf "classes" "classes" (dm iz) (cG iz) (aL iz) .none m6 n6 m2 o9 g9 r7),o6⟩) (c9:codeIn K g9 "classes"=true) (k9:keepIn K (.ref f9)=true)
  (n2:nsIn K Wv "_law_turn"=some (some (.ref e4))) (p6:K.lookup e4=some ⟨h9,e7,.func (fnOf "_law_turn" "_law_turn" (dm iC) (cG iC) (aL iC) .none e8 g0 g8 g1 d3 j5),j1⟩) (q3:codeIn K d3 "_law_turn"=true) (i7:keepIn K (.ref e4)=true)
  (o0:nsIn K Wv "_law_great"=some (some (.ref e1))) (u5:K.lookup e1=some ⟨f0,g2,.func (fnOf "_law_great" "_law_great" (dm dw) (cG dw) (aL dw) .none j7 i6 g5 h7 d4 j4),g6⟩) (n4:codeIn K d4 "_law_great"=true) (g4:keepIn K (.ref e1)=true)
  (d0:nsIn K Wv "_law_same"=some (some (.ref e3))) (r4:K.lookup e3=some ⟨j0,i0,.func (fnOf "_law_same" "_law_same" (dm gj) (cG gj) (aL gj) .none j3 e5 i9 g7 d8 g3),j6⟩) (r0:codeIn K d8 "_law_same"=true) (c0:keepIn K (.ref e3)=true)
  (q8:nsIn K Wv "law"=some (some (.ref e2))) (p8:K.lookup e2=some ⟨e9,h8,.func (fnOf "law" "law" (dm nJ) (cG nJ) (aL nJ) .none d5 d7 d6 e0 d2 d9),h5⟩) (t0:codeIn K d2 "law"=true) (s3:keepIn K (.ref e2)=true)
  (z1:nsIn K Wv "abs"=some none)
  (z2:nsIn K Wv "all"=some none)
  (z3:nsIn K Wv "bool"=some none)
  (z4:nsIn K Wv "dict"=some none)
  (z5:nsIn K Wv "enumerate"=some none)
  (z6:nsIn K Wv "int"=some none)
  (z7:nsIn K Wv "isinstance"=some none)
  (z8:nsIn K Wv "len"=some none)
  (z9:nsIn K Wv "list"=some none)
  (p9:nsIn K Wv "min"=some none)
  (k0:nsIn K Wv "range"=some none)
  (o7:nsIn K Wv "sorted"=some none)
  (s6:nsIn K Wv "str"=some none)
  (r6:nsIn K Wv "tuple"=some none)
  (p3:nsIn K Wv "zip"=some none) :
  ∃fd:Xq,(∀(s:V0)(v:Value),acs s fd ⟨[v],[]⟩ [("_law_script",v)])/\∀base:Heap,K.In base->base.Ns Wv mg->gJ l.prog w K mg base CX0 5 fa fd N7 (Lw K):=by
 have e:=p7.symm.trans (mg_of X G q8);cases e;have B:Blt mg:=⟨mg_none_of X G z1,mg_none_of X G z2,mg_none_of X G z3,mg_none_of X G z4,mg_none_of X G z5,mg_none_of X G z6,mg_none_of X G z7,mg_none_of X G z8,mg_none_of X G z9,mg_none_of X G p9,mg_none_of X G k0,mg_none_of X G o7,mg_none_of X G s6,mg_none_of X G r6,mg_none_of X G p3⟩;have F1:=iM (st:=iB) l1 c1 V;have F2:=iM (st:=ir) l2 J F;have F3:=iM (st:=fD) l3 c3 k3;have F4:=iM (st:=cZ) l4 c4 k4;have F5:=iM (st:=bV) l5 c5 k5;have F6:=iM (st:=cW) l6 c6 k6;have F7:=iM (st:=gF) l7 c7 k7;have F8:=iM (st:=m7) l8 c8 k8;have F9:=iM (st:=iz) l9 c9 k9;have i5:=iM (st:=iC) p6 q3 i7;have i4:=iM (st:=dw) u5 n4 g4;have b6:=iM (st:=gj) r4 r0 c0;have m3:=iM (st:=nJ) p8 t0 s3;refine⟨fnOf "law" "law" (dm nJ) (cG nJ) (aL nJ) .none d5 d7 d6 e0 d2 d9,λs v=>.of_eq rfl,λbase _ _=>?_⟩;have b8:rW l.prog w K mg base:=⟨_,_,Ae F1 B,mg_of X G a1,V,F1.binds (ps:=nl4) λ_ _ _ _ _ _ us Y=>match us,Y with|[_,_],_=>rfl⟩;have I:gn l.prog w K mg base:=⟨_,_,Aj F2 B,mg_of X G a2,F,F2.binds (ps:=nl5) λ_ _ _ _ _ _ us Y=>match us,Y with|[_,_],_=>rfl⟩;have b7:pJ l.prog w K mg base:=⟨_,_,xU F3 B I,mg_of X G a3,k3,F3.binds (ps:=nl2) λ_ _ _ _ _ _ us Y=>match us,Y with|[_],_=>rfl⟩;have b0:lE l.prog w K mg base:=⟨_,_,sO F4 B I,mg_of X G a4,k4,F4.binds (ps:=nl6) λ_ _ _ _ _ _ us Y=>match us,Y with|[_,_,_],_=>rfl⟩;have Z:lZ l.prog w K mg base:=⟨_,_,vd F5 B,mg_of X G a5,k5,F5.binds (ps:=nl7) λ_ _ _ _ _ _ us Y=>match us,Y with|[_,_],_=>rfl⟩;have a0:lW l.prog w K mg base:=⟨_,_,sS F6 B,mg_of X G a6,k6,F6.binds (ps:=nl1) λ_ _ _ _ _ _ us Y=>match us,Y with|[_,_],_=>rfl⟩;have b5:rO l.prog w K mg base:=⟨_,_,ye F7 B,mg_of X G a7,k7,F7.binds (ps:=nl8) λ_ _ _ _ _ _ us Y=>match us,Y with|[_,_],_=>rfl⟩;have d1:Ec l.prog w K mg base:=⟨_,_,Jm F8 B a0 b5,mg_of X G a8,k8,F8.binds (ps:=nl1) λ_ _ _ _ _ _ us Y=>match us,Y with|[_,_],_=>rfl⟩;have U:wA l.prog w K mg base:=⟨_,_,Ck F9 B d1,mg_of X G a9,k9,F9.binds (ps:=nl1) λ_ _ _ _ _ _ us Y=>match us,Y with|[_,_],_=>rfl⟩;have b9:rZ l.prog w K mg base:=⟨_,_,Aw i5 B I,mg_of X G n2,i7,i5.binds (ps:=nl2) λ_ _ _ _ _ _ us Y=>match us,Y with|[_],_=>rfl⟩;have O:pL l.prog w K mg base:=⟨_,_,xW i4 B I,mg_of X G o0,g4,i4.binds (ps:=M6) λ_ _ _ _ _ _ us Y=>match us,Y with|[_,_],_=>rfl⟩;have b1:Cal l.prog w K mg base (0+0) "_law_same" nl0 (spP ⟨K,mg⟩ (λ_=>none)):=⟨_,_,J6,mg_of X G d0,c0,b6.binds (ps:=nl0) λ_ _ _ _ _ _ us Y=>match us,Y with|[_,_],_=>rfl⟩;have b2:Cal l.prog w K mg base (0+1) "_law_same" nl0 (spP ⟨K,mg⟩ (aR (λ_=>none))):=⟨_,_,jT (n:=0) b6 B  b1,mg_of X G d0,c0,b6.binds (ps:=nl0) λ_ _ _ _ _ _ us Y=>match us,Y with|[_,_],_=>rfl⟩;have b3:Cal l.prog w K mg base (0+2) "_law_same" nl0 (spP ⟨K,mg⟩ (aR (aR (λ_=>none)))):=⟨_,_,jT (n:=1) b6 B  b2,mg_of X G d0,c0,b6.binds (ps:=nl0) λ_ _ _ _ _ _ us Y=>match us,Y with|[_,_],_=>rfl⟩;have b4:Cal l.prog w K mg base (0+3) "_law_same" nl0 (spP ⟨K,mg⟩ (aR (aR (aR (λ_=>none))))):=⟨_,_,jT (n:=2) b6 B  b3,mg_of X G d0,c0,b6.binds (ps:=nl0) λ_ _ _ _ _ _ us Y=>match us,Y with|[_,_],_=>rfl⟩;have N:rz l.prog w K mg base:=⟨_,_,jT (n:=3) b6 B  b4,mg_of X G d0,c0,b6.binds (ps:=nl0) λ_ _ _ _ _ _ us Y=>match us,Y with|[_,_],_=>rfl⟩;exact gJ.imp (Rj m3 B b8 b7 b0 Z U b9 O I N) λvs H Q E ⟨a,ns,e,hS,Y,q⟩=>by subst e;exact RX Y hS q
theorem walk{l:ab6}{q:WY}{I:List Str}{N:(Str->Option Value)->Heap->Prop}{J:World->Heap->Prop}{d:DefRec}{K:Params->Frag}(hn:l.most=some 63)(B:d.params.defaults=[])
  (O:∀(w:World)(h:Heap),J w h->(K w.params).In h)
  (F:∀(w:World)(mg:Str->Option Value)(fa:Addr)(h:Heap),(K w.params).In h->h.Ns Wv mg->mg d.name=some (.ref fa)->
   ∃fd:Xq,(∀(s:V0)(u:Value),acs s fd ⟨[u],[]⟩ [("_law_script",u)])/\∀base:Heap,(K w.params).In base->base.Ns Wv mg->gJ l.prog w (K w.params) mg base CX0 5 fa fd N7 (Lw (K w.params))) :
  ad8 q I N J l.row.toRowW d [] (λf vs=>adR f vs):=
 L2.walk_of (n:=63) (k:=5) (x:="_law_script") (CX:=λ_=>CX0) (sp:=λw=>Lw (K w.params)) hn (by decide) B ⟨rfl,by decide,by decide,rfl⟩ O F (λ_ _ a ns Y _ Z=>⟨a,ns,rfl,Z,Y,λ_=>rfl⟩) λ_ _ _ _ _ z=>z
end Jb
end
namespace PySem.W.Fast
def tw8627589386793464722:=0
def tw14020384128427950079:=0
def tw11701890108218503309:=0
def tw6776024499038122492:=0
def tw17665203582014604513:=0
def tw5136744174952583698:=0
def tw10174110786807562654:=0
def tw7895838140808552525:=0
def tw11272830250902609073:=0
def tw15427669862327271370:=0
def tw6530461564273626885:=0
def tw16705854036109214421:=0
def tw5951517043273866127:=0
def tw2201999251945158053:=0
def tw5942810812616755268:=0
def tw10358594116074740473:=0
def tw8753171009569709665:=0
def tw1814756363751429473:=0
def tw1924296216403622765:=0
def tw8966733527055916024:=0
def tw4335607097105539668:=0
def tw8890884916168506706:=0
def tw4267599198621379409:=0
def tw16773562322362184642:=0
def tw14692066031318357265:=0
def tw16599560817468574978:=0
def tw11493539350374971567:=0
def tw15949550192790867564:=0
def tw6360454100514443385:=0
def tw5588399931464206459:=0
def tw18404000630826422351:=0
def tw611961286178588425:=0
def tw8078883238444704748:=0
def tw10456550662056852513:=0
def tw287776358590353104:=0
def tw5276666693428542445:=0
def tw1752088826291462979:=0
def tw14256345300667023396:=0
def tw17182757091388687774:=0
def tw7858371678179470815:=0
def tw10644393986507613089:=0
def tw5964039510097017716:=0
def tw17246563948252301278:=0
def tw94793953654538850:=0
def tw15452838774936458793:=0
def tw10543827714134193777:=0
def tw4478247874822371805:=0
def tw16548701060167076702:=0
def tw16712472122402682381:=0
def tw9633905723638578877:=0
def tw15397429473799650519:=0
def tw18022023988941538066:=0
def tw13922738381344611172:=0
def tw11766103036277637172:=0
def tw15176989485837839993:=0
def tw5602099778153916828:=0
def tw1012492892634668651:=0
def tw9063306235374248867:=0
def tw3150700940253248894:=0
def tw5441449734283668160:=0
def tw12994891404326781127:=0
def tw5732804221397319214:=0
def tw17796554033715410029:=0
def tw12787648477568676057:=0
def tw10350014208713474196:=0
def tw1262925146025669952:=0
def tw18288236314702138901:=0
def tw16925063535452548520:=0
def tw14409489253713963050:=0
def tw17673388255520555685:=0
def tw5329905110543623762:=0
def tw5506274777567278817:=0
def tw6457845788819765683:=0
def tw4776927999459750284:=0
def tw13172683842099574039:=0
def tw9243330928651698085:=0
end PySem.W.Fast
open PySem PySem.W PyProof.Rows
set_option maxRecDepth 100000 in
set_option maxHeartbeats 0 in
theorem PySem.Challenge.cw_joinback_k03_classes_holds : PySem.Challenge.rw_joinback_k03_classes.Holds := by
 w_on;o_law;k_head;(case hw=>w_witness2)
 k_fill
 refine Jb.walk (l:=PySem.Challenge.rw_joinback_k03_classes) rfl rfl (λw h Y=>PySem.W.kIn_of Y) ?F
 case F=>
  intro w mg fa h KX G hmg;refine' Jb.all_mk KX G hmg ?_ ?_ ?_ ?_ ?_ ?_ ?_ ?_ ?_ ?_ ?_ ?_ ?_ ?_ ?_ ?_ ?_ ?_ ?_ ?_ ?_ ?_ ?_ ?_ ?_ ?_ ?_ ?_ ?_ ?_ ?_ ?_ ?_ ?_ ?_ ?_ ?_ ?_ ?_ ?_ ?_ ?_ ?_ ?_ ?_ ?_ ?_ ?_ ?_ ?_ ?_ ?_ ?_ ?_ ?_ ?_ ?_ ?_ ?_ ?_ ?_ ?_ ?_ ?_ ?_ ?_ ?_
  any_goals k_is
