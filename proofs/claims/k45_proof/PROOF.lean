import PyProof.Rows.All
import Wide.All
import OpenK.AllK
import Wide.FinOn
import Lean
import PyProof.EqAt
import PyProof.EqKinds
import PyProof.TupleCall
import KE.KDictList
import KE.KMinBuiltin
import KE.KSortTup
import PyProof.AttrMissHeap
import PyProof.NeKinds
import PyProof.Rows.CallKwBuiltin
import PyProof.TupleIter
import PyProof.TupleOfSeq
import PySem.Challenge.RW_joinback_k45_most_together
set_option Elab.async false
set_option linter.all false
set_option compiler.extract_closed false
set_option maxRecDepth 100000
set_option hygiene false
local macro_rules
 |`(tactic|simp![$x,*]$[$l:location]?)=>`(tactic|simp only[$x,*]$[$l:location]?)
set_option hygiene true
open Lean.Parser.Command Lean.Parser.Term in
local macro_rules
 |`(command|def $i:declId $s:optDeclSig := $v)=>`(command|noncomputable def $i $s := $v)
 |`(command|def $i:declId $s:optDeclSig $[$a:matchAlt]*)=>`(command|noncomputable def $i $s:optDeclSig $[$a:matchAlt]*)
section
def X7:=@if_pos
def Yc:=@if_neg
def Yd:=@if_true
def YH:=@decide_eq_false
def Zi:=@if_false
def Zw:=@decide_eq_true
def ZL:=@getElem?_pos
def aau:=@decide_eq_true_eq
def abt:=@or_false
open PySem renaming wpAny_bind->gD,wpAny_pure->yr,Shared->Mx,sizeLine->X3,starEach->X_,mainGlobals->Ye,Program->YG,compareOp->YK,wpAny_newObj_type->YQ,FuncData->Y9,wpAny_holding->Y_,wpAny_callSpecial?_slot->Zb,Around->Zc,codeAny_builtin->Zd,wpAny_setField_rec->Zh,rawInt->Zk,codeAny_call_builtin->Zm,plainId_quiet->Zo,wpAny_mono->Zr,assignEach->Zt,foldedSetIterable->ZF,binaryOp->ZR,bootBuiltins->Z6,wpAny_seqItems->aaa,wpAny_truthy_bool->aab,codeAny->aag,backTo->aah,wpAny_isInstance->aam,wpAny_rule->aap,wpAny_setState_of->aav,pyNext->aax,mem_of_lookup->aay,IsPair->aaz,boot_len->aaE,wpAny_Call_Name_kw->aaG,wpAny_typeOf->aaH,wpAny_passesOwn->aaJ,wpAny_standAt->aaP,wpAny_pyIter_list->aaT,sysModules->aaW
open PySem renaming wpAny_of_eq->aa0,holding->aa2,SetTable->abb,wpAny_askSetting->abd,swapsWithSole->abj,wpAny_attempt->abk,pickOrder->abo,codeAny_mono->abx,IsPart->aby,firstArgMember->abz,builtinLookup_eq_fast->abA,wpAny_tryCatch->abB,swapsWith->abD,scanBound->abE,wpAny_call_entry->abG,sliceBounds->abK,unsupported->abL,wpAny_letGo->abM,letOwnedTupleGo->abP,wpAny_updateSeq->abR,assign->abU,tupleKind_room_in1->abX,wpAny_comprehension_free->abY,seqItems?->ab0,wpAny_load->ab3,isSubtype_type->ab4,wpAny_pyIter_enum->aca,wpAny_pyNext_list_item->acg,sizeLine_eq->ach,wpAny_field->ack,wpAny_throw->acp,swappedStores->acs,behindInMarks->acu,NameKind->acx,wpAny_pyIter_zip->acC,wpAny_pyNext_list_end->acE,wpAny_execs_nil->acK,typeLookup_type->acM,wpAny_updateSeq_pair->acQ,getItem->acW
open PySem renaming Keyword->acX,newList->acY,attributeBase->adf,wpAny_letOwnedTupleGo_enum->adg,wpAny_handled->adh,wpAny_onRaise->adk,slot_list_getitem->adm,call_meets->adA,wpAny_letOwnedTupleGo_zip->adB,valueAt->adE,callerA->adF,Paired->adG,noFill_tuple_add->adJ,wpAny_getItem_list_slice->adK,relayAll->adR,tupleKind->adX,exec_Assign_arm->adZ,PassesOwn->ad0,wpAny_ite_split->ad4,keywordEach->ad9,isTrue->aed,pyIter->aee,Result->aeg,BindsTo->aeh,wpAny_notOrdered_dict->aek,wpAny_newTuple->aem,wpAny_runValue->aeo,setNext->aep,ItemsOf->aer,typeLookup->aev,PlainAttrs->aex,wpAny_newFunctionEnv->aeB,attributeErrorLeaves->aeC,entryFor->aeD,assignInOrder->aeK,seq_tuple_add->aeL,evalPart_none->aeM,wpAny_newList->aeO,holding->aeP,wpAny_dictSet_pairs->aeT
open PySem renaming concat_meets->ae4,seqIndex_neg->ae5,Fin->ae9,updateSeq->afe,standAt->afi,collect->afl,list_append->afp,seqIndex_of->afx,call->afK
open PySem.Heap renaming get?_push_of_some->qb,lt_size->XR,get?_push_size->X4,get?_update_other->Y8,size_push->Ze,SameBut->aaF,get?_update_self->aaK,get?_update_ne->aeX,size_update->afE,IsSliceOf->afX
open Option renaming bind_some->Xz,map_some->Yq,bind_none->ZW,getD_some->aaD,map_eq_some_iff->acn,isSome_map->adn,isSome_iff_exists->adI,getD_none->afC
open List renaming mem_append->XC,mem_append_right->XD,getElem?_eq_some_iff->XF,map_cons->XH,mem_cons->XJ,mem_map->XM,map_map->XN,getElem?_eq_getElem->XX,length_map->X5,mem_append_left->X6,nodup_append->Yb,getElem?_cons_zero->Yg,mem_singleton->Yh,mem_cons_of_mem->Yi,length_cons->Yj,append_nil->Ym,nodup_cons->Yn,getElem?_cons_succ->Yo,range->Yp,map_congr_left->Yr,mem_of_getElem?->Yt,Perm->Yu,cons_append->Yv,mem_cons_self->Yw,length_nil->Yx,map_nil->Yy,map_append->YB,set_cons_succ->YJ,getElem?_append_left->YL,findIdx?_eq_some_iff_getElem->YM,set_cons_zero->YZ,replicate->Y5,getElem_of_mem->Y7,length_append->Zg,getD_eq_getElem?_getD->Zj,getElem?_append_right->Zv,pairwise_cons->Zz,not_mem_nil->ZC,findIdx?_eq_none_iff->ZD,mem_range->ZJ
open List renaming Sublist->ZZ,length->Z0,sublist_append_right->Z3,getElem_mem->Z7,mem_filter->aae,getElem_cons_drop->aak,getElem?_eq_none_iff->aan,pairwise_iff_getElem->aao,find?_cons->aar,take_add_one->aas,append_assoc->aat,flatten_cons->aaw,drop_length->aaC,perm_append_comm->aaN,foldl_cons->aaO,perm_ext_iff_of_nodup->aaR,pairwise_map->aaV,drop_eq_getElem_cons->aaY,map_id->aa1,length_take->aa6,length_drop->aa7,sublist_append_left->aa_,take_length->abf,mem_flatten->abg,filterMap_cons->abh,Pairwise->abm,take_of_length_le->abq,drop_eq_nil_of_le->abr,eq_nil_of_length_eq_zero->abv,getElem?_eq_none->abC,pairwise_append->abH,all_cons->abI,reverse_cons->ab_,getElem?_set->acb,getElem?_set_self->acf,range_succ_eq_map->aco,eraseIdx_append_of_length_le->acq,any_cons->acv,nil_sublist->acy,any_eq_true->acz
open List renaming all_eq_true->acA,countP_cons->acB,length_singleton->acF,take_append_drop->acG,mem_iff_getElem?->acH,set_append_right->acI,pairwise_flatten->acJ,of_mem_zip->acL,length_pos_iff->acS,flatten_append->acT,mem_filterMap->ac4,length_range->ado,ext_getElem?->adp,getElem?_inj->adt,reverse_perm->ady,getElem_inj->adH,lookup_cons->adL,set_eq_of_length_le->adN,ext_getElem->adP,zip->adQ,flatten_nil->adU,getElem?_replicate->adV,forIn_cons->ad3,pairwise_lt_range->aeb,length_pos_of_mem->aec,drop_zero->ael,getElem?_toArray->aeq,length_filter_le->aeu,getElem?_of_mem->aeF,length_eraseIdx->aeG,sum_cons->aeQ,getElem?_range->aeV,length_reverse->aeW,length_zipWith->aeY,all_map->ae7,findIdx?_cons->ae_,toArray->afb,filter_congr->afv,map_fst_zip->afG,map_snd_zip->afH
open List renaming zipIdx_cons->afI,filter_cons->afJ,zipIdx_nil->afN,filter_map->afR,forIn_nil->afY
open Nat renaming le_refl->XQ,ne_of_lt->X8,lt_of_lt_of_le->Yk,lt_irrefl->Zn,le_trans->Zq,ne_of_gt->Zx,lt_succ_of_lt->Z2,zero_le->aai,lt_succ_self->aaB,le_of_lt->aa5,sub_self->aa9,zero_add->aba,not_lt_zero->acR,le_succ->ac1,lt_trichotomy->adv,mul_le_mul_right->aeH,eq_zero_or_pos->afc,succ_ne_self->afF,not_lt->afO
open PySem.W renaming Frag->XS,kia_one->ZQ,fnOf->abV,kitx_list->ab8,kitx_dict->ab9,kitOne->acU,keepIn->acV,kitAny->acZ,methodObj->adl,kas_kind->adO,instObj->adY,OpenLaw->ad2,cellsFrom_some->ad7,lookIn->aef,codeIn->aei,kitx_float->ae1,kitx_tuple->ae2,kitx_none->afm,kitx_bool->afn,plainGet->afy,kitx_int->afz,kitx_str->afA,kitx_own->afB,findIn->afT,WalkO->af2
open Array renaming getD_eq_getD_getElem?->Yl,length_toList->Y0,getElem_toList->ZV,getElem?_toList->aaL,getElem?_eq_none->abu,toList_push->adw
open Bool renaming and_eq_true->Ys,false_eq_true->Yz,false_ne_true->YS,and_self->aal,and_true->abl,eq_iff_iff->abQ,not_true->acw,or_eq_true->acN,and_eq_true_iff->aeA,and_assoc->afV,and_false->afW
open Ne renaming symm->YC
open PySem.Value renaming ref->YD,none->YT,type->Z_,int->aad,str->abT,bool->adz,float->afw,isStrOf->af1
open Sum renaming inr->YF,inl->aaA
open PySem.Around renaming under_plainId->YW
open PySem.Builtin.Slice renaming slicePlaces->YX,sliceAdjust->Y6,sliceApplied->aaQ
open Option.some renaming inj->Y4,injEq->aac
open PySem.Builtin.Str renaming occurrences->Za,strKind->abN,partsBetween->abZ
open PyProof.Rows renaming slot_tuple_getitem->Zf,boot_isinstance->Z5,callWith_type1->aaf,seqObj->ab1,envOfC->aci,AllBare->acD,get?_update_seq->acP,boot_sorted->ac2,assignInOrder_cons->ac3,subscriptTail->ade,subscriptTail_builtinR->ad8,mirror_perm->aea,tail_any->aew,boot_tuple->aeI,boot_str->aeJ,entry_tuple_getitem->aeR,boot_list->afh,IntsAre->afj
open PySem.F renaming plainAttrs_list->Zu,slot_list_append->ZM,type_list_append->ZP,slot_tuple_iterator_next->ZX,plain_max_loop->Z1,slot_list_getattribute->aa8,called_set->abe,slot_zip_next->abn,args_tuple_add_2->abW,entry_tuple_add->ab6,plain_list_iadd->ace,slot_tuple_add->acj,entry_max_loop->acr,args_tuple_iterator_next_1->ac0,entry_tuple_iterator_next->ac7,plain_extend_loop->adC,entry_proto_collect->aes,plain_proto_collect->aet,args_list_append_2->aez,args_dict_update_2->aeE,entry_list_append->aeS,entry_dict_update->aeU,slot_list_append->ae6,slot_dict_update->ae8,args_zip_next_1->afs,entry_list_iadd->afu
open True renaming intro->Zy
open Int renaming toNat_natCast->ZG,le_refl->Z9,le_trans->acO,le_of_lt->afa,emod_lt_of_pos->afg,emod_nonneg->afQ
open PySem.Str renaming ofString->ZK,length_append->abw
open PySem.Obj renaming mapSeq->ZS,data_mapFields->ac6,isFreed_of_fields->aej,cls_mapFields->afr,putSet->afP
open PySem.PassesOwn renaming never->Z4
open Function renaming comp->Z8
open Or renaming inr->aaj,inl->aaS
open PySem.Builtin.Tuple renaming tupleExact->aaq,tupleItemsOf->adb
open PySem.Builtin.List renaming listExtendWith->aaI,listLengthHint->abF,listSameRef->adS
open ForInStep renaming yield->aaM
open List.Sublist renaming refl->aaU
open False renaming elim->aaX
open PySem.Builtin.SmallTypes renaming nextOf->aaZ,stopIteration->adi,ownedTupleFields->afk,newRecord->afU
open PySem.PyData renaming hasDict->aa3,shownAll->abp,showable->abS,showableAll->ac9,hasDictAll->adq,shown->adT,depthAll->ad5
open PySem.SetTable renaming grown->aa4,insertAt->aft,Probe->afZ,fits->af5
open PySem.Builtin.Dict renaming updateFrom->abi,selfAndRest->adM
open Prod.mk renaming injEq->abJ
open PySem.Heap.SameBut renaming update->abO
open List.Pairwise renaming imp_of_mem->ab2,nil->afq
open List.Perm renaming refl->ab5,mem_iff->adu,trans->afS
open PyProof.Rows.F renaming plain_set_update_loop->ab7,entry_set_update_loop->adW
open PySem.SetTable.below renaming go->acd
open PySem.Heap.IsSliceOf renaming new->ac5
open PySem.Builtin.Builtins renaming bindParams->ac8
open PySem.Paired renaming length->ac_
open PySem.Calls renaming Name_function_global->ada,callWith_builtin->ad_,evalArgs_plain->aey,spliced_cons->ae3,spliced_nil->afo
open PySem.SetTable.probe renaming go->adx
open Classical renaming byContradiction->adD
open PySem.Heap.DictOf renaming new->ad1
open PySem.Challenge renaming pw_joinback_k45_most_together->ad6
open PySem.W.Looks renaming of_pure->aen
open PySem.NameKind renaming free->aeN
open PySem.SeqAt.EqAt renaming int_str->aeZ,str_int->ae0
open PySem.pickOrder renaming go->afd
open PySem.IsL renaming update->afD
open List.cons renaming injEq->afL
open PySem.Walks renaming list->afM
open PySem.Builtin.Frozenset renaming updateFrom->af0,newClass->af3,addrOf->af6,sizeOf->af7,slot0->af8
open PySem.Shared renaming TypeIs->af4
open PySem
variable{XP:(Str->Option Value)->Heap->Prop}{a it f dx sl l S:Addr}{A:Around}{g' g:Array GenState}{p xs:Array Nat}{items:Array Value}{b:Bool}{op:CmpOp}{d' d:Drawn}{env:Env}{e c tg elt target:Expr}{h h' base:Heap}{C:Int->Int->Prop}{pins:List (Addr×Obj)}{ks rs:List (List Str)}{vs:List (κ×Value)}{ch M fp Z L:List Addr}{es J ifs elts:List Expr}{zs:List Int}{js:List Nat}{N ps ns N' ys:List Str}{us its:List Value}{s' Y:Mx}{t' i j n tk x1 ep:Nat}{ob pr:Nat->Bool}{tn:Nat->Heap->Prop}{ρ:Nat->Int}{o:Obj}{pos pos' apos cpos pos2 tpos p1 q1:Pos}{prog:Program}{R:Result->Shared->Prop}{scope:Scope}{s:Shared}{x name nm:Str}{mg:Str->Option Value}{q:Str->Option acx}{T:String}{κ α β ι:Type}{u v:Value}{Q:Value->Mx->Prop}{E:Value->Shared->Prop}{w:World}{YP:World->Heap->Prop}{fd:Y9}{P:YG}
namespace L2
open PySem PySem.Spec PyProof.Rows
abbrev Key:=Sum Int Str
def pF:Key->Value->Bool
 |.inl k,v=>Value.isInt k v
 |.inr x,v=>af1 x v
def Xl(w:World):Key->Int
 |.inl k=>hashInt k
 |.inr x=>hashStr w x
theorem cH:∀{k:Key}{v:Value},pF k v=true->(∃i t,k=aaA i/\v=aad i t)∨(∃x t,k=YF x/\v=abT x t)
 |.inl i,v,h=>by
  obtain⟨t,e⟩:=Value.isInt_shape (k:=i) (v:=v) h;exact .inl ⟨i,t,rfl,e⟩
 |.inr x,v,h=>by
  obtain⟨t,e⟩:=Value.isStrOf_shape (x:=x) (v:=v) h;exact .inr ⟨x,t,rfl,e⟩
theorem Ih(i:Int)(t:Tok):pF (.inl i) (.int i t)=true:=by simp[pF,Value.isInt]
theorem HR(x:Str)(t:Tok):pF (.inr x) (.str x t)=true:=by simp[pF,af1]
theorem R_(a b:Int):decide ((aaA a:Key)=aaA b)=(a==b):=by
 by_cases e:a=b
 .subst e;simp
 .have h:¬(aaA a:Key)=aaA b:=λq=>e (Sum.inl.inj q)
  rw[YH h];exact(beq_eq_false_iff_ne.mpr e).symm
theorem Us(a b:Str):decide ((YF a:Key)=YF b)=decide (a=b):=by
 by_cases e:a=b
 .subst e;simp
 .have h:¬(YF a:Key)=YF b:=λq=>e (Sum.inr.inj q)
  rw[YH h,YH e]
theorem U0(a:Int)(b:Str):decide ((aaA a:Key)=YF b)=false:=YH (λq=>nomatch q)
theorem Uy(a:Str)(b:Int):decide ((YF a:Key)=aaA b)=false:=YH (λq=>nomatch q)
noncomputable def bz(prog:YG)(w:World):PySem.KeyKind prog w Key where
 is:=pF
 hash:=Xl w
 inj:=λv a b Y U=>by
  rcases cH Y with⟨i,t,rfl,rfl⟩|⟨x,t,rfl,rfl⟩
  .rcases cH U with⟨j,u,rfl,e⟩|⟨y,u,rfl,e⟩
   .injection e with e1 _;rw[e1]
   .exact nomatch e
  .rcases cH U with⟨j,u,rfl,e⟩|⟨y,u,rfl,e⟩
   .exact nomatch e
   .injection e with e1 _;rw[e1]
 byValue:=λk v h=>by
  rcases cH h with⟨i,t,rfl,rfl⟩|⟨x,t,rfl,rfl⟩<;>rfl
 pyHash:=λZ h=>by
  rcases cH Z with⟨i,t,rfl,rfl⟩|⟨x,t,rfl,rfl⟩
  .exact wpAny_pyHash_int h
  .exact wpAny_pyHash_str h
 eqBool:=λO Z h=>by
  rcases cH O with⟨i,t,rfl,rfl⟩|⟨x,t,rfl,rfl⟩
  .rcases cH Z with⟨j,u,rfl,rfl⟩|⟨y,u,rfl,rfl⟩
   .rw[R_]at h;exact wpAny_eqBool_int h
   .rw[U0]at h;exact aeZ i t y u _ _ _ _ h
  .rcases cH Z with⟨j,u,rfl,rfl⟩|⟨y,u,rfl,rfl⟩
   .rw[Uy]at h;exact ae0 x t j u _ _ _ _ h
   .rw[Us]at h;exact wpAny_eqBool_str h
 «strs»:=λk x t v h=>by
  rcases cH h with⟨i,u,rfl,e⟩|⟨y,u,rfl,e⟩
  .exact nomatch e
  .injection e with e1 _
   subst e1;cases v<;>rfl
theorem Bs(prog:YG)(w:World)(i:Int)(t:Tok):(bz prog w).is (.inl i) (.int i t)=true:=Ih i t
theorem By(prog:YG)(w:World)(x:Str)(t:Tok):(bz prog w).is (.inr x) (.str x t)=true:=HR x t
inductive V where
 |non|bl (b:Bool)|int (i:Int)|str (x:Str)|byt (b:Array UInt8)|flt (b:UInt64)|ref (a:Addr)|ty (n:String)
 deriving DecidableEq
def RelV:V->Value->Prop
 |.non,u=>u=YT
 |.bl b,u=>u=adz b
 |.int i,u=>∃t,u=aad i t
 |.str x,u=>∃t,u=abT x t
 |.byt b,u=>∃t,u=Value.bytes b t
 |.flt b,u=>∃t,u=afw b t
 |.ref a,u=>u=YD a
 |.ty n,u=>u=Z_ n
noncomputable abbrev Vals:List V->List Value->Prop:=adG RelV
variable{xs:List V}
theorem Vals.length(r:Vals xs us):xs.length=us.length:=ac_ r
theorem Vals.get:∀{xs:List V}{us:List Value}{i:Nat}{x:V},Vals xs us->xs[i]? =some x->∃u,us[i]? =some u/\RelV x u
 |_,_,_,_,.nil,e=>by simp at e
 |_,_,0,_,.cons r _,e=>by simp at e;subst e;exact⟨_,rfl,r⟩
 |_,_,i+1,x,.cons _ t,e=>by
  obtain⟨u,h1,h2⟩:=Vals.get (i:=i) (x:=x) t (by simpa using e);exact⟨u,by simpa using h1,h2⟩
theorem Vals.set{x:V}(r:RelV x u):∀{xs:List V}{us:List Value}(i:Nat),Vals xs us->Vals (xs.set i x) (us.set i u)
 |_,_,_,.nil=>.nil
 |_,_,0,.cons _ t=>.cons r t
 |_,_,i+1,.cons q t=>.cons q (Vals.set r i t)
theorem Vals.append:∀{xs ys:List V}{us Y:List Value},Vals xs us->Vals ys Y->Vals (xs++ys) (us++Y)
 |_,_,_,_,.nil,s=>s
 |_,_,_,_,.cons r t,s=>.cons r (Vals.append t s)
theorem Vals.take:∀{xs:List V}{us:List Value}(n:Nat),Vals xs us->Vals (xs.take n) (us.take n)
 |_,_,0,_=>.nil
 |_,_,_+1,.nil=>.nil
 |_,_,n+1,.cons r t=>.cons r (Vals.take n t)
theorem Vals.drop:∀{xs:List V}{us:List Value}(n:Nat),Vals xs us->Vals (xs.drop n) (us.drop n)
 |_,_,0,r=>r
 |_,_,_+1,.nil=>.nil
 |_,_,n+1,.cons _ t=>Vals.drop n t
def vZ:Option V->Option Value->Prop
 |some v,some u=>RelV v u
 |none,none=>True
 |_,_=>False
def KV:List (κ×V)->List (κ×Value)->Prop:=adG λ(p:κ×V)(q:κ×Value)=>p.1=q.1/\RelV p.2 q.2
def kV:Key->V
 |.inl i=>.int i
 |.inr x=>.str x
inductive HO where
 |lst (xs:List V)
 |tup (xs:List V)
 |dK (kvs:List (Key×V))|dT (kvs:List (List Key×V))
 |set (S:Int->Bool) (n:Nat)
 |ins (C dx:Addr) (fs:List (Str×V))
 |own (x:Addr)
 |xd (fs:List (Str×V))
 |met (f x:Addr)
 |rng (lo hi:Int)
 |frz (o:Obj) (u:HO)
 |tbl (ps:Array Value)
 |ext (φ:Heap->Prop)
abbrev Hp:=Addr->Option HO
def upd(H:Hp)(a:Addr)(o:HO):Hp:=λb=>if b=a then some o else H b
variable{H:Hp}{o:HO}
theorem aU:upd H a o a=some o:=by unfold upd;rw[X7 rfl]
variable{b:Addr}
theorem aM(h:b≠a):upd H a o b=H b:=by unfold upd;rw[Yc h]
theorem FZ{u:HO}:upd (upd H a o) a u=upd H a u:=by
 funext b;unfold upd;split<;>rfl
theorem Fo{u:HO}(h:H a=some o)(h':H b=some u)(d:o≠u):a≠b:=by
 intro e;subst e;rw[h]at h';exact d (Y4 h')
theorem aY(h:H a=some o)(h':H b=none):a≠b:=by
 intro e;subst e;rw[h]at h';cases h'
def kW(h:Heap)(a:Addr)(items:Array Value):Prop:=∃o,h.get? a=some o/\o.cls= .type "tuple"/\∃n,o.data= .seq items n/\o.dict=none
theorem kW.new(h:Heap)(items:Array Value):kW (h.push {cls:=.type "tuple",data:=.seq items}) h.objs.size items:=⟨_,X4 _ rfl,rfl,_,rfl,rfl⟩
theorem kW.t(x:kW h a items):IsTup h a items:=let⟨o,e,c,n,d,_⟩:=x;⟨o,e,c,n,d⟩
section
variable(P:Program)(w:World)
def cI(H:Hp)(h:Heap)(a:Addr):HO->Prop
 |.lst xs=>xs.length<=X3/\∃(its:List Value)(n:Nat),Vals xs its/\h.get? a=some {cls:=.type "list",data:=.seq its.toArray n}
 |.tup xs=>xs.length<=X3/\∃its:List Value,Vals xs its/\kW h a its.toArray
 |.dK kvs=>kvs.length<=X3/\(a==aaW)=false/\∃vs,KV kvs vs/\h.DictOf (bz P w) a vs
 |.dT kvs=>kvs.length<=X3/\(a==aaW)=false/\∃xs:List (List Key×Addr×Value),
  adG (λ(p:List Key×V)(q:List Key×Addr×Value)=>p.1=q.1/\H q.2.1=some (.tup (p.1.map kV))/\RelV p.2 q.2.2) kvs xs/\
  ∃o es ep,h.get? a=some o/\o.ExactDict/\o.data= .dict es ep/\es.toList=xs.map (entryOfKey (adX (bz P w)))/\(xs.map (·.1)).Nodup
 |.set S n=>h.SetOf (intKind P w) a S n
 |.ins C dx fs=>H dx=some (.own a)/\fs.length<=1000/\dx≠a/\h.get? a=some (adY C dx)/\
  ∃F,h.Ns1 dx F/\(∀f,vZ (fs.lookup f) (F f))/\PySem.Within F (fs.map (·.1))
 |.own _=>∃o,h.get? a=some o
 |.xd fs=>∃F,h.Ns1 a F/\∀f,vZ (fs.lookup f) (F f)
 |.rng lo hi=>∃t u v,h.get? a=some {cls:=.type "range",data:=.fields #[.int lo t,.int hi u,.int 1 v]}
 |.frz o u=>h.get? a=some o/\cI H h a u
 |.tbl ps=>h.get? a=some {cls:=.none,data:=.fields ps}
 |.met f x=>h.get? a=some (adl (.ref f) (.ref x))
 |.ext Y=>Y h/\(∃o,h.get? a=some o)/\∀h1 h2:Heap,Y h1->(∀o,h1.get? a=some o->h2.get? a=some o)->Y h2
def HOk(H:Hp)(h:Heap):Prop:=∀a o,H a=some o->cI P w H h a o
end
variable{P:Program}
theorem cI.lt(x:cI P w H h a o):a<h.objs.size:=by
 cases o with
 |lst xs=>obtain⟨_,_,_,_,e⟩:=x;exact XR e
 |tup xs=>obtain⟨_,_,_,p⟩:=x;exact p.t.lt
 |dK kvs=>obtain⟨_,_,_,_,o,_,_,e,_⟩:=x;exact XR e
 |dT kvs=>obtain⟨_,_,_,_,o,_,_,e,_⟩:=x;exact XR e
 |set S n=>obtain⟨o,_,_,_,e,_⟩:=x;exact XR e
 |ins C dx fs=>obtain⟨_,_,_,e,_⟩:=x;exact XR e
 |own y=>obtain⟨_,e⟩:=x;exact XR e
 |xd fs=>obtain⟨_,⟨_,_,_,e,_⟩,_⟩:=x;exact XR e
 |rng lo hi=>obtain⟨_,_,_,e⟩:=x;exact XR e
 |frz ob u=>obtain⟨e,_⟩:=x;exact XR e
 |tbl ps=>exact XR (show h.get? a=some _ from x)
 |met f y=>exact XR (show h.get? a=some _ from x)
 |ext Y=>obtain⟨_,⟨_,e⟩,_⟩:=x;exact XR e
theorem Paired.mapP{F G:α->β->Prop}:∀{q:List α}{J:List β},adG F q J->(∀a b,F a b->G a b)->adG G q J
 |_,_,.nil,_=>.nil
 |_,_,.cons r t,f=>.cons (f _ _ r) (Paired.mapP t f)
variable{H':Hp}
theorem cI.stay(x:cI P w H h a o)(k:∀b u,(b=a∨H b=some (.own a))->h.get? b=some u->h'.get? b=some u)
  (N:∀b,H b=some (.own a)->H' b=some (.own a)) (U:∀b xs,H b=some (.tup xs)->H' b=some (.tup xs)):cI P w H' h' a o:=by
 induction o with
 |lst xs=>obtain⟨z,its,n,r,e⟩:=x;exact⟨z,its,n,r,k _ _ (.inl rfl) e⟩
 |tup xs=>obtain⟨z,its,r,ob,e,c⟩:=x;exact⟨z,its,r,ob,k _ _ (.inl rfl) e,c⟩
 |dK kvs=>obtain⟨z,y,vs,r,ob,es,ep,e,c⟩:=x;exact⟨z,y,vs,r,ob,es,ep,k _ _ (.inl rfl) e,c⟩
 |dT kvs=>
  obtain⟨z,y,xs,r,ob,es,ep,e,c⟩:=x;exact⟨z,y,xs,Paired.mapP r λp q z=>⟨z.1,U _ _ z.2.1,z.2.2⟩,ob,es,ep,k _ _ (.inl rfl) e,c⟩
 |set S n=>obtain⟨ob,es,ep,t,e,c⟩:=x;exact⟨ob,es,ep,t,k _ _ (.inl rfl) e,c⟩
 |ins C dx fs=>
  obtain⟨d,z,J,e,F,⟨O,es,ep,e2,c⟩,r⟩:=x;exact⟨N _ d,z,J,k _ _ (.inl rfl) e,F,⟨O,es,ep,k _ _ (.inr d) e2,c⟩,r⟩
 |own y=>obtain⟨ob,e⟩:=x;exact⟨ob,k _ _ (.inl rfl) e⟩
 |xd fs=>obtain⟨F,⟨O,es,ep,e,c⟩,r⟩:=x;exact⟨F,⟨O,es,ep,k _ _ (.inl rfl) e,c⟩,r⟩
 |rng lo hi=>obtain⟨t,u,v,e⟩:=x;exact⟨t,u,v,k _ _ (.inl rfl) e⟩
 |frz ob u Z=>obtain⟨e,q⟩:=x;exact⟨k _ _ (.inl rfl) e,Z q⟩
 |tbl ps=>
  have e:h.get? a=some {cls:=.none,data:=.fields ps}:=x;show h'.get? a=some {cls:=.none,data:=.fields ps};exact k a _ (.inl rfl) e
 |met f y=>
  have e:h.get? a=some (adl (.ref f) (.ref y)):=x;show h'.get? a=some (adl (.ref f) (.ref y));exact k a _ (.inl rfl) e
 |ext Y=>obtain⟨p,⟨o,e⟩,st⟩:=x;exact⟨st _ _ p λo q=>k _ _ (.inl rfl) q,⟨o,k _ _ (.inl rfl) e⟩,st⟩
theorem HOk.lt(x:HOk P w H h)(e:H a=some o):a<h.objs.size:=(x a o e).lt
theorem HOk.fresh(x:HOk P w H h)(e:h.objs.size<=a):H a=none:=by
 cases q:H a with
 |none=>rfl
 |some u=>exact absurd (Yk (x.lt q) e) (Zn _)
theorem HOk.kept(x:HOk P w H h)(k:∀b u,h.get? b=some u->h'.get? b=some u):HOk P w H h':=λa o e=>
 (x a o e).stay (λb u _ q=>k b u q) (λ_ q=>q) λ_ _ q=>q
theorem HOk.laid(x:HOk P w H h)(k:∀b u,h.get? b=some u->h'.get? b=some u)(F:h.objs.size<=a)(new:cI P w (upd H a o) h' a o):HOk P w (upd H a o) h':=λb u e=>by
 have hn:=x.fresh F;by_cases U:b=a
 .subst U;rw[aU]at e;cases e;exact new
 .rw[aM U]at e
  exact(x b u e).stay (λc v _ q=>k c v q) (λc q=>by rw[aM (aY q hn)];exact q) λc xs q=>by rw[aM (aY q hn)];exact q
def Rd(H:Hp)(a:Addr)(u:HO):Prop:=H a=some u∨∃o,H a=some (.frz o u)
theorem Rd.ok{P:YG}{u:HO}(r:Rd H a u)(x:HOk P w H h):cI P w H h a u:=by
 rcases r with r|⟨o,r⟩
 .exact x a u r
 .obtain⟨_,q⟩:=x a _ r
  exact q
def Mut:Option HO->Prop
 |some (.lst _)=>True
 |some (.dK _)=>True
 |some (.dT _)=>True
 |some (.set _ _)=>True
 |some (.ins _ _ _)=>True
 |some (.ext _)=>True
 |_=>False
variable{x e:Addr}{o':HO}
theorem HOk.write(ok:HOk P w H h)(mu:Mut (H x))(V:e=x∨H e=some (.own x))(k:∀b u,b≠e->h.get? b=some u->h'.get? b=some u)(O:∃u,h'.get? e=some u)
  (new:cI P w (upd H x o') h' x o'):HOk P w (upd H x o') h':=λb u q=>by
 have J:∀c y,H c=some (.own y)->c≠x:=λc y r z=>by subst z;rw[r]at mu;exact mu
 have N:∀c xs,H c=some (.tup xs)->c≠x:=λc xs r z=>by subst z;rw[r]at mu;exact mu
 by_cases U:b=x
 .subst U;rw[aU]at q;cases q;exact new
 .rw[aM U]at q
  by_cases F:b=e
  .have q':H b=some (.own x):=by
    rcases V with z|z
    .exact absurd (F.trans z) U
    .rw[F];exact z
   rw[q]at q';cases q';obtain⟨v,Y⟩:=O;exact⟨v,by rw[F];exact Y⟩
  .refine(ok b u q).stay (λc v Z r=>k c v ?_ r) (λc r=>by rw[aM (J c b r)];exact r) λc xs r=>by rw[aM (N c xs r)];exact r
   rcases Z with rfl|Z
   .exact F
   .rintro rfl
    rcases V with z|z
    .exact J c b Z z
    .rw[Z]at z;cases z;exact U rfl
structure Un(fs ex:List Addr)(H H':Hp)(h h':Heap):Prop where
 keep:∀b o,h.get? b=some o->H b=none->b∉fs->b∉ex->h'.get? b=some o
 slot:∀b o,h.get? b=some o->H b=none->b∈fs->b∉ex->∃sl,h'.get? b=some {o with slots:=sl}
 free:∀b o,h.get? b=some o->H b=none->b∉ex->H' b=none
 there:∀b o,h.get? b=some o->b∉ex->∃o',h'.get? b=some o'
 tups:∀b xs,H b=some (.tup xs)->H' b=some (.tup xs)
 frzs:∀b o u,H b=some (.frz o u)->H' b=some (.frz o u)
 tbls:∀b ps,H b=some (.tbl ps)->∃more,H' b=some (.tbl (ps++more))
section
variable{fs fs' ex ex':List Addr}{H H1 H2:Hp}{h h1 h2 h':Heap}{a x e:Addr}{o:HO}
theorem Un.any(u:Un fs ex H H1 h h1){b:Addr}{ob:Obj}(q:h.get? b=some ob)(n:H b=none)(J:b∉ex):∃sl,h1.get? b=some {ob with slots:=sl}:=by
 by_cases U:b∈fs
 .exact u.slot b ob q n U J
 .exact⟨ob.slots,u.keep b ob q n U J⟩
theorem Un.kept(k:∀b u,h.get? b=some u->h'.get? b=some u):Un fs ex H H h h':=
 ⟨λb ob q _ _ _=>k b ob q,λb ob q _ _ _=>⟨ob.slots,k b ob q⟩,λ_ _ _ n _=>n,λb ob q _=>⟨ob,k b ob q⟩,λ_ _ q=>q,λ_ _ _ q=>q,λ_ ps q=>⟨#[],by rw[q];simp⟩⟩
theorem Un.refl:Un fs ex H H h h:=Un.kept λ_ _ q=>q
theorem Un.laid(k:∀b u,h.get? b=some u->h'.get? b=some u)(F:h.objs.size<=a)(hn:H a=none):Un fs ex H (upd H a o) h h' where
 keep:=λb u q _ _ _=>k b u q
 slot:=λb u q _ _ _=>⟨u.slots,k b u q⟩
 free:=λb u q n _=>by rw[aM (X8 (Yk (XR q) F))];exact n
 there:=λb u q _=>⟨u,k b u q⟩
 tups:=λb xs q=>by rw[aM (aY q hn)];exact q
 frzs:=λb u xs q=>by rw[aM (aY q hn)];exact q
 tbls:=λb ps q=>⟨#[],by rw[aM (aY q hn),q];simp⟩
theorem Un.write(mu:Mut (H x))(V:e=x∨H e=some (.own x))(k:∀b u,b≠e->h.get? b=some u->h'.get? b=some u)(O:∃u,h'.get? e=some u):Un fs ex H (upd H x o) h h':=by
 have J:∀b,H b=none->b≠x:=λb n z=>by subst z;rw[n]at mu;exact mu
 have U:∀b,H b=none->b≠e:=λb n z=>by
  subst z;rcases V with r|r
  .exact J b n r
  .rw[n]at r;cases r
 have Y:∀b u,H b=some u->¬Mut (some u)->b≠x:=λb u q N z=>by subst z;rw[q]at mu;exact N mu
 refine⟨λb u q n _ _=>k b u (U b n) q,λb u q n _ _=>⟨u.slots,k b u (U b n) q⟩,λb u q n _=>by rw[aM (J b n)];exact n,λb u q _=>?_,
  λb xs q=>by rw[aM (Y b _ q λz=>z)];exact q,λb u xs q=>by rw[aM (Y b _ q λz=>z)];exact q,λb ps q=>⟨#[],by rw[aM (Y b _ q λz=>z),q];simp⟩⟩
 by_cases F:b=e
 .subst F;exact O
 .exact⟨u,k b u F q⟩
end
def trk(h:Heap)(H:Hp):List Addr:=(Yp h.objs.size).filter λa=>(H a).isSome
def z_(h:Heap)(H:Hp):Heap:=PySem.W.hideAll h (trk h H)
theorem IW(h:Heap)(H:Hp):(z_ h H).objs.size=h.objs.size:=PySem.W.hideAll_size _ _
variable{o:Obj}
theorem Np(e:h.get? b=some o)(n:H b=none):(z_ h H).get? b=some o:=
 PySem.W.hideAll_get _ e λJ=>by
  have q:(H b).isSome=true:=(aae.mp J).2;rw[n]at q;simp at q
theorem QM(e:(z_ h H).get? b=some o):h.get? b=some o/\H b=none:=by
 have O:h.get? b=some o:=PySem.W.of_hideAll (trk h H) e;refine⟨O,?_⟩;cases q:H b with
 |none=>rfl
 |some x=>
  have J:b∈trk h H:=aae.mpr ⟨ZJ.mpr (XR O),by simp[q]⟩;have z:(z_ h H).get? b=none:=PySem.W.hideAll_none (trk h H) J;rw[z]at e;cases e
def Pb(g h:Heap)(L:Addr):List (Addr×Obj):=(Yp h.objs.size).filterMap λa=>if a=L∨(g.get? a).isSome=true then none else(h.get? a).map λo=>(a,o)
def rest(g h:Heap)(L d:Addr):List (Addr×Obj):=(Pb g h L).filter λp=>decide (p.1≠d)
structure Mod(K:PySem.W.Frag)(mg:Str->Option Value)(base:Heap):Prop where
 kin:K.In base
 glob:base.Ns Ye mg
 blt:∃mb,base.Ns builtinsNs mb/\∀x:Str,x≠"__name__"->mb x=Z6 x
 nolimit:base.NoLimit
structure Cx where
 prog:YG
 w:World
 K:XS
 mg:Str->Option Value
 base:Heap
 A:Zc
 N:List Str
 s₀:Mx
 H₀:Hp
 env:Env
 outer:List Env
 stack:List Env
 ex:List Addr
 fn:Str->Bool
 calm:Bool
 pn:List (Addr×Obj)
 xe:Value->Mx->Prop
def frs(l:List Env):List Addr:=l.filterMap (·.frame)
noncomputable abbrev Cx.fs(X:Cx):List Addr:=frs X.outer
def Vis(F:Scope)(x:Str):Prop:=F.names.lookup x=some .local∨F.names.lookup x=some .cell∨F.names.lookup x=some .free
def Loc(F:Scope)(x:Str):Prop:=F.names.lookup x=some .local∨F.names.lookup x=some .cell
def Look(env:Env)(h:Heap)(m:Str->Option Value)(x:Str)(u:Value):Prop:=
 (env.kindOf x=some .local/\m x=some u)∨((env.kindOf x=some .cell∨env.kindOf x=some .free)/\∃c,env.cells.lookup x=some c/\h.IsCell c (some u))
structure Cx.Ok(X:Cx):Prop where
 mod:Mod X.K X.mg X.base
 kind:X.env.scope.kind= .function
 glob:X.env.globals=Ye
 blt:X.env.builtins=builtinsNs
 above:X.s₀.heap.objs.size<=X.env.locals
 inj:∀x y c,X.env.cells.lookup x=some c->X.env.cells.lookup y=some c->x=y
 has:∀x,(X.env.kindOf x=some .cell∨X.env.kindOf x=some .free)->∃c,X.env.cells.lookup x=some c
 cab:∀x c,X.fn x=true->X.env.cells.lookup x=some c->X.s₀.heap.objs.size<=c
 hd:X.calm=true->X.A.handled=none
 frames:X.A.frames=some X.stack
 stk:X.stack=X.outer∨(X.stack=X.env::X.outer/\X.env.frame=some X.env.locals)
 exf:∀b∈X.ex,b≠X.env.locals/\∀x c,X.env.cells.lookup x=some c->c≠b
 bs:∀b o,X.base.get? b=some o->X.s₀.heap.get? b=some o/\X.H₀ b=none
 bsz:X.base.objs.size<=X.s₀.heap.objs.size
 noex:∀b o,X.base.get? b=some o->b∉X.ex
 exfs:∀b∈X.ex,b∉X.fs
 funs:X.s₀.heap.FunFrames X.base X.outer
 frf:∀b∈X.fs,X.H₀ b=none
structure Inv(X:Cx)(pins:List (Addr×Obj))(σ:List (Option V))(H:Hp)(s:Shared):Prop where
 ok:X.Ok
 os:s.os=X.s₀.os
 bare:acD s.gens
 base:Un X.fs X.ex X.H₀ H X.s₀.heap s.heap
 loc:∃m,s.heap.Ns X.env.locals m/\∀(i:Nat)(x:Str)(v:V),X.N[i]? =some x->σ[i]? =some (some v)->Vis X.env.scope x->∃u,RelV v u/\Look X.env s.heap m x u
 cell:∀x c,X.env.cells.lookup x=some c->∃v,s.heap.IsCell c v
 free:H X.env.locals=none
 freeC:∀x c,X.env.cells.lookup x=some c->H c=none
 pin:∀p∈X.pn++pins,s.heap.get? p.1=some p.2/\H p.1=none/\p.1≠X.env.locals/\p.1∉X.fs/\∀v,p.2.data≠.cell v
 hok:HOk X.prog X.w H s.heap
 len:σ.length=X.N.length
variable{X:Cx}
theorem Cx.Ok.nofr(ok:X.Ok)(e:X.base.get? b=some o):b∉X.fs:=λU=>by
 have:=(ok.funs.mem U).1;rw[e]at this;cases this
variable{σ:List (Option V)}
theorem Inv.bs(I:Inv X pins σ H s):∀b o,X.base.get? b=some o->s.heap.get? b=some o/\H b=none:=λb o e=>
 ⟨I.base.keep b o (I.ok.bs b o e).1 (I.ok.bs b o e).2 (I.ok.nofr e) (I.ok.noex b o e),I.base.free b o (I.ok.bs b o e).1 (I.ok.bs b o e).2 (I.ok.noex b o e)⟩
theorem Inv.bk(I:Inv X pins σ H s):∀b o,X.base.get? b=some o->s.heap.get? b=some o:=λb o e=>(I.bs b o e).1
theorem Inv.mod(I:Inv X pins σ H s):Mod X.K X.mg X.base:=I.ok.mod
theorem Inv.kIn(I:Inv X pins σ H s):X.K.In s.heap:=I.ok.mod.kin.keeps I.bk
theorem Inv.lt(I:Inv X pins σ H s):X.env.locals<s.heap.objs.size:=let⟨_,hn,_⟩:=I.loc;hn.lt
theorem Inv.sz(I:Inv X pins σ H s):X.s₀.heap.objs.size<=s.heap.objs.size:=Zq I.ok.above (aa5 I.lt)
theorem Inv.nofs(I:Inv X pins σ H s)(h:s.heap.objs.size<=a):a∉X.fs:=λU=>by
 obtain⟨_,o,N,_⟩:=I.ok.funs.mem U;exact absurd (Yk (XR N) (Zq I.sz h)) (Zn _)
theorem Inv.cne(I:Inv X pins σ H s):∀x c,X.env.cells.lookup x=some c->c≠X.env.locals:=λx c e z=>by
 obtain⟨v,o,N,hd⟩:=I.cell x c e;obtain⟨m,⟨o',es,ep,F,Y,_⟩,_⟩:=I.loc;rw[z,F]at N;cases N;rw[Y]at hd;cases hd
theorem Inv.funs(I:Inv X pins σ H s):s.heap.FunFrames X.base X.outer:=by
 have all:∀(l:List Env),(∀b∈frs l,b∈X.fs)->X.s₀.heap.FunFrames X.base l->s.heap.FunFrames X.base l:=by
  intro l
  induction l with
  |nil=>intro _ _;trivial
  |cons env r Z=>
   intro hs Y;obtain⟨J,⟨L,o,F,hn,N,hd⟩,O⟩:=Y;have V:L∈X.fs:=hs L (by unfold frs;rw[abh,F];exact Yw);obtain⟨sl,e⟩:=I.base.slot L o N (I.ok.frf L V) V λz=>I.ok.exfs L z V;exact⟨J,⟨L,_,F,hn,e,hd⟩,Z (λb U=>hs b (by unfold frs;rw[abh,F];exact Yi _ U)) O⟩
 exact all X.outer (λ_ U=>U) I.ok.funs
theorem Inv.stack(I:Inv X pins σ H s):s.heap.FunFrames X.base X.stack:=by
 rcases I.ok.stk with e|⟨e,F⟩
 .rw[e];exact I.funs
 .rw[e]
  obtain⟨m,hn,_⟩:=I.loc;refine .cons (by rw[I.ok.kind];decide) F hn ?_ I.funs;exact Heap.get?_none_of_le (Zq I.ok.bsz I.ok.above)
theorem Inv.stkSub(I:Inv X pins σ H s):∀b∈frs X.stack,b∈X.env.locals::X.fs:=λb U=>by
 rcases I.ok.stk with e|⟨e,F⟩
 .rw[e]at U;exact Yi _ U
 .rw[e]at U
  unfold frs at U;rw[abh,F]at U;exact U
theorem Inv.stkFree(I:Inv X pins σ H s):∀b∈frs X.stack,H b=none:=λb U=>by
 rcases XJ.mp (I.stkSub b U)with e|U
 .rw[e];exact I.free
 .obtain⟨_,o,ho,_⟩:=I.ok.funs.mem U
  exact I.base.free b o ho (I.ok.frf b U) λz=>I.ok.exfs b z U
theorem Inv.step(I:Inv X pins σ H s)
  (Y:∀b∈ch,(b∈X.ex∨X.s₀.heap.objs.size<=b)/\b≠X.env.locals/\(∀x c,X.env.cells.lookup x=some c->c≠b)/\∀p∈X.pn++pins,p.1≠b)
  (keep:∀b o,b≠X.env.locals->b∉X.fs->b∉ch->s.heap.get? b=some o->H b=none->h'.get? b=some o)
  (slot:∀b o,b≠X.env.locals->b∈X.fs->b∉ch->s.heap.get? b=some o->H b=none->∃sl,h'.get? b=some {o with slots:=sl}) (free:∀b o,b∉ch->s.heap.get? b=some o->H b=none->H' b=none)
  (there:∀b o,b∉ch->s.heap.get? b=some o->∃o',h'.get? b=some o')
  (tups:∀b xs,H b=some (.tup xs)->H' b=some (.tup xs)) (frzs:∀b o u,H b=some (.frz o u)->H' b=some (.frz o u)) (tbls:∀b ps,H b=some (.tbl ps)->∃more,H' b=some (.tbl (ps++more)))
  (ns:∀m,s.heap.Ns X.env.locals m->h'.Ns X.env.locals m) (hok:HOk X.prog X.w H' h') (hg:acD g') :
  Inv X pins σ H' {s with heap:=h',gens:=g',drawn:=d',toks:=t'}:=by
 have a3:∀b o,X.s₀.heap.get? b=some o->b≠X.env.locals:=λb o e=>X8 (Yk (XR e) I.ok.above);have a2:∀b o,X.s₀.heap.get? b=some o->b∉X.ex->b∉ch:=λb o e J U=>by
  rcases(Y b U).1 with z|z
  .exact J z
  .exact absurd (Yk (XR e) z) (Zn _)
 have a1:∀x c,X.env.cells.lookup x=some c->∀v,s.heap.IsCell c v->h'.IsCell c v:=λx c e v ⟨o,N,hd⟩=>by
  have a0:c∉ch:=λz=>(Y c z).2.2.1 x c e rfl;by_cases Z:c∈X.fs
  .obtain⟨sl,q⟩:=slot c o (I.cne x c e) Z a0 N (I.freeC x c e)
   exact⟨_,q,hd⟩
  .exact⟨o,keep c o (I.cne x c e) Z a0 N (I.freeC x c e),hd⟩
 refine⟨I.ok,I.os,hg,⟨λb o e n U J=>?_,λb o e n U J=>?_,λb o e n J=>?_,λb o e J=>?_,λb xs e=>tups b xs (I.base.tups b xs e),λb o xs e=>frzs b o xs (I.base.frzs b o xs e),λb ps e=>?_⟩,?_,λx c e=>?_,?_,λx c e=>?_,λp F=>?_,hok,I.len⟩
 .exact keep b o (a3 b o e) U (a2 b o e J) (I.base.keep b o e n U J) (I.base.free b o e n J)
 .obtain⟨sl,e1⟩:=I.base.slot b o e n U J
  obtain⟨a4,e2⟩:=slot b _ (a3 b o e) U (a2 b o e J) e1 (I.base.free b o e n J);exact⟨a4,e2⟩
 .obtain⟨o',e1⟩:=I.base.there b o e J
  exact free b o' (a2 b o e J) e1 (I.base.free b o e n J)
 .obtain⟨o',e1⟩:=I.base.there b o e J
  exact there b o' (a2 b o e J) e1
 .obtain⟨m1,e1⟩:=I.base.tbls b ps e
  obtain⟨V,e2⟩:=tbls b _ e1;exact⟨m1++V,by rw[e2,Array.append_assoc]⟩
 .obtain⟨m,hn,hl⟩:=I.loc
  refine⟨m,ns m hn,λi x v e1 e2 O=>?_⟩;obtain⟨u,r,l⟩:=hl i x v e1 e2 O;refine⟨u,r,?_⟩;rcases l with l|⟨k,c,e,z⟩
  .exact .inl l
  .exact .inr ⟨k,c,e,a1 x c e _ z⟩
 .obtain⟨v,z⟩:=I.cell x c e
  exact⟨v,a1 x c e v z⟩
 .obtain⟨m,⟨o,_,_,N,_⟩,_⟩:=I.loc
  exact free _ o (λz=>(Y _ z).2.1 rfl) N I.free
 .obtain⟨v,o,N,hd⟩:=I.cell x c e
  exact free c o (λz=>(Y c z).2.2.1 x c e rfl) N (I.freeC x c e)
 .obtain⟨e,n,ne,nf,d⟩:=I.pin p F
  have a0:p.1∉ch:=λz=>(Y p.1 z).2.2.2 p F rfl;exact⟨keep p.1 p.2 ne nf a0 e n,free p.1 p.2 a0 e n,ne,nf,d⟩
theorem Inv.un(I:Inv X pins σ H s)(u:Un X.fs [] H H' s.heap h')(hok:HOk X.prog X.w H' h'):Inv X pins σ H' {s with heap:=h',toks:=t'}:=by
 obtain⟨m,⟨o,es,ep,N,r⟩,_⟩:=id I.loc;obtain⟨sl,V⟩:=u.any N I.free (by simp);exact I.step (g':=s.gens) (d':=s.drawn) (ch:=[]) (λ_ z=>nomatch z) (λb o _ U _ e n=>u.keep b o e n U (by simp)) (λb o _ U _ e n=>u.slot b o e n U (by simp)) (λb o _ e n=>u.free b o e n (by simp)) (λb o _ e=>u.there b o e (by simp)) u.tups u.frzs u.tbls (λO J=>by
  obtain⟨o',Z,q,F,Y⟩:=J;rw[N]at F;cases F;exact⟨_,Z,q,V,Y⟩) hok I.bare
theorem Inv.call(I:Inv X pins σ H s)(u:Un (frs X.stack) ch H H' s.heap h')(hok:HOk X.prog X.w H' h')(q:acD g')
  (Y:∀b∈ch,(b∈X.ex∨X.s₀.heap.objs.size<=b)/\b≠X.env.locals/\(∀x c,X.env.cells.lookup x=some c->c≠b)/\∀p∈X.pn++pins,p.1≠b) :
  Inv X pins σ H' {s with heap:=h',gens:=g',drawn:=d',toks:=t'}:=by
 obtain⟨m,⟨o,es,ep,N,r⟩,_⟩:=id I.loc;obtain⟨sl,V⟩:=u.any N I.free λz=>(Y _ z).2.1 rfl;exact I.step (ch:=ch) Y (λb o V U Z e n=>u.keep b o e n (λz=>(XJ.mp (I.stkSub b z)).elim V U) Z) (λb o _ _ Z e n=>u.any e n Z) (λb o Z e n=>u.free b o e n Z) (λb o Z e=>u.there b o e Z) u.tups u.frzs u.tbls (λO J=>by
  obtain⟨o',a0,a1,F,r'⟩:=J;rw[N]at F;cases F;exact⟨_,a0,a1,V,r'⟩) hok q
theorem Inv.turned(I:Inv X pins σ H s)(k:∀b o,b≠it->s.heap.get? b=some o->h'.get? b=some o)(hn:H it=none)(V:it≠X.env.locals)
  (h1:it∈X.ex∨X.s₀.heap.objs.size<=it) (h2:∀x c,X.env.cells.lookup x=some c->c≠it) (F:∀p∈X.pn++pins,p.1≠it):Inv X pins σ H {s with heap:=h',toks:=t'}:=by
 have N:∀b u,H b=some u->b≠it:=λb u e z=>by rw[z,hn]at e;cases e
 refine I.step (g':=s.gens) (d':=s.drawn) (ch:=[it]) (λb U=>?_) (λb o _ _ Z e _=>k b o (λz=>Z (by simp[z])) e) (λb o _ _ Z e _=>⟨o.slots,k b o (λz=>Z (by simp[z])) e⟩) (λ_ _ _ _ n=>n)
  (λb o Z e=>⟨o,k b o (λz=>Z (by simp[z])) e⟩) (λ_ _ e=>e) (λ_ _ _ e=>e) (λb ps e=>⟨#[],by rw[e];simp⟩) (λm J=>?_) (λb u e=>?_) I.bare
 .have e:b=it:=by simpa using U
  subst e;exact⟨h1,V,h2,F⟩
 .obtain⟨o,es,ep,ho,r⟩:=J
  exact⟨o,es,ep,k _ o (YC V) ho,r⟩
 .refine(I.hok b u e).stay (λc v Z q=>k c v ?_ q) (λ_ q=>q) λ_ _ q=>q
  rcases Z with z|z
  .rw[z];exact N b u e
  .exact N c _ z
theorem Inv.tok(I:Inv X pins σ H s)(t:Nat):Inv X pins σ H {s with toks:=t}:=I.un (h':=s.heap) (t':=t) Un.refl I.hok
theorem Inv.kept(I:Inv X pins σ H s)(k:∀b u,s.heap.get? b=some u->h'.get? b=some u):Inv X pins σ H {s with heap:=h',toks:=t'}:=I.un (Un.kept k) (I.hok.kept k)
theorem Inv.laid{o:HO}(I:Inv X pins σ H s)(k:∀b u,s.heap.get? b=some u->h'.get? b=some u)(F:s.heap.objs.size<=a)(new:cI X.prog X.w (upd H a o) h' a o) :
 Inv X pins σ (upd H a o) {s with heap:=h',toks:=t'}:=I.un (Un.laid k F (I.hok.fresh F)) (I.hok.laid k F new)
theorem Inv.write{o:HO}(I:Inv X pins σ H s)(mu:Mut (H x))(V:e=x∨H e=some (.own x))(k:∀b u,b≠e->s.heap.get? b=some u->h'.get? b=some u)(O:∃u,h'.get? e=some u)
 (new:cI X.prog X.w (upd H x o) h' x o):Inv X pins σ (upd H x o) {s with heap:=h',toks:=t'}:=I.un (Un.write mu V k O) (I.hok.write mu V k O new)
theorem Inv.weak{F:List (Option V)}(I:Inv X pins σ H s)(Y:F.length=σ.length)(w:∀(i:Nat) v,F[i]? =some (some v)->σ[i]? =some (some v)):Inv X pins F H s:=
 ⟨I.ok,I.os,I.bare,I.base,let⟨m,hn,hl'⟩:=I.loc;⟨m,hn,λi x v e1 e2 O=>hl' i x v e1 (w i v e2) O⟩,I.cell,I.free,I.freeC,I.pin,I.hok,Y.trans I.len⟩
theorem Inv.pins_of{q:List (Addr×Obj)}(I:Inv X pins σ H s)(h:∀p∈q,s.heap.get? p.1=some p.2/\H p.1=none/\p.1≠X.env.locals/\p.1∉X.fs/\∀v,p.2.data≠.cell v):Inv X q σ H s:=
 ⟨I.ok,I.os,I.bare,I.base,I.loc,I.cell,I.free,I.freeC,λp F=>(XC.mp F).elim (λz=>I.pin p (X6 _ z)) (h p),I.hok,I.len⟩
variable{x:Str}
theorem Al(O:N.Nodup)(a:N[i]? =some x)(b:N[j]? =some x):i=j:=by
 obtain⟨h1,e1⟩:=XF.mp a;obtain⟨h2,e2⟩:=XF.mp b;exact(adH O).mp (e1.trans e2.symm)
variable{M:Model}{A:Zc}{E:Value->Mx->Prop}{Q:Unit->Mx->Prop}
theorem Jg{v:V}(I:Inv X pins σ H s)(O:X.N.Nodup)(hi:X.N[i]? =some x)(J:Loc X.env.scope x)(r:RelV v u)
  (h:∀s',Inv X pins (σ.set i (some v)) H s'->(∃a,aaF a s.heap s'.heap/\(a=X.env.locals∨X.env.cells.lookup x=some a))->Q () s') (hf:X.fn x=true∨X.env.scope.names.lookup x=some .local:=by first|exact .inl rfl|exact .inr rfl|assumption):wpAny M A (storeName X.env x u) Q E s:=by
 obtain⟨m,hn,hl⟩:=id I.loc;have a4:(X.env.scope.kind== .class||(X.env.scope.kind== .module&&X.env.locals !=X.env.globals))=false:=by rw[I.ok.kind];rfl
 have a2:i<σ.length:=by rw[I.len];exact(XF.mp hi).1
 have cne:=I.cne;have a0:∀{a:Addr}{h':Heap},(∃o,s.heap.get? a=some o/\H a=none)->aaF a s.heap h'->HOk X.prog X.w H h':=λ{a h'} Y hs b ob e=>by
  obtain⟨_,_,a1⟩:=Y;refine(I.hok b ob e).stay (λc w' Z q=>(hs.2 c ?_).trans q) (λ_ q=>q) λ_ _ q=>q;rintro rfl;rcases Z with rfl|Z
  .rw[a1]at e;cases e
  .rw[a1]at Z;cases Z
 rcases J with hk|hk
 .refine wpAny_storeName_local hk hn (λh' a8 hs=>?_) a4
  obtain⟨oL,_,_,a7,_⟩:=id hn;refine h _ ⟨I.ok,I.os,I.bare,⟨λb o e n U J=>?_,λb o e n U J=>?_,I.base.free,λb o e J=>?_,I.base.tups,I.base.frzs,I.base.tbls⟩,⟨_,a8,λj y v' e1 e2 e3=>?_⟩,λy c e=>?_,I.free,I.freeC,λp F=>?_,a0 ⟨oL,a7,I.free⟩ hs,by simpa using I.len⟩ ⟨_,hs,.inl rfl⟩
  .exact(hs.2 b (X8 (Yk (XR e) I.ok.above))).trans (I.base.keep b o e n U J)
  .obtain⟨sl,e1⟩:=I.base.slot b o e n U J
   exact⟨sl,(hs.2 b (X8 (Yk (XR e) I.ok.above))).trans e1⟩
  .obtain⟨o',e1⟩:=I.base.there b o e J
   exact⟨o',(hs.2 b (X8 (Yk (XR e) I.ok.above))).trans e1⟩
  .by_cases hj:j=i
   .subst hj
    rw[hi]at e1;cases e1;rw[acf a2]at e2;cases e2;exact⟨u,r,.inl ⟨hk,by simp⟩⟩
   .rw[List.getElem?_set_ne (YC hj)]at e2
    obtain⟨u',r',q⟩:=hl j y v' e1 e2 e3;refine⟨u',r',?_⟩;rcases q with⟨k,e⟩|⟨k,c,e,z⟩
    .refine .inl ⟨k,?_⟩
     have:y≠x:=λe=>hj (Al O e1 (e▸hi));simp[this,e]
    .exact .inr ⟨k,c,e,z.sameBut hs (cne y c e)⟩
  .obtain⟨w',z⟩:=I.cell y c e
   exact⟨w',z.sameBut hs (cne y c e)⟩
  .obtain⟨e,n,ne,nf,d⟩:=I.pin p F
   exact⟨(hs.2 p.1 ne).trans e,n,ne,nf,d⟩
 .have hfn:X.fn x=true:=by
   rcases hf with z|z
   .exact z
   .rw[z]at hk;cases hk
  obtain⟨c,Z⟩:=I.ok.has x (.inl hk);obtain⟨w',z⟩:=I.cell x c Z;refine wpAny_storeName_cell I.ok.kind hk Z z (λh' a3 hs=>?_);obtain⟨oc,a6,a5⟩:=id z;refine h {s with heap:=h'} ⟨I.ok,I.os,I.bare,⟨λb o e n U J=>?_,λb o e n U J=>?_,I.base.free,λb o e J=>?_,I.base.tups,I.base.frzs,I.base.tbls⟩,⟨m,hn.sameBut hs (YC (cne x c Z)),λj y v' e1 e2 e3=>?_⟩,λy c' e=>?_,I.free,I.freeC,λp F=>?_,a0 ⟨oc,a6,I.freeC x c Z⟩ hs,by simpa using I.len⟩ ⟨c,hs,.inr Z⟩
  .exact(hs.2 b (X8 (Yk (XR e) (I.ok.cab x c hfn Z)))).trans (I.base.keep b o e n U J)
  .obtain⟨sl,e1⟩:=I.base.slot b o e n U J
   exact⟨sl,(hs.2 b (X8 (Yk (XR e) (I.ok.cab x c hfn Z)))).trans e1⟩
  .obtain⟨o',e1⟩:=I.base.there b o e J
   exact⟨o',(hs.2 b (X8 (Yk (XR e) (I.ok.cab x c hfn Z)))).trans e1⟩
  .by_cases hj:j=i
   .subst hj
    rw[hi]at e1;cases e1;rw[acf a2]at e2;cases e2;exact⟨u,r,.inr ⟨.inl hk,c,Z,a3⟩⟩
   .rw[List.getElem?_set_ne (YC hj)]at e2
    obtain⟨u',r',q⟩:=hl j y v' e1 e2 e3;refine⟨u',r',?_⟩;rcases q with q|⟨k,c',e,z'⟩
    .exact .inl q
    .refine .inr ⟨k,c',e,z'.sameBut hs ?_⟩
     rintro rfl;exact hj (Al O e1 (I.ok.inj _ _ _ e Z▸hi))
  .by_cases hcc:c'=c
   .subst hcc;exact⟨_,a3⟩
   .obtain⟨w2,z2⟩:=I.cell y c' e
    exact⟨w2,z2.sameBut hs hcc⟩
  .obtain⟨e,n,ne,nf,d⟩:=I.pin p F
   refine⟨(hs.2 p.1 ?_).trans e,n,ne,nf,d⟩;intro q;rw[q,a6]at e;have q':oc=p.2:=Y4 e;exact d w' (by rw[←q'];exact a5)
theorem mU{v:V}(I:Inv X pins σ H s)(O:X.N.Nodup)(hi:X.N[i]? =some x)(J:Loc X.env.scope x)(r:RelV v u)
  (h:∀s',Inv X pins (σ.set i (some v)) H s'->Q () s') (F:X.fn x=true∨X.env.scope.names.lookup x=some .local:=by first|exact .inl rfl|exact .inr rfl|assumption):wpAny M A (storeName X.env x u) Q E s:=
 Jg I O hi J r (λs' Y _=>h s' Y) F
theorem Inv.call'(I:Inv X pins σ H s)(N:s'.os=s.os)(u:Un (frs X.stack) ch H H' s.heap s'.heap)(hok:HOk X.prog X.w H' s'.heap)(q:acD s'.gens)
  (Y:∀b∈ch,(b∈X.ex∨X.s₀.heap.objs.size<=b)/\b≠X.env.locals/\(∀x c,X.env.cells.lookup x=some c->c≠b)/\∀p∈X.pn++pins,p.1≠b):Inv X pins σ H' s':=by
 obtain⟨h',g',d',t',o'⟩:=s';have e:o'=s.os:=N;subst e;exact I.call (g':=g') (t':=t') (d':=d') u hok q Y
abbrev XK:=Value->Option Addr->Hp->Prop
abbrev St:=List (Option V)
abbrev VK:=V->Hp->Prop
abbrev TE:=St->Hp->VK->Prop
abbrev TT:=St->Hp->(Bool->Hp->Prop)->Prop
abbrev TA:=St->Hp->(List V->Hp->Prop)->Prop
structure Ends where
 nx:St->Hp->Prop
 rt:VK
 bk:St->Hp->Prop:=λ_ _=>False
 ct:St->Hp->Prop:=λ_ _=>False
abbrev TS:=Ends->St->Hp->Prop
def EP(X:Cx)(pins:List (Addr×Obj))(σ:St)(Q:VK)(u:Value)(s':Mx):Prop:=∃v H',Inv X pins σ H' s'/\RelV v u/\Q v H'
def TP(X:Cx)(pins:List (Addr×Obj))(σ:St)(Q:Bool->Hp->Prop)(b:Bool)(s':Mx):Prop:=∃H',Inv X pins σ H' s'/\Q b H'
def AP(X:Cx)(pins:List (Addr×Obj))(σ:St)(Q:List V->Hp->Prop)(us:List Value)(s':Mx):Prop:=∃vs H',Inv X pins σ H' s'/\Vals vs us/\Q vs H'
def SP(X:Cx)(pins:List (Addr×Obj))(D:Ends)(f:Flow)(s':Mx):Prop:=
 match f with
 |.next=>∃F H',Inv X pins F H' s'/\D.nx F H'
 |.brk=>∃F H',Inv X pins F H' s'/\D.bk F H'
 |.cont=>∃F H',Inv X pins F H' s'/\D.ct F H'
 |.ret u=>∃v F H',Inv X pins F H' s'/\RelV v u/\D.rt v H'
def PE(X:Cx)(e:Expr)(t:TE):Prop:=
 ∀(pins:List (Addr×Obj))(s:Mx)(σ:St)(H:Hp)(Q:VK),Inv X pins σ H s->t σ H Q->wpAny (model X.prog X.w) X.A (eval e X.env) (EP X pins σ Q) X.xe s
def PT(X:Cx)(e:Expr)(t:TT):Prop:=
 ∀(pins:List (Addr×Obj))(s:Mx)(σ:St)(H:Hp)(Q:Bool->Hp->Prop),Inv X pins σ H s->t σ H Q->wpAny (model X.prog X.w) X.A (aed e X.env (eval e X.env)) (TP X pins σ Q) X.xe s
def PW(X:Cx)(e:Expr)(t:TT):Prop:=
 ∀(q:Sem Value)(pins:List (Addr×Obj))(s:Mx)(σ:St)(H:Hp)(Q:Bool->Hp->Prop),Inv X pins σ H s->t σ H Q->wpAny (model X.prog X.w) X.A (aed e X.env q) (TP X pins σ Q) X.xe s
variable{e:Expr}
theorem PW.pt{t:TT}(h:PW X e t):PT X e t:=h _
def PA(X:Cx)(es:List Expr)(t:TA):Prop:=
 ∀(pos:Pos)(pins:List (Addr×Obj))(s:Mx)(σ:St)(H:Hp)(Q:List V->Hp->Prop),Inv X pins σ H s->t σ H Q->wpAny (model X.prog X.w) X.A (spliced (aah pos (X_ es X.env))) (AP X pins σ Q) X.xe s
def PS(X:Cx)(st:Stmt)(t:TS):Prop:=
 ∀(pins:List (Addr×Obj))(s:Mx)(σ:St)(H:Hp)(D:Ends),Inv X pins σ H s->t D σ H->wpAny (model X.prog X.w) X.A (exec st X.env) (SP X pins D) X.xe s
def PSs(X:Cx)(st:List Stmt)(t:TS):Prop:=
 ∀(pins:List (Addr×Obj))(s:Mx)(σ:St)(H:Hp)(D:Ends),Inv X pins σ H s->t D σ H->wpAny (model X.prog X.w) X.A (execs st X.env) (SP X pins D) X.xe s
theorem thn{t:Sem α}{Q O:α->Mx->Prop}{s:Mx}(h:wpAny M A t Q E s)(q:∀a s,Q a s->O a s):wpAny M A t O E s:=Zr h q λ_ _ x=>x
section
variable{X:Cx}
def Ov(i:Nat):TE:=λσ H Q=>∃v,σ[i]? =some (some v)/\Q v H
def tC(v:V):TE:=λ_ H Q=>Q v H
theorem T5{i:Nat}{x:Str}{pos:Pos}(O:X.N[i]? =some x)(F:Vis X.env.scope x)(hd:(x==("__debug__":Str))=false:=by decide)(U:(x==("__classdict__":Str))=false:=by decide):PE X (.Name x pos) (Ov i):=by
 intro pins s σ H Q I h;obtain⟨v,e,h⟩:=h;obtain⟨m,hn,Y⟩:=I.loc;obtain⟨u,r,l⟩:=Y i x v O e F;have fin:EP X pins σ Q u s:=⟨v,H,I,r,h⟩;rcases l with⟨J,V⟩|⟨J,c,Z,q⟩
 .exact wpAny_Name (wpAny_loadName_local I.ok.kind J hn V fin) hd
 .rcases J with J|J
  .exact wpAny_Name (wpAny_loadName_cell I.ok.kind J Z q fin) hd
  .exact wpAny_Name (wpAny_loadName_free I.ok.kind J Z q fin U) hd
theorem UV{i j pos}:PE X (.Constant (.int i) j pos) (tC (.int i)):=λ_ _ _ H _ I h=>wpAny_Constant_int ⟨.int i,H,I.tok _,⟨_,rfl⟩,h⟩
theorem Vy{b j pos}:PE X (.Constant (.bool b) j pos) (tC (.bl b)):=λ_ _ _ H _ I h=>Constant_bool ⟨.bl b,H,I,rfl,h⟩
theorem U5{j pos}:PE X (.Constant .none j pos) (tC .non):=λ_ _ _ H _ I h=>Constant_none ⟨.non,H,I,rfl,h⟩
theorem Um{x j pos}:PE X (.Constant (.str x) j pos) (tC (.str x)):=λ_ _ _ H _ I h=>Calls.Constant_str ⟨.str x,H,I.tok _,⟨_,rfl⟩,h⟩
def Gl(X:Cx)(x:Str):Prop:=X.env.kindOf x=some .globalImplicit
theorem PL{E:Value->Mx->Prop}{pins:List (Addr×Obj)}{s:Mx}{σ:St}{H:Hp}{x:Str}{u:Value}{pos:Pos}{Q:Value->Mx->Prop}(I:Inv X pins σ H s)(q:Gl X x)(J:X.mg x=some u)(h:Q u s)
  (hd:(x==("__debug__":Str))=false:=by decide):wpAny (model X.prog X.w) X.A (eval (.Name x pos) X.env) Q E s:=
 ada I.ok.kind q (Calls.loadGlobal_global (by rw[I.ok.glob];exact I.mod.glob.keeps I.bk) J h) hd
theorem kY{E:Value->Mx->Prop}{pins:List (Addr×Obj)}{s:Mx}{σ:St}{H:Hp}{x:Str}{u:Value}{pos:Pos}{Q:Value->Mx->Prop}(I:Inv X pins σ H s)(q:Gl X x)(J:X.mg x=none)(Z:Z6 x=some u)(h:Q u s)
  (hn:x≠"__name__":=by decide) (hd:(x==("__debug__":Str))=false:=by decide):wpAny (model X.prog X.w) X.A (eval (.Name x pos) X.env) Q E s:=by
 obtain⟨F,h1,h2⟩:=I.mod.blt;exact ada I.ok.kind q (Calls.loadGlobal_builtin (by rw[I.ok.glob];exact I.mod.glob.keeps I.bk) J (by rw[I.ok.blt];exact h1.keeps I.bk) ((h2 x hn).trans Z) h) hd
theorem QT{x:Str}{v:V}{u:Value}{pos:Pos}(q:Gl X x)(J:X.mg x=none)(Z:Z6 x=some u)(r:RelV v u)(hn:x≠"__name__":=by decide)(hd:(x==("__debug__":Str))=false:=by decide):PE X (.Name x pos) (tC v):=
 λ_ _ _ H _ I h=>kY I q J Z ⟨v,H,I,r,h⟩ hn hd
variable{a b:Expr}{ta tb:TE}{pos:Pos}
variable{tA tB':TT}{rest:List Expr}
def R6(t u:TT):TT:=λσ H Q=>t σ H λc H1=>if c=true then u σ H1 Q else Q false H1
def tOr(t u:TT):TT:=λσ H Q=>t σ H λc H1=>if c=true then Q true H1 else u σ H1 Q
def WD(t:TT):TT:=λσ H Q=>t σ H λc H1=>Q (!c) H1
theorem FJ(Y:PT X a tA):PW X (.BoolOp .And [a] pos) tA:=by
 intro q pins s σ H Q I h;refine isTrue_and (thn (Y pins s σ H Q I h) λc O e=>?_);cases c with
 |true=>exact isTrue_and_nil e
 |false=>exact e
theorem UW(Y:PT X a tA):PW X (.BoolOp .Or [a] pos) tA:=by
 intro q pins s σ H Q I h;refine isTrue_or (thn (Y pins s σ H Q I h) λc O e=>?_);cases c with
 |false=>exact isTrue_or_nil e
 |true=>exact e
theorem KY(Y:PT X a tA)(U:PW X (.BoolOp .And (b::rest) pos) tB'):PW X (.BoolOp .And (a::b::rest) pos) (R6 tA tB'):=by
 intro q pins s σ H Q I h;refine isTrue_and (thn (Y pins s σ H _ I h) λc O ⟨H1,F,q1⟩=>?_);cases c with
 |true=>exact U q pins O σ H1 Q F q1
 |false=>exact⟨H1,F,q1⟩
theorem WT(Y:PT X a tA)(U:PW X (.BoolOp .Or (b::rest) pos) tB'):PW X (.BoolOp .Or (a::b::rest) pos) (tOr tA tB'):=by
 intro q pins s σ H Q I h;refine isTrue_or (thn (Y pins s σ H _ I h) λc O ⟨H1,F,q1⟩=>?_);cases c with
 |true=>exact⟨H1,F,q1⟩
 |false=>exact U q pins O σ H1 Q F q1
theorem T6(Y:PT X a tA):PT X (.UnaryOp .Not a pos) (WD tA):=by
 intro pins s σ H Q I h;exact isTrue_not (Y pins s σ H (λc H1=>Q (!c) H1) I h)
def Rn(ta tb:TE):TE:=λσ H Q=>ta σ H λx H1=>∃c,x= .bl c/\if c=true then tb σ H1 Q else Q (.bl false) H1
theorem Tu{op}{t:TE}(h:PE X a t):PE X (.BoolOp op [a] pos) t:=λpins s σ H Q I N=>BoolOp_one (h pins s σ H Q I N)
theorem R9(Y:PE X a ta)(U:PE X (.BoolOp .And (b::rest) pos) tb):PE X (.BoolOp .And (a::b::rest) pos) (Rn ta tb):=by
 intro pins s σ H Q I h;refine BoolOp_and (thn (Y pins s σ H _ I h) λv O ⟨x,H1,F,q,q1⟩=>?_);obtain⟨c,rfl,q1⟩:=q1;cases q;refine aab ?_;cases c with
 |true=>exact U pins O σ H1 Q F q1
 |false=>exact⟨.bl false,H1,F,rfl,q1⟩
end
def SqL(K:XS)(H:Hp)(a:Addr)(xs:List V):Prop:=
 Rd H a (.lst xs)∨
  ∃(o:Obj)(its:Array Value)(n:Nat),K.lookup a=some o/\o.cls= .type "list"/\o.dict=none/\o.data= .seq its n/\its.size<=X3/\Vals xs its.toList
def SqT(K:XS)(H:Hp)(a:Addr)(xs:List V):Prop:=
 Rd H a (.tup xs)∨
  ∃(o:Obj)(its:Array Value)(n:Nat),K.lookup a=some o/\o.cls= .type "tuple"/\o.data= .seq its n/\its.size<=X3/\Vals xs its.toList
def Xw:Value->Option V
 |.none=>some .non
 |.bool b=>some (.bl b)
 |.int i _=>some (.int i)
 |.str x _=>some (.str x)
 |.bytes b _=>some (.byt b)
 |.float b _=>some (.flt b)
 |.ref a=>some (.ref a)
 |.type n=>some (.ty n)
 |_=>none
theorem RelV.abs{x:V}(r:RelV x u):Xw u=some x:=by
 cases x with
 |non=>cases r;rfl
 |bl _=>cases r;rfl
 |int _=>obtain⟨t,rfl⟩:=r;rfl
 |str _=>obtain⟨t,rfl⟩:=r;rfl
 |byt _=>obtain⟨t,rfl⟩:=r;rfl
 |flt _=>obtain⟨t,rfl⟩:=r;rfl
 |ref _=>cases r;rfl
 |ty _=>cases r;rfl
theorem RelV.inj{x y:V}(r:RelV x u)(q:RelV y u):x=y:=Y4 (r.abs.symm.trans q.abs)
theorem Vals.inj:∀{xs ys:List V}{us:List Value},Vals xs us->Vals ys us->xs=ys
 |_,_,_,.nil,.nil=>rfl
 |_,_,_,.cons r t,.cons r' t'=>by rw[r.inj r',Vals.inj t t']
theorem SqL.of{K:XS}(h:H a=some (.lst xs)):SqL K H a xs:=.inl (.inl h)
theorem SqT.of{K:XS}(h:H a=some (.tup xs)):SqT K H a xs:=.inl (.inl h)
variable{σ:St}
theorem Inv.list(I:Inv X pins σ H s)(h:SqL X.K H a xs):∃its:List Value,Vals xs its/\PlainL s.heap a its.toArray/\xs.length<=X3:=by
 rcases h with h|⟨o,its,n,J,Z,hd,hs,hz,r⟩
 .obtain⟨z,its,n,r,e⟩:=h.ok I.hok
  exact⟨its,r,⟨_,n,e,rfl,rfl,rfl⟩,z⟩
 .refine⟨its.toList,r,⟨o,n,I.kIn a o J,Z,hd,by simpa using hs⟩,?_⟩
  have e:=r.length;simp![Y0]at e;omega
theorem Inv.tuple(I:Inv X pins σ H s)(h:SqT X.K H a xs):∃its:List Value,Vals xs its/\IsTup s.heap a its.toArray/\xs.length<=X3:=by
 rcases h with h|⟨o,its,n,J,Z,hs,hz,r⟩
 .obtain⟨z,its,r,p⟩:=h.ok I.hok
  exact⟨its,r,p.t,z⟩
 .refine⟨its.toList,r,⟨o,I.kIn a o J,Z,n,by simpa using hs⟩,?_⟩
  have e:=r.length;simp![Y0]at e;omega
variable{ys:List V}
theorem Inv.list_inj(I:Inv X pins σ H s)(h:SqL X.K H a xs)(h':SqL X.K H a ys):xs=ys:=by
 obtain⟨its,r,⟨o,n,e,_,_,d⟩,_⟩:=I.list h;obtain⟨its',N,⟨o',J,O,_,_,d'⟩,_⟩:=I.list h';rw[e]at O;cases O;rw[d]at d';injection d' with d1 _;have:its=its':=by simpa using congrArg Array.toList d1
 subst this;exact r.inj N
theorem Inv.tuple_inj(I:Inv X pins σ H s)(h:SqT X.K H a xs)(h':SqT X.K H a ys):xs=ys:=by
 obtain⟨its,r,⟨o,e,_,n,d⟩,_⟩:=I.tuple h;obtain⟨its',N,⟨o',O,_,J,d'⟩,_⟩:=I.tuple h';rw[e]at O;cases O;rw[d]at d';injection d' with d1 _;have:its=its':=by simpa using congrArg Array.toList d1
 subst this;exact r.inj N
abbrev Cx.wish(X:Cx)(E:Value->Mx->Prop):Cx:={X with xe:=E}
abbrev Cx.nox(X:Cx):Cx:=X.wish λ_ _=>False
theorem Cx.Ok.wish(ok:X.Ok)(E:Value->Mx->Prop):(X.wish E).Ok:=
 ⟨ok.mod,ok.kind,ok.glob,ok.blt,ok.above,ok.inj,ok.has,ok.cab,ok.hd,ok.frames,ok.stk,ok.exf,ok.bs,ok.bsz,ok.noex,ok.exfs,ok.funs,ok.frf⟩
theorem Cx.Ok.unwish(ok:(X.wish E).Ok):X.Ok:=
 ⟨ok.mod,ok.kind,ok.glob,ok.blt,ok.above,ok.inj,ok.has,ok.cab,ok.hd,ok.frames,ok.stk,ok.exf,ok.bs,ok.bsz,ok.noex,ok.exfs,ok.funs,ok.frf⟩
theorem Inv.wish(I:Inv X pins σ H s)(E:Value->Mx->Prop):Inv (X.wish E) pins σ H s:=⟨I.ok.wish E,I.os,I.bare,I.base,I.loc,I.cell,I.free,I.freeC,I.pin,I.hok,I.len⟩
variable{E:Value->Shared->Prop}
theorem Inv.unwish(I:Inv (X.wish E) pins σ H s):Inv X pins σ H s:=⟨I.ok.unwish,I.os,I.bare,I.base,I.loc,I.cell,I.free,I.freeC,I.pin,I.hok,I.len⟩
theorem SP.unwish{D:Ends}{f:Flow}(h:SP (X.wish E) pins D f s'):SP X pins D f s':=by
 cases f with
 |next=>obtain⟨F,H',I,q⟩:=h;exact⟨F,H',I.unwish,q⟩
 |brk=>obtain⟨F,H',I,q⟩:=h;exact⟨F,H',I.unwish,q⟩
 |cont=>obtain⟨F,H',I,q⟩:=h;exact⟨F,H',I.unwish,q⟩
 |ret u=>obtain⟨v,F,H',I,r,q⟩:=h;exact⟨v,F,H',I.unwish,r,q⟩
theorem PSs.nox{st:List Stmt}{t:TS}(h:PSs X.nox st t):PSs X st t:=λpins s σ H D I N=>
 Zr (h pins s σ H D (I.wish _) N) (λ_ _ q=>q.unwish) λ_ _ z=>aaX z
section
variable{X:Cx}{st:Stmt}{rest:List Stmt}{t u:TS}{e:Expr}{te:TE}{pos:Pos}
def RJ:TS:=λD σ H=>D.nx σ H
def Wl(t u:TS):TS:=λD σ H=>t {D with nx:=u D} σ H
theorem O4:PSs X [] RJ:=λ_ _ σ H _ I h=>acK ⟨σ,H,I,h⟩
theorem KH(h1:PS X st t)(h2:PSs X rest u):PSs X (st::rest) (Wl t u):=by
 intro pins s σ H D I h;refine wpAny_execs_cons (thn (h1 pins s σ H {D with nx:=u D} I h) λf O q=>?_);cases f with
 |next=>
  obtain⟨F,H',Y,q⟩:=q;exact h2 pins O F H' D Y q
 |ret v=>exact q
 |brk=>exact q
 |cont=>exact q
theorem Qq(h1:PS X st t):PSs X [st] t:=by
 intro pins s σ H D I h;refine wpAny_execs_cons (thn (h1 pins s σ H D I h) λf O q=>?_);cases f with
 |next=>exact acK q
 |ret v=>exact q
 |brk=>exact q
 |cont=>exact q
theorem Inv.quiet{pins:List (Addr×Obj)}{σ:St}{H:Hp}{s:Mx}(I:Inv X pins σ H s):interactive X.env=false:=by simp[interactive,I.ok.kind]
def RG(te:TE):TS:=λD σ H=>te σ H λ_ H1=>D.nx σ H1
theorem Qi(V:PE X e te)(hs:abD e none pos.line X.env=pure false:=by rfl):PS X (.Expr e pos) (RG te):=by
 intro pins s σ H D I h;exact wpAny_Expr_any (thn (V pins s σ H _ I h) λv O ⟨x,H1,F,U,q1⟩=>⟨σ,H1,F,q1⟩) I.quiet hs
def U6(te:TE):TS:=λD σ H=>te σ H D.rt
theorem LR(V:PE X e te):PS X (.Return (some e) pos) (U6 te):=by
 intro pins s σ H D I h;exact wpAny_Return_some (thn (V pins s σ H _ I h) λv O ⟨x,H1,F,U,q1⟩=>⟨x,σ,H1,F,U,q1⟩)
def W4(c:TT)(t u:TS):TS:=λD σ H=>c σ H λb H1=>if b=true then t D σ H1 else u D σ H1
theorem Rx{c:Expr}{a b:List Stmt}{tc:TT}(Z:PT X c tc)(Y:PSs X a t)(U:PSs X b u):PS X (.If c a b pos) (W4 tc t u):=by
 intro pins s σ H D I h;refine wpAny_If (thn (Z pins s σ H _ I h) λd O ⟨H1,F,q1⟩=>?_);cases d with
 |true=>exact Y pins O σ H1 D F q1
 |false=>exact U pins O σ H1 D F q1
end
abbrev TG:=V->St->Hp->(St->Hp->Prop)->Prop
abbrev TGs:=List V->St->Hp->(St->Hp->Prop)->Prop
def PG(X:Cx)(target:Expr)(t:TG):Prop:=
 ∀(pins:List (Addr×Obj))(s:Mx)(σ:St)(H:Hp)(v:V)(u:Value)(Q:St->Hp->Prop),Inv X pins σ H s->RelV v u->t v σ H Q->
  wpAny (model X.prog X.w) X.A (abU target X.env u) (λ_ s'=>∃F H',Inv X pins F H' s'/\Q F H') X.xe s
def PGs(X:Cx)(ts:List Expr)(t:TGs):Prop:=
 ∀(pins:List (Addr×Obj))(s:Mx)(σ:St)(H:Hp)(vs:List V)(us:List Value)(Q:St->Hp->Prop),Inv X pins σ H s->Vals vs us->t vs σ H Q->
  wpAny (model X.prog X.w) X.A (aeK ((Zt ts X.env).map (·.2)) us) (λ_ s'=>∃F H',Inv X pins F H' s'/\Q F H') X.xe s
abbrev Im:=V->V->V->Hp->(Hp->Prop)->Prop
def QL(X:Cx)(t:Im):Prop:=
 ∀(pins:List (Addr×Obj))(s:Mx)(σ:St)(H:Hp)(o i v:V)(Z N u:Value)(Q:Hp->Prop),Inv X pins σ H s->RelV o Z->RelV i N->RelV v u->t o i v H Q->
  wpAny (model X.prog X.w) X.A (setItem Z N u) (λ_ s'=>∃H',Inv X pins σ H' s'/\Q H') X.xe s
def uM(i:Nat):TG:=λv σ H Q=>Q (σ.set i (some v)) H
theorem yx(O:X.N.Nodup)(hi:X.N[i]? =some x)(J:Loc X.env.scope x)(F:X.fn x=true∨X.env.scope.names.lookup x=some .local:=by first|exact .inl rfl|exact .inr rfl|assumption):PG X (.Name x pos) (uM i):=by
 intro pins s σ H v u Q I r h;exact wpAny_assign_Name (mU I O hi J r (λs' Y=>⟨_,H,Y,h⟩) F)
def QZ:TGs:=λvs σ H Q=>vs=[]/\Q σ H
def JC(t:TG)(u:TGs):TGs:=λvs σ H Q=>∃v r,vs=v::r/\t v σ H λF H'=>u r F H' Q
theorem G_:PGs X [] QZ:=by
 intro pins s σ H vs us Q I r h;obtain⟨e,h⟩:=h;subst e;cases r;exact assignInOrder_nil ⟨σ,H,I,h⟩
theorem Cq{t:TG}{u:TGs}(h1:PG X e t)(h2:PGs X es u)
  (hs:(Zt (e::es) X.env).map (·.2)=abU e X.env::(Zt es X.env).map (·.2):=by rfl):PGs X (e::es) (JC t u):=by
 intro pins s σ H vs us Q I r h;obtain⟨v,q,e1,h⟩:=h;subst e1;cases r with
 |cons r V=>
  rw[hs];refine ac3 (thn (h1 pins s σ H _ _ _ I r h) λ_ O ⟨N,H1,F,q1⟩=>?_);exact h2 pins O N H1 _ _ Q F V q1
def T_(K:XS)(n:Nat)(t:TGs):TG:=λv σ H Q=>∃a xs,v= .ref a/\SqT K H a xs/\xs.length=n/\t xs σ H Q
variable{k:Nat}
theorem Ky{t:TGs}(Z:X.calm=true)(h:PGs X es t)
  (hn:(Zt es X.env).length=n:=by rfl) (q:(Zt es X.env).findIdx? (·.1)=none:=by rfl):PG X (.Tuple es k pos) (T_ X.K n t):=by
 intro pins s σ H v u Q I r O;obtain⟨a,xs,e1,N,Y,O⟩:=O;subst e1;cases r;obtain⟨its,V,U,hz⟩:=I.tuple N;refine assign_Tuple_tuple (I.ok.hd Z) U (by simp[hn,←Y,V.length]) q λh' J=>?_;have F:Inv X pins σ H {s with heap:=h'}:=I.kept (t':=s.toks) λb o e=>J b o (X8 (XR e)) e;exact h pins _ σ H xs _ Q F (by simpa using V) O
def lu(to q:TE)(t:Im):TG:=λv σ H Q=>to σ H λo H1=>q σ H1 λi H2=>t o i v H2 λJ=>Q σ J
theorem UL{o i:Expr}{to ti:TE}{t:Im}(N:PE X o to)(hi:PE X i ti)(hs:QL X t)
  (Y:∀v,abU (.Subscript o i pos) X.env v=(do
   let ov ←aa2 [v] (eval o X.env)
   let iv ←aa2 [v,ov] (eval i X.env)
   afi pos
   aa2 [v,ov,iv] (setItem ov iv v)
   release [v,ov,iv] []):=by intro _;rfl):PG X (.Subscript o i pos) (lu to ti t):=by
 intro pins s σ H v u Q I r h;rw[Y];refine gD (Y_ (thn (N pins s σ H _ I h) λov O ⟨x,H1,F,U,q1⟩=>?_));refine gD (Y_ (thn (hi pins O σ H1 _ F q1) λiv Z ⟨y,H2,V,r2,q2⟩=>?_));refine gD (aaP (gD (Y_ (thn (hs pins Z σ H2 x y v ov iv u _ V U r2 r q2) λ_ s3 ⟨J,I3,q⟩=>?_))));exact wpAny_release ⟨σ,J,I3,q⟩
def Oe(te:TE)(g:TG):TS:=λD σ H=>te σ H λx H1=>g x σ H1 D.nx
variable{te:TE}{g:TG}
theorem Li(V:PE X e te)(J:PG X tg g)(hs:abj [tg] e pos.line X.env=pure false:=by rfl)(N:acs [tg] e X.env=pure none:=by rfl)
  (h1:(Zt [tg] X.env).map (·.2)=[abU tg X.env]:=by rfl):PS X (.Assign [tg] e pos) (Oe te g):=by
 intro pins s σ H D I h;refine wpAny_Assign_stores (thn (V pins s σ H _ I h) λv O ⟨x,H1,F,U,q1⟩=>?_) hs N;rw[h1];exact thn (J pins O σ H1 x v _ F U q1) λ_ Z q=>q
theorem J_(Y:X.N.Nodup)(hi:X.N[i]? =some x)(J:Loc X.env.scope x)(V:PE X e te)(hs:abD e (some (.Name x pos')) pos.line X.env=pure false:=by rfl)(F:X.fn x=true∨X.env.scope.names.lookup x=some .local:=by first|exact .inl rfl|exact .inr rfl|assumption) :
  PS X (.Assign [.Name x pos'] e pos) (Oe te (uM i)):=by
 intro pins s σ H D I h;refine wpAny_Assign_Name (thn (V pins s σ H _ I h) λv O ⟨y,H1,q,U,q1⟩=>?_) hs;exact mU q Y hi J U (λZ I2=>⟨_,H1,I2,q1⟩) F
def WL(i j:Nat)(ta:TA):TS:=λD σ H=>ta σ H λvs H1=>∃v w,vs=[v,w]/\D.nx ((σ.set i (some v)).set j (some w)) H1
variable{a:Expr}{ta:TA}
theorem U3{y:Str}{b:Expr}{px py pt:Pos}{kt k2 pt2}(Z:X.calm=true)(hN:X.N.Nodup)(hi:X.N[i]? =some x)(V:X.N[j]? =some y)(a2:i≠j)
  (J:X.env.scope.names.lookup x=some .local) (hy:X.env.scope.names.lookup y=some .local) (Y:PA X [a,b] ta)
  (hw:acs [.Tuple [.Name x px,.Name y py] kt pt] (.Tuple [a,b] k2 pt2) X.env=pure (some [x,y]))
  (hs:abj [.Tuple [.Name x px,.Name y py] kt pt] (.Tuple [a,b] k2 pt2) pos.line X.env=pure false:=by rfl) :
  PS X (.Assign [.Tuple [.Name x px,.Name y py] kt pt] (.Tuple [a,b] k2 pt2) pos) (WL i j ta):=by
 intro pins s σ H D I h;rw[adZ];refine gD (aaP ?_);rw[hs];refine gD (yr ?_);rw[Yc (by decide)];refine gD (Tuple_ (thn (Y _ pins s σ H _ I h) λus O ⟨vs,H1,F,U,q1⟩=>?_));obtain⟨v,w,e1,q1⟩:=q1;subst e1;obtain⟨u1,u2,rfl,rv,a1⟩:∃u1 u2,us=[u1,u2]/\RelV v u1/\RelV w u2:=by
  cases U with
  |cons p q=>
   cases q with
   |cons p' q'=>
    cases q';exact⟨_,_,rfl,p,p'⟩
 refine YQ ?_ (by show 2<=X3;decide);have I2:Inv X pins σ H1 {O with heap:=O.heap.push {cls:=.type "tuple",data:=.seq [u1,u2].toArray}}:=F.kept (t':=O.toks) λb o e=>qb _ e;rw[hw];refine gD (yr ?_);show wpAny (model X.prog X.w) X.A (do rule "assign.swapped-stores";let items ←unpackItems (.ref O.heap.objs.size) 2 none;aeK [λv=>bindName X.env y v,λv=>bindName X.env x v] items.reverse;pure Flow.next) _ _ _;refine gD (aap (gD (unpackItems_tuple (items:=#[u1,u2]) (I.ok.hd Z) (IsTup.new O.heap _) λh' a0=>?_)));have I3:=I2.kept (h':=h') (t':=O.toks) λb o e=>a0 b o (X8 (XR e)) e;show wpAny _ _ (aeK [λv=>bindName X.env y v,λv=>bindName X.env x v] [u2,u1] >>=λ_=>pure Flow.next) _ _ _;refine gD (ac3 (wpAny_bindName (mU I3 hN V (.inl hy) a1 (λs2 I4=>?_) (.inr hy))));refine ac3 (wpAny_bindName (mU I4 hN hi (.inl J) rv (λs3 I5=>assignInOrder_nil (yr ?_)) (.inr J)));rw[List.set_comm _ _ (YC a2)]at I5;exact⟨_,H1,I5,q1⟩
def Lb(c:TT)(tb:TS):TS:=λD σ H=>∃W:Nat->St->Hp->Prop,(∃m,W m σ H)/\∀m σ H,W m σ H->
 c σ H λb H1=>if b=true then ∃N:St->Hp->Prop,(∀F H',N F H'->∃O,O<m/\W O F H')/\tb {D with nx:=N,ct:=N,bk:=D.nx} σ H1 else D.nx σ H1
variable{tb:TS}
theorem Ls{V:List Stmt}{tc:TT}(hp:ad0 (model X.prog X.w) X.A X.env X.xe)(Z:PT X c tc)(U:PSs X V tb):PS X (.While c V [] pos) (Lb tc tb):=by
 intro pins s σ H D I h;obtain⟨W,⟨m0,w0⟩,a2⟩:=h;refine wpAny_While (codeAny_whileLoop (λn s'=>∃F H',Inv X pins F H' s'/\W n F H') ?_ m0 ⟨σ,H,I,w0⟩);rintro n O ⟨a1,H1,I1,w1⟩;refine aaJ hp (thn (Z pins O a1 H1 _ I1 (a2 n a1 H1 w1)) λb s2 ⟨H2,I2,q2⟩=>?_);cases b with
 |true=>
  obtain⟨N,hN,q2⟩:=q2;rw[X7 rfl];refine aaJ hp (thn (U pins s2 a1 H2 _ I2 q2) λf s3 q=>?_);cases f with
  |next=>
   obtain⟨a0,H3,I3,Y⟩:=q;obtain⟨m',J,w3⟩:=hN a0 H3 Y;exact⟨m',J,a0,H3,I3,w3⟩
  |cont=>
   obtain⟨a0,H3,I3,Y⟩:=q;obtain⟨m',J,w3⟩:=hN a0 H3 Y;exact⟨m',J,a0,H3,I3,w3⟩
  |brk=>exact q
  |ret v=>exact q
 |false=>
  rw[Yc YS];exact acK ⟨a1,H2,I2,q2⟩
structure It where
 go:Nat->Hp->Prop
 yld:Nat->Hp->V->Hp->Prop
 stop:Nat->Hp->Prop
def jA(X:Cx)(pins:List (Addr×Obj))(H:Hp)(b:Addr):Prop:=
 H b=none/\b≠X.env.locals/\b∉X.fs/\(b∈X.ex∨X.s₀.heap.objs.size<=b)/\(∀x c,X.env.cells.lookup x=some c->c≠b)/\∀p∈X.pn++pins,p.1≠b
variable{s:Mx}
theorem Inv.fpOk(I:Inv X pins σ H s)(U:s.heap.objs.size<=b)(hn:H' b=none):jA X pins H' b:=by
 refine⟨hn,Zx (Yk I.lt U),I.nofs U,.inr (Zq I.sz U),λx c e z=>?_,λp F z=>?_⟩
 .obtain⟨v,q⟩:=I.cell x c e
  exact absurd (Yk q.lt (by rw[z];exact U)) (Zn _)
 .exact absurd (Yk (XR (I.pin p F).1) (by rw[z];exact U)) (Zn _)
structure Turn(P:Program)(w:World)(K:PySem.W.Frag)(tg:Expr)(J:It)(fp:List Addr)(it:Addr)(tn:Nat->Heap->Prop):Prop where
 mem:it∈fp
 obj:∀i h,tn i h->∀b∈fp,∃o,h.get? b=some o/\∀v,o.data≠.cell v
 keep:∀i h h',tn i h->(∀b∈fp,∀o,h.get? b=some o->h'.get? b=some o)->tn i h'
 item:∀(X:Cx),X.prog=P->X.w=w->X.K=K->X.calm=true->∀(i:Nat)(pins:List (Addr×Obj))(s:Mx)(σ:St)(H:Hp)(E:Value->Mx->Prop),Inv X pins σ H s->(∀b∈fp,jA X pins H b)->tn i s.heap->J.go i H->
  wpAny (model P w) X.A (aax (.ref it)) (λr s1=>∃u,r=some u/\
   wpAny (model P w) X.A (abP tg (.ref it) u) (λ_ s2=>∃x H',Inv X pins σ H' s2/\RelV x u/\J.yld i H x H'/\tn (i+1) s2.heap/\∀b∈fp,H' b=none) E s1) E s
 done:∀(X:Cx),X.prog=P->X.w=w->X.K=K->X.calm=true->∀(i:Nat)(pins:List (Addr×Obj))(s:Mx)(σ:St)(H:Hp)(E:Value->Mx->Prop),Inv X pins σ H s->(∀b∈fp,jA X pins H b)->tn i s.heap->J.stop i H->
  wpAny (model P w) X.A (aax (.ref it)) (λr s1=>r=none/\Inv X pins σ H s1) E s
 self:∀(A:Zc)(i:Nat)(s:Mx)(Q:Value->Mx->Prop)(E:Value->Mx->Prop),tn i s.heap->Q (.ref it) s->wpAny (model P w) A (aee (.ref it)) Q E s
abbrev TI:=St->Hp->(It->Hp->Prop)->Prop
def PIE(X:Cx)(pins:List (Addr×Obj))(σ:St)(tg:Expr)(R:It->Hp->Prop)(F:Value)(Z:Mx):Prop:=
 ∃(it:Addr)(fp:List Addr)(q:Nat->Heap->Prop)(J:It)(H':Hp),F= .ref it/\Inv X pins σ H' Z/\Turn X.prog X.w X.K tg J fp it q/\q 0 Z.heap/\(∀b∈fp,jA X pins H' b)/\R J H'
def PI(X:Cx)(tg iter:Expr)(wi:TI):Prop:=
 ∀(pins:List (Addr×Obj))(s:Mx)(σ:St)(H:Hp)(R:It->Hp->Prop),Inv X pins σ H s->wi σ H R->
  wpAny (model X.prog X.w) X.A (eval iter X.env) (λv O=>wpAny (model X.prog X.w) X.A (aee v) (PIE X pins σ tg R) X.xe O) X.xe s
theorem JS   {E:Value->Mx->Prop}      {n:String} {vs:Array Value}  (N:s.heap.get? it=some o) (Z:o.cls = .type n) (hd:o.data = .fields vs)
    (hn:["enumerate", "zip", "dict_itemiterator", "dict_reverseitemiterator", "odict_iterator", "itertools.zip_longest", "itertools.pairwise"].contains n=false) (q:Q () s):wpAny M A (abP tg (.ref it) u) Q E s:=by
  unfold abP
  cases tg <;> first
    | exact yr q
    | (cases u <;> first
        | exact yr q
        | (refine gD (ab3 N ?_)
           rw [Z,hd]
           show wpAny M A (if (["enumerate", "zip", "dict_itemiterator", "dict_reverseitemiterator", "odict_iterator", "itertools.zip_longest", "itertools.pairwise"].contains n && vs[0]? == some (Zk _))=true then _ else _) Q E s
           rw [Yc (by intro h; rw [hn,Bool.false_and] at h; cases h)]
           exact yr q))
def Itl(K:XS)(a:Addr):It:=
 ⟨λi H=>∃xs x,SqL K H a xs/\xs[i]? =some x,λi H x H'=>H'=H/\∀xs,SqL K H a xs->xs[i]? =some x,λi H=>∃xs,SqL K H a xs/\xs.length<=i⟩
def Itt(K:XS)(a:Addr):It:=
 ⟨λi H=>∃xs x,SqT K H a xs/\xs[i]? =some x,λi H x H'=>H'=H/\∀xs,SqT K H a xs->xs[i]? =some x,λi H=>∃xs,SqT K H a xs/\xs.length<=i⟩
def Itr(lo:Int)(n:Nat):It:=⟨λi _=>i<n,λi H x H'=>H'=H/\x= .int (lo+i),λi _=>n<=i⟩
variable{P:YG}
theorem Ia{K:XS}(a it:Addr):Turn P w K tg (Itl K a) [it] it (λi h=>h.IsListIter it a i)where
 mem:=by simp
 obj:=λi h st b U=>by
  have e:b=it:=by simpa using U
  subst e;obtain⟨o,e,c,d⟩:=st;exact⟨o,e,λv z=>by rw[d]at z;cases z⟩
 keep:=λi h h' st k=>st.at λo e=>k it (by simp) o e
 item:=by
  intro X hP hw hK Z i pins s σ H E I F st q;subst hP hw hK;obtain⟨xs,x,N,J⟩:=q;obtain⟨its,rv,p,hz⟩:=I.list N;obtain⟨u,O,ru⟩:=rv.get J;obtain⟨f0,f1,f2,f3,f4,f5⟩:=F it (by simp);refine acg st p.isList (x:=u) (by simpa using O) λh' a0 sb=>?_;have I1:Inv X pins σ H {s with heap:=h'}:=I.turned (t':=s.toks) (λb o U e=>(sb.2 b U).trans e) f0 f1 f3 f4 f5;obtain⟨o,e,c,d⟩:=id a0;exact⟨u,rfl,JS (s:={s with heap:=h'}) e c d (by decide) ⟨x,H,I1,ru,⟨rfl,λys V=>by rw[I.list_inj V N];exact J⟩,a0,λb U=>(F b U).1⟩⟩
 done:=by
  intro X hP hw hK Z i pins s σ H E I F st q;subst hP hw hK;obtain⟨xs,N,J⟩:=q;obtain⟨its,rv,p,hz⟩:=I.list N;obtain⟨f0,f1,f2,f3,f4,f5⟩:=F it (by simp);have Y:=rv.length;exact acE (I.ok.hd Z) st p.isList (by simp;omega) λh' eb=>⟨rfl,I.turned (t':=s.toks) (λb o U e=>eb b o U e) f0 f1 f3 f4 f5⟩
 self:=λ_ _ _ _ _ st h=>wpAny_pyIter_listiter st h
theorem DP{K:XS}(a it:Addr):Turn P w K tg (Itt K a) [it] it (λi h=>h.IsTupleIter it a i)where
 mem:=by simp
 obj:=λi h st b U=>by
  have e:b=it:=by simpa using U
  subst e;obtain⟨o,e,c,d⟩:=st;exact⟨o,e,λv z=>by rw[d]at z;cases z⟩
 keep:=λi h h' st k=>st.at λo e=>k it (by simp) o e
 item:=by
  intro X hP hw hK Z i pins s σ H E I F st q;subst hP hw hK;obtain⟨xs,x,N,J⟩:=q;obtain⟨its,rv,p,hz⟩:=I.tuple N;obtain⟨u,O,ru⟩:=rv.get J;obtain⟨f0,f1,f2,f3,f4,f5⟩:=F it (by simp);refine wpAny_pyNext_tuple_item st (show s.heap.IsTuple a its.toArray from p) (x:=u) (by simpa using O) λh' a0 sb=>?_;have I1:Inv X pins σ H {s with heap:=h'}:=I.turned (t':=s.toks) (λb o U e=>(sb.2 b U).trans e) f0 f1 f3 f4 f5;obtain⟨o,e,c,d⟩:=id a0;exact⟨u,rfl,JS (s:={s with heap:=h'}) e c d (by decide) ⟨x,H,I1,ru,⟨rfl,λys V=>by rw[I.tuple_inj V N];exact J⟩,a0,λb U=>(F b U).1⟩⟩
 done:=by
  intro X hP hw hK Z i pins s σ H E I F st q;subst hP hw hK;obtain⟨xs,N,J⟩:=q;obtain⟨its,rv,p,hz⟩:=I.tuple N;obtain⟨f0,f1,f2,f3,f4,f5⟩:=F it (by simp);have Y:=rv.length;exact wpAny_pyNext_tuple_end (I.ok.hd Z) st (show s.heap.IsTuple a its.toArray from p) (by simp;omega) λh' eb=>⟨rfl,I.turned (t':=s.toks) (λb o U e=>eb b o U e) f0 f1 f3 f4 f5⟩
 self:=λ_ _ _ _ _ st h=>wpAny_pyIter_tupleiter st h
theorem DY{K:XS}(it:Addr)(lo:Int)(n:Nat):Turn P w K tg (Itr lo n) [it] it (λi h=>IsRangeIter h it (lo+(i:Nat)*1) ((n:Int)-(i:Nat)) 1)where
 mem:=by simp
 obj:=λi h st b U=>by
  have e:b=it:=by simpa using U
  subst e;exact⟨_,st,λv z=>by
   have z':Data.fields _=Data.cell v:=z;cases z'⟩
 keep:=λi h h' st k=>k it (by simp) _ st
 item:=by
  intro X hP N V Z i pins s σ H E I F st q;subst hP N V;obtain⟨f0,J,f2,O,f4,f5⟩:=F it (by simp);have W:=Walks.range (prog:=X.prog) (w:=X.w) (I.ok.hd Z) it lo 1 n;refine W.item i s _ _ q st λv h' tk hv Y kk=>?_;obtain⟨t,rfl⟩:=hv;have I1:Inv X pins σ H {s with heap:=h',toks:=tk}:=I.turned (λb o U e=>kk b o (by simpa using U) e) f0 J O f4 f5;refine⟨_,rfl,JS (s:={s with heap:=h',toks:=tk}) (n:="range_iterator") Y rfl rfl (by decide) ⟨.int (lo+i),H,I1,⟨t,?_⟩,⟨rfl,rfl⟩,Y,λb U=>(F b U).1⟩⟩;rw[Int.mul_one]
 done:=by
  intro X hP N V Z i pins s σ H E I F st q;subst hP N V;obtain⟨f0,J,f2,O,f4,f5⟩:=F it (by simp);exact wpAny_pyNext_range_end (I.ok.hd Z) st (by have:n<=i:=q;omega) λh' eb=>⟨rfl,I.turned (t':=s.toks) (λb o U e=>eb b o U e) f0 J O f4 f5⟩
 self:=λ_ _ _ _ _ st h=>wpAny_pyIter_rangeiter st h
theorem KD{R:It->Hp->Prop}{E:Value->Mx->Prop}{lo hi:Int}{t u v:Tok}(I:Inv X pins σ H s)(h1: -(2 ^ 62)<=lo)(h2:lo<2 ^ 62)(F: -(2 ^ 62)<=hi)(O:hi<2 ^ 62)
  (q:R (Itr lo (hi-lo).toNat) H):wpAny (model X.prog X.w) X.A (aee (.ref s.heap.objs.size)) (PIE X pins σ tg R) E {s with heap:=s.heap.push {cls:=.type "range",data:=.fields #[.int lo t,.int hi u,.int 1 v]},toks:=tk}:=by
 refine wpAny_pyIter_range (IsRange.new ..) (small_one h1 h2 F O) ?_;have J:Inv X pins σ H {s with heap:=s.heap.push {cls:=.type "range",data:=.fields #[.int lo t,.int hi u,.int 1 v]},toks:=tk}:=I.kept λb o e=>qb _ e;refine⟨(s.heap.push {cls:=.type "range",data:=.fields #[.int lo t,.int hi u,.int 1 v]}).objs.size,[(s.heap.push {cls:=.type "range",data:=.fields #[.int lo t,.int hi u,.int 1 v]}).objs.size],_,_,H,rfl,
  J.kept (t':=tk) λb o e=>qb _ e,DY _ lo (hi-lo).toNat,?_,λb U=>?_,q⟩
 .have e1:lo+((0:Nat):Int)*1=lo:=by simp
  have e2:(((hi-lo).toNat:Nat):Int)-((0:Nat):Int)=Builtin.Range.rangeSize lo hi 1:=by rw[rangeSize_one];split<;>omega
  show IsRangeIter _ _ (lo+((0:Nat):Int)*1) ((((hi-lo).toNat:Nat):Int)-((0:Nat):Int)) 1;rw[e1,e2];exact X4 _ rfl
 .have e:b=(s.heap.push {cls:=.type "range",data:=.fields #[.int lo t,.int hi u,.int 1 v]}).objs.size:=by simpa using U
  subst e;exact J.fpOk (XQ _) (J.hok.fresh (XQ _))
def NT(ta:TA):TI:=λσ H R=>ta σ H λvs H1=>∃j:Int,vs=[.int j]/\-(2 ^ 62)<=j/\j<2 ^ 62/\R (Itr 0 j.toNat) H1
theorem xH{p:Pos}(N:Gl X "range")(J:X.mg "range"=none)(Y:PA X [a] ta)(hs:X_ [a] X.env=[(false,eval a X.env)]:=by rfl):PI X tg (.Call (.Name "range" p) [a] [] pos) (NT ta):=by
 intro pins s σ H R I h;refine Call_ (kY I N J boot_range (aaf (thn (Y pos pins s σ H _ I h) λus O ⟨vs,H1,F,U,q1⟩=>?_) hs rfl));obtain⟨j,e,q1,q2,q⟩:=q1;subst e;cases U with
 |cons r V=>
  cases V;obtain⟨t,rfl⟩:=r;exact call_range_1 (KD F (by omega) (by omega) q1 q2 (by simpa using q))
def T3(wi:TI)(g:TG)(tb:TS):TS:=λD σ H=>wi σ H λJ H1=>∃W:Nat->Nat->St->Hp->Prop,(∃m,W 0 m σ H1)/\∀i m σ H,W i m σ H->
 (J.stop i H/\D.nx σ H)∨(J.go i H/\∃N:St->Hp->Prop,(∀F H',N F H'->∃O,O<m/\W (i+1) O F H')/\∀x H',J.yld i H x H'->g x σ H' λσ2 H2=>tb {D with nx:=N,ct:=N,bk:=D.nx} σ2 H2)
def jT(fp:List Addr)(h:Heap):List (Addr×Obj):=fp.filterMap λb=>(h.get? b).map λo=>(b,o)
theorem dH(U:b∈fp)(e:h.get? b=some o):(b,o)∈jT fp h:=ac4.mpr ⟨b,U,by rw[e];rfl⟩
theorem qY{p:Addr×Obj}(F:p∈jT fp h):p.1∈fp/\h.get? p.1=some p.2:=by
 obtain⟨b,U,e⟩:=ac4.mp F;cases q:h.get? b with
 |none=>rw[q]at e;cases e
 |some o=>
  rw[q]at e;have O:(b,o)=p:=Y4 e;subst O;exact⟨U,q⟩
theorem Inv.pinned(I:Inv X pins σ H s)(Y:∀b∈fp,jA X pins H b)(N:∀b∈fp,∃o,s.heap.get? b=some o/\∀v,o.data≠.cell v):Inv X (pins++jT fp s.heap) σ H s:=
 I.pins_of λp F=>(XC.mp F).elim (λz=>I.pin p (XD _ z)) λz=>by
  obtain⟨U,e⟩:=qY z;obtain⟨q,J,V,_⟩:=Y p.1 U;obtain⟨o,O,d⟩:=N p.1 U;rw[e]at O;cases O;exact⟨e,q,J,V,d⟩
theorem Inv.unpinned{q:List (Addr×Obj)}(I:Inv X (pins++q) σ H s):Inv X pins σ H s:=I.pins_of λp F=>I.pin p (XD _ (X6 _ F))
theorem NZ{iter:Expr}{V:List Stmt}{wi:TI}(hp:ad0 (model X.prog X.w) X.A X.env X.xe)(Z:X.calm=true)(hi:PI X tg iter wi)(q:PG X tg g)(U:PSs X V tb)
  (hs:∀x,ZF iter X.env x=pure x:=by intro _;rfl):PS X (.For tg iter V [] pos) (T3 wi g tb):=by
 intro pins s σ H D I h;refine wpAny_For (thn (hi pins s σ H _ I h) λv s1 h1=>thn h1 λb2 s2 h2=>?_) hs;obtain⟨it,fp,tn,J,H2,e,I2,T,a9,f2,W,⟨m0,w0⟩,a7⟩:=h2;subst e;have a3:∀{H':Hp},(∀b∈fp,H' b=none)->∀b∈fp,jA X pins H' b:=λhn b U=>⟨hn b U,(f2 b U).2⟩;refine codeAny_forLoop_any (λn s'=>∃i F H',Inv X pins F H' s'/\tn i s'.heap/\(∀b∈fp,H' b=none)/\W i n F H') ?_ m0 ⟨0,σ,H2,I2,a9,λb U=>(f2 b U).1,w0⟩;rintro n s3 ⟨i,a2,H3,I3,a5,a6,w3⟩;rcases a7 i n a2 H3 w3 with⟨stop,qn⟩|⟨go,N,hN,step⟩
 .refine aaJ hp (thn (T.done X rfl rfl rfl Z i pins s3 a2 H3 X.xe I3 (a3 a6) a5 stop) λr Y ⟨O,I4⟩=>?_)
  subst O;exact acK ⟨a2,H3,I4,qn⟩
 .refine aaJ hp (thn (T.item X rfl rfl rfl Z i pins s3 a2 H3 X.xe I3 (a3 a6) a5 go) λr Y ⟨u,O,h4⟩=>?_)
  subst O;refine aaJ hp (thn h4 λ_ s5 ⟨x,H5,I5,r5,y5,a4,a8⟩=>?_);have b0:=I5.pinned (a3 a8) (T.obj _ _ a4);refine aaJ hp (thn (q _ s5 a2 H5 x u _ b0 r5 (step x H5 y5)) λ_ s6 ⟨b1,H6,I6,q6⟩=>?_);refine aaJ hp (thn (U _ s6 b1 H6 _ I6 q6) λf s7 q7=>?_);have a1:∀{a0:St}{H7:Hp},Inv X (pins++jT fp s5.heap) a0 H7 s7->N a0 H7->∃m,m<n/\∃i F H',Inv X pins F H' s7/\tn i s7.heap/\(∀b∈fp,H' b=none)/\W i m F H':=λ{a0 H7} I7 n7=>by
   obtain⟨m',hm,w7⟩:=hN a0 H7 n7;refine⟨m',hm,i+1,a0,H7,I7.unpinned,T.keep _ _ _ a4 λb U o e=>(I7.pin (b,o) (XD _ (XD _ (dH U e)))).1,λb U=>?_,w7⟩;obtain⟨o,e,d⟩:=T.obj _ _ a4 b U;exact(I7.pin (b,o) (XD _ (XD _ (dH U e)))).2.1
  cases f with
  |next=>obtain⟨a0,H7,I7,n7⟩:=q7;exact a1 I7 n7
  |cont=>obtain⟨a0,H7,I7,n7⟩:=q7;exact a1 I7 n7
  |brk=>obtain⟨a0,H7,I7,q7⟩:=q7;exact⟨a0,H7,I7.unpinned,q7⟩
  |ret v=>obtain⟨x7,a0,H7,I7,r7,q7⟩:=q7;exact⟨x7,a0,H7,I7.unpinned,r7,q7⟩
abbrev R2:=V->V->Hp->VK->Prop
def OpR(X:Cx)(f:Value->Value->Sem Value)(r:R2):Prop:=
 ∀(pins:List (Addr×Obj))(s:Mx)(σ:St)(H:Hp)(x y:V)(v u:Value)(Q:VK),Inv X pins σ H s->RelV x v->RelV y u->r x y H Q->
  wpAny (model X.prog X.w) X.A (f v u) (EP X pins σ Q) X.xe s
def UnR(X:Cx)(f:Value->Sem Value)(r:V->Hp->VK->Prop):Prop:=
 ∀(pins:List (Addr×Obj))(s:Mx)(σ:St)(H:Hp)(x:V)(v:Value)(Q:VK),Inv X pins σ H s->RelV x v->r x H Q->
  wpAny (model X.prog X.w) X.A (f v) (EP X pins σ Q) X.xe s
def dq(X:Cx)(f:Value)(r:List V->Hp->VK->Prop):Prop:=
 ∀(pins:List (Addr×Obj))(s:Mx)(σ:St)(H:Hp)(xs:List V)(us:List Value)(Q:VK),Inv X pins σ H s->Vals xs us->r xs H Q->
  wpAny (model X.prog X.w) X.A (call f us) (EP X pins σ Q) X.xe s
def Xc(X:Cx)(r:V->Hp->(Bool->Hp->Prop)->Prop):Prop:=
 ∀(pins:List (Addr×Obj))(s:Mx)(σ:St)(H:Hp)(x:V)(v:Value)(Q:Bool->Hp->Prop),Inv X pins σ H s->RelV x v->r x H Q->
  wpAny (model X.prog X.w) X.A (truthy v) (TP X pins σ Q) X.xe s
def tOp(r:R2)(ta tb:TE):TE:=λσ H Q=>ta σ H λx H1=>tb σ H1 λy H2=>r x y H2 Q
def tUn(r:V->Hp->VK->Prop)(ta:TE):TE:=λσ H Q=>ta σ H λx H1=>r x H1 Q
def rI(C:Int->Int->Prop)(g:Int->Int->V):R2:=λx y H Q=>∃i j,x= .int i/\y= .int j/\C i j/\Q (g i j) H
def rI0(g:Int->Int->V):R2:=λx y H Q=>∃i j,x= .int i/\y= .int j/\Q (g i j) H
def rU(g:Int->V):V->Hp->VK->Prop:=λx H Q=>∃i,x= .int i/\Q (g i) H
variable{b:Expr}{f:Value->Value->Sem Value}{ta tb:TE}
theorem Tg(Y:PE X a ta)(U:PE X b tb){R:V->V->Hp->Prop}(I:Inv X pins σ H s)
  (h:ta σ H λx H1=>tb σ H1 λy H2=>R x y H2) {Q:Value->Mx->Prop} 
  (F:∀v u Z x y H2,Inv X pins σ H2 Z->RelV x v->RelV y u->R x y H2->wpAny (model X.prog X.w) X.A (f v u) Q X.xe Z) :
  wpAny (model X.prog X.w) X.A (eval a X.env) (λv J=>wpAny (model X.prog X.w) X.A (eval b X.env) (λu q=>wpAny (model X.prog X.w) X.A (f v u) Q X.xe q) X.xe J) X.xe s:=by
 refine thn (Y pins s σ H _ I h) λv O ⟨x,H1,I1,r1,q1⟩=>?_;refine thn (U pins O σ H1 _ I1 q1) λu Z ⟨y,H2,I2,N,q2⟩=>?_;exact F v u Z x y H2 I2 r1 N q2
variable{r:R2}
theorem Rm{op:Operator}(N:OpR X (ZR op) r)(Y:PE X a ta)(U:PE X b tb):PE X (.BinOp a op b pos) (tOp r ta tb):=by
 intro pins s σ H Q I h;exact wpAny_BinOp (Tg Y U I h λv u Z x y H2 V rx J q=>N pins Z σ H2 x y v u Q V rx J q)
theorem Vh{op:UnaryOp}{r:V->Hp->VK->Prop}(N:UnR X (unaryOp op) r)(Y:PE X a ta):PE X (.UnaryOp op a pos) (tUn r ta):=by
 intro pins s σ H Q I h;exact UnaryOp_ (thn (Y pins s σ H _ I h) λv O ⟨x,H1,F,U,q1⟩=>N pins O σ H1 x v Q F U q1)
variable{g:Int->Int->Int}
theorem opI
  (F:∀(i j:Int)(t u:Tok)(s:Mx)(Q:Value->Mx->Prop)(E:Value->Mx->Prop),C i j->Q (.int (g i j) s.toks) {s with toks:=s.toks+1}->wpAny (model X.prog X.w) X.A (f (.int i t) (.int j u)) Q E s) :
  OpR X f (rI C λi j=>.int (g i j)):=by
 intro pins s σ H x y v u Q I rx J h;obtain⟨i,j,rfl,rfl,Z,q⟩:=h;obtain⟨t,rfl⟩:=rx;obtain⟨t',rfl⟩:=J;exact F i j t t' s _ _ Z ⟨.int (g i j),H,I.tok _,⟨_,rfl⟩,q⟩
theorem W8
  (F:∀(i j:Int)(t u:Tok)(s:Mx)(Q:Value->Mx->Prop)(E:Value->Mx->Prop),Q (.int (g i j) s.toks) {s with toks:=s.toks+1}->wpAny (model X.prog X.w) X.A (f (.int i t) (.int j u)) Q E s) :
  OpR X f (rI0 λi j=>.int (g i j)):=by
 intro pins s σ H x y v u Q I rx J h;obtain⟨i,j,rfl,rfl,q⟩:=h;obtain⟨t,rfl⟩:=rx;obtain⟨t',rfl⟩:=J;exact F i j t t' s _ _ ⟨.int (g i j),H,I.tok _,⟨_,rfl⟩,q⟩
theorem Qy{g:Int->Int->Bool}
  (F:∀(i j:Int)(t u:Tok)(s:Mx)(Q:Value->Mx->Prop)(E:Value->Mx->Prop),Q (.bool (g i j)) s->wpAny (model X.prog X.w) X.A (f (.int i t) (.int j u)) Q E s) :
  OpR X f (rI0 λi j=>.bl (g i j)):=by
 intro pins s σ H x y v u Q I rx J h;obtain⟨i,j,rfl,rfl,q⟩:=h;obtain⟨t,rfl⟩:=rx;obtain⟨t',rfl⟩:=J;exact F i j t t' s _ _ ⟨.bl (g i j),H,I,rfl,q⟩
def Xq(i j:Int):Prop:=0<=j/\j<=1000000/\i.natAbs<2 ^ 64
def Ub(i j:Int):Prop:=(-(2 ^ 64)<i/\i<2 ^ 64)∨(-(2 ^ 64)<j/\j<2 ^ 64)
theorem Ub.ok{i j:Int}(h:Ub i j):IntMulOk i j:=by
 rcases h with⟨h1,h2⟩|⟨h1,h2⟩
 .exact .of_left (intBits_le_64 h1 h2)
 .exact .of_right (intBits_le_64 h1 h2)
theorem TX:OpR X (ZR .Add) (rI0 λi j=>.int (i+j)):=W8 λ_ _ _ _ _ _ _ q=>add_int q
theorem Su:OpR X (ZR .Sub) (rI0 λi j=>.int (i-j)):=W8 λ_ _ _ _ _ _ _ q=>sub_int q
theorem S9:OpR X (ZR .Mult) (rI Ub λi j=>.int (i*j)):=opI λ_ _ _ _ _ _ _ Z q=>mul_int q Z.ok
theorem Tc:OpR X (ZR .Mod) (rI (λ_ j=>0<j) λi j=>.int (i % j)):=opI λi j _ _ _ _ _ Z q=>by
 have h1:(0:Int)<j:=Z;exact mod_int' (by omega) (by rw[Int.fmod_eq_emod_of_nonneg i (by omega)];exact q)
theorem Sw:OpR X (ZR .Pow) (rI Xq λi j=>.int (i ^ j.toNat)):=opI λ_ _ _ _ _ _ _ Z q=>pow_int_small Z.1 Z.2.1 Z.2.2 q
theorem unI{f:Value->Sem Value}{g:Int->Int}
  (F:∀(i:Int)(t:Tok)(s:Mx)(Q:Value->Mx->Prop)(E:Value->Mx->Prop),Q (.int (g i) s.toks) {s with toks:=s.toks+1}->wpAny (model X.prog X.w) X.A (f (.int i t)) Q E s) :
  UnR X f (rU λi=>.int (g i)):=by
 intro pins s σ H x v Q I rx h;obtain⟨i,rfl,q⟩:=h;obtain⟨t,rfl⟩:=rx;exact F i t s _ _ ⟨.int (g i),H,I.tok _,⟨_,rfl⟩,q⟩
theorem Uc:UnR X (unaryOp .USub) (rU λi=>.int (-i)):=unI λ_ _ _ _ _ q=>neg_int q
theorem Ef{Q:VK}{k F:Bool}(I:Inv X pins σ H s)(q:Q (.bl k) H)(e:k=F):EP X pins σ Q (.bool F) s:=by
 subst e;exact⟨.bl k,H,I,rfl,q⟩
theorem WF:OpR X (YK .Lt) (rI0 λi j=>.bl (decide (i<j))):=Qy λ_ _ _ _ _ _ _ q=>lt_int q
theorem VG:OpR X (YK .LtE) (rI0 λi j=>.bl (decide (i<=j))):=Qy λ_ _ _ _ _ _ _ q=>le_int q
theorem Ve:OpR X (YK .Gt) (rI0 λi j=>.bl (decide (j<i))):=Qy λ_ _ _ _ _ _ _ q=>gt_int q
theorem WP:OpR X (YK .GtE) (rI0 λi j=>.bl (decide (j<=i))):=Qy λ_ _ _ _ _ _ _ q=>ge_int q
theorem HF:OpR X (YK .Lt) (λx y H Q=>∃i j,x= .str i/\y= .str j/\Q (.bl (decide (i.cps.toList<j.cps.toList))) H):=by
 intro pins s σ H x y v u Q I rx J h;obtain⟨i,j,rfl,rfl,q⟩:=h;obtain⟨t,rfl⟩:=rx;obtain⟨t',rfl⟩:=J;exact lt_str (Ef I q rfl)
theorem Hy:OpR X (YK .In) (λx y H Q=>∃i j,x= .str i/\y= .str j/\Q (.bl (!(Za j i 0 j.length 1).isEmpty)) H):=by
 intro pins s σ H x y v u Q I rx J h;obtain⟨i,j,rfl,rfl,q⟩:=h;obtain⟨t,rfl⟩:=rx;obtain⟨t',rfl⟩:=J;exact in_str (Ef I q rfl)
theorem SX:OpR X (YK .Is) (λx y H Q=>y= .non/\Q (.bl (decide (x= .non))) H):=by
 intro pins s σ H x y v u Q I rx J h;obtain⟨rfl,q⟩:=h;cases J;refine is_none_gen (Ef I q ?_);cases x<;>first
  |(cases rx;rfl)
  |(obtain⟨t,rfl⟩:=rx;rfl)
theorem Qs(N:OpR X (YK op) r)(Y:PE X a ta)(U:PE X b tb)(J:acu op b=false):PE X (.Compare a [op] [b] pos) (tOp r ta tb):=by
 intro pins s σ H Q I h;exact wpAny_Compare1 (Tg Y U I h λv u Z x y H2 V rx F q=>N pins Z σ H2 x y v u Q V rx F q) J
def Gb(t:TE):TT:=λσ H Q=>t σ H λx H'=>∃k,x= .bl k/\Q k H'
theorem G9(N:OpR X (YK op) r)(Y:PE X a ta)(U:PE X b tb)(J:acu op b=false):PT X (.Compare a [op] [b] pos) (Gb (tOp r ta tb)):=by
 intro pins s σ H Q I h;refine wpAny_isTrue_Compare1 (thn (Y pins s σ H _ I h) λv O ⟨x,H1,F,r1,q1⟩=>thn (U pins O σ H1 _ F q1) λu Z ⟨y,H2,V,r2,q2⟩=>
  thn (N pins Z σ H2 x y v u _ V r1 r2 q2) λc s3 ⟨z,H3,I3,r3,k,e,q⟩=>?_) J
 subst e;cases r3;exact aab ⟨H3,I3,q⟩
def Ng(r N:R2)(ta tb tc:TE):TE:=λσ H Q=>ta σ H λx H1=>tb σ H1 λy H2=>r x y H2 λz J=>∃k,z= .bl k/\
 (if k=true then tc σ J λY F=>N y Y F Q else Q (.bl false) J)
variable{tc:TE}
theorem K8{a0:CmpOp}{r':R2}(N:OpR X (YK op) r)(a1:OpR X (YK a0) r')(Y:PE X a ta)(U:PE X b tb)(Z:PE X c tc)
  (J:lastMarks [op,a0] [b,c]=false:=by with_unfolding_all rfl):PT X (.Compare a [op,a0] [b,c] pos) (Gb (Ng r r' ta tb tc)):=by
 intro pins s σ H Q I h;refine isTrue_chain (thn (Y pins s σ H _ I h) λv O ⟨x,H1,F,r1,q1⟩=>test_link (thn (U pins O σ H1 _ F q1) λu s2 ⟨y,H2,V,r2,q2⟩=>
  thn (N pins s2 σ H2 x y v u _ V r1 r2 q2) λd s3 ⟨z,H3,I3,r3,k,e,q⟩=>?_)) J
 subst e;cases r3;refine aab ?_;cases k with
 |false=>
  obtain⟨k',e',q'⟩:=q;cases e';exact ite_ff ⟨H3,I3,q'⟩
 |true=>
  refine ite_tt (test_last (thn (Z pins s3 σ H3 _ I3 q) λw' s4 ⟨z',H4,I4,r4,q4⟩=>thn (a1 pins s4 σ H4 y z' u w' _ I4 r2 r4 q4) λd' s5 ⟨z2,H5,I5,r5,k2,e2,q5⟩=>?_));subst e2;cases r5;exact aab ⟨H5,I5,q5⟩
def Pk(K:XS)(x:V)(H:Hp)(k:Bool):Prop:=
 match x with
 |.non=>k=false
 |.bl b=>k=b
 |.int i=>k=(i !=0)
 |.str y=>y.length<=X3/\k=((y.length:Int)!=0)
 |.byt y=>y.size<=X3/\k=((y.size:Int)!=0)
 |.ref p=>(∃xs,SqL K H p xs/\k= !xs.isEmpty)∨(∃xs,SqT K H p xs/\k= !xs.isEmpty)∨∃kvs,H p=some (.dK kvs)/\k= !kvs.isEmpty
 |_=>False
theorem Dd{κ:Type}{kvs:List (κ×V)}{vs:List (κ×Value)}(r:KV kvs vs):(!vs.isEmpty)= !kvs.isEmpty:=by
 cases r<;>rfl
theorem vM(r:Vals xs its):(!its.toArray.isEmpty)= !xs.isEmpty:=by
 cases r<;>simp
theorem o8:(X3:Nat)<2 ^ 63:=by rw[ach];decide
theorem S_:Xc X (λx H Q=>∃k,Pk X.K x H k/\Q k H):=by
 intro pins s σ H x v Q I rx h;obtain⟨k,e,q⟩:=h;have Y:=o8;have hs:X3=16777216:=ach;cases x with
 |non=>
  cases rx;have O:k=false:=e;subst O;exact truthy_none ⟨H,I,q⟩
 |bl b=>
  cases rx;have O:k=b:=e;subst O;exact aab ⟨H,I,q⟩
 |int i=>
  obtain⟨t,rfl⟩:=rx;have O:k=(i !=0):=e;subst O;exact PySem.P.truthy_int ⟨H,I,q⟩
 |str y=>
  obtain⟨t,rfl⟩:=rx;obtain⟨V,O⟩:y.length<=X3/\k=((y.length:Int)!=0):=e;subst O;exact PySem.P.truthy_str (by omega) ⟨H,I.tok _,q⟩
 |byt y=>
  obtain⟨t,rfl⟩:=rx;obtain⟨V,O⟩:y.size<=X3/\k=((y.size:Int)!=0):=e;subst O;exact PySem.W.truthy_bytes (by omega) ⟨H,I.tok _,q⟩
 |ref p=>
  cases rx;have O:(∃xs,SqL X.K H p xs/\k= !xs.isEmpty)∨(∃xs,SqT X.K H p xs/\k= !xs.isEmpty)∨∃kvs,H p=some (.dK kvs)/\k= !kvs.isEmpty:=e;rcases O with⟨xs,J,O⟩|⟨xs,J,O⟩|⟨kvs,J,O⟩
  .subst O
   obtain⟨its,r,F,hz⟩:=I.list J;have U:=r.length;exact wpAny_truthy_list F.isList (by simp![List.size_toArray];omega) ⟨H,I.tok _,by rw[vM r];exact q⟩
  .subst O
   obtain⟨its,r,F,hz⟩:=I.tuple J;have U:=r.length;exact truthy_tuple F (by simp![List.size_toArray];omega) ⟨H,I.tok _,by rw[vM r];exact q⟩
  .subst O
   obtain⟨hz,N,vs,r,m⟩:kvs.length<=X3/\(p==aaW)=false/\∃vs,KV kvs vs/\s.heap.DictOf (bz X.prog X.w) p vs:=I.hok p _ J;have U:kvs.length=vs.length:=ac_ r;exact wpAny_truthy_dict N m (by omega) ⟨H,I.tok _,by rw[Dd r];exact q⟩
 |_=>exact(show False from e).elim
theorem Nu(Y:PE X a ta)(V:∀q,aed a X.env q=(do let v ←q;afi a.pos;aa2 [v] (truthy v))) :
  PT X a (λσ H Q=>ta σ H λx H'=>∃k,Pk X.K x H' k/\Q k H'):=by
 intro pins s σ H Q I h;exact isTrue_plain (thn (Y pins s σ H _ I h) λv O ⟨x,H1,F,U,q1⟩=>S_ pins O σ H1 x v Q F U q1) (V _)
theorem DK:OpR X (ZR .Add) (λx y H Q=>∃i j,x= .str i/\y= .str j/\i.length+j.length<=X3/\Q (.str (i++j)) H):=by
 intro pins s σ H x y v u Q I rx J h;obtain⟨i,j,rfl,rfl,hz,q⟩:=h;obtain⟨t,rfl⟩:=rx;obtain⟨t',rfl⟩:=J;exact add_str (λt' tk=>⟨.str (i++j),H,I.tok _,⟨_,rfl⟩,q⟩) hz
theorem vals1{x:V}(r:Vals [x] us):∃u,us=[u]/\RelV x u:=by
 cases r with
 |cons U F=>cases F;exact⟨_,rfl,U⟩
theorem vals2{x y:V}(r:Vals [x,y] us):∃u Y,us=[u,Y]/\RelV x u/\RelV y Y:=by
 cases r with
 |cons U F=>
  cases F with
  |cons O J=>cases J;exact⟨_,_,rfl,U,O⟩
theorem N7:dq X (.builtin "abs") (λxs H Q=>∃i,xs=[.int i]/\Q (.int (if i<0 then -i else i)) H):=by
 intro pins s σ H xs us Q I r h;obtain⟨i,rfl,q⟩:=h;obtain⟨u,rfl,t,rfl⟩:=vals1 r;exact call_abs_int λu tk=>⟨.int (if i<0 then -i else i),H,I.tok _,⟨_,rfl⟩,q⟩
theorem Hf(Z:X.calm=true):dq X (.builtin "max") (λxs H Q=>∃i j,xs=[.int i,.int j]/\Q (.int (if j>i then j else i)) H):=by
 intro pins s σ H xs us Q I r h;obtain⟨i,j,rfl,q⟩:=h;obtain⟨u,Y,rfl,⟨t,rfl⟩,⟨t',rfl⟩⟩:=vals2 r;refine max_two_ints (I.ok.hd Z) λh' tk k=>⟨_,H,I.kept k,?_,q⟩;by_cases V:j>i
 .rw[X7 V,X7 V];exact⟨_,rfl⟩
 .rw[Yc V,Yc V];exact⟨_,rfl⟩
theorem Je(Z:X.calm=true):dq X (.builtin "min") (λxs H Q=>∃i j,xs=[.int i,.int j]/\Q (.int (if j<i then j else i)) H):=by
 intro pins s σ H xs us Q I r h;obtain⟨i,j,rfl,q⟩:=h;obtain⟨u,Y,rfl,⟨t,rfl⟩,⟨t',rfl⟩⟩:=vals2 r;refine min_two_ints (I.ok.hd Z) λh' tk k=>⟨_,H,I.kept k,?_,q⟩;by_cases V:j<i
 .rw[X7 V,X7 V];exact⟨_,rfl⟩
 .rw[Yc V,Yc V];exact⟨_,rfl⟩
theorem Jm:dq X (.type "int") (λxs H Q=>(∃i,xs=[.int i]/\Q (.int i) H)∨∃k,xs=[.bl k]/\Q (.int (if k then 1 else 0)) H):=by
 intro pins s σ H xs us Q I r h;rcases h with⟨i,rfl,q⟩|⟨k,rfl,q⟩
 .obtain⟨u,rfl,t,rfl⟩:=vals1 r
  exact call_int_int ⟨.int i,H,I,⟨_,rfl⟩,q⟩
 .obtain⟨u,rfl,r1⟩:=vals1 r
  cases r1;exact call_int_bool ⟨.int (if k then 1 else 0),H,I.tok _,⟨_,rfl⟩,q⟩
theorem zO:dq X (.type "str") (λxs H Q=>∃i,xs=[.int i]/\i.natAbs.log2<1920/\Q (.str (toString i)) H):=by
 intro pins s σ H xs us Q I r h;obtain⟨i,rfl,hz,q⟩:=h;obtain⟨u,rfl,t,rfl⟩:=vals1 r;exact PySem.P.str_of_int hz ⟨.str _,H,I.tok _,⟨_,rfl⟩,q⟩
structure UT(h:Heap)(x dx C:Addr)(mA:Str->Option Value):Prop where
 obj:h.get? x=some (adY C dx)
 ns:h.Ns1 dx mA
 ne:dx≠x
theorem Ja{F:Str->Option Value}(n:h.Ns1 dx F):∃Y,h.get? dx=some Y/\∀name,aef name Y=some (F name):=by
 obtain⟨o,es,ep,N,hd,J,_,Z⟩:=n;refine⟨o,N,λname=>?_⟩;have e:=Z name;unfold nsFind findBy at e;rw[←Array.find?_toList]at e;unfold aef;rw[hd];dsimp only;split
 .rename_i y q
  rw[q]at e;exact congrArg some e
 .rename_i q
  rw[q]at e;have a:es.toList.any (·.refKey)=false:=by
   rw[List.any_eq_false];intro y V;obtain⟨z,t,O⟩:=J y (Array.mem_toList_iff.mp V);simp[DictEntry.refKey,O]
  have U:¬es.toList.any (·.refKey)=true:=by rw[a];exact YS
  rw[Yc U];exact congrArg some e
theorem UT.look{x C:Addr}{F:Str->Option Value}(I:UT h x dx C F):∃O,PySem.W.InstAt h x (adY C dx) C (some O)/\∀name,aef name O=some (F name):=
 let⟨O,ho,hl⟩:=Ja I.ns
 ⟨O,⟨I.obj,rfl,rfl,ho⟩,hl⟩
theorem vZ.some_of{v:V}{o:Option Value}(r:vZ (some v) o):∃u,o=some u/\RelV v u:=by
 cases o with
 |none=>exact(show False from r).elim
 |some u=>exact⟨u,rfl,r⟩
section
variable{P:Program}{w:World}{H H':Hp}{h h':Heap}{a C dx:Addr}{fs fs':List (Str×V)}
theorem G6(hok:HOk P w H h)(e:H a=some (.ins C dx fs)):∃F,UT h a dx C F/\(∀f,vZ (fs.lookup f) (F f))/\PySem.Within F (fs.map (·.1))/\fs.length<=1000/\H dx=some (.own a):=by
 obtain⟨d,z,J,ob,F,n,r,q⟩:=(show cI P w H h a (.ins C dx fs)from hok a _ e);exact⟨F,⟨ob,n,J⟩,r,q,z,d⟩
end
structure Cls(K:PySem.W.Frag)(C:Addr):Prop where
 pg:afy K C Str.empty=true
 hd:PySem.W.hasDictIn K C=true
 po:PySem.W.plainOver K C=true
 sa:afT K (.ref C) "__setattr__"=some (some (.builtin "object.__setattr__"))
theorem Cls.get{K:XS}{C:Addr}(c:Cls K C)(f:Str):afy K C f=true:=c.pg
inductive lU(K:PySem.W.Frag)(H:Hp):V->Value->Prop where
 |non:lU K H .non (.type "NoneType")
 |bl (x:Bool):lU K H (.bl x) (.type "bool")
 |int (i:Int):lU K H (.int i) (.type "int")
 |str (x:Str):lU K H (.str x) (.type "str")
 |flt (x:UInt64):lU K H (.flt x) (.type "float")
 |lst {a:Addr} {xs:List V} (e:H a=some (.lst xs)):lU K H (.ref a) (.type "list")
 |frz {a:Addr} {o:Obj} {xs:List V} (e:H a=some (.frz o (.lst xs))):lU K H (.ref a) (.type "list")
 |tup {a:Addr} {xs:List V} (e:H a=some (.tup xs)):lU K H (.ref a) (.type "tuple")
 |dK {a:Addr} {kvs:List (Key×V)} (e:H a=some (.dK kvs)):lU K H (.ref a) (.type "dict")
 |dT {a:Addr} {kvs:List (List Key×V)} (e:H a=some (.dT kvs)):lU K H (.ref a) (.type "dict")
 |ins {a C dx:Addr} {fs:List (Str×V)} (e:H a=some (.ins C dx fs)) (cl:Cls K C) (ha:afT K (.ref C) "__class__"=some (some (.builtin "object.__class__")))
  (hn:PySem.W.specialIn K (.builtin "object.__class__") "__get__"=some (some (.builtin "getset_descriptor.__get__"))) (htk:PySem.W.takesIn K (.builtin "object.__class__")=some true)
  (hm:PySem.W.mroIn K C (.type "object")=some true):lU K H (.ref a) (.ref C)
variable{b:Bool}{s:Shared}{A:Around}{Q:Value->Shared->Prop}{c:Value}
theorem Ho{x:V}{t:Value}(I:Inv X pins σ H s)(rx:RelV x u)(ty:lU X.K H x t)(e:acU X.K t c=some b)(h:∀tk,Q (.bool b) {s with toks:=tk}) :
  wpAny (model X.prog X.w) A (call (.builtin "isinstance") [u,c]) Q E s:=by
 cases ty with
 |non=>cases (show u=YT from rx);exact ZQ afm I.kIn Zy e (λz=>nomatch z) h
 |bl y=>cases (show u=adz y from rx);exact ZQ afn I.kIn Zy e (λz=>nomatch z) h
 |int i=>obtain⟨t,q⟩:=(show ∃t,u=aad i t from rx);cases q;exact ZQ afz I.kIn Zy e (λz=>nomatch z) h
 |str y=>obtain⟨t,q⟩:=(show ∃t,u=abT y t from rx);cases q;exact ZQ afA I.kIn Zy e (λz=>nomatch z) h
 |flt y=>obtain⟨t,q⟩:=(show ∃t,u=afw y t from rx);cases q;exact ZQ ae1 I.kIn Zy e (λz=>nomatch z) h
 |@lst a xs F=>
  cases (show u=YD a from rx);obtain⟨_,_,n,_,h1⟩:=(show cI X.prog X.w H s.heap a (.lst xs)from I.hok a _ F);exact ZQ ab8 I.kIn ⟨_,h1,rfl⟩ e (λz=>nomatch z) h
 |@frz a ob xs F=>
  cases (show u=YD a from rx);obtain⟨_,_,_,n,_,h1⟩:=(show cI X.prog X.w H s.heap a (.frz ob (.lst xs))from I.hok a _ F);exact ZQ ab8 I.kIn ⟨_,h1,rfl⟩ e (λz=>nomatch z) h
 |@tup a xs F=>
  cases (show u=YD a from rx);obtain⟨_,_,_,p⟩:=(show cI X.prog X.w H s.heap a (.tup xs)from I.hok a _ F);obtain⟨o,h1,h2,_⟩:=p;exact ZQ ae2 I.kIn ⟨o,h1,h2⟩ e (λz=>nomatch z) h
 |@dK a kvs F=>
  cases (show u=YD a from rx);obtain⟨_,_,vs,_,p⟩:=(show cI X.prog X.w H s.heap a (.dK kvs)from I.hok a _ F);obtain⟨o,es,ep,h1,h2,_⟩:=p;exact ZQ ab9 I.kIn ⟨o,h1,h2.1⟩ e (λz=>nomatch z) h
 |@dT a kvs F=>
  cases (show u=YD a from rx);obtain⟨_,_,xs,_,o,es,ep,h1,h2,_⟩:=(show cI X.prog X.w H s.heap a (.dT kvs)from I.hok a _ F);exact ZQ ab9 I.kIn ⟨o,h1,h2.1⟩ e (λz=>nomatch z) h
 |@ins a C dx fs F U Y hn N Z=>
  cases (show u=YD a from rx);obtain⟨mA,O,_⟩:=G6 I.hok F;obtain⟨od,J,_⟩:=O.look;exact ZQ (afB (U.get _) U.hd Y hn N Z) I.kIn J e (λz=>nomatch z) h
structure iZ(k:Nat)(A:Around):Prop where
 hd:A.handled=none
 dp:A.depth+3*k+5<recursionLimit
 un:A.units+16*k+200<cLine
 gd:A.guards=some []
variable{A:Zc}
theorem iZ.mono(r:iZ k A)(h:j<=k):iZ j A:=⟨r.hd,by have:=r.dp;omega,by have:=r.un;omega,r.gd⟩
theorem iZ.deeper(r:iZ (k+1) A)(env:Env):iZ k (A.deeper env):=
 ⟨r.hd,by have:=r.dp;show A.depth+1+3*k+5<_;omega,by have:=r.un;show A.units+3+16*k+200<_;omega,r.gd⟩
theorem iZ.depth(r:iZ k A):A.depth<recursionLimit:=by have:=r.dp;omega
theorem iZ.units(r:iZ k A):A.units+64<cLine:=by have:=r.un;omega
def Vf:TA:=λ_ H Q=>Q [] H
def J4(ta:TE)(q:TA):TA:=λσ H Q=>ta σ H λx H1=>q σ H1 λxs H2=>Q (x::xs) H2
section
variable{X:Cx}{e:Expr}{es:List Expr}{te:TE}{t:TA}{pos:Pos}
theorem TJ:PA X [] Vf:=λ_ _ _ _ H Q I h=>afo ⟨[],H,I,.nil,h⟩
theorem zF(Y:PE X e te)(O:PA X es t)(hs:X_ (e::es) X.env=(false,eval e X.env)::X_ es X.env:=by rfl):PA X (e::es) (J4 te t):=by
 intro pos pins s σ H Q I h;rw[hs];show wpAny _ _ (spliced ((false,eval e X.env)::aah pos (X_ es X.env))) _ _ s;refine ae3 (thn (Y pins s σ H _ I h) λu J ⟨x,H1,F,U,q1⟩=>?_);exact thn (O pos pins J σ H1 _ F q1) λus Z ⟨xs,H2,V,q,q2⟩=>⟨x::xs,H2,V,.cons U q,q2⟩
def Xo(t:TA):TE:=λσ H Q=>t σ H λxs H1=>xs.length<=X3/\∀p,H1 p=none->Q (.ref p) (upd H1 p (.tup xs))
def Xm(t:TA):TE:=λσ H Q=>t σ H λxs H1=>xs.length<=X3/\∀p,H1 p=none->Q (.ref p) (upd H1 p (.lst xs))
theorem Mp{x1}(h:PA X es t):PE X (.Tuple es x1 pos) (Xo t):=by
 intro pins s σ H Q I N;refine wpAny_Tuple_spliced (thn (h pos pins s σ H _ I N) λus O ⟨xs,H1,J,r,z,q⟩=>⟨by rw[←r.length];exact z,?_⟩);have F:H1 O.heap.objs.size=none:=J.hok.fresh (XQ _);refine⟨.ref O.heap.objs.size,upd H1 O.heap.objs.size (.tup xs),J.laid (t':=O.toks) (λb u e=>qb _ e) (XQ _) ?_,rfl,q _ F⟩;exact⟨z,us,r,⟨_,X4 _ rfl,rfl,_,rfl,rfl⟩⟩
theorem KN(h:PA X es t):PE X (.List es pos) (Xm t):=by
 intro pins s σ H Q I N;refine wpAny_List_spliced (thn (h pos pins s σ H _ I N) λus O ⟨xs,H1,J,r,z,q⟩=>⟨by rw[←r.length];exact z,?_⟩);have F:H1 O.heap.objs.size=none:=J.hok.fresh (XQ _);refine⟨.ref O.heap.objs.size,upd H1 O.heap.objs.size (.lst xs),J.laid (t':=O.toks) (λb u e=>qb _ e) (XQ _) ?_,rfl,q _ F⟩;exact⟨z,us,0,r,X4 _ rfl⟩
end
abbrev Sp:=List V->Hp->VK->XK->Prop
abbrev CXT:=List Env->Hp->Mx->XK->Value->Mx->Prop
structure Pa(P:Program)(w:World)(K:PySem.W.Frag)(mg:Str->Option Value)(base:Heap)(A:Around)(outer:List Env)(s:Shared)(H:Hp):Prop where
 frames:A.frames=some outer
 mod:Mod K mg base
 bs:∀b o,base.get? b=some o->s.heap.get? b=some o/\H b=none
 bsz:base.objs.size<=s.heap.objs.size
 funs:s.heap.FunFrames base outer
 frf:∀b∈frs outer,H b=none
 hok:HOk P w H s.heap
 bare:acD s.gens
def CE(outer:List Env)(P:YG)(w:World)(H:Hp)(s:Mx)(Q:VK)(u:Value)(s':Mx):Prop:=
 ∃v H',s'.os=s.os/\acD s'.gens/\Un (frs outer) [] H H' s.heap s'.heap/\HOk P w H' s'.heap/\RelV v u/\Q v H'
def CR(CX:CXT)(outer:List Env)(P:YG)(w:World)(H:Hp)(s:Mx)(Q:VK)(E:XK)(r:aeg)(s':Mx):Prop:=
 match r with
 |.ok (.ret u)=>CE outer P w H s Q u s'
 |.ok _=>False
 |.error e=>CX outer H s E e s'
structure gn(P:Program)(w:World)(K:PySem.W.Frag)(mg:Str->Option Value)(base:Heap)(CX:CXT)(k:Nat)(f:Addr)(fd:FuncData)(ps:List Str)(sp:Sp):Prop where
 len:∀vs H Q E,sp vs H Q E->vs.length=ps.length
 run:∀(A:Zc)(outer:List Env)(s:Mx)(H:Hp)(args:Args)(us:List Value)(vs:List V)(Q:VK)(E:XK),iZ k A->Pa P w K mg base A outer s H->aeh s fd args (ps.zip us)->Vals vs us->sp vs H Q E->
  aag (model P w) A (.call (.ref f) args) (CR CX outer P w H s Q E) s
variable{f:Addr}{CX:CXT}
theorem gn.imp{K:XS}{sp J:Sp}(F:gn P w K mg base CX k f fd ps sp)
  (h:∀vs H Q E,J vs H Q E->sp vs H Q E):gn P w K mg base CX k f fd ps J:=
 ⟨λvs H Q E q=>F.len vs H Q E (h _ _ _ _ q),λA outer s H args us vs Q E O V U Z hs=>F.run A outer s H args us vs Q E O V U Z (h _ _ _ _ hs)⟩
theorem Inv.env0(I:Inv X pins σ H s):Pa X.prog X.w X.K X.mg X.base X.A X.stack s H:=
 ⟨I.ok.frames,I.ok.mod,I.bs,Zq I.ok.bsz I.sz,I.stack,I.stkFree,I.hok,I.bare⟩
variable{s':Shared}
theorem Inv.after{Q:VK}(I:Inv X pins σ H s)(h:CE X.stack X.prog X.w H s Q u s'):EP X pins σ Q u s':=by
 obtain⟨v,H',os,bare,un,hok,r,q⟩:=h;obtain⟨O,g,d,t,F⟩:=s';obtain rfl:F=s.os:=os;exact⟨v,H',I.call (h':=O) (g':=g) (d':=d) (t':=t) (ch:=[]) un hok bare (λb z=>absurd z (by simp)),r,q⟩
def RM(sp:Sp)(dvs:List V)(E:XK)(t:TA):TE:=λσ H Q=>t σ H λvs H1=>sp (vs++dvs) H1 Q E
def Binds(K:XS)(fd:Y9)(ps:List Str)(ds:List Value):Prop:=
 ∀(s:Mx)(us:List Value),K.In s.heap->(us++ds).length=ps.length->aeh s fd ⟨us,[]⟩ (ps.zip (us++ds))
theorem Binds.all{K:XS}(h:∀us:List Value,us.length=ps.length->bindArgs fd ⟨us,[]⟩=pure (ps.zip us)):Binds K fd ps []:=λs us _ Y=>by
 rw[Ym]at Y⊢;exact .of_eq (h us Y)
def Eh(CX:CXT)(X:Cx)(E:XK):Prop:=∀(pins:List (Addr×Obj))(σ:St)(H:Hp)(s:Mx)(e:Value)(s':Mx),Inv X pins σ H s->CX X.stack H s E e s'->X.xe e s'
section
variable{X:Cx}{CX:CXT}{k:Nat}{f C:Addr}{fd:FuncData}{ps:List Str}{sp:Sp}{dvs:List V}{ds:List Value}{E:XK}{x m:Str}{p pos apos:Pos}{e o:Expr}{es:List Expr}{ta:TE}{t:TA}
theorem SQ{pins:List (Addr×Obj)}{σ:St}{H:Hp}{s:Mx}{Q:VK}{us:List Value}{vs:List V}(F:gn X.prog X.w X.K X.mg X.base CX k f fd ps sp)(O:iZ k X.A)(U:Binds X.K fd ps ds)(hd:Vals dvs ds)(J:Eh CX X E)
  (I:Inv X pins σ H s) (r:Vals vs us) (h:sp (vs++dvs) H Q E):wpAny (model X.prog X.w) X.A (call (.ref f) us) (EP X pins σ Q) X.xe s:=by
 have Z:Vals (vs++dvs) (us++ds):=r.append hd;have Y:(us++ds).length=ps.length:=by rw[←Z.length];exact F.len _ _ _ _ h
 refine wpAny_call (abx (F.run X.A X.stack s H ⟨us,[]⟩ (us++ds) (vs++dvs) Q E O I.env0 (U s us I.kIn Y) Z h) λr s' N=>?_);cases r with
 |error e=>exact J pins σ H s e s' I N
 |ok q=>
  cases q with
  |ret u=>exact I.after N
  |next=>exact aaX N
  |brk=>exact aaX N
  |cont=>exact aaX N
theorem Qm(F:gn X.prog X.w X.K X.mg X.base CX k f fd ps sp)(O:iZ k X.A)(hg:Gl X x)(hm:X.mg x=some (.ref f))(hk:acV X.K (.ref f)=true)(U:Binds X.K fd ps ds)(hd:Vals dvs ds)(J:Eh CX X E)
  (Y:PA X (e::es) t) (Z:(x==("__debug__":Str))=false:=by decide) (V:X_ (e::es) X.env=(false,eval e X.env)::X_ es X.env:=by rfl) (N:(aah pos (X_ es X.env)).any (·.1)=false:=by rfl) :
  PE X (.Call (.Name x p) (e::es) [] pos) (RM sp dvs E t):=by
 intro pins s σ H Q I h;refine aaG (PL I hg hm ?_ Z);refine PySem.W.callWith_K (h₀:=X.base) I.ok.mod.kin hk (thn (Y pos pins s σ H _ I h) λus s1 ⟨vs,H1,I1,r,q⟩=>⟨I1.kIn,?_⟩) V N;exact SQ F O U hd J I1 r q
end
structure cB(N P:List Str)(sc:Scope):Prop where
 kind:sc.kind= .function
 co:sc.isCoroutine=false
 gen:sc.isGenerator=false
 nd:N.Nodup
 pre:N.take P.length=P
 par:∀x∈P,sc.names.lookup x=some .local∨sc.names.lookup x=some .cell
 nofree:∀y∈sc.names,y.2≠.free
theorem xX:∀{binds:List (Str×Value)}{m:Str->Option Value},(∀v,(x,v)∉binds)->bindL q binds m x=m x
 |[],_,_=>rfl
 |(n,v)::r,m,h=>by
  unfold bindL;rw[xX λw N=>h w (Yi _ N)];split
  .have:x≠n:=by rintro rfl;exact h v Yw
   simp[this]
  .rfl
theorem xn:∀{binds:List (Str×Value)}{m:Str->Option Value},(∀v,(x,v)∉binds)->bindC q binds m x=m x
 |[],_,_=>rfl
 |(n,v)::r,m,h=>by
  unfold bindC;rw[xn λw N=>h w (Yi _ N)];split
  .rfl
  .have:x≠n:=by rintro rfl;exact h v Yw
   simp[this]
theorem x_{q:Str->Option acx}{x:Str}{v:Value}:∀{P:List Str}{vs:List Value}{i:Nat}{m:Str->Option Value},P.Nodup->P[i]? =some x->vs[i]? =some v->q x=some .local->
  bindL q (P.zip vs) m x=some v
 |[],_,_,_,_,h,_,_=>by simp at h
 |_::_,[],_,_,_,_,h,_=>by simp at h
 |p::P,w::vs,0,m,nd,h1,h2,hk=>by
  simp at h1 h2;subst h1;subst h2;show bindL q ((p,w)::P.zip vs) m p=_;unfold bindL;rw[xX λv Z=>(Yn.mp nd).1 (acL Z).1,X7 hk];simp
 |p::P,w::vs,i+1,m,nd,h1,h2,hk=>by
  show bindL q ((p,w)::P.zip vs) m x=_;unfold bindL;exact x_ (i:=i) (Yn.mp nd).2 (by simpa using h1) (by simpa using h2) hk
theorem xF{q:Str->Option acx}{x:Str}{v:Value}:∀{P:List Str}{vs:List Value}{i:Nat}{m:Str->Option Value},P.Nodup->P[i]? =some x->vs[i]? =some v->q x≠some .local->
  bindC q (P.zip vs) m x=some v
 |[],_,_,_,_,h,_,_=>by simp at h
 |_::_,[],_,_,_,_,h,_=>by simp at h
 |p::P,w::vs,0,m,nd,h1,h2,hk=>by
  simp at h1 h2;subst h1;subst h2;show bindC q ((p,w)::P.zip vs) m p=_;unfold bindC;rw[xn λv Z=>(Yn.mp nd).1 (acL Z).1,Yc hk];simp
 |p::P,w::vs,i+1,m,nd,h1,h2,hk=>by
  show bindC q ((p,w)::P.zip vs) m x=_;unfold bindC;exact xF (i:=i) (Yn.mp nd).2 (by simpa using h1) (by simpa using h2) hk
def start(N:List Str)(vs:List V):St:=vs.map some++Y5 (N.length-vs.length) none
noncomputable def Bv(CX:CXT)(P:YG)(w:World)(K:XS)(mg:Str->Option Value)(base:Heap)(N:List Str)(Z:Str)(scope:Scope)(f:Addr)(q:Value)(A:Zc)(outer:List Env)(s:Mx)(H:Hp)(E:XK):Cx where
 prog:=P
 w:=w
 K:=K
 mg:=mg
 base:=base
 A:=A.deeper (aci Z scope s.heap.objs.size f q)
 N:=N
 s₀:=s
 H₀:=H
 env:=aci Z scope s.heap.objs.size f q
 outer:=outer
 stack:=aci Z scope s.heap.objs.size f q::outer
 ex:=[]
 calm:=true
 fn:=λ_=>true
 pn:=[]
 xe:=λe s'=>wpAny (model P w) (A.deeper (aci Z scope s.heap.objs.size f q)) (leaving (aci Z scope s.heap.objs.size f q) e) (λ_ V=>CX outer H s E e V) (λO V=>CX outer H s E O V) s'
theorem Cd{F:Scope}(h:F.names.lookup x=some .cell):∃c,(cellsFrom n F.names []).lookup x=some c:=by
 have q:=ad7 F.names n [] (.inl h);exact adI.mp q
theorem Ib{K:XS}{Z:Str}{cd:Value}{outer:List Env}{s O:Mx}{E:XK}{vs:List V}
  (S:cB N ps scope) (hd:A.handled=none) (U:Pa P w K mg base A outer s H) (hl:vs.length=ps.length) (r:Vals vs us)
  (x:InCallC s s.heap.objs.size (bindL (aci Z scope s.heap.objs.size f cd).kindOf (ps.zip us) λ_=>none) (cellsFrom (s.heap.objs.size+1) scope.names []) (bindC (aci Z scope s.heap.objs.size f cd).kindOf (ps.zip us) λ_=>none) O) :
  Inv (Bv CX P w K mg base N Z scope f cd A outer s H E) [] (start N vs) H O:=by
 have a2:ps.length<=N.length:=by have:=congrArg Z0 S.pre;rw[aa6]at this;omega
 obtain⟨h1,tk,rfl,J⟩:=x.done;have a0:∀b:Addr,b∉(Bv CX P w K mg base N Z scope f cd A outer s H E).ex:=λb z=>absurd (show b∈([]:List Addr)from z) (by simp);refine⟨⟨U.mod,S.kind,rfl,rfl,XQ _,λy z c h1 h2=>?_,λy hy=>?_,λy c _ h=>?_,λ_=>hd,Around.frames_deeper U.frames,.inr ⟨rfl,rfl⟩,λb z=>absurd z (a0 b),U.bs,U.bsz,λb _ _=>a0 b,λb z=>absurd z (a0 b),U.funs,U.frf⟩,
  rfl,U.bare,Un.kept J,⟨_,x.toInCall.ns,λi y v h1 h2 h3=>?_⟩,λy c h=>⟨_,x.cell y c h⟩,U.hok.fresh (XQ _),λy c h=>?_,λp F=>absurd (show p∈([]:List (Addr×Obj))from F) (by simp),U.hok.kept J,?_⟩
 .exact name_of_addr x.apart (aay h1) (aay h2)
 .have hy:scope.names.lookup y=some .cell∨scope.names.lookup y=some .free:=hy
  rcases hy with hy|hy
  .exact Cd hy
  .exact absurd rfl (S.nofree _ (aay hy))
 .exact aa5 (x.above y c (aay h))
 .have hi:i<vs.length:=by
   unfold start at h2;by_cases hi:i<vs.length
   .exact hi
   .rw[Zv (by simpa using hi)]at h2
    rw[adV]at h2;split at h2<;>cases h2
  have Y:vs[i]? =some v:=by
   unfold start at h2;rw[YL (by simpa using hi),List.getElem?_map]at h2;cases e:vs[i]? with
   |none=>rw[e]at h2;cases h2
   |some a=>rw[e]at h2;cases h2;rfl
  obtain⟨u,hu,rv⟩:=r.get Y;have F:ps[i]? =some y:=by
   rw[←S.pre,List.getElem?_take_of_lt (by omega)];exact h1
  have a1:ps.Nodup:=by rw[←S.pre];exact S.nd.sublist (List.take_sublist _ _)
  refine⟨u,rv,?_⟩;rcases S.par y (Yt F)with k|k
  .exact .inl ⟨k,x_ a1 F hu k⟩
  .obtain⟨c,e⟩:=Cd (n:=s.heap.objs.size+1) k
   refine .inr ⟨.inl k,c,e,?_⟩;have q:=x.cell y c e;rw[xF a1 F hu (by show scope.names.lookup y≠_;rw[k];decide)]at q;exact q
 .exact U.hok.fresh (aa5 (x.above y c (aay h)))
 .unfold start
  show _=N.length;rw[Zg,X5,List.length_replicate];omega
theorem Vw{K:XS}{Z:Str}{a1:Arguments}{a2:List Stmt}{dV kV a5 pm a0 ct oc:Value}{an od:Option Addr}
  {a7:Array (Option Value)}  {sp:Sp} (lk:K.lookup f=some ⟨oc,od,.func (abV name Z a1 a2 scope dV kV a5 pm an a0 ct),a7⟩) (a9:aei K a0 Z=true) (S:cB N ps scope)
  (len:∀vs H Q E,sp vs H Q E->vs.length=ps.length)
  (a4:∀(A:Zc)(outer:List Env)(s:Mx)(H:Hp)(vs:List V)(Q:VK)(E:XK),iZ k (A.deeper (aci Z scope s.heap.objs.size f a0))->sp vs H Q E->
   ∃t,PSs (Bv CX P w K mg base N Z scope f a0 A outer s H E) a2 t/\t {nx:=λ_ H'=>Q .non H',rt:=Q} (start N vs) H) :
  gn P w K mg base CX (k+1) f (abV name Z a1 a2 scope dV kV a5 pm an a0 ct) ps sp:=by
 refine⟨len,λA outer s H args us vs Q E O e0 U r a6=>?_⟩;have Y:=len _ _ _ _ a6;have KX:K.In s.heap:=e0.mod.kin.keeps λb o e=>(e0.bs b o e).1;have a8:s.heap.NoLimit:=e0.mod.nolimit.keeps λb o e=>(e0.bs b o e).1;have a3:∀y∈ps.zip us,scope.names.lookup y.1=some .local∨(scope.names.lookup y.1=some .cell/\((cellsFrom (s.heap.objs.size+1) scope.names []).lookup y.1).isSome=true):=λ⟨n,v⟩ hy=>by
  rcases S.par n (acL hy).1 with q|q
  .exact .inl q
  .exact .inr ⟨q,ad7 _ _ _ (.inl q)⟩
 refine codeAny_call_function O.depth (KX _ _ lk) rfl S.co S.gen rfl (PySem.W.codeRec_of KX a9) (U _ _ _ _ ?_);refine wpAny_newFunctionEnv_cells S.kind a3 λenv he s1 x=>?_;subst he;refine⟨a8.keeps x.toInCall.keep,codeAny_func ?_⟩;obtain⟨t,ht,hq⟩:=a4 A outer s H vs Q E (O.deeper _) a6;have I:Inv (Bv CX P w K mg base N Z scope f a0 A outer s H E) [] (start N vs) H s1:=Ib S O.hd e0 Y r x;refine Zr (ht [] s1 (start N vs) H _ I hq) (λfl s' hs=>?_) λe s' hs=>hs;have fin:∀{F:St}{H':Hp}{v:V}{u:Value},Inv (Bv CX P w K mg base N Z scope f a0 A outer s H E) [] F H' s'->RelV v u->Q v H'->CE outer P w H s Q u s':=
  λ{F H' v u} J rv q=>⟨v,H',J.os,J.bare,J.base,J.hok,rv,q⟩
 cases fl with
 |ret u=>
  obtain⟨v,F,H',J,rv,q⟩:=hs;exact fin J rv q
 |next=>
  obtain⟨F,H',J,q⟩:=hs;exact fin (v:=V.non) (u:=YT) J rfl q
 |brk=>
  obtain⟨_,_,_,q⟩:=hs;exact aaX q
 |cont=>
  obtain⟨_,_,_,q⟩:=hs;exact aaX q
section
variable{X:Cx}{x:Str}{p pos:Pos}{e:Expr}{es:List Expr}{t:TA}{id T:String}{r:List V->Hp->VK->Prop}
def tCB(r:List V->Hp->VK->Prop)(t:TA):TE:=λσ H Q=>t σ H λvs H1=>r vs H1 Q
theorem Bc(Z:dq X (.builtin id) r)(q:Gl X x)(J:X.mg x=none)(hv:Z6 x=some (.builtin id))(Y:PA X (e::es) t)(hn:x≠"__name__":=by decide)(a0:(x==("__debug__":Str))=false:=by decide)
  (V:X_ (e::es) X.env=(false,eval e X.env)::X_ es X.env:=by rfl) (N:(aah pos (X_ es X.env)).any (·.1)=false:=by rfl):PE X (.Call (.Name x p) (e::es) [] pos) (tCB r t):=by
 intro pins s σ H Q I h;refine aaG (kY I q J hv ?_ hn a0);exact PyProof.Rows.callWith_builtin1 (thn (Y pos pins s σ H _ I h) λus O ⟨vs,H1,F,U,q1⟩=>Z pins O σ H1 vs us Q F U q1) V N
theorem xK(Z:dq X (.type T) r)(q:Gl X x)(J:X.mg x=none)(hv:Z6 x=some (.type T))(Y:PA X (e::es) t)(hn:x≠"__name__":=by decide)(a0:(x==("__debug__":Str))=false:=by decide)
  (V:X_ (e::es) X.env=(false,eval e X.env)::X_ es X.env:=by rfl) (N:(aah pos (X_ es X.env)).any (·.1)=false:=by rfl):PE X (.Call (.Name x p) (e::es) [] pos) (tCB r t):=by
 intro pins s σ H Q I h;refine aaG (kY I q J hv ?_ hn a0);exact aaf (thn (Y pos pins s σ H _ I h) λus O ⟨vs,H1,F,U,q1⟩=>Z pins O σ H1 vs us Q F U q1) V N
end
end L2
namespace HT
open PySem PyProof.Rows
theorem cat_tup{t b:Addr}{vs Y:List Value}(ht:IsTup s.heap t vs.toArray)(U:IsTup s.heap b Y.toArray)(hv:vs≠[])
  (h1:Y=[]->Q (.ref t) s) (h2:Y≠[]->Q (.ref s.heap.objs.size) {s with heap:=s.heap.push {cls:=.type "tuple",data:=.seq (vs++Y).toArray}})
  (hsz:vs.length+Y.length<=X3):wpAny (model prog w) A (ZR .Add (.ref t) (.ref b)) Q E s:=by
 obtain⟨⟨cls,dd,data,sl⟩,N,Z,n,hd⟩:=id ht;obtain⟨⟨a3,J,a2,O⟩,a0,V,q,a1⟩:=id U;simp only at Z hd V a1;subst Z hd V a1;have e:vs.toArray++Y.toArray=(vs++Y).toArray:=by simp
 by_cases hw:Y=[]
 .exact ae4 ⟨_,N,rfl⟩ ⟨_,a0,rfl⟩ adJ aeL acj ab6 (abW _ _)
   (tuple_addW1 t b vs.toArray Y.toArray n q dd J sl O (by simpa using hv) (by simp[hw])) ⟨N,a0,h1 hw⟩
 .refine ae4 ⟨_,N,rfl⟩ ⟨_,a0,rfl⟩ adJ aeL acj ab6 (abW _ _)
   (tuple_addW2 t b vs.toArray Y.toArray n q dd J sl O (by simpa using hv) (by simpa using hw) (by rw[List.size_toArray,List.size_toArray];exact hsz)) ⟨N,a0,?_⟩
  rw[e];exact h2 hw
def sIx(n d:Nat):Option Int->Nat
 |none=>d
 |some v=>if v<0 then(v+(n:Int)).toNat else min v.toNat n
theorem Uh(n d:Nat)(hd:d<=n)(o:Option Int):sIx n d o<=n:=by
 cases o with
 |none=>exact hd
 |some v=>
  show(if v<0 then(v+(n:Int)).toNat else min v.toNat n)<=n;by_cases Z:v<0
  .rw[X7 Z];omega
  .rw[Yc Z];exact Nat.min_le_right _ _
theorem G4(v:Int)(n d:Nat):(if v<0 then max (v+(n:Int)) 0 else min v (n:Int))=((sIx n d (some v):Nat):Int):=by
 show(if v<0 then max (v+(n:Int)) 0 else min v (n:Int))=(((if v<0 then(v+(n:Int)).toNat else min v.toNat n):Nat):Int);by_cases Z:v<0
 .simp![X7 Z];omega
 .simp![Yc Z];omega
theorem adjust_gen(lo hi:Option Int)(n:Nat):Y6 lo hi 1 (n:Int)=(((sIx n 0 lo:Nat):Int),((sIx n n hi:Nat):Int)):=by
 have h1:¬((1:Int)<0):=by omega
 unfold Y6;simp![h1,Zi];refine Prod.ext ?_ ?_
 .cases lo with
  |none=>rfl
  |some v=>exact G4 v n 0
 .cases hi with
  |none=>rfl
  |some v=>exact G4 v n n
theorem places_gen(i j:Nat):YX (i:Int) (j:Int) 1=j-i:=by
 unfold YX;have h1:(1:Int)>0:=by omega
 simp![h1,Yd,Int.ediv_one];split<;>omega
theorem slicePart_{o:Option Int}{Q:Option Int->Mx->Prop}(p:aby v o)(h:Q o s):wpAny (model prog w) A (Builtin.Slice.slicePartIndex v) Q E s:=by
 cases p with
 |none=>exact slicePart_none h
 |int i t=>exact slicePart_int h
theorem rW{Y O:Value}{lo hi:Option Int}{Q:Int×Int×Nat->Mx->Prop}(hs:s.heap.IsSliceOf sl Y O .none)(F:aby Y lo)(V:aby O hi)
  (h:Q (((sIx n 0 lo:Nat):Int),1,sIx n n hi-sIx n 0 lo) s):wpAny (model prog w) A (aaQ (.ref sl) (pure (n:Int))) Q E s:=by
 obtain⟨os,q,J,Z⟩:=id hs;unfold aaQ Builtin.Slice.sliceFields;refine gD (gD (ack q Z (x:=Y) rfl (gD (ack q Z (x:=O) rfl (gD (ack q Z (x:=.none) rfl (yr ?_)))))));refine gD (slicePart_none ?_);show wpAny _ _ (if((1:Int)==0)=true then _ else _) _ _ s;rw[Yc (by decide)];refine gD (slicePart_ F (gD (slicePart_ V (gD (yr ?_)))));show wpAny _ _ (match Y6 lo hi 1 (n:Int)with|(lo,hi)=>pure (lo,(1:Int),YX lo hi 1)) _ _ s;rw[adjust_gen lo hi n];show wpAny _ _ (pure (((sIx n 0 lo:Nat):Int),(1:Int),YX ((sIx n 0 lo:Nat):Int) ((sIx n n hi:Nat):Int) 1)) _ _ s;rw[places_gen];exact yr h
theorem Mj(xs:Array Value)(i k:Nat):((Yp k).filterMap λ(m:Nat)=>xs[((i:Int)+(m:Int)*1).toNat]?).toArray=((xs.toList.drop i).take k).toArray:=by
 have e:(λ(m:Nat)=>xs[((i:Int)+(m:Int)*1).toNat]?)=λm=>xs[i+m]?:=by
  funext m;have:((i:Int)+(m:Int)*1).toNat=i+m:=by omega
  rw[this]
 rw[e];have:=pick_run xs i k;rw[List.filterMap_map]at this;have e2:((λx=>xs[x]?)∘λx=>i+x)=λm=>xs[i+m]?:=rfl;rw[e2]at this;rw[this]
theorem getItem_tuple_cut{t:Addr}{Y O:Value}{lo hi:Option Int}(U:IsTup s.heap t items)(hs:s.heap.IsSliceOf sl Y O .none)(F:aby Y lo)(pu:aby O hi)
  (N:¬(sIx items.size 0 lo=0/\sIx items.size items.size hi=items.size))
  (h:Q (.ref s.heap.objs.size) {s with heap:=s.heap.push {cls:=.type "tuple",data:=.seq ((items.toList.drop (sIx items.size 0 lo)).take (sIx items.size items.size hi-sIx items.size 0 lo)).toArray}})
  (hsz:items.size<=X3):wpAny (model prog w) A (acW (.ref t) (.ref sl)) Q E s:=by
 have J:sizeOk (.seq ((items.toList.drop (sIx items.size 0 lo)).take (sIx items.size items.size hi-sIx items.size 0 lo)).toArray):=by
  show((items.toList.drop (sIx items.size 0 lo)).take (sIx items.size items.size hi-sIx items.size 0 lo)).toArray.size<=X3;rw[List.size_toArray,aa6,aa7,Y0];omega
 have V:sIx items.size items.size hi<=items.size:=Uh _ _ (XQ _) hi;obtain⟨os,a0,a1,Z⟩:=id hs;have a2:s.TypeIs (.ref sl) "slice":=⟨os,a0,a1⟩;unfold acW
 try with_reducible refine Y_ ?_
 first|refine gD (yr ?_)|skip
 refine gD (wpAny_sequenceKey U.typeIs (by decide) ?_);refine gD (Zb (name:=ZK "__getitem__") U.typeIs Zf
  (abG Zf U.typeIs aeR ?_ (args_tuple_getitem _ _)))
 show wpAny _ _ (adb (.ref t) >>=_) _ _ s;refine gD (tupleItemsOf_ U ?_);refine gD (aaH a2 ?_);rw[X7 (by decide)];refine gD (rW hs F pu ?_);have a3:¬((((sIx items.size 0 lo:Nat):Int)==0&&(1:Int)==1&&(sIx items.size items.size hi-sIx items.size 0 lo)==items.size)=true):=by
  intro q;rw[Ys,Ys]at q;have q1:((sIx items.size 0 lo:Nat):Int)=0:=eq_of_beq q.1.1;have q2:sIx items.size items.size hi-sIx items.size 0 lo=items.size:=eq_of_beq q.2;exact N ⟨by omega,by omega⟩
 show wpAny _ _ (if(((sIx items.size 0 lo:Nat):Int)==0&&(1:Int)==1&&(sIx items.size items.size hi-sIx items.size 0 lo)==items.size)=true then _ else _) _ _ s;rw[Yc a3,Mj]
 first
  |exact gD (m:=aaq _) (YQ (yr ⟨_,rfl,yr h⟩) J)
  |exact gD (m:=aaq _) (YQ (gD (yr (yr ⟨_,rfl,yr h⟩))) J)
  |exact gD (gD (m:=aaq _) (YQ (yr (yr ⟨_,rfl,yr h⟩)) J))
  |exact gD (gD (m:=aaq _) (YQ (yr ⟨_,rfl,yr h⟩) J))
end HT
namespace L2
open PySem PySem.Spec PyProof.Rows
abbrev TO:=St->Hp->(Option Int->Hp->Prop)->Prop
def PO(X:Cx)(e:Option Expr)(t:TO):Prop:=
 ∀(pins:List (Addr×Obj))(s:Mx)(σ:St)(H:Hp)(Q:Option Int->Hp->Prop),Inv X pins σ H s->t σ H Q->
  wpAny (model X.prog X.w) X.A (evalPart e X.env) (λu s'=>∃o H',Inv X pins σ H' s'/\aby u o/\Q o H') X.xe s
def Q4:TO:=λ_ H Q=>Q none H
def WR(t:TE):TO:=λσ H Q=>t σ H λx H1=>∃i,x= .int i/\Q (some i) H1
section
variable{X:Cx}{e:Expr}{te:TE}{lo hi:Option Expr}{tl th:TO}{pos p2:Pos}
theorem Px:PO X none Q4:=by
 intro pins s σ H Q I h;rw[aeM];exact yr ⟨none,H,I,.none,h⟩
theorem Qj(h:PE X e te):PO X (some e) (WR te):=by
 intro pins s σ H Q I N;rw[evalPart_some];refine thn (h pins s σ H _ I N) λu O ⟨x,H1,F,U,q1⟩=>?_;obtain⟨i,rfl,q⟩:=q1;obtain⟨t,rfl⟩:=U;exact⟨some i,H1,F,.int i t,q⟩
def SlR(X:Cx)(r:V->Option Int->Option Int->Hp->VK->Prop):Prop:=
 ∀(pins:List (Addr×Obj))(s:Mx)(σ:St)(H:Hp)(x:V)(v Y O:Value)(lo hi:Option Int)(sl:Addr)(Q:VK),Inv X pins σ H s->RelV x v->s.heap.IsSliceOf sl Y O .none->aby Y lo->aby O hi->r x lo hi H Q->
  ∃T id,aev (.type T) "__getitem__"=pure (some (.builtin id))/\s.TypeIs v T/\wpAny (model X.prog X.w) X.A (acW v (.ref sl)) (EP X pins σ Q) X.xe s
theorem SlR.or{r N:V->Option Int->Option Int->Hp->VK->Prop}(h:SlR X r)(h':SlR X N):SlR X (λx lo hi H Q=>r x lo hi H Q∨N x lo hi H Q):=by
 intro pins s σ H x v Y O lo hi sl Q I rx hs F J q;rcases q with q|q
 .exact h pins s σ H x v Y O lo hi sl Q I rx hs F J q
 .exact h' pins s σ H x v Y O lo hi sl Q I rx hs F J q
def tSl(r:V->Option Int->Option Int->Hp->VK->Prop)(te:TE)(tl th:TO):TE:=λσ H Q=>te σ H λx H1=>tl σ H1 λl H2=>th σ H2 λu J=>r x l u J Q
theorem Aj{r:V->Option Int->Option Int->Hp->VK->Prop}(O:SlR X r)(he:PE X e te)(Y:PO X lo tl)(hu:PO X hi th):PE X (.Subscript e (.Slice lo hi none p2) pos) (tSl r te tl th):=by
 intro pins s σ H Q I h;refine Subscript_ (thn (he pins s σ H _ I h) λv s1 ⟨x,H1,F,r1,q1⟩=>?_);refine wpAny_Slice (thn (Y pins s1 σ H1 _ F q1) λvl Z ⟨l,H2,I2,pl,q2⟩=>thn (hu pins Z σ H2 _ I2 q2) λvu N ⟨u,J,I3,pu,q3⟩=>?_);rw[aeM];refine yr ?_;have I4:Inv X pins σ J {N with heap:=N.heap.push {cls:=.type "slice",data:=.fields #[vl,vu,.none]}}:=I3.kept (t':=N.toks) λb ob q=>qb _ q;obtain⟨T,id,hT,U,hg⟩:=O pins {N with heap:=N.heap.push {cls:=.type "slice",data:=.fields #[vl,vu,.none]}} σ J x v vl vu l u N.heap.objs.size Q I4 r1 (ac5 ..) pl pu q3;show wpAny (model X.prog X.w) X.A (ade e (.Slice lo hi none p2) v (.ref N.heap.objs.size)) (EP X pins σ Q) X.xe {N with heap:=N.heap.push {cls:=.type "slice",data:=.fields #[vl,vu,.none]}};exact aew (ops:=[.ref N.heap.objs.size,v]) U hT hg (by with_unfolding_all rfl)
def vX(xs:List V)(lo hi:Option Int):List V:=(xs.drop (HT.sIx xs.length 0 lo)).take (HT.sIx xs.length xs.length hi-HT.sIx xs.length 0 lo)
theorem t6(xs:List V)(lo hi:Option Int):(vX xs lo hi).length<=xs.length:=by
 unfold vX;rw[aa6,aa7];omega
def Xr(K:XS):V->Option Int->Option Int->Hp->VK->Prop:=λx lo hi H Q=>∃a xs,x= .ref a/\SqT K H a xs/\
 ¬(HT.sIx xs.length 0 lo=0/\HT.sIx xs.length xs.length hi=xs.length)/\∀p,H p=none->Q (.ref p) (upd H p (.tup (vX xs lo hi)))
theorem S6:SlR X (Xr X.K):=by
 intro pins s σ H x v Y O lo hi sl Q I rx hs F V h;obtain⟨a,xs,rfl,J,N,q⟩:=h;cases rx;obtain⟨its,r,Z,hz⟩:=I.tuple J;have U:its.toArray.size=xs.length:=by rw[List.size_toArray];exact r.length.symm
 refine⟨"tuple",_,Zf.lookup,Z.typeIs,?_⟩;refine HT.getItem_tuple_cut Z hs F V (by rw[U];exact N) ?_ (by rw[U];exact hz);rw[U];refine⟨.ref s.heap.objs.size,_,I.laid (t':=s.toks) (o:=.tup (vX xs lo hi)) (λb ob q=>qb _ q) (XQ _) ?_,rfl,q _ (I.hok.fresh (XQ _))⟩;exact⟨Zq (t6 xs lo hi) hz,_,(r.drop (HT.sIx xs.length 0 lo)).take (HT.sIx xs.length xs.length hi-HT.sIx xs.length 0 lo),kW.new _ _⟩
def VP(K:XS):R2:=λx y H Q=>∃a b xs ys,x= .ref a/\y= .ref b/\SqT K H a xs/\SqT K H b ys/\xs≠[]/\xs.length+ys.length<=X3/\
 (ys=[]->Q (.ref a) H)/\(ys≠[]->∀p,H p=none->Q (.ref p) (upd H p (.tup (xs++ys))))
theorem Vals.nil_iff{xs:List V}{us:List Value}(r:Vals xs us):us=[]↔xs=[]:=by
 cases r with
 |nil=>simp
 |cons _ _=>simp
theorem O5:OpR X (ZR .Add) (VP X.K):=by
 intro pins s σ H x y v u Q I rx V h;obtain⟨a,b,xs,ys,rfl,rfl,Y,U,J,hz,q1,q2⟩:=h;cases rx;cases V;obtain⟨its,N,p1,_⟩:=I.tuple Y;obtain⟨O,F,p2,_⟩:=I.tuple U;refine HT.cat_tup p1 p2 (λz=>J (N.nil_iff.mp z)) (λz=>⟨.ref a,H,I,rfl,q1 (F.nil_iff.mp z)⟩) (λz=>?_) (by rw[←N.length,←F.length];exact hz);refine⟨.ref s.heap.objs.size,_,I.laid (t':=s.toks) (o:=.tup (xs++ys)) (λb ob q=>qb _ q) (XQ _) ?_,rfl,q2 (λw=>z (F.nil_iff.mpr w)) _ (I.hok.fresh (XQ _))⟩;exact⟨by rw[Zg];exact hz,_,N.append F,kW.new _ _⟩
end
def ixN(n:Nat)(i:Int):Option Nat:=if 0<=i then(if i<n then some i.toNat else none)else if -(n:Int)<=i then some (i+n).toNat else none
def atI(xs:List α)(i:Int):Option α:=(ixN xs.length i).bind λj=>xs[j]?
variable{i:Int}
theorem yw(h:ixN n i=some j):seqIndex? i n=some j/\j<n/\-(n:Int)<=i/\i<n:=by
 unfold ixN at h;by_cases U:0<=i
 .rw[X7 U]at h
  by_cases h1:i<n
  .rw[X7 h1]at h
   have e:i.toNat=j:=Y4 h;exact⟨by rw[afx U h1,e],by omega,by omega,h1⟩
  .rw[Yc h1]at h;cases h
 .rw[Yc U]at h
  by_cases h1: -(n:Int)<=i
  .rw[X7 h1]at h
   have e:(i+n).toNat=j:=Y4 h;exact⟨by rw[ae5 (by omega) h1,e],by omega,h1,by omega⟩
  .rw[Yc h1]at h;cases h
theorem yN{xs:List α}{v:α}(h:atI xs i=some v):∃j,seqIndex? i xs.length=some j/\xs[j]? =some v/\j<xs.length/\-(xs.length:Int)<=i/\i<xs.length:=by
 unfold atI at h;cases e:ixN xs.length i with
 |none=>rw[e]at h;cases h
 |some j=>
  rw[e]at h;obtain⟨h1,h2,F,O⟩:=yw e;exact⟨j,h1,h,h2,F,O⟩
def uw(b:Expr):Prop:=∀o i,subscripted b false o i=operate [o,i] (acW o i)
def IxR(X:Cx)(r:R2):Prop:=
 ∀(U Z:Expr)(pins:List (Addr×Obj))(s:Mx)(σ:St)(H:Hp)(x y:V)(v u:Value)(Q:VK),Inv X pins σ H s->RelV x v->RelV y u->r x y H Q->
  subscripted Z false v u=operate [v,u] (acW v u)->wpAny (model X.prog X.w) X.A (ade U Z v u) (EP X pins σ Q) X.xe s
def MtR(X:Cx)(id:String)(r:V->List V->Hp->VK->Prop):Prop:=
 ∀(pins:List (Addr×Obj))(s:Mx)(σ:St)(H:Hp)(x:V)(xs:List V)(v:Value)(us:List Value)(Q:VK),Inv X pins σ H s->RelV x v->Vals xs us->r x xs H Q->
  wpAny (model X.prog X.w) X.A (call (.builtin id) (v::us)) (EP X pins σ Q) X.xe s
section
variable{X:Cx}{a b:Expr}{ta tb:TE}{pos:Pos}
theorem IxR.or{r N:R2}(h:IxR X r)(h':IxR X N):IxR X (λx y H Q=>r x y H Q∨N x y H Q):=by
 intro U Z pins s σ H x y v u Q I rx J q hs;rcases q with q|q
 .exact h U Z pins s σ H x y v u Q I rx J q hs
 .exact h' U Z pins s σ H x y v u Q I rx J q hs
theorem JZ{r:R2}(O:IxR X r)(Y:PE X a ta)(U:PE X b tb)(hs:uw b):PE X (.Subscript a b pos) (tOp r ta tb):=by
 intro pins s σ H Q I h;exact Subscript_ (Tg Y U I h λv u Z x y H2 V rx J q=>O a b pins Z σ H2 x y v u Q V rx J q (hs _ _))
def Vu(K:XS):R2:=λx y H Q=>∃p xs i v,x= .ref p/\y= .int i/\SqL K H p xs/\atI xs i=some v/\Q v H
def V6(K:XS):R2:=λx y H Q=>∃p xs i v,x= .ref p/\y= .int i/\SqT K H p xs/\atI xs i=some v/\Q v H
def VR:R2:=λx y H Q=>∃z i c,x= .str z/\y= .int i/\z.length<=X3/\atI z.cps.toList i=some c/\Q (.str ⟨#[c]⟩) H
theorem Pj:IxR X (Vu X.K):=by
 intro a0 Z pins s σ H x y v u Q I rx J h hs;obtain⟨p,xs,i,z,rfl,rfl,N,V,q⟩:=h;cases rx;obtain⟨t,rfl⟩:=J;obtain⟨its,r,pl,hz⟩:=I.list N;obtain⟨j,h1,h2,F,O,h5⟩:=yN V;obtain⟨w,ew,a1⟩:=r.get h2;have Y:=r.length;have hn:=o8;have fin:EP X pins σ Q w s:=⟨z,H,I,a1,q⟩;by_cases U:0<=i
 .have hj:i.toNat=j:=by
   rw[afx U h5]at h1;exact Y4 h1
  exact item_listR pl.isList U (by omega) (by rw[hj];simpa using ew) fin hs
 .have hj:(i+(its.toArray.size:Int)).toNat=j:=by
   rw[ae5 (by omega) O]at h1;rw[List.size_toArray,←Y];exact Y4 h1
  exact ad8 (x:=w) pl.isList.typeIs adm.lookup
   (wpAny_getItem_list_neg (Q:=λr s'=>r=w/\EP X pins σ Q r s') pl.isList (by omega) (by rw[List.size_toArray]<;>omega) (by omega) (by rw[hj];simpa using ew) ⟨rfl,fin⟩) hs
theorem Td:IxR X (V6 X.K):=by
 intro a0 Z pins s σ H x y v u Q I rx J h hs;obtain⟨p,xs,i,z,rfl,rfl,N,V,q⟩:=h;cases rx;obtain⟨t,rfl⟩:=J;obtain⟨its,r,pl,hz⟩:=I.tuple N;obtain⟨j,h1,h2,F,O,h5⟩:=yN V;obtain⟨w,ew,U⟩:=r.get h2;have Y:=r.length;have hn:=o8;have fin:EP X pins σ Q w s:=⟨z,H,I,U,q⟩;exact ad8 (x:=w) pl.typeIs slot_tuple_getitem.lookup
  (getItem_tuple (j:=j) (Q:=λr s'=>r=w/\EP X pins σ Q r s') pl (by omega) (by omega) (by rw[List.size_toArray,←Y];exact h1) (by simpa using ew) ⟨rfl,fin⟩) hs
theorem U4:IxR X VR:=by
 intro U Z pins s σ H x y v u Q I rx J h hs;obtain⟨z,i,c,rfl,rfl,hz,V,q⟩:=h;obtain⟨t,rfl⟩:=rx;obtain⟨t',rfl⟩:=J;obtain⟨j,h1,h2,F,O,N⟩:=yN V;have Y:z.cps.toList.length=z.length:=by simp[Str.length]
 rw[Y]at h1 O N;have hn:=o8;exact aew (typeIs_str s z t) slot_str_getitem.lookup (getItem_str (c:=c) (by
  have e1:decide (i< -(2 ^ 63:Int))=false:=YH (by omega);have e2:decide (i>=2 ^ 63)=false:=YH (by omega);rw[e1,e2,Bool.or_false]) (by rw[h1];simpa using h2) ⟨.str ⟨#[c]⟩,H,I.tok _,⟨_,rfl⟩,q⟩) hs
def rIx(K:XS):R2:=λx y H Q=>Vu K x y H Q∨V6 K x y H Q∨VR x y H Q
theorem Tn:IxR X (rIx X.K):=Pj.or (Td.or U4)
theorem C_(its:List Value)(n j:Nat)(u:Value):ZS (·.setIfInBounds j u) {cls:=.type "list",data:=.seq its.toArray n}={cls:=.type "list",data:=.seq (its.set j u).toArray n}:=by
 simp[ZS]
theorem Inv.lst{pins:List (Addr×Obj)}{σ:St}{H:Hp}{s:Mx}{p:Addr}{xs:List V}(I:Inv X pins σ H s)(h:H p=some (.lst xs)) :
  ∃(its:List Value)(n:Nat),Vals xs its/\s.heap.get? p=some {cls:=.type "list",data:=.seq its.toArray n}/\xs.length<=X3:=by
 obtain⟨z,its,n,r,e⟩:=I.hok p _ h;exact⟨its,n,r,e,z⟩
theorem Inv.lstUpd{pins:List (Addr×Obj)}{σ:St}{H:Hp}{s:Mx}{p:Addr}{xs ys:List V}{its its':List Value}{n J:Nat}{f:Obj->Obj}(I:Inv X pins σ H s)(h:H p=some (.lst xs))
  (N:s.heap.get? p=some {cls:=.type "list",data:=.seq its.toArray n}) (F:f {cls:=.type "list",data:=.seq its.toArray n}={cls:=.type "list",data:=.seq its'.toArray J}) (r:Vals ys its') (hz:ys.length<=X3) (t:Nat) :
  Inv X pins σ (upd H p (.lst ys)) {s with heap:=s.heap.update p f,toks:=t}:=by
 have e:(s.heap.update p f).get? p=some {cls:=.type "list",data:=.seq its'.toArray J}:=by
  rw[aaK f N (by rw[F]<;>rfl),F]
 refine I.write (x:=p) (e:=p) (by rw[h];trivial) (.inl rfl) (λb u U q=>(Y8 _ _ (YC U)).trans q) ⟨_,e⟩ ?_;exact⟨hz,its',J,r,e⟩
def Rv:V->V->V->Hp->(Hp->Prop)->Prop:=λo i v H Q=>∃p xs k j,o= .ref p/\i= .int k/\H p=some (.lst xs)/\ixN xs.length k=some j/\Q (upd H p (.lst (xs.set j v)))
theorem set_list:QL X Rv:=by
 intro pins s σ H o i v Z iv u Q I ro ri J h;obtain⟨p,xs,k,j,rfl,rfl,F,V,q⟩:=h;cases ro;obtain⟨t,rfl⟩:=ri;obtain⟨its,n,r,N,hz⟩:=I.lst F;obtain⟨h1,h2,h3,O⟩:=yw V;have Y:=r.length;have hn:=o8;have I':Inv X pins σ (upd H p (.lst (xs.set j v))) {s with heap:=s.heap.update p (ZS (·.setIfInBounds j u))}:=
  I.lstUpd F N (C_ its n j u) (r.set J j) (by rw[List.length_set];exact hz) s.toks
 by_cases U:0<=k
 .have hk:k.toNat=j:=by
   rw[afx U O]at h1;exact Y4 h1
  exact PySem.W.ki_setAt N U (by omega) (by rw[List.size_toArray,←Y];exact O) (by rw[hk];exact⟨_,I',q⟩)
 .have hk:(k+(its.toArray.size:Int)).toNat=j:=by
   rw[ae5 (by omega) h3]at h1;rw[List.size_toArray,←Y];exact Y4 h1
  exact PySem.W.ki_setBack N (by omega) (by rw[List.size_toArray,←Y];exact h3) (by omega) (by rw[hk];exact⟨_,I',q⟩)
theorem yQ(lo hi:Option Int)(n:Nat):(abK lo hi none n).1=((HT.sIx n 0 lo:Nat):Int)/\(abK lo hi none n).2.1=((HT.sIx n n hi:Nat):Int)/\(abK lo hi none n).2.2=1:=by
 refine⟨?_,?_,rfl⟩
 .cases lo with
  |none=>simp[abK,HT.sIx]
  |some i=>
   simp![abK,HT.sIx,afC,show(1:Int)>0 by decide,Yd];by_cases h:i<0
   .simp![h,Yd]<;>omega
   .simp![h,Zi]<;>omega
 .cases hi with
  |none=>simp[abK,HT.sIx]
  |some i=>
   simp![abK,HT.sIx,afC,show(1:Int)>0 by decide,Yd];by_cases h:i<0
   .simp![h,Yd]<;>omega
   .simp![h,Zi]<;>omega
theorem wN(its:List Value)(lo hi:Option Int):slicePick its.toArray lo hi none=((its.drop (HT.sIx its.length 0 lo)).take (HT.sIx its.length its.length hi-HT.sIx its.length 0 lo)).toArray:=by
 obtain⟨h1,h2,F⟩:=yQ lo hi its.toArray.size;unfold slicePick;rw[h1,h2,F];simp![sliceRange_one,pick_run,List.size_toArray]<;>rfl
def WK(K:XS):V->Option Int->Option Int->Hp->VK->Prop:=λx lo hi H Q=>∃a xs,x= .ref a/\SqL K H a xs/\∀p,H p=none->Q (.ref p) (upd H p (.lst (vX xs lo hi)))
theorem Qn:SlR X (WK X.K):=by
 intro pins s σ H x v Y O lo hi sl Q I rx hs F V h;obtain⟨a,xs,rfl,J,q⟩:=h;cases rx;obtain⟨its,r,N,hz⟩:=I.list J;have U:=r.length;refine⟨"list",_,adm.lookup,N.isList.typeIs,?_⟩;refine adK N.isList hs F V .none (by simp) ?_ (by rw[List.size_toArray]<;>omega);rw[wN,←U];refine⟨.ref s.heap.objs.size,_,I.laid (t':=s.toks) (o:=.lst (vX xs lo hi)) (λb ob q=>qb _ q) (XQ _) ?_,rfl,q _ (I.hok.fresh (XQ _))⟩;exact⟨Zq (t6 xs lo hi) hz,_,0,(r.drop (HT.sIx xs.length 0 lo)).take (HT.sIx xs.length xs.length hi-HT.sIx xs.length 0 lo),X4 _ rfl⟩
def lM:V->Bool
 |.non=>true
 |.bl _=>true
 |.int _=>true
 |.str _=>true
 |_=>false
def eqV:V->V->Bool
 |.non,.non=>true
 |.bl a,.bl b=>a==b
 |.bl a,.int b=>(if a then 1 else 0)==b
 |.int a,.bl b=>a==(if b then 1 else 0)
 |.int a,.int b=>a==b
 |.str a,.str b=>a==b
 |_,_=>false
theorem T4{A:Zc}{s:Mx}{y x:V}{u v:Value}(J:RelV y u)(rx:RelV x v)(F:lM y=true)(U:lM x=true):SeqAt.EqAt A s u v (eqV y x):=by
 cases y with
 |non=>
  cases J;cases x with
  |non=>cases rx;exact SeqAt.EqAt.same _
  |bl b=>cases rx;exact SeqAt.EqAt.none_bool b
  |int b=>obtain⟨t,rfl⟩:=rx;exact SeqAt.EqAt.none_int b t
  |str b=>obtain⟨t,rfl⟩:=rx;exact SeqAt.EqAt.none_str b t
  |_=>exact absurd (show false=true from U) YS
 |bl a=>
  cases J;cases x with
  |non=>cases rx;exact SeqAt.EqAt.bool_none a
  |bl b=>cases rx;exact SeqAt.EqAt.bool_bool a b
  |int b=>obtain⟨t,rfl⟩:=rx;exact SeqAt.EqAt.bool_int a b t
  |str b=>obtain⟨t,rfl⟩:=rx;exact SeqAt.EqAt.bool_str a b t
  |_=>exact absurd (show false=true from U) YS
 |int a=>
  obtain⟨t',rfl⟩:=J;cases x with
  |non=>cases rx;exact SeqAt.EqAt.int_none a t'
  |bl b=>cases rx;exact SeqAt.EqAt.int_bool a t' b
  |int b=>obtain⟨t,rfl⟩:=rx;exact SeqAt.EqAt.int_int a t' b t
  |str b=>obtain⟨t,rfl⟩:=rx;exact aeZ a t' b t
  |_=>exact absurd (show false=true from U) YS
 |str a=>
  obtain⟨t',rfl⟩:=J;cases x with
  |non=>cases rx;exact SeqAt.EqAt.str_none a t'
  |bl b=>cases rx;exact SeqAt.EqAt.str_bool a t' b
  |int b=>obtain⟨t,rfl⟩:=rx;exact ae0 a t' b t
  |str b=>obtain⟨t,rfl⟩:=rx;exact SeqAt.EqAt.str_str a t' b t
  |_=>exact absurd (show false=true from U) YS
 |_=>exact absurd (show false=true from F) YS
def eqU(x:V)(u:Value):Bool:=match u with
 |.none=>eqV .non x
 |.bool b=>eqV (.bl b) x
 |.int i _=>eqV (.int i) x
 |.str z _=>eqV (.str z) x
 |_=>false
theorem K4{x y:V}{u:Value}(r:RelV y u)(f:lM y=true):eqU x u=eqV y x:=by
 cases y with
 |non=>cases r;rfl
 |bl b=>cases r;rfl
 |int i=>obtain⟨t,rfl⟩:=r;rfl
 |str z=>obtain⟨t,rfl⟩:=r;rfl
 |_=>exact absurd (show false=true from f) YS
theorem pW{x:V}:∀{xs:List V}{us:List Value},Vals xs us->xs.all lM=true->us.any (eqU x)=xs.any λy=>eqV y x
 |_,_,.nil,_=>rfl
 |y::xs,u::us,.cons r t,f=>by
  rw[abI,Ys]at f;rw[acv,acv,K4 r f.1,pW t f.2]
theorem m6{A:Zc}{s:Mx}{x:V}{v:Value}(rx:RelV x v)(U:lM x=true):∀{xs:List V}{us:List Value},Vals xs us->xs.all lM=true->∀u∈us,SeqAt.EqAt A s u v (eqU x u)
 |_,_,.nil,_=>λu O=>by cases O
 |y::xs,u::us,.cons r t,f=>λq O=>by
  rw[abI,Ys]at f;rcases XJ.mp O with rfl|O
  .rw[K4 r f.1];exact T4 r rx f.1 U
  .exact m6 rx U t f.2 q O
def inV(x:V)(xs:List V):Bool:=xs.any λy=>eqV y x
def rIn(K:XS)(q:Bool):R2:=λx y H Q=>∃p xs,y= .ref p/\(SqL K H p xs∨SqT K H p xs)/\lM x=true/\xs.all lM=true/\Q (.bl (if q then !inV x xs else inV x xs)) H
theorem Il:OpR X (YK .In) (rIn X.K false):=by
 intro pins s σ H x y v u Q I rx J h;obtain⟨p,xs,rfl,N,U,fs,q⟩:=h;cases J;rcases N with N|N
 .obtain⟨its,r,pl,hz⟩:=I.list N
  refine SeqAt.in_listAt (eqU x) pl.isList (λw F=>m6 rx U r fs w (by simpa using F)) ⟨.bl _,H,I,rfl,?_⟩;rw[show its.toArray.any (eqU x)=its.any (eqU x)by simp,pW r fs];exact q
 .obtain⟨its,r,pl,hz⟩:=I.tuple N
  refine SeqAt.in_tupleAt (eqU x) pl (λw F=>m6 rx U r fs w (by simpa using F)) ⟨.bl _,H,I,rfl,?_⟩;rw[show its.toArray.any (eqU x)=its.any (eqU x)by simp,pW r fs];exact q
theorem zr:OpR X (YK .NotIn) (rIn X.K true):=by
 intro pins s σ H x y v u Q I rx J h;obtain⟨p,xs,rfl,N,U,fs,q⟩:=h;cases J;rcases N with N|N
 .obtain⟨its,r,pl,hz⟩:=I.list N
  refine SeqAt.notIn_listAt (eqU x) pl.isList (λw F=>m6 rx U r fs w (by simpa using F)) ⟨.bl _,H,I,rfl,?_⟩;rw[show its.toArray.any (eqU x)=its.any (eqU x)by simp,pW r fs];exact q
 .obtain⟨its,r,pl,hz⟩:=I.tuple N
  refine SeqAt.notIn_tupleAt (eqU x) pl (λw F=>m6 rx U r fs w (by simpa using F)) ⟨.bl _,H,I,rfl,?_⟩;rw[show its.toArray.any (eqU x)=its.any (eqU x)by simp,pW r fs];exact q
theorem yX:OpR X (YK .NotIn) (λx y H Q=>∃i j,x= .str i/\y= .str j/\Q (.bl (!(!(Za j i 0 j.length 1).isEmpty))) H):=by
 intro pins s σ H x y v u Q I rx J h;obtain⟨i,j,rfl,rfl,q⟩:=h;obtain⟨t,rfl⟩:=rx;obtain⟨t',rfl⟩:=J;exact notIn_str ⟨.bl _,H,I,rfl,q⟩
theorem yz:dq X (.builtin "len") (λxs H Q=>∃p ys,xs=[.ref p]/\(SqL X.K H p ys∨SqT X.K H p ys)/\Q (.int ys.length) H):=by
 intro pins s σ H xs us Q I r h;obtain⟨p,ys,rfl,N,q⟩:=h;obtain⟨u,rfl,rx⟩:=vals1 r;cases rx;have hn:=o8;rcases N with N|N
 .obtain⟨its,r',pl,hz⟩:=I.list N
  have U:=r'.length;exact Calls.call_len_list pl.isList (by simp![List.size_toArray]<;>omega) ⟨.int ys.length,H,I.tok _,⟨s.toks+1,by rw[List.size_toArray,U]⟩,q⟩
 .obtain⟨its,r',pl,hz⟩:=I.tuple N
  have U:=r'.length;exact len_tuple pl (by simp![List.size_toArray]<;>omega) ⟨.int ys.length,H,I.tok _,⟨s.toks+1,by rw[List.size_toArray,U]⟩,q⟩
theorem yD:dq X (.builtin "len") (λxs H Q=>∃z,xs=[.str z]/\z.length<=X3/\Q (.int z.length) H):=by
 intro pins s σ H xs us Q I r h;obtain⟨z,rfl,hz,q⟩:=h;obtain⟨u,rfl,t,rfl⟩:=vals1 r;have hn:=o8;exact len_str (by omega) ⟨.int z.length,H,I.tok _,⟨_,rfl⟩,q⟩
theorem wH:dq X (.type "tuple") (λxs H Q=>∃p ys,xs=[.ref p]/\((SqL X.K H p ys/\∀l,H l=none->Q (.ref l) (upd H l (.tup ys)))∨(SqT X.K H p ys/\Q (.ref p) H))):=by
 intro pins s σ H xs us Q I r h;obtain⟨p,ys,rfl,h⟩:=h;obtain⟨u,rfl,rx⟩:=vals1 r;cases rx;rcases h with⟨N,q⟩|⟨N,q⟩
 .obtain⟨its,r',pl,hz⟩:=I.list N
  have U:=r'.length;refine call_tuple_list pl.isList (λh' kp=>?_) (by simp![List.size_toArray]<;>omega);have F:Inv X pins σ H {s with heap:=h'}:=I.kept (t':=s.toks) kp;have V:Inv X pins σ (upd H h'.objs.size (.tup ys)) {s with heap:=h'.push {cls:=.type "tuple",data:=.seq its.toArray}}:=
   F.laid (t':=s.toks) (λb o e=>qb _ e) (XQ _) (show cI X.prog X.w _ _ _ (.tup ys)from⟨hz,its,r',kW.new _ _⟩)
  exact⟨.ref h'.objs.size,_,V,rfl,q _ (F.hok.fresh (XQ _))⟩
 .obtain⟨its,r',pl,hz⟩:=I.tuple N
  exact call_tuple_same pl ⟨.ref p,H,I,rfl,q⟩
def tyV(K:XS)(T:String)(x:V)(H:Hp):Prop:=match x with
 |.str _=>T="str"
 |.int _=>T="int"
 |.ref p=>(T="list"/\∃xs,SqL K H p xs)∨(T="tuple"/\∃o,K.lookup p=some o/\o.cls= .type "tuple"/\o.dict=none)∨
  (T="dict"/\((∃kvs,H p=some (.dK kvs))∨∃kvs,H p=some (.dT kvs)))∨(T="set"/\∃S n,H p=some (.set S n))
 |_=>False
theorem Ut{pins:List (Addr×Obj)}{σ:St}{H:Hp}{s:Mx}{T:String}{x:V}{v:Value}(I:Inv X pins σ H s)(r:RelV x v)(O:tyV X.K T x H) :
  s.TypeIs v T/\∀a,v= .ref a->∃ob,s.heap.get? a=some ob/\ob.dict=none:=by
 cases x with
 |str z=>
  obtain⟨t,rfl⟩:=r;cases (show T="str" from O);exact⟨typeIs_str s z t,λ_ e=>nomatch e⟩
 |int i=>
  obtain⟨t,rfl⟩:=r;cases (show T="int" from O);exact⟨typeIs_int s i t,λ_ e=>nomatch e⟩
 |ref p=>
  cases r;rcases O with⟨rfl,xs,N⟩|⟨rfl,o,J,Z,hd⟩|⟨rfl,J⟩|⟨rfl,S,n,J⟩
  .obtain⟨its,_,pl,_⟩:=I.list N
   refine⟨pl.isList.typeIs,λa e=>?_⟩;cases e;obtain⟨o,n,e,c,hd,_⟩:=pl;exact⟨o,e,hd⟩
  .refine⟨⟨o,I.kIn p o J,Z⟩,λa e=>?_⟩
   cases e;exact⟨o,I.kIn _ o J,hd⟩
  .have z:∃o,s.heap.get? p=some o/\o.ExactDict:=by
    rcases J with⟨kvs,J⟩|⟨kvs,J⟩
    .obtain⟨_,_,_,_,o,_,_,e,ex,_⟩:=I.hok p _ J
     exact⟨o,e,ex⟩
    .obtain⟨_,_,_,_,o,_,_,e,ex,_⟩:=I.hok p _ J
     exact⟨o,e,ex⟩
   obtain⟨o,e,ex⟩:=z;refine⟨⟨o,e,ex.1⟩,λa e2=>?_⟩;cases e2;exact⟨o,e,ex.2.1⟩
  .obtain⟨o,_,_,_,e,ex,_⟩:=I.hok p _ J
   refine⟨⟨o,e,ex.1⟩,λa e2=>?_⟩;cases e2;exact⟨o,e,ex.2.1⟩
 |_=>exact aaX O
def tBM(K:XS)(T:String)(r:V->List V->Hp->VK->Prop)(to:TE)(t:TA):TE:=λσ H Q=>to σ H λx H1=>tyV K T x H1/\t σ H1 λxs H2=>r x xs H2 Q
variable{o e:Expr}{es:List Expr}{to:TE}{t:TA}{name:Str}{apos cpos:Pos}{T id:String}{r:V->List V->Hp->VK->Prop}
theorem Nx(pa:aex T)(slot:Slot T name id)(a3:typeOf (.builtin id)=pure (.type "method_descriptor"))(J:MtR X id r)(N:PE X o to)(Y:PA X (e::es) t)
  (a1:adf o name X.env (eval o X.env)=eval o X.env:=by rfl)
  (a2:((aah cpos (X_ (e::es) X.env)).all (λx=>!x.1)&&(backToKw cpos (ad9 [] X.env)).all (λx=>x.1.isSome)
   &&decide ((e::es).length+([]:List acX).length+(if([]:List acX).isEmpty then 0 else 1)<30))=true:=by rfl)
  (a0:(apos.endLine==cpos.line)=true:=by rfl) (hs:X_ (e::es) X.env=(false,eval e X.env)::X_ es X.env:=by rfl) (q:(aah cpos (X_ es X.env)).any (·.1)=false:=by rfl) :
  PE X (.Call (.Attribute o name apos) (e::es) [] cpos) (tBM X.K T r to t):=by
 intro pins s σ H Q I h;refine wpAny_Call_method_late a1 a2 a0 rfl (thn (N pins s σ H _ I h) λv O ⟨x,H1,F,U,ty,q1⟩=>?_);obtain⟨h1,h2⟩:=Ut F U ty;refine⟨T,id,pa,slot,a3,h1,h2,?_⟩;have hA:=Y cpos pins O σ H1 _ F q1;rw[hs]at hA⊢;refine ad_ (by show(false||(aah cpos (X_ es X.env)).any (·.1))=false;rw[q]<;>rfl) (aey ?_);exact thn hA λus Z ⟨vs,H2,V,r2,q2⟩=>J pins Z σ H2 x vs v us Q V U r2 q2
end
def MtM(X:Cx)(id:String)(r:V->List V->Hp->VK->Prop):Prop:=
 ∀(pins:List (Addr×Obj))(s:Mx)(σ:St)(H:Hp)(x:V)(xs:List V)(v:Value)(us:List Value)(Q:VK),Inv X pins σ H s->RelV x v->Vals xs us->r x xs H Q->
  wpAny (model X.prog X.w) X.A (call (.builtin id) (v::us)) (EP X pins σ Q) X.xe s
theorem Vals.one:∀{x:V}{us:List Value},Vals [x] us->∃u,us=[u]/\RelV x u
 |_,_,.cons r .nil=>⟨_,rfl,r⟩
theorem Vals.eraseIdx:∀{xs:List V}{us:List Value}(i:Nat),Vals xs us->Vals (xs.eraseIdx i) (us.eraseIdx i)
 |_,_,_,.nil=>.nil
 |_,_,0,.cons _ t=>t
 |_,_,i+1,.cons r t=>.cons r (Vals.eraseIdx i t)
variable{xs:List V}
theorem Vals.reverse(h:Vals xs us):Vals xs.reverse us.reverse:=by
 induction h with
 |nil=>exact .nil
 |cons r t Z=>rw[ab_,ab_];exact Vals.append Z (.cons r .nil)
theorem xQ:∀(l:List α)(i:Nat),(l.eraseIdx i).length<=l.length
 |[],_=>XQ _
 |_::_,0=>ac1 _
 |_::r,i+1=>Nat.succ_le_succ (xQ r i)
variable{X:Cx}{σ:St}{H:Hp}{ys:List V}
theorem Inv.lset{its':List Value}{f:Array Value->Array Value}(I:Inv X pins σ H s)(V:H l=some (.lst xs))
  (e:s.heap.get? l=some {cls:=.type "list",data:=.seq its.toArray n}) (F:f its.toArray=its'.toArray) (Z:Vals ys its') (hz:ys.length<=X3) :
  Inv X pins σ (upd H l (.lst ys)) {s with heap:=s.heap.update l (ZS f),toks:=t'}:=by
 have q:=afD e f;rw[F]at q;refine I.write (x:=l) (e:=l) (by rw[V];exact trivial) (.inl rfl) (λJ u U O=>(Y8 s.heap (ZS f) (YC U)).trans O) ⟨_,q⟩ ?_;exact⟨hz,its',_,Z,q⟩
theorem Inv.lnew(I:Inv X pins σ H s)(Z:Vals ys its)(hz:ys.length<=X3) :
  Inv X pins σ (upd H s.heap.objs.size (.lst ys)) {s with heap:=s.heap.push {cls:=.type "list",data:=.seq its.toArray},toks:=t'}:=
 I.laid (λ_ _ q=>qb _ q) (XQ _) ⟨hz,its,0,Z,X4 _ rfl⟩
theorem Inv.fresh(I:Inv X pins σ H s):H s.heap.objs.size=none:=I.hok.fresh (XQ _)
theorem Inv.lstM(I:Inv X pins σ H s)(V:H l=some (.lst xs)):xs.length<=X3/\∃(its:List Value)(n:Nat),Vals xs its/\xs.length=its.length/\s.heap.get? l=some {cls:=.type "list",data:=.seq its.toArray n}:=by
 obtain⟨z,its,n,r,e⟩:=I.hok l _ V;exact⟨z,its,n,r,r.length,e⟩
def Fj:V->List V->Hp->VK->Prop:=λx vs H Q=>∃l xs y,x= .ref l/\vs=[y]/\H l=some (.lst xs)/\xs.length<X3/\Q .non (upd H l (.lst (xs++[y])))
theorem Ii:MtM X "list.append" Fj:=by
 intro pins s σ H x vs v us Q I rx J h;obtain⟨l,xs,y,rfl,rfl,V,hz,q⟩:=h;cases rx;obtain⟨u,rfl,N⟩:=J.one;obtain⟨z,its,n,r,Y,e⟩:=I.lstM V;refine adA ae6 ⟨_,e,rfl⟩ aeS (aez _ _) (afp l its.toArray n u (by rw[List.size_toArray];omega)) ⟨e,?_⟩;refine⟨.non,_,I.lset (its':=its++[u]) V e (by simp) (r.append (.cons N .nil)) ?_,rfl,q⟩;rw[Zg,acF];omega
def Ni:V->List V->Hp->VK->Prop:=λx vs H Q=>∃l xs i k y,x= .ref l/\vs=[.int i]/\H l=some (.lst xs)/\-(2 ^ 63)<=i/\i<2 ^ 63/\seqIndex? i xs.length=some k/\xs[k]? =some y/\Q y (upd H l (.lst (xs.eraseIdx k)))
theorem N8:MtM X "list.pop" Ni:=by
 intro pins s σ H x vs v us Q I rx rv h;obtain⟨l,xs,i,k,y,rfl,rfl,O,h1,h2,J,V,q⟩:=h;cases rx;obtain⟨u,rfl,Z⟩:=rv.one;obtain⟨t,rfl⟩:=Z;obtain⟨z,its,n,r,Y,e⟩:=I.lstM O;obtain⟨w,N,U⟩:=r.get V;refine adA F.slot_list_pop ⟨_,e,rfl⟩ F.entry_list_pop (F.args_list_pop_2 _ _)
  (MeetsSeq.list_pop_at l its.toArray n i t k w (fitsIndex_both h1 h2) (by rw[List.size_toArray,←Y];exact J) (by rw[←aaL];exact N) (by rw[List.size_toArray];omega)) ⟨e,?_⟩
 refine⟨y,_,I.lset (its':=its.eraseIdx k) O e ?_ (r.eraseIdx k) ?_,U,q⟩
 .show its.toArray.eraseIdxIfInBounds k=(its.eraseIdx k).toArray
  rw[List.eraseIdxIfInBounds_toArray]
 .have:=xQ xs k
  omega
def Wx:R2:=λx y H Q=>∃l b xs zs,x= .ref l/\y= .ref b/\H l=some (.lst xs)/\H b=some (.lst zs)/\xs.length+zs.length<=X3/\∀p,H p=none->Q (.ref p) (upd H p (.lst (xs++zs)))
theorem SJ:OpR X (ZR .Add) Wx:=by
 intro pins s σ H x y v u Q I rx J h;obtain⟨l,b,xs,zs,rfl,rfl,V,N,hz,q⟩:=h;cases rx;cases J;obtain⟨z,its,n,r,Y,e⟩:=I.lstM V;obtain⟨Z,O,n2,F,a0,e2⟩:=I.lstM N;refine PySem.P.add_list e e2 ?_ (by rw[List.size_toArray,List.size_toArray];omega);have U:its.toArray++O.toArray=(its++O).toArray:=by simp
 rw[U];exact⟨.ref _,_,I.lnew (t':=s.toks) (r.append F) (by rw[Zg];omega),rfl,q _ I.fresh⟩
section
variable{κ:Type}[DecidableEq κ]
def lW(kvs:List (κ×V))(k:κ):Option V:=(kvs.find? λO=>decide (O.1=k)).map (·.2)
def putK(kvs:List (κ×V))(k:κ)(v:V):List (κ×V):=
 if(kvs.any λO=>decide (O.1=k))=true then kvs.map (λO=>if O.1=k then(O.1,v)else O)else kvs++[(k,v)]
theorem u9{p:κ×V}{r:List (κ×V)}{k:κ}(e:p.1=k):lW (p::r) k=some p.2:=by simp[lW,aar,e]
theorem wB{p:κ×V}{r:List (κ×V)}{k:κ}(e:¬p.1=k):lW (p::r) k=lW r k:=by simp[lW,aar,e]
theorem uZ(k:κ):∀kvs:List (κ×V),(kvs.any λO=>decide (O.1=k))=(lW kvs k).isSome
 |[]=>rfl
 |p::r=>by
  rw[acv];by_cases e:p.1=k
  .simp![u9 e,Zw e,Bool.true_or,Option.isSome_some]
  .rw[wB e,YH e,Bool.false_or];exact uZ k r
theorem gP(kvs:List (κ×V))(k:κ)(v:V):(putK kvs k v).length<=kvs.length+1:=by
 unfold putK;split
 .rw[X5];omega
 .rw[Zg,Yj,Yx];omega
theorem mK{kvs:List (κ×V)}{k:κ}(v:V)(h:lW kvs k=none):putK kvs k v=kvs++[(k,v)]:=by
 unfold putK;rw[uZ,h];exact Yc (by decide)
theorem vZ.isSome_eq{o:Option V}{u:Option Value}(r:vZ o u):o.isSome=u.isSome:=by
 cases o with
 |none=>cases u with
  |none=>rfl
  |some _=>exact(show False from r).elim
 |some _=>cases u with
  |none=>exact(show False from r).elim
  |some _=>rfl
theorem KV.val{kvs:List (κ×V)}{vs:List (κ×Value)}(r:KV kvs vs)(k:κ):vZ (lW kvs k) (adE vs k):=by
 unfold KV at r
 induction r with
 |nil=>exact Zy
 |@cons p q ps U h t Z=>
  obtain⟨h1,h2⟩:=h;by_cases e:p.1=k
  .have e':q.1=k:=h1.symm.trans e
   have b:adE (q::U) k=some q.2:=by simp[adE,aar,e']
   rw[u9 e,b];exact h2
  .have e':¬q.1=k:=λz=>e (h1.trans z)
   have b:adE (q::U) k=adE U k:=by simp[adE,aar,e']
   rw[wB e,b];exact Z
theorem KV.any{kvs:List (κ×V)}{vs:List (κ×Value)}(r:KV kvs vs)(k:κ):(kvs.any λO=>decide (O.1=k))=vs.any λO=>decide (O.1=k):=by
 unfold KV at r
 induction r with
 |nil=>rfl
 |cons h t Z=>rw[acv,acv,Z,h.1]
theorem KV.repl{kvs:List (κ×V)}{vs:List (κ×Value)}(r:KV kvs vs)(k:κ){y:V}{u:Value}(J:RelV y u) :
  KV (kvs.map λO=>if O.1=k then(O.1,y)else O) (vs.map λO=>if O.1=k then(O.1,u)else O):=by
 unfold KV at r⊢
 induction r with
 |nil=>exact .nil
 |@cons p q ps U h t Z=>
  rw[XH,XH];refine .cons ?_ Z;obtain⟨h1,h2⟩:=h;by_cases e:p.1=k
  .rw[X7 e,X7 (h1.symm.trans e)];exact⟨h1,J⟩
  .rw[Yc e,Yc (λz=>e (h1.trans z))];exact⟨h1,h2⟩
theorem KV.put{kvs:List (κ×V)}{vs:List (κ×Value)}(r:KV kvs vs)(k:κ){y:V}{u:Value}(J:RelV y u):KV (putK kvs k y) (stored vs k u):=by
 unfold putK stored;rw[r.any k];by_cases e:(vs.any λO=>decide (O.1=k))=true
 .rw[X7 e,X7 e];exact r.repl k J
 .rw[Yc e,Yc e];exact Paired.snoc r ⟨rfl,J⟩
theorem KV.length{kvs:List (κ×V)}{vs:List (κ×Value)}(r:KV kvs vs):kvs.length=vs.length:=ac_ r
end
theorem oE{k:Key}(r:RelV (kV k) u):(bz P w).is k u=true:=by
 cases k with
 |inl i=>obtain⟨t,e⟩:=(show ∃t,u=aad i t from r);subst e;exact Bs P w i t
 |inr x=>obtain⟨t,e⟩:=(show ∃t,u=abT x t from r);subst e;exact By P w x t
theorem xx:∀{ks:List Key}{us:List Value},Vals (ks.map kV) us->ItemsAre (bz P w) ks us
 |[],_,r=>by rw[Yy]at r;cases r;exact .nil
 |k::ks,_,r=>by
  rw[XH]at r;cases r with
  |cons h t=>exact .cons (oE h) (xx t)
noncomputable abbrev KT(H:Hp):List (List Key×V)->List (List Key×Addr×Value)->Prop:=adG λp q=>p.1=q.1/\H q.2.1=some (.tup (p.1.map kV))/\RelV p.2 q.2.2
variable{xs:List (List Key×Addr×Value)}{kvs:List (List Key×V)}
theorem KT.val(r:KT H kvs xs)(k:List Key):vZ (lW kvs k) ((atKey xs k).map (·.2)):=by
 induction r with
 |nil=>exact Zy
 |@cons p q ps U h t Z=>
  obtain⟨h1,_,h2⟩:=h;by_cases e:p.1=k
  .have e':q.1=k:=h1.symm.trans e
   have b:atKey (q::U) k=some q.2:=by simp[atKey,aar,e']
   rw[u9 e,b];exact h2
  .have e':¬q.1=k:=λz=>e (h1.trans z)
   have b:atKey (q::U) k=atKey U k:=by simp[atKey,aar,e']
   rw[wB e,b];exact Z
variable{y:V}
theorem KT.repl(r:KT H kvs xs)(k:List Key)(J:RelV y u) :
  KT H (kvs.map λO=>if O.1=k then(O.1,y)else O) (xs.map (putAt k u)):=by
 induction r with
 |nil=>exact .nil
 |@cons p q ps U h t Z=>
  rw[XH,XH];refine .cons ?_ Z;obtain⟨h1,h2,F⟩:=h;unfold putAt;by_cases e:p.1=k
  .rw[X7 e,X7 (h1.symm.trans e)];exact⟨h1,h2,J⟩
  .rw[Yc e,Yc (λz=>e (h1.trans z))];exact⟨h1,h2,F⟩
theorem KT.put(r:KT H kvs xs)(k:List Key){b:Addr}(U:H b=some (.tup (k.map kV)))(J:RelV y u) :
  KT H (putK kvs k y) (storedH xs k b u):=by
 have e:(kvs.any λO=>decide (O.1=k))=(atKey xs k).isSome:=by
  rw[uZ,(r.val k).isSome_eq,adn]
 unfold putK storedH;rw[e];by_cases q:(atKey xs k).isSome=true
 .rw[X7 q,X7 q];exact r.repl k J
 .rw[Yc q,Yc q];exact Paired.snoc r ⟨rfl,U,J⟩
variable{H':Hp}
theorem KT.keeps(r:KT H kvs xs)(U:∀b ys,H b=some (.tup ys)->H' b=some (.tup ys)):KT H' kvs xs:=
 Paired.mapP r λ_ _ z=>⟨z.1,U _ _ z.2.1,z.2.2⟩
variable{P:Program}
theorem RK{u:HO}(ok:HOk P w H h)(e:Rd H a u):cI P w H h a u:=e.ok ok
theorem v7{kvs:List (Key×V)}(ok:HOk P w H h)(e:Rd H a (.dK kvs)):kvs.length<=X3/\(a==aaW)=false/\∃vs,KV kvs vs/\h.DictOf (bz P w) a vs:=
 show cI P w H h a (.dK kvs)from RK ok e
theorem Ai{kvs:List (Key×V)}(ok:HOk P w H h)(e:H a=some (.dK kvs)):kvs.length<=X3/\(a==aaW)=false/\∃vs,KV kvs vs/\h.DictOf (bz P w) a vs:=v7 ok (.inl e)
theorem vz{ks:List Key}(ok:HOk P w H h)(e:H a=some (.tup (ks.map kV))):(adX (bz P w)).is h ks a:=by
 obtain⟨_,its,r,o,h1,h2,n,F⟩:=(show cI P w H h a (.tup (ks.map kV))from ok a _ e);exact⟨o,its.toArray,n,h1,h2,F.1,by simpa using xx r⟩
theorem Cr(ok:HOk P w H h)(e:Rd H a (.dT kvs)):kvs.length<=X3/\(a==aaW)=false/\
  ∃xs,KT H kvs xs/\h.DictOfH (adX (bz P w)) a xs:=by
 obtain⟨z,y,xs,r,o,es,ep,h1,h2,F,O,Y⟩:=(show cI P w H h a (.dT kvs)from RK ok e);refine⟨z,y,xs,r,o,es,ep,h1,h2,F,O,λx J=>?_,Y⟩;have all:∀{l:List (List Key×V)}{m:List (List Key×Addr×Value)},KT H l m->∀x∈m,(adX (bz P w)).is h x.1 x.2.1:=by
  intro l m q
  induction q with
  |nil=>intro x J;exact nomatch J
  |@cons p q ps U N t Z=>
   intro x J;rcases XJ.mp J with e|J
   .subst e
    exact vz ok (by rw[←N.1];exact N.2.1)
   .exact Z x J
 exact all r x J
theorem Vz(ok:HOk P w H h)(e:H a=some (.dT kvs)):kvs.length<=X3/\(a==aaW)=false/\
 ∃xs,KT H kvs xs/\h.DictOfH (adX (bz P w)) a xs:=Cr ok (.inl e)
def sI(H:Hp)(a:Addr)(y:V)(r:Option V):Prop:=
 (∃kvs k,Rd H a (.dK kvs)/\y=kV k/\r=lW kvs k)∨∃kvs k b,Rd H a (.dT kvs)/\y= .ref b/\H b=some (.tup (k.map kV))/\r=lW kvs k
def Mh(H:Hp)(a:Addr)(y v:V)(H':Hp):Prop:=
 (∃kvs k,H a=some (.dK kvs)/\y=kV k/\kvs.length<X3/\H'=upd H a (.dK (putK kvs k v)))∨
 ∃kvs k b,H a=some (.dT kvs)/\y= .ref b/\H b=some (.tup (k.map kV))/\kvs.length<X3/\H'=upd H a (.dT (putK kvs k v))
variable{kvs:List (Key×V)}
theorem sI.k{k:Key}(e:H a=some (.dK kvs)):sI H a (kV k) (lW kvs k):=.inl ⟨kvs,k,.inl e,rfl,rfl⟩
variable{v:V}
theorem Mh.k{k:Key}(e:H a=some (.dK kvs))(Y:kvs.length<X3):Mh H a (kV k) v (upd H a (.dK (putK kvs k v))):=.inl ⟨kvs,k,e,rfl,Y,rfl⟩
theorem Inv.big(I:Inv X pins σ H s):aaW<s.heap.objs.size:=by
 have h:Ye<s.heap.objs.size:=(I.mod.glob.keeps I.bk).lt;exact Nat.lt_trans (by decide) h
theorem I_(O:A.units+1<cLine)(I:Inv X pins σ H s)(g:sI H a y (some v))(J:RelV y u)(h:∀Y s',Inv X pins σ H s'->RelV v Y->Q Y s') :
  wpAny (model X.prog X.w) A (acW (.ref a) u) Q E s:=by
 rcases g with⟨kvs,k,e,V,l⟩|⟨kvs,k,b,e,V,eb,l⟩
 .subst V
  obtain⟨z,hd,vs,rel,Z⟩:=v7 I.hok e;obtain⟨Y,N,U⟩:=vZ.some_of (v:=v) (o:=adE vs k) (by rw[l];exact rel.val k);exact wpAny_getItem_of (oE J) Z.mapOf N (h Y _ (I.tok _) U)
 .subst V
  cases (show u=YD b from J);obtain⟨z,hd,xs,rel,Z⟩:=Cr I.hok e;obtain⟨Y,N,U⟩:=vZ.some_of (v:=v) (o:=(atKey xs k).map (·.2)) (by rw[l];exact rel.val k);obtain⟨p,F,q⟩:=acn.mp N;refine wpAny_getItem_heap (abX O) (vz I.hok eb) Z F ?_;rw[q];exact h Y _ (I.tok _) U
variable{o:Option V}
theorem Xn(O:A.units+1<cLine)(I:Inv X pins σ H s)(g:sI H a y o)(J:RelV y u)(h:∀s',Inv X pins σ H s'->Q (.bool o.isSome) s') :
  wpAny (model X.prog X.w) A (YK .In u (.ref a)) Q E s:=by
 rcases g with⟨kvs,k,e,V,l⟩|⟨kvs,k,b,e,V,U,l⟩
 .subst V
  obtain⟨z,hd,vs,rel,Z⟩:=v7 I.hok e;refine wpAny_in_of (oE J) hd Z.mapOf ?_;rw[←(rel.val k).isSome_eq,←l];exact h _ (I.tok _)
 .subst V
  cases (show u=YD b from J);obtain⟨z,hd,xs,rel,Z⟩:=Cr I.hok e;refine wpAny_in_heap (abX O) (vz I.hok U) hd Z ?_;have q:=(rel.val k).isSome_eq;rw[adn]at q;rw[←q,←l];exact h _ (I.tok _)
theorem Qh(O:A.units+1<cLine)(I:Inv X pins σ H s)(g:sI H a y o)(J:RelV y u)(h:∀s',Inv X pins σ H s'->Q (.bool (!o.isSome)) s') :
  wpAny (model X.prog X.w) A (YK .NotIn u (.ref a)) Q E s:=by
 rcases g with⟨kvs,k,e,V,l⟩|⟨kvs,k,b,e,V,U,l⟩
 .subst V
  obtain⟨z,hd,vs,rel,Z⟩:=v7 I.hok e;refine wpAny_notIn_of (oE J) hd Z.mapOf ?_;rw[←(rel.val k).isSome_eq,←l];exact h _ (I.tok _)
 .subst V
  cases (show u=YD b from J);obtain⟨z,hd,xs,rel,Z⟩:=Cr I.hok e;refine wpAny_notIn_heap (abX O) (vz I.hok U) hd Z ?_;have q:=(rel.val k).isSome_eq;rw[adn]at q;rw[←q,←l];exact h _ (I.tok _)
theorem qj{ob:HO}(I:Inv X pins σ H s)(mu:Mut (H a))(hs:aaF a s.heap h')(V:∃q,h'.get? a=some q)(new:cI X.prog X.w (upd H a ob) h' a ob) :
  Inv X pins σ (upd H a ob) {s with heap:=h',toks:=t'}:=
 I.write (x:=a) (e:=a) mu (.inl rfl) (λb q U z=>(hs.2 b U).trans z) V new
variable{P:YG}
theorem yI{vs:List (Key×Value)}(z:kvs.length<=X3)(hd:(a==aaW)=false)(rel:KV kvs vs)(Z:h'.DictOf (bz P w) a vs) :
 cI P w H' h' a (.dK kvs):=⟨z,hd,vs,rel,Z⟩
variable{r:Value}
theorem Jq{Q:Unit->Mx->Prop}(O:A.units+1<cLine)(I:Inv X pins σ H s)(g:Mh H a y v H')(J:RelV y u)(rv:RelV v r)(h:∀s',Inv X pins σ H' s'->Q () s') :
  wpAny (model X.prog X.w) A (setItem (.ref a) u r) Q E s:=by
 rcases g with⟨kvs,k,e,ey,l,eH⟩|⟨kvs,k,b,e,ey,U,l,eH⟩
 .subst ey eH
  obtain⟨z,hd,vs,rel,Z⟩:=Ai I.hok e;have hz:vs.length<=X3:=by rw[←rel.length];exact z
  have Y:(putK kvs k v).length<=X3:=by have:=gP kvs k v;omega
  refine wpAny_setItem_pairs (hsz:=hz) (oE J) Z λh' a0 hs=>h _ ?_;have V:∃q,h'.get? a=some q:=let⟨q,_,_,N,_⟩:=a0;⟨q,N⟩;exact qj I (by rw[e];exact Zy) hs V (yI Y hd (rel.put k rv) a0)
 .subst ey eH
  cases (show u=YD b from J);obtain⟨z,hd,xs,rel,Z⟩:=Vz I.hok e;have hz:xs.length<=X3:=by rw[←ac_ rel];exact z
  have Y:(putK kvs k v).length<=X3:=by have:=gP kvs k v;omega
  refine wpAny_setItem_heap (hsz:=hz) (abX O) (vz I.hok U) Z λh' a0 hs=>h _ ?_;obtain⟨q,es,ep,N,h2,F,h4,_,h5⟩:=a0;refine qj I (by rw[e];exact Zy) hs ⟨q,N⟩ ⟨Y,hd,_,(rel.put k U rv).keeps λc ys ec=>?_,q,es,ep,N,h2,F,h4,h5⟩;rw[aM (Fo ec e (λz=>nomatch z))];exact ec
section
variable{X:Cx}{pins:List (Addr×Obj)}{σ:St}{H:Hp}{s:Shared}{a:Addr}{kvs:List (Key×V)}{k:Key}{u:Value}{A:Around}{E:Value->Shared->Prop}
theorem W5{Q:Value->Mx->Prop}(I:Inv X pins σ H s)(e:Rd H a (.dK kvs))(h:∀t s',Inv X pins σ H s'->Q (.int kvs.length t) s'):wpAny (model X.prog X.w) A (call (.builtin "len") [.ref a]) Q E s:=by
 obtain⟨z,hd,vs,rel,Z⟩:=v7 I.hok e;refine call_len_dict hd Z (by rw[←rel.length];rw[ach]at z;omega) ?_;rw[←rel.length];exact h _ _ (I.tok _)
end
theorem Bk{s:Mx}(I:Inv X pins σ H s)(g:sI H a y o):s.TypeIs (.ref a) "dict":=by
 rcases g with⟨kvs,k,e,_,_⟩|⟨kvs,k,b,e,_,_,_⟩
 .obtain⟨_,_,vs,_,dd⟩:=v7 I.hok e
  exact dd.typeIs
 .obtain⟨_,_,xs,_,dd⟩:=Cr I.hok e
  exact dd.typeIs
theorem vC(h:Heap)(U:aaW<h.objs.size):cI P w H (h.push {cls:=.type "dict",data:=.dict #[]}) h.objs.size (.dK []):=
 ⟨aai _,beq_eq_false_iff_ne.mpr (YC (X8 U)),[],.nil,ad1 h⟩
def TQ:TE:=λ_ H Q=>∀p,H p=none->Q (.ref p) (upd H p (.dK []))
theorem Ld:PE X (.Dict [] [] pos) TQ:=λpins s σ H Q I h=>
 wpAny_Dict_empty ⟨.ref s.heap.objs.size,_,I.laid (a:=s.heap.objs.size) (o:=.dK []) (t':=s.toks) (λ_ _ q=>qb _ q) (XQ _) (vC s.heap I.big),rfl,h _ (I.hok.fresh (XQ _))⟩
def yh:List (TE×TE)->St->Hp->(List (V×V)->Hp->Prop)->Prop
 |[],_,H,Q=>Q [] H
 |(tk,tv)::r,σ,H,Q=>tk σ H λx H1=>tv σ H1 λy H2=>yh r σ H2 λps J=>Q ((x,y)::ps) J
noncomputable abbrev VV:List (V×V)->List (Value×Value)->Prop:=adG λp q=>RelV p.1 q.1/\RelV p.2 q.2
def PPs(X:Cx)(pos:Pos)(N:List (Option Expr))(J:List Expr)(q:List (TE×TE)):Prop:=
 ∀(pins:List (Addr×Obj))(s:Mx)(σ:St)(H:Hp)(Q:List (V×V)->Hp->Prop),Inv X pins σ H s->yh q σ H Q->
  wpAny (model X.prog X.w) X.A (evalPairs (pairTrees N J X.env pos)) (λvs s'=>∃ps H',Inv X pins σ H' s'/\VV ps vs/\Q ps H') X.xe s
theorem Oz:PPs X pos [] [] []:=λpins s σ H Q I h=>pairTrees_nil_walk ⟨[],H,I,.nil,h⟩
theorem K9{k v:Expr}{ks:List (Option Expr)}{vs:List Expr}{tk tv:TE}{a0:List (TE×TE)}(J:PE X k tk)(hv:PE X v tv)(O:PPs X pos ks vs a0) :
  PPs X pos (some k::ks) (v::vs) ((tk,tv)::a0):=λpins s σ H Q I h=>
 pairTrees_cons_walk (thn (J pins s σ H _ I h) λu s1 ⟨x,H1,F,rx,q1⟩=>thn (hv pins s1 σ H1 _ F q1) λw2 Z ⟨y,H2,V,ry,q2⟩=>
  thn (O pins Z σ H2 _ V q2) λY N ⟨ps,H3,U,rel,q⟩=>⟨(x,y)::ps,H3,U,.cons ⟨rx,ry⟩ rel,q⟩)
def l_(kvs more:List (Key×V)):List (Key×V):=more.foldl (λacc O=>putK acc O.1 O.2) kvs
theorem KV.merge:∀{more:List (Key×V)}{rs:List (Key×Value)}{kvs:List (Key×V)}{vs:List (Key×Value)},KV more rs->KV kvs vs->KV (l_ kvs more) (merged vs rs):=by
 intro more rs kvs vs r;unfold KV at r
 induction r generalizing kvs vs with
 |nil=>intro q;exact q
 |@cons p q ps U h t Z=>
  intro J;have e:KV (putK kvs p.1 p.2) (stored vs q.1 q.2):=by
   have:=J.put p.1 h.2;rw[←h.1];exact this
  exact Z e
theorem n6:∀(more kvs:List (Key×V)),(l_ kvs more).length<=kvs.length+more.length
 |[],kvs=>by show kvs.length<=kvs.length+0;omega
 |p::r,kvs=>by
  have h1:=n6 r (putK kvs p.1 p.2);have h2:=gP kvs p.1 p.2;show(l_ (putK kvs p.1 p.2) r).length<=_;rw[Yj];omega
theorem v9{P:YG}{w:World}:∀{kvs:List (Key×V)}{Y:List (Value×Value)},VV (kvs.map λO=>(kV O.1,O.2)) Y->∃rs,Carries (bz P w) Y rs/\KV kvs rs
 |[],_,r=>by rw[Yy]at r;cases r;exact⟨[],Zy,.nil⟩
 |p::kvs,_,r=>by
  rw[XH]at r;cases r with
  |@cons a b F bs h t=>
   obtain⟨rs,c,q⟩:=v9 (P:=P) (w:=w) t;obtain⟨Z,N⟩:=b;exact⟨(p.1,N)::rs,⟨oE h.1,rfl,c⟩,.cons ⟨rfl,h.2⟩ q⟩
def RL(q:List (TE×TE)):TE:=λσ H Q=>∀p,H p=none->yh q σ (upd H p (.dK [])) λps H2=>H2 p=some (.dK [])/\∃kvs:List (Key×V),ps=kvs.map (λO=>(kV O.1,O.2))/\kvs.length<=15/\Q (.ref p) (upd H2 p (.dK (l_ [] kvs)))
theorem Qc{N:List (Option Expr)}{a1:List (TE×TE)}(h:PPs X pos N J a1)(O:N.all (·.isSome)=true)(Y:N.length=J.length)(U:N≠[])
  (a2:N.length<=15):PE X (.Dict N J pos) (RL a1):=by
 intro pins s σ H Q I q;have hn:=I.hok.fresh (XQ s.heap.objs.size);have F:=I.laid (a:=s.heap.objs.size) (o:=.dK []) (h':=s.heap.push {cls:=.type "dict",data:=.dict #[]}) (t':=s.toks) (λ_ _ q=>qb _ q) (XQ _) (vC s.heap I.big);refine wpAny_Dict_walk (knd:=bz X.prog X.w) O Y U a2 (thn (h pins _ σ _ _ F (q _ hn)) λws Z ⟨ps,H2,I2,rel,e,kvs,ep,lk,q2⟩=>?_);subst ep;obtain⟨rs,c,rk⟩:=v9 (P:=X.prog) (w:=X.w) rel;obtain⟨z,hd,a3,r0,dd⟩:=Ai I2.hok e;cases r0;refine⟨rs,c,dd,λh' a0 hs=>⟨.ref s.heap.objs.size,_,?_,rfl,q2⟩⟩;have hz:(l_ [] kvs).length<=X3:=by
  have h1:=n6 kvs [];rw[Yx]at h1;rw[ach];omega
 have V:∃q,h'.get? s.heap.objs.size=some q:=let⟨q,_,_,hq,_⟩:=a0;⟨q,hq⟩;exact qj I2 (by rw[e];exact Zy) hs V (yI hz hd (rk.merge .nil) a0)
end L2
namespace Att
open PySem PySem.W PySem.Calls PyProof.Rows
variable{P:Params}
theorem ur:∀(ns:List Int)(vs:List Value),WellAll P h vs (ns.map WData.int)->afj vs ns:=by
 intro ns
 induction ns with
 |nil=>
  intro vs w;rw[Yy]at w;cases w;exact .nil
 |cons n ns Z=>
  intro vs w;rw[XH]at w;cases w with
  |cons a b=>
   cases a;exact .cons _ _ (Z _ b)
variable{l:OpenLaw}
theorem Jk(hn:l.most=some n){args:List WData}{a0:List Value}
  (V:l.row.toRowW.claim.pre args=true) (a3:WellAll P h a0 args) :
  ∃a vs ns,a0=[YD a]/\args=[WData.list (ns.map WData.int)]/\h.get? a=some {cls:=.type "list",data:=.seq vs.toArray}/\afj vs ns/\ns.length<=n:=by
 have a2:WShape.hasAll [] args [.list .int]=true:=(pre_splitW V).1;have Z:l.pre.holds [] {args:=args}=true:=(pre_splitW V).2;obtain⟨d,r,rfl,h1,h2⟩:=hasAllW_cons a2;obtain rfl:=hasAllW_nil h2;obtain⟨xs,rfl,F⟩:=hasW_list h1;obtain⟨ns,rfl⟩:=items_int F;have U:ns.length<=n:=by
  unfold OpenLaw.pre at Z;have O:(WTm.not (.lt (.lit (.int (n:Int))) (.len (.arg 0)))).holds [] {args:=[.list (ns.map .int)]}=true:=by
   have O:=(holds_andW Z).1;rw[hn]at O;exact O
  have Y:=condW_of O (w_not (w_lt w_lit (w_len_list (w_arg rfl))));rw[X5]at Y;refine Nat.le_of_not_lt λq=>?_;have q':(n:Int)<((ns.length:Nat):Int):=by omega
  first
   |(rw[Zw q']at Y;exact absurd Y (by decide))
   |(simp at Y;omega)
 cases a3 with
 |cons J w2=>
  cases w2;cases J with
  |list N a1=>exact⟨_,_,ns,rfl,rfl,N,ur ns _ a1,U⟩
theorem Ie(l:OpenLaw)(args:List WData):l.row.toRowW.claim.post args (.bool true) args=true:=
 postW_of (r:=l.row.toRowW) (X:=(true==true))
  (show WShape.has [] (.bool true) .bool=true by first|rfl|decide|simp[WShape.has,WShape.arms,WShape.armsAll])
  (show(WTm.eq .res (.lit (.bool true))).value [] {args:=args,res:=some (.bool true),after:=args}=some (.bool (true==true))from w_eq_bool (w_res rfl) w_lit) rfl
theorem attach_call{q:YG}{a0:List Str}{d:DefRec}
  (hn:l.most=some n) (a8:d.params.defaults=[])
  (call:∀(w:World)(s₀ Z:Mx)(mg mb:Str->Option Value)(fa:Addr)(o:Obj)(pm cd a1:Value)(a:Addr)(vs:List Value)(ns:List Int),
   Ground q a0 [] XP w s₀ mg mb Z.heap->YP w Z.heap->
   Z.heap.get? fa=some o->o.data= .func (docDef d.name d.params d.body d.scope pm cd a1)->Z.heap.CodeRec cd d.name->mg d.name=some (.ref fa)->
   Z.heap.get? a=some {cls:=.type "list",data:=.seq vs.toArray}->afj vs ns->ns.length<=n->Z.gens= #[]->
   aag (model l.prog w) adF (.call (.ref fa) ⟨[.ref a],[]⟩) (λr s'=>r= .ok (.ret (.bool true))/\OldK Z.heap s'.heap/\s'.os=Z.os/\acD s'.gens) Z) :
  WalkO q a0 XP YP l.row.toRowW d [] (λf vs=>afK f vs):=by
 intro w s₀ Z mg mb G Y fa o pm cd a1 dV kV N hd a7 V a6 hg args b0 as a4 a9 b1 a5 b2;obtain rfl:dV= .none:=Dflts.none V a8;obtain rfl:kV= .none:=Dflts.noKw V;obtain⟨a,vs,ns,rfl,rfl,a3,a2,U⟩:=Jk hn a4 a5;refine enter_call (abx (call w s₀ Z mg mb fa o pm cd a1 a vs ns G Y N (fd_plain hd) a7 a6 a3 a2 U hg) λr s' hq=>?_);obtain⟨rfl,h2,F,O⟩:=hq;exact⟨.inl ⟨.bool true,.bool true,[],rfl,λ_=>rfl,.bool true,Ie l _,λ_=>⟨afq,λ_ J=>(nomatch J)⟩⟩,h2,F,O⟩
end Att
namespace L2
open PySem PySem.Spec PyProof.Rows
theorem xq:∀{vs:List Value}{ns:List Int},afj vs ns->Vals (ns.map V.int) vs
 |_,_,.nil=>.nil
 |_,_,.cons n t h=>.cons ⟨t,rfl⟩ (xq h)
def Only(H:Hp):Prop:=∀b,H b=none∨∃o xs,H b=some (.frz o (.lst xs))
theorem Mm{K:XS}{mb:Str->Option Value}{CX:CXT}{k:Nat}{fa:Addr}{sp:Sp}{Z:Mx}{vs:List Value}{ns:List Int}
  (KX:K.In Z.heap) (a6:Z.heap.Ns Ye mg) (U:Z.heap.Ns builtinsNs mb) (b0:∀x:Str,x≠"__name__"->mb x=Z6 x) (a5:Z.heap.NoLimit) (hg:Z.gens= #[])
  (Y:Z.heap.get? a=some {cls:=.type "list",data:=.seq vs.toArray}) (hi:afj vs ns) (hl:ns.length<=X3) (O:iZ k adF)
  (F:∀base:Heap,K.In base->base.Ns Ye mg->gn P w K mg base CX k fa fd [x] sp) (a3:∀(s:Mx)(u:Value),aeh s fd ⟨[u],[]⟩ [(x,u)])
  (b1:∀H:Hp,Only H->SqL K H a (ns.map V.int)->sp [.ref a] H (λv _=>v= .bl true) λ_ _ _=>False)
  (b2:∀H e s',CX [] H Z (λ_ _ _=>False) e s'->False) :
  aag (model P w) adF (.call (.ref fa) ⟨[.ref a],[]⟩) (λr s'=>r= .ok (.ret (.bool true))/\OldK Z.heap s'.heap/\s'.os=Z.os/\acD s'.gens) Z:=by
 have rv:=xq hi;have a4:=hi.length;have a2:∀H:Hp,Only H->SqL K H a (ns.map V.int)->HOk P w H Z.heap->(∀b,H b≠none->b=a)->(H a≠none->K.lookup a=none)->
   aag (model P w) adF (.call (.ref fa) ⟨[.ref a],[]⟩) (λr s'=>r= .ok (.ret (.bool true))/\OldK Z.heap s'.heap/\s'.os=Z.os/\acD s'.gens) Z:=by
  intro H hO hS hok hA hK;have a0:∀{b:Addr}{o:Obj},Z.heap.get? b=some o->H b=none->(z_ Z.heap H).get? b=some o:=λe n=>Np e n;have a9:∀{b:Addr}{o:Obj}{es:Array DictEntry}{ep:Nat},Z.heap.get? b=some o->o.data= .dict es ep->H b=none:=λ{b o es ep} e d=>by
   cases q:H b with
   |none=>rfl
   |some u=>
    have e':b=a:=hA b (by rw[q];simp);subst e';rw[Y]at e;cases e;have d':Data.seq vs.toArray _=Data.dict es ep:=d;cases d'
  have a1:∀{b:Addr}{m:Str->Option Value},Z.heap.Ns b m->(z_ Z.heap H).Ns b m:=λ{b m}⟨o,es,ep,e,d,r⟩=>⟨o,es,ep,a0 e (a9 e d),d,r⟩;have a7:K.In (z_ Z.heap H):=λb o e=>a0 (KX b o e) (by
   cases q:H b with
   |none=>rfl
   |some u=>
    have e':b=a:=hA b (by rw[q];simp);subst e';rw[hK (by rw[q];simp)]at e;cases e)
  have hM:Mod K mg (z_ Z.heap H):=⟨a7,a1 a6,⟨mb,a1 U,b0⟩,let⟨mc,h1,h2⟩:=a5;⟨mc,a1 h1,h2⟩⟩;have e0:Pa P w K mg (z_ Z.heap H) adF [] Z H:=⟨rfl,hM,λb o e=>QM e,Nat.le_of_eq (IW _ _),trivial,λb U=>absurd (show b∈([]:List Addr)from U) (by simp),hok,.of_eq hg⟩;refine abx ((F _ a7 (a1 a6)).run adF [] Z H ⟨[.ref a],[]⟩ [.ref a] [.ref a] _ _ O e0 (a3 Z (.ref a)) (.cons rfl .nil) (b1 H hO hS)) λr s' h=>?_;cases r with
  |error e=>exact(b2 H e s' h).elim
  |ok fl=>
   cases fl with
   |next=>exact aaX h
   |brk=>exact aaX h
   |cont=>exact aaX h
   |ret u=>
    obtain⟨v,H',os,bare,un,a8,N,q⟩:=h;have q':v= .bl true:=q;subst q';obtain rfl:u=adz true:=N;refine⟨rfl,OldK.of_keep λb o e=>?_,os,bare⟩;cases q:H b with
    |none=>exact un.keep b o e q (by intro z;exact absurd (show b∈([]:List Addr)from z) (by simp)) (by simp)
    |some u=>
     rcases hO b with z|⟨ob,xs,z⟩
     .rw[q]at z;cases z
     .have z2:=un.frzs b ob _ z
      obtain⟨e1,_⟩:=hok b _ z;obtain⟨e2,_⟩:=a8 b _ z2;rw[e]at e1;cases e1;exact e2
 cases J:K.lookup a with
 |some o=>
  have e:=KX a o J;rw[Y]at e;cases e;refine a2 (λ_=>none) (λ_=>.inl rfl) (.inr ⟨_,vs.toArray,_,J,rfl,rfl,rfl,by rw[List.size_toArray,a4];exact hl,by simpa using rv⟩) (λb u z=>by have z':(none:Option HO)=some u:=z;cases z') (λb z=>absurd rfl z) λz=>absurd rfl z
 |none=>
  refine a2 (λb=>if b=a then some (.frz {cls:=.type "list",data:=.seq vs.toArray} (.lst (ns.map V.int)))else none) (λb=>?_) (.inl (.inr ⟨{cls:=.type "list",data:=.seq vs.toArray},X7 rfl⟩)) (λb u z=>?_) (λb z=>?_) λ_=>J
  .by_cases U:b=a
   .exact .inr ⟨_,_,X7 U⟩
   .exact .inl (Yc U)
  .by_cases U:b=a
   .have z':=(X7 U).symm.trans z
    cases z';subst U;exact⟨Y,by rw[X5];exact hl,vs,_,rv,Y⟩
   .have z':=(Yc U).symm.trans z
    cases z'
  .by_cases U:b=a
   .exact U
   .exact absurd (Yc U) z
theorem walk_of{l:ad2}{k:Nat}{q:YG}{J:List Str}{d:DefRec}{K:Params->XS}{CX:World->CXT}{sp:World->Sp}
  (hn:l.most=some n) (a3:n<=X3) (a7:d.params.defaults=[]) (O:iZ k adF)
  (hY:∀(w:World)(h:Heap),YP w h->(K w.params).In h)
  (F:∀(w:World)(mg:Str->Option Value)(fa:Addr)(h:Heap),(K w.params).In h->h.Ns Ye mg->mg d.name=some (.ref fa)->
   ∃fd:Y9,(∀(s:Mx)(u:Value),aeh s fd ⟨[u],[]⟩ [(x,u)])/\
    ∀base:Heap,(K w.params).In base->base.Ns Ye mg->gn l.prog w (K w.params) mg base (CX w) k fa fd [x] (sp w))
  (a4:∀(w:World)(H:Hp)(a:Addr)(ns:List Int),ns.length<=n->Only H->SqL (K w.params) H a (ns.map V.int)->sp w [.ref a] H (λv _=>v= .bl true) λ_ _ _=>False)
  (a6:∀(w:World)(H:Hp)(s:Mx)(e:Value)(s':Mx),CX w [] H s (λ_ _ _=>False) e s'->False) :
  af2 q J XP YP l.row.toRowW d [] (λf vs=>afK f vs):=by
 refine Att.attach_call hn a7 λw s₀ Z mg mb fa o pm cd a8 a vs ns G Y N hd a9 a5 a2 a1 a0 hg=>?_;have KX:=hY w _ Y;obtain⟨fd,U,hF⟩:=F w mg fa _ KX G.T.g a5;exact Mm KX G.T.g G.T.b G.T.builtins G.T.nolimit hg a2 a1 (Zq a0 a3) O hF U (λH hO hS=>a4 w H a ns a0 hO hS) λH e s'=>a6 w H Z e s'
def cD(s:Stmt):Arguments:=match s with
 |.FunctionDef _ a _ _ _ _ _ _ _ _=>a
 |_=>{posonlyargs:=[],args:=[],vararg:=none,kwonlyargs:=[],kw_defaults:=[],kwarg:=none,defaults:=[]}
def bL(s:Stmt):List Stmt:=match s with
 |.FunctionDef _ _ b _ _ _ _ _ _ _=>b
 |_=>[]
def aG(s:Stmt):Scope:=match s with
 |.FunctionDef _ _ _ _ _ _ F _ _ _=>F
 |_=>{kind:=.function,names:=[],isGenerator:=false,isCoroutine:=false}
abbrev CX0:CXT:=λ_ _ _ _ _ _=>False
abbrev E0:XK:=λ_ _ _=>False
variable{X:Cx}
theorem Wc:Eh CX0 X E0:=λ_ _ _ _ _ _ _ h=>h.elim
structure Fun(K:PySem.W.Frag)(x qual:Str)(st:Stmt)(f:Addr)(fd:FuncData):Prop where
 ex:∃(oc:Value)(od:Option Addr)(kV doc pm:Value)(an:Option Addr)(cdv ct:Value)(osl:Array (Option Value)),
  fd=abV x qual (cD st) (bL st) (aG st) .none kV doc pm an cdv ct/\K.lookup f=some ⟨oc,od,.func fd,osl⟩/\aei K cdv qual=true
 kp:acV K (.ref f)=true
section
variable{P:Program}{w:World}{K:PySem.W.Frag}{mg:Str->Option Value}{base:Heap}
theorem Fun.ok{x Z:Str}{st:Stmt}{f:Addr}{fd:Y9}{N ps:List Str}{k:Nat}{sp:Sp}(F:Fun K x Z st f fd)(S:cB N ps (aG st))(len:∀vs H Q E,sp vs H Q E->vs.length=ps.length)
  (a0:∀(J:Value)(A:Zc)(outer:List Env)(s:Mx)(H:Hp)(vs:List V)(Q:VK)(E:XK),iZ k (A.deeper (aci Z (aG st) s.heap.objs.size f J))->sp vs H Q E->
   ∃t,PSs (Bv CX0 P w K mg base N Z (aG st) f J A outer s H E).nox (bL st) t/\t {nx:=λ_ H'=>Q .non H',rt:=Q} (start N vs) H):gn P w K mg base CX0 (k+1) f fd ps sp:=by
 obtain⟨oc,od,kV,Y,pm,an,J,ct,a2,rfl,lk,U⟩:=F.ex;refine Vw lk U S len λA outer s H vs Q E O a1=>?_;obtain⟨t,h,q⟩:=a0 J A outer s H vs Q E O a1;exact⟨t,h.nox,q⟩
theorem Fun.binds{x Z:Str}{st:Stmt}{f:Addr}{fd:Y9}{ps:List Str}(F:Fun K x Z st f fd)
  (h:∀(kV Y V:Value)(an:Option Addr)(J ct:Value)(us:List Value),us.length=ps.length->bindArgs (abV x Z (cD st) (bL st) (aG st) .none kV Y V an J ct) ⟨us,[]⟩=pure (ps.zip us)):Binds K fd ps []:=by
 obtain⟨q,O,kV,Y,V,an,J,ct,N,rfl,lk,U⟩:=F.ex;exact .all (h kV Y V an J ct)
theorem fO{x Z:Str}{st:Stmt}{f:Addr}{q:Value}{O F:Option Addr}{N:Array (Option Value)}{kV Y V J ct:Value}(l:K.lookup f=some ⟨q,O,.func (abV x Z (cD st) (bL st) (aG st) .none kV Y V F J ct),N⟩)
 (c:aei K J Z=true) (k:acV K (.ref f)=true):Fun K x Z st f (abV x Z (cD st) (bL st) (aG st) .none kV Y V F J ct):=⟨⟨q,O,kV,Y,V,F,J,ct,N,rfl,l,c⟩,k⟩
end
theorem pv(i:Nat)(O:X.N[i]? =some x:=by rfl)(Z:Vis X.env.scope x:=by first|exact aaS rfl|exact aaj (aaS rfl)|exact aaj (aaj rfl))(hd:(x==("__debug__":Str))=false:=by decide)
 (U:(x==("__classdict__":Str))=false:=by decide):PE X (.Name x pos) (Ov i):=T5 O Z hd U
theorem vQ{A B:Prop}(h:B):if false=true then A else B:=by
 rw[Yc YS];exact h
theorem pB{A B:Prop}(h:A):if true=true then A else B:=by
 rw[X7 rfl];exact h
def Same(H H':Hp):Prop:=∀b o,H b=some o->H' b=some o
theorem Same.refl(H:Hp):Same H H:=λ_ _ h=>h
theorem Same.trans{H H1 H2:Hp}(a:Same H H1)(b:Same H1 H2):Same H H2:=λc o h=>b c o (a c o h)
theorem Same.free{H H':Hp}(e:Same H H')(h:H' l=Option.none):H l=Option.none:=by
 cases q:H l with
 |none=>rfl
 |some o=>
  rw[e l o q]at h;cases h
theorem Ir:dq X (.builtin "len") (λxs H Q=>∃a kvs,xs=[V.ref a]/\H a=some (.dK kvs)/\Q (.int kvs.length) H):=by
 intro pins s σ H xs us Q I r h;obtain⟨a,kvs,rfl,Y,q⟩:=h;obtain⟨u,rfl,N⟩:=vals1 r;cases N;exact W5 I (.inl Y) λt s' F=>⟨.int kvs.length,H,F,⟨t,rfl⟩,q⟩
end L2
set_option maxHeartbeats 4000000
namespace Jb
open PySem PySem.Spec PyProof.Rows L2
structure Cal(P:Program)(w:World)(K:PySem.W.Frag)(mg:Str->Option Value)(base:Heap)(k:Nat)(x:Str)(ps:List Str)(sp:Sp):Prop where
 ex:∃f fd,gn P w K mg base CX0 k f fd ps sp/\mg x=some (.ref f)/\acV K (.ref f)=true/\Binds K fd ps []
variable{X:Cx}{t:TA}{p:Pos}{k:Nat}
theorem Lk{sp:Sp}(C:Cal X.prog X.w X.K X.mg X.base k x ps sp)(O:iZ k X.A)(q:Gl X x)(Y:PA X (e::es) t)
  (Z:(x==("__debug__":Str))=false:=by decide) (V:X_ (e::es) X.env=(false,eval e X.env)::X_ es X.env:=by rfl) (N:(aah pos (X_ es X.env)).any (·.1)=false:=by rfl) :
  PE X (.Call (.Name x p) (e::es) [] pos) (RM sp [] E0 t):=by
 obtain⟨f,fd,F,hm,J,U⟩:=C.ex;exact Qm F O q hm J U .nil Wc Y Z V N
theorem We{n:String}(q:Gl X x)(J:X.mg x=none)(Z:Z6 x=some (.type n))(hn:x≠"__name__":=by decide)(hd:(x==("__debug__":Str))=false:=by decide):PE X (.Name x pos) (tC (.ty n)):=
 QT q J Z rfl hn hd
def Vt(_ j:Int):Prop:=0<j/\j<18446744073709551616
theorem KJ:OpR X (ZR .FloorDiv) (rI Vt λi j=>.int (i / j)):=opI λi j _ _ _ _ _ Z q=>by
 have h1:(0:Int)<j:=Z.1;have h2:j<18446744073709551616:=Z.2;have F:j.natAbs<2 ^ 64:=by omega
 have O:j.natAbs≠0:=by omega
 have Y:j.natAbs.log2<64:=(Nat.log2_lt O).mpr F;exact floordiv_int (by omega) (by rw[Int.fdiv_eq_ediv_of_nonneg i (by omega)];exact q) (.inl (PyProof.noPylong_of_log2 (by omega)))
variable{b:Expr}
theorem Ci:dq X (.builtin "isinstance") (λxs H Q=>∃x n t b,xs=[x,.ty n]/\lU X.K H x t/\acU X.K t (.type n)=some b/\Q (.bl b) H):=by
 intro pins s σ H xs us Q I r h;obtain⟨x,n,t,b,rfl,O,e,q⟩:=h;obtain⟨u,Y,rfl,U,F⟩:=vals2 r;cases F;exact Ho I U O e λtk=>⟨.bl b,H,I.tok tk,rfl,q⟩
variable{H:Hp}
theorem Same.new{q:Addr}{o:HO}(h:H q=none):Same H (L2.upd H q o):=λb u e=>by rw[aM (aY e h)];exact e
theorem Du{l:List α}{f:α->β->Sem (ForInStep β)}(g:β->α->β):∀(q:β),(∀x∈l,∀c,f x c=pure (.yield (g c x)))->forIn l q f=pure (l.foldl g q):=by
 induction l with
 |nil=>intro q _;rfl
 |cons x r Z=>
  intro q h;rw[ad3,h x Yw q];show(pure (aaM (g q x)) >>=_)=_;rw[pure_bind];exact Z (g q x) λy V c=>h y (Yi _ V) c
def nY(env:Env)(N:List (Str×Addr))(y:Str×acx):List (Str×Addr):=if y.2== .free then(y.1,(env.cells.lookup y.1).getD 0)::N else N
def oM(scope:Scope)(env:Env):List (Str×Addr):=scope.names.foldl (nY env) []
theorem jW(h:∀y∈scope.names,y.2= .free->∃c,env.cells.lookup y.1=some c):closureFor scope env=pure (oM scope env):=by
 unfold closureFor;dsimp only;rw[Du (nY env) [] λy V c=>?_]
 .rw[pure_bind]
  rfl
 .obtain⟨n,k⟩:=y
  unfold nY;dsimp only;by_cases J:(k==aeN)=true
  .rw[X7 J,X7 J]
   obtain⟨a,Y⟩:=h (n,k) V (by simpa using J);have Y:env.cells.lookup n=some a:=Y;unfold cellOf;rw[Y];rfl
  .rw[Yc J,Yc J]
theorem xV(R:Str->Addr->Prop):∀(l:List (Str×acx))(acc:List (Str×Addr)),(∀x c,acc.lookup x=some c->R x c)->(∀y∈l,y.2= .free->R y.1 ((env.cells.lookup y.1).getD 0))->
  ∀x c,(l.foldl (nY env) acc).lookup x=some c->R x c
 |[],acc,h,_=>h
 |y::r,acc,h,hy=>by
  refine xV R r (nY env acc y) (λx c e=>?_) λz hz=>hy z (Yi _ hz);unfold nY at e;split at e
  .rename_i hk
   rw[adL]at e;cases J:(x==y.1)with
   |true=>
    rw[J]at e;have ex:x=y.1:=by simpa using J
    cases e;rw[ex];exact hy y Yw (by simpa using hk)
   |false=>
    rw[J]at e;exact h x c e
  .exact h x c e
theorem sZ{env:Env}:∀(l:List (Str×acx))(acc:List (Str×Addr))(x:Str),((∃c,acc.lookup x=some c)∨(x,aeN)∈l)->∃c,(l.foldl (nY env) acc).lookup x=some c
 |[],acc,x,h=>by
  rcases h with h|h
  .exact h
  .cases h
 |y::r,acc,x,h=>by
  refine sZ r (nY env acc y) x ?_;rcases h with⟨c,h⟩|h
  .left
   unfold nY;split
   .rw[adL]
    cases J:(x==y.1)with
    |true=>exact⟨_,rfl⟩
    |false=>exact⟨c,h⟩
   .exact⟨c,h⟩
  .rcases XJ.mp h with e|e
   .left
    unfold nY;subst e;rw[X7 (by rfl),adL,show(x==x)=true by simp];exact⟨_,rfl⟩
   .exact .inr e
def bw(X:Cx)(N':List Str)(scope:Scope)(C:Addr)(Y:Mx)(q:Hp)(fp:List Addr):Cx:=
 {X with N:=N',s₀:=Y,H₀:=q,env:=compEnvC scope (oM scope X.env) C X.env,outer:=X.stack,stack:=X.stack,ex:=fp,fn:=λ_=>false,pn:=[],xe:=λ_ _=>False}
def fX(cap:List (Option Nat))(σ:L2.St):L2.St:=cap.map λo=>o.bind λj=>(σ[j]?).bind id
structure bH(sc:Scope)(N N':List Str)(scope:Scope)(cap:List (Option Nat)):Prop where
 kind:scope.kind= .function
 nocell:∀y∈scope.names,y.2≠.cell
 nm:∀y∈scope.names,y.2= .local->scope.names.lookup y.1=some .local
 free:∀y∈scope.names,y.2= .free->sc.names.lookup y.1=some .cell∨sc.names.lookup y.1=some .free
 len:cap.length=N'.length
 cap:∀i∈Yp cap.length,∀j∈Yp N.length,cap[i]? =some (some j)->N[j]? =N'[i]?/\∀x∈N'[i]?,scope.names.lookup x=some .free
theorem mX{l:List (Str×α)}{k:α}(h:l.lookup x=some k):(x,k)∈l:=aay h
theorem qL{k:acx}(J:(relabel scope env).names.lookup x=some k)(F:k= .cell∨k= .free)(N:∀y∈scope.names,y.2≠.cell):(x,aeN)∈scope.names:=by
 have h:=mX J;obtain⟨⟨n,q⟩,O,e⟩:=XM.mp h;dsimp only at e;split at e
 .rename_i hc
  cases e;have:q= .free:=by
   have:=(aeA.mp (aeA.mp hc).1).1;simpa using this
  subst this;exact O
 .cases e
  rcases F with z|z
  .subst z;exact absurd rfl (N _ O)
  .subst z;exact O
variable{σ:L2.St}{cap:List (Option Nat)}
theorem iK(I:Inv X pins σ H s)(O:bH X.env.scope X.N N' scope cap){c:Addr}(h:(oM scope X.env).lookup x=some c):X.env.cells.lookup x=some c:=by
 refine xV (λx c=>X.env.cells.lookup x=some c) scope.names [] (λx c e=>by simp at e) (λy V J=>?_) x c h;obtain⟨c,e⟩:=I.ok.has y.1 (O.free y V J);rw[e];rfl
variable{C:Addr}
theorem Q6(I:Inv X pins σ H s)(O:bH X.env.scope X.N N' scope cap)(F:∀b∈fp,jA X pins H b)(J:∀b∈fp,b<s.heap.objs.size)(Y:s.heap.objs.size<=C):(bw X N' scope C s H fp).Ok where
 mod:=I.ok.mod
 kind:=O.kind
 glob:=I.ok.glob
 blt:=I.ok.blt
 above:=Y
 inj:=λx y c h1 h2=>I.ok.inj x y c (iK I O h1) (iK I O h2)
 has:=λx h=>by
  refine sZ scope.names [] x (.inr ?_);rcases h with h|h
  .exact qL h (.inl rfl) O.nocell
  .exact qL h (.inr rfl) O.nocell
 cab:=λx c h _=>by cases h
 hd:=I.ok.hd
 frames:=I.ok.frames
 stk:=.inl rfl
 exf:=λb U=>⟨X8 (Yk (J b U) Y),λx c e=>(F b U).2.2.2.2.1 x c (iK I O e)⟩
 bs:=I.bs
 bsz:=Zq I.ok.bsz I.sz
 noex:=λb o e U=>by
  rcases(F b U).2.2.2.1 with z|z
  .exact I.ok.noex b o e z
  .exact absurd (Yk (XR (I.ok.bs b o e).1) z) (Zn _)
 exfs:=λb U z=>by
  rcases XJ.mp (I.stkSub b z)with q|q
  .exact(F b U).2.1 q
  .exact(F b U).2.2.1 q
 funs:=I.stack
 frf:=I.stkFree
theorem Cw{a0:Heap}{D:Addr}(I:Inv X pins σ H s)(O:bH X.env.scope X.N N' scope cap)(hf:∀b∈fp,jA X pins H b)(b1:∀b∈fp,b<s.heap.objs.size)
  (hC:s.heap.objs.size<=C) (hD:s.heap.objs.size<=D) (b0:D≠C) (a1:∀b u,s.heap.get? b=some u->a0.get? b=some u) {m:Str->Option Value} (a9:a0.Ns C m) (b4:a0.get? D=some o) (b3:∀v,o.data≠.cell v) :
  Inv (bw X N' scope C s H fp) [(D,o)] (fX cap σ) H {s with heap:=a0,toks:=tk}where
 ok:=Q6 I O hf b1 hC
 os:=rfl
 bare:=I.bare
 base:=Un.kept a1
 loc:=by
  refine⟨m,a9,λi x v e1 e2 e3=>?_⟩;have e1:N'[i]? =some x:=e1;unfold fX at e2;rw[List.getElem?_map]at e2;cases Z:cap[i]? with
  |none=>rw[Z]at e2;cases e2
  |some q=>
   rw[Z]at e2;cases q with
   |none=>cases e2
   |some j=>
    have e2:(σ[j]?).bind id=some v:=Y4 e2;have a5:σ[j]? =some (some v):=by
     cases z:σ[j]? with
     |none=>rw[z]at e2;cases e2
     |some y=>
      rw[z]at e2;have:y=some v:=e2;rw[this]
    have hi:i<cap.length:=(XF.mp Z).1;have V:j<X.N.length:=by
     have:=(XF.mp a5).1;rw[I.len]at this;exact this
    obtain⟨c1,c2⟩:=O.cap i (ZJ.mpr hi) j (ZJ.mpr V) Z;have a7:scope.names.lookup x=some .free:=c2 x (by rw[e1];rfl);have hN:X.N[j]? =some x:=c1.trans e1;have a3:=mX a7;have a4:Vis X.env.scope x:=(O.free _ a3 rfl).elim (λz=>.inr (.inl z)) λz=>.inr (.inr z);obtain⟨m0,_,Y⟩:=I.loc;obtain⟨u,r,lk⟩:=Y j x v hN a5 a4;refine⟨u,r,?_⟩;rcases lk with⟨k,_⟩|⟨_,c,ec,a2⟩
    .have k:X.env.scope.names.lookup x=some .local:=k
     rcases O.free _ a3 rfl with z|z
     .rw[k]at z;cases z
     .rw[k]at z;cases z
    .right
     obtain⟨c',a8⟩:=sZ (env:=X.env) scope.names [] x (.inr a3);have a6:=iK I O a8;rw[ec]at a6;cases a6;refine⟨?_,c,a8,?_⟩
     .have e3:Vis (relabel scope X.env) x:=e3
      rcases e3 with e3|e3|e3
      .exfalso
       have J:=mX e3;obtain⟨⟨n,q⟩,b2,e⟩:=XM.mp J;dsimp only at e;split at e
       .cases e
       .cases e
        have:=O.nm _ b2 rfl;rw[a7]at this;cases this
      .exact .inl e3
      .exact .inr e3
     .obtain⟨oc,h1,h2⟩:=a2
      exact⟨oc,a1 _ _ h1,h2⟩
 cell:=λx c e=>by
  obtain⟨v,oc,h1,h2⟩:=I.cell x c (iK I O e);exact⟨v,oc,a1 _ _ h1,h2⟩
 free:=I.hok.fresh hC
 freeC:=λx c e=>I.freeC x c (iK I O e)
 pin:=λp F=>by
  have e:p=(D,o):=by simpa[bw]using F
  subst e;refine⟨b4,I.hok.fresh hD,b0,λz=>?_,b3⟩;obtain⟨b,U,e⟩:=ac4.mp z;have hz:D∈X.env.locals::X.fs:=I.stkSub D z;rcases XJ.mp hz with q|q
  .exact absurd (Yk (by rw[q];exact I.lt) hD) (Zn _)
  .exact I.nofs hD q
 hok:=I.hok.kept a1
 len:=by
  unfold fX;rw[X5];exact O.len
abbrev NoX:Value->Mx->Prop:=λ_ _=>False
theorem zL{iter:Expr}{it acc:Value}(I:Nat->Mx->Prop)
  (J:∀n s,I n s->wpAny (model prog w) A (aax it) (λr Z=>match r with
   |none=>R (.ok .next) Z
   |some v=>wpAny (model prog w) A (abP target it v) (λ_ V=>wpAny (model prog w) A (abU target env v) (λ_ Y=>
    wpAny (model prog w) A (forIn ifs true λc r=>if r=true then do let ok ←aed c env (eval c env);pure (aaM ok)else pure (aaM r)) (λok F=>
     if ok=true then wpAny (model prog w) A (eval elt env) (λx U=>wpAny (model prog w) A (call (.builtin "list.append") [acc,x]) (λ_ a0=>∃m,m<n/\I m a0) NoX U) NoX F
     else ∃m,m<n/\I m F) NoX Y) NoX V) NoX Z) NoX s)
  (n:Nat) (h:I n s):aag (model prog w) A (.compLoop (.ListComp elt [⟨target,iter,ifs,0⟩] scope pos) 0 it acc env) R s:=by
 refine codeAny_loop rfl I (λn s N=>?_) n h;show wpAny _ A ((compTurn (.ListComp elt [⟨target,iter,ifs,0⟩] scope pos) 0 it acc env).onRaise (λx=>do noteFrame x env;theTreesLotGoes x)) _ _ s;refine wpAny_noted ?_;rw[compTurn_list];refine gD (aaP (gD (Zr (J n s N) (λr Z q=>?_) λ_ _ h'=>h'.elim)));cases r with
 |none=>exact yr q
 |some v=>
  refine gD (Zr q (λ_ V a1=>?_) λ_ _ h'=>h'.elim);refine gD (Zr a1 (λ_ Y a3=>gD (Zr a3 (λok F O=>?_) λ_ _ h'=>h'.elim)) λ_ _ h'=>h'.elim);cases ok with
  |false=>exact yr ⟨rfl,O⟩
  |true=>
   exact gD (gD (Zr O (λx U a4=>gD (Zr a4 (λ_ a0 a2=>yr (yr ⟨rfl,a2⟩)) λ_ _ h'=>h'.elim)) λ_ _ h'=>h'.elim))
def PTs(X:Cx)(ifs:List Expr)(t:TT):Prop:=
 ∀(pins:List (Addr×Obj))(s:Mx)(σ:L2.St)(H:Hp)(Q:Bool->Hp->Prop),Inv X pins σ H s->t σ H Q->
  wpAny (model X.prog X.w) X.A (forIn ifs true λc r=>if r=true then do let ok ←aed c X.env (eval c X.env);pure (aaM ok)else pure (aaM r)) (TP X pins σ Q) X.xe s
def V7:TT:=λ_ H Q=>Q true H
theorem Qo:PTs X [] V7:=λ_ _ _ H _ I h=>wpAny_tests_nil ⟨H,I,h⟩
theorem QB{t:TT}(h:PT X c t):PTs X [c] t:=λpins s σ H Q I q=>wpAny_tests_one (h pins s σ H Q I q)
def Kp(σ q:L2.St):Prop:=∀(i:Nat) v,σ[i]? =some (some v)->q[i]? =some (some v)
def RX(J:It)(H:Hp)(g:TG)(tt:TT)(te:TE)(σ:L2.St)(Q:List V->Hp->Prop):Prop:=
 ∃W:Nat->Nat->List V->Hp->Prop,(∃m,W 0 m [] H)/\∀i m ys H,W i m ys H->
  (J.stop i H/\Q ys H)∨(J.go i H/\ys.length<X3/\∃N:List V->Hp->Prop,(∀q H',N q H'->∃O,O<m/\W (i+1) O q H')/\
   ∀x H',J.yld i H x H'->g x σ H' λσ2 H2=>Kp σ σ2/\tt σ2 H2 λb U=>if b=true then te σ2 U λv F=>N (ys++[v]) F else N ys U)
def Fq(cap:List (Option Nat))(wi:TI)(g:TG)(tt:TT)(te:TE):TE:=λσ H Q=>wi σ H λJ H1=>
 RX J H1 g tt te (fX cap σ) λys H2=>ys.length<=X3/\∀D,H2 D=none->Q (.ref D) (upd H2 D (.lst ys))
section
variable{X:Cx}{elt target iter:Expr}{ifs:List Expr}{scope:Scope}{pos:Pos}{N':List Str}{cap:List (Option Nat)}{wi:TI}{g:TG}{tt:TT}{te:TE}
def lobj(its:List Value)(n:Nat):Obj:={cls:=.type "list",data:=.seq its.toArray n}
theorem u_{pins:List (Addr×Obj)}{σ:L2.St}{H:Hp}{Y:Mx}{it:Addr}{fp:List Addr}{tn:Nat->Heap->Prop}{J:It}{Q:List V->Hp->Prop}{RR:Value->Addr->aeg->Mx->Prop}{E:Value->Mx->Prop}
  (Z:X.calm=true) (O:bH X.env.scope X.N N' scope cap) (I:Inv X pins σ H Y) (T:Turn X.prog X.w X.K target J fp it tn) (st:tn 0 Y.heap) (f2:∀b∈fp,jA X pins H b)
  (hg:∀C,PG (bw X N' scope C Y H fp) target g) (ht:∀C,PTs (bw X N' scope C Y H fp) ifs tt) (he:∀C,PE (bw X N' scope C Y H fp) elt te) (cw:RX J H g tt te (fX cap σ) Q)
  (c4:∀(D C:Addr)(s':Mx)(H':Hp)(ys:List V)(its:List Value)(n:Nat)(a9:L2.St),Y.heap.objs.size<=D->Y.heap.objs.size<=C->D≠C->Inv (bw X N' scope C Y H fp) [(D,lobj its n)] a9 H' s'->Vals ys its->Q ys H'->
   RR (.ref D) C (.ok .next) s') :
  wpAny (model X.prog X.w) X.A (acY []) (λacc c3=>wpAny (model X.prog X.w) X.A (newFunctionEnv scope X.env.globals (oM scope X.env) [] X.env.qual none .none (some X.env)) (λb2 b8=>
   aag (model X.prog X.w) X.A (.compStart (.ListComp elt [⟨target,iter,ifs,0⟩] scope pos) 0 (.ref it) acc {b2 with scope:=relabel scope X.env}) (RR acc b2.locals) b8) E c3) E Y:=by
 refine YQ (aeB O.nocell (by intro y hy;simp at hy) (λa2 a1 a0=>?_) O.kind);dsimp only at a1 a0⊢;generalize b3:Y.heap.push {cls:=.type "list",dict:=none,data:=.seq ([]:List Value).toArray}=H2 at a1 a0⊢;have hC:H2.objs.size=Y.heap.objs.size+1:=by rw[←b3,Ze]
 have a6:Y.heap.objs.size≠H2.objs.size:=by rw[hC];exact X8 (aaB _)
 have a4:Y.heap.objs.size<=H2.objs.size:=by rw[hC];exact ac1 _
 have b7:∀b o,Y.heap.get? b=some o->a2.get? b=some o:=λb o e=>a0.extBut b o (by rw[hC];exact X8 (Z2 (XR e))) (qb _ (b3▸qb _ e));have c1:a2.get? Y.heap.objs.size=some (lobj [] 0):=a0.extBut _ _ a6 (qb _ (b3▸X4 _ rfl));have b0:∀b∈fp,b<Y.heap.objs.size:=λb U=>by
  obtain⟨o,e,_⟩:=T.obj 0 _ st b U;exact XR e
 have I1:=Cw (tk:=Y.toks+([]:List (Str×Value)).length) I O f2 b0 a4 (XQ _) a6 b7 a1 c1 (λv z=>by cases z);have b9:tn 0 a2:=T.keep _ _ _ st λb _ o e=>b7 b o e;obtain⟨W,⟨m0,w0⟩,c2⟩:=cw;generalize hD:Y.heap.objs.size=D at *
 generalize c8:H2.objs.size=C at *
 have a7:∀{H':Hp}{o:Obj},(∀b∈fp,H' b=none)->∀b∈fp,jA (bw X N' scope C Y H fp) [(D,o)] H' b:=λ{H' o} hn b U=>by
  refine⟨hn b U,X8 (Yk (b0 b U) a4),I1.ok.exfs b U,.inl U,(I1.ok.exf b U).2,λp hp=>?_⟩;have e:p=(D,o):=by simpa[bw]using hp
  subst e;exact Zx (b0 b U)
 have b1:aag (model X.prog X.w) X.A (.compLoop (.ListComp elt [⟨target,iter,ifs,0⟩] scope pos) 0 (.ref it) (.ref D) (compEnvC scope (oM scope X.env) C X.env)) (RR (.ref D) C) {Y with heap:=a2,toks:=Y.toks+([]:List (Str×Value)).length}:=by
  refine zL (λn s'=>∃i ys its k H',Inv (bw X N' scope C Y H fp) [(D,lobj its k)] (fX cap σ) H' s'/\Vals ys its/\tn i s'.heap/\(∀b∈fp,H' b=none)/\W i n ys H') ?_ m0 ⟨0,[],[],0,H,I1,.nil,b9,λb U=>(f2 b U).1,w0⟩;rintro n s3 ⟨i,ys,its,k,H3,I3,rv,c0,b4,w3⟩;rcases c2 i n ys H3 w3 with⟨stop,qn⟩|⟨go,hsz,N,hN,step⟩
  .refine thn (T.done (bw X N' scope C Y H fp) rfl rfl rfl Z i _ s3 _ H3 NoX I3 (a7 b4) c0 stop) λr s4 ⟨hr,I4⟩=>?_
   subst hr;exact c4 D C s4 H3 ys its k _ (XQ _) a4 a6 I4 rv qn
  .refine thn (T.item (bw X N' scope C Y H fp) rfl rfl rfl Z i _ s3 _ H3 NoX I3 (a7 b4) c0 go) λr s4 ⟨u,hr,h4⟩=>?_
   subst hr;refine thn h4 λ_ s5 ⟨x,H5,I5,r5,y5,a5,c5⟩=>?_;have c6:=I5.pinned (a7 c5) (T.obj _ _ a5);refine thn (hg C _ s5 _ H5 x u _ c6 r5 (step x H5 y5)) λ_ s6 ⟨a8,H6,I6,b6,q6⟩=>?_;refine thn (ht C _ s6 a8 H6 _ I6 q6) λok s7 ⟨H7,I7,q7⟩=>?_;have a3:∀{s':Mx}{H':Hp}{a9:L2.St},Inv (bw X N' scope C Y H fp) ([(D,lobj its k)]++jT fp s5.heap) a9 H' s'->tn (i+1) s'.heap/\∀b∈fp,H' b=none:=λ{s' H' a9} Ix=>by
    refine⟨T.keep _ _ _ a5 λb U o e=>(Ix.pin (b,o) (XD _ (XD _ (dH U e)))).1,λb U=>?_⟩;obtain⟨o,e,d⟩:=T.obj _ _ a5 b U;exact(Ix.pin (b,o) (XD _ (XD _ (dH U e)))).2.1
   have b5:(fX cap σ).length=a8.length:=by rw[I6.len,I1.len]
   cases ok with
   |false=>
    have n7:N ys H7:=by simpa using q7
    obtain⟨m',hm,w7⟩:=hN _ _ n7;exact⟨m',hm,i+1,ys,its,k,H7,I7.unpinned.weak b5 b6,rv,(a3 I7).1,(a3 I7).2,w7⟩
   |true=>
    have q7:te a8 H7 λv H4=>N (ys++[v]) H4:=by simpa using q7
    refine thn (he C _ s7 a8 H7 _ I7 q7) λu8 s8 ⟨v,H8,I8,r8,n8⟩=>?_;obtain⟨eD,nD,_,c7,_⟩:=I8.pin (D,lobj its k) (XD _ (X6 _ Yw));have lv:=rv.length;refine adA ae6 ⟨_,eD,rfl⟩ aeS (aez _ _) (afp D its.toArray k u8 (by rw[List.size_toArray];omega)) ⟨eD,?_⟩;obtain⟨m',hm,w8⟩:=hN _ _ n8;obtain⟨k',eN⟩:∃k',(s8.heap.update D (ZS (·.push u8))).get? D=some (lobj (its++[u8]) k'):=by
     have q:=afD eD (·.push u8);dsimp only at q;rw[List.push_toArray]at q;exact⟨_,q⟩
    have I9:Inv (bw X N' scope C Y H fp) (jT fp s5.heap) a8 H8 {s8 with heap:=s8.heap.update D (ZS (·.push u8))}:=by
     refine Inv.turned (it:=D) (t':=s8.toks) (I8.pins_of λp hp=>I8.pin p (XD _ (XD _ hp))) (λb o U e=>(Y8 s8.heap (ZS _) (YC U)).trans e) nD a6 (.inr (by rw[←hD];exact XQ _)) (λx c e z=>?_) (λp hp z=>?_)
     .obtain⟨vc,oc,h1,_⟩:=I.cell x c (iK I O e)
      have hh:=XR h1;rw[z,hD]at hh;exact Zn _ hh
     .have hp:p∈jT fp s5.heap:=hp
      have hh:=b0 p.1 (qY hp).1;rw[z]at hh;exact Zn _ hh
    refine⟨m',hm,i+1,ys++[v],its++[u8],k',H8,(I9.weak b5 b6).pins_of (λp hp=>?_),rv.append (.cons r8 .nil),?_,λb U=>?_,w8⟩
    .have e:p=(D,lobj (its++[u8]) k'):=Yh.mp hp
     rw[e];exact⟨eN,nD,a6,c7,λv z=>by cases z⟩
    .exact T.keep _ _ _ a5 λb U o e=>(I9.pin (b,o) (XD _ (dH U e))).1
    .obtain⟨o,e,d⟩:=T.obj _ _ a5 b U
     exact(I9.pin (b,o) (XD _ (dH U e))).2.1
 exact codeAny_compStart_list b1 (T.self _ 0 _ _ _ b9 b1)
theorem GC(hx:X.xe=NoX)(Z:X.calm=true)(O:bH X.env.scope X.N N' scope cap)(hi:PI X target iter wi)
  (hg:∀C Y H fp,PG (bw X N' scope C Y H fp) target g) (ht:∀C Y H fp,PTs (bw X N' scope C Y H fp) ifs tt) (V:∀C Y H fp,PE (bw X N' scope C Y H fp) elt te)
  (hs:∀x,ZF iter X.env x=pure x:=by intro _;rfl):PE X (.ListComp elt [⟨target,iter,ifs,0⟩] scope pos) (Fq cap wi g tt te):=by
 intro pins s σ H Q I h;rw[eval_ListComp];refine abY (use:=none) rfl hs (jW λy hy hk=>I.ok.has y.1 (O.free y hy hk)) O.kind O.nm (thn (hi pins s σ H _ I h) λv s1 h1=>thn h1 λa5 s2 h2=>?_);obtain⟨it,fp,tn,J,H2,e,I2,T,a1,f2,cw⟩:=h2;subst e;refine u_ (RR:=λacc C=>compPost (model X.prog X.w) X.A X.xe none (EP X pins σ Q) acc C) Z O I2 T a1 f2 (λC=>hg C _ _ _) (λC=>ht C _ _ _) (λC=>V C _ _ _) cw ?_;intro D C s' H' ys its n F hD hC a2 I' rv q;obtain⟨hz,q⟩:=q;obtain⟨m,a0,_⟩:=I'.loc;refine⟨m,a0,λh' sb=>?_⟩;obtain⟨eD,nD,_,a4,_⟩:=I'.pin (D,lobj its n) (XD _ Yw);have a3:Inv X pins σ (upd H' D (.lst ys)) {s' with heap:=h'}:=by
  refine I2.call' (ch:=fp) I'.os ?_ ?_ I'.bare (λb U=>⟨(f2 b U).2.2.2.1,(f2 b U).2.1,(f2 b U).2.2.2.2.1,(f2 b U).2.2.2.2.2⟩)
  .have ne:∀b o,s2.heap.get? b=some o->b≠C/\b≠D:=λb o e=>⟨X8 (Yk (XR e) hC),X8 (Yk (XR e) hD)⟩
   refine⟨λb o e n U V=>sb.extBut b o (ne b o e).1 (I'.base.keep b o e n U V),λb o e n U V=>?_,λb o e n V=>?_,λb o e V=>?_,λb xs e=>?_,λb o u e=>?_,λb ps e=>?_⟩
   .obtain⟨sl,e1⟩:=I'.base.slot b o e n U V
    exact⟨sl,sb.extBut b _ (ne b o e).1 e1⟩
   .rw[aM (ne b o e).2]
    exact I'.base.free b o e n V
   .obtain⟨o',e1⟩:=I'.base.there b o e V
    exact⟨o',sb.extBut b _ (ne b o e).1 e1⟩
   .have e1:=I'.base.tups b xs e
    rw[aM (aY e1 nD)];exact e1
   .have e1:=I'.base.frzs b o u e
    rw[aM (aY e1 nD)];exact e1
   .obtain⟨more,e1⟩:=I'.base.tbls b ps e
    refine⟨more,?_⟩;rw[aM (aY e1 nD)];exact e1
  .intro b u e
   by_cases U:b=D
   .subst U
    rw[aU]at e;cases e;exact⟨hz,its,n,rv,sb.extBut _ _ a2 eD⟩
   .rw[aM U]at e
    have nC:∀b u,H' b=some u->b≠C:=λb u e z=>by
     have hf:H' C=none:=I'.free;rw[z,hf]at e;cases e
    refine(I'.hok b u e).stay (λc v Z q=>sb.extBut c v ?_ q) (λc q=>by rw[aM (aY q nD)];exact q) λc xs q=>by rw[aM (aY q nD)];exact q
    rcases Z with z|z
    .rw[z]
     exact nC b u e
    .exact nC c _ z
 exact⟨.ref D,_,a3,rfl,q D nD⟩
end
theorem Uq{x:V}{t:Value}(I:Inv X pins σ H s)(rx:RelV x u)(ty:lU X.K H x t):∃Z,PySem.W.KitX X.K u t Z/\Z s.heap/\u≠.builtin "__main__.__loader__#opaque":=by
 cases ty with
 |non=>cases (show u=YT from rx);exact⟨_,afm,Zy,λz=>nomatch z⟩
 |bl y=>cases (show u=adz y from rx);exact⟨_,afn,Zy,λz=>nomatch z⟩
 |int i=>obtain⟨t,q⟩:=(show ∃t,u=aad i t from rx);cases q;exact⟨_,afz,Zy,λz=>nomatch z⟩
 |str y=>obtain⟨t,q⟩:=(show ∃t,u=abT y t from rx);cases q;exact⟨_,afA,Zy,λz=>nomatch z⟩
 |flt y=>obtain⟨t,q⟩:=(show ∃t,u=afw y t from rx);cases q;exact⟨_,ae1,Zy,λz=>nomatch z⟩
 |@lst a xs F=>
  cases (show u=YD a from rx);obtain⟨_,_,n,_,h1⟩:=(show cI X.prog X.w H s.heap a (.lst xs)from I.hok a _ F);exact⟨_,ab8,⟨_,h1,rfl⟩,λz=>nomatch z⟩
 |@frz a ob xs F=>
  cases (show u=YD a from rx);obtain⟨_,_,_,n,_,h1⟩:=(show cI X.prog X.w H s.heap a (.frz ob (.lst xs))from I.hok a _ F);exact⟨_,ab8,⟨_,h1,rfl⟩,λz=>nomatch z⟩
 |@tup a xs F=>
  cases (show u=YD a from rx);obtain⟨_,_,_,p⟩:=(show cI X.prog X.w H s.heap a (.tup xs)from I.hok a _ F);obtain⟨o,h1,h2,_⟩:=p;exact⟨_,ae2,⟨o,h1,h2⟩,λz=>nomatch z⟩
 |@dK a kvs F=>
  cases (show u=YD a from rx);obtain⟨_,_,vs,_,p⟩:=(show cI X.prog X.w H s.heap a (.dK kvs)from I.hok a _ F);obtain⟨o,es,ep,h1,h2,_⟩:=p;exact⟨_,ab9,⟨o,h1,h2.1⟩,λz=>nomatch z⟩
 |@dT a kvs F=>
  cases (show u=YD a from rx);obtain⟨_,_,xs,_,o,es,ep,h1,h2,_⟩:=(show cI X.prog X.w H s.heap a (.dT kvs)from I.hok a _ F);exact⟨_,ab9,⟨o,h1,h2.1⟩,λz=>nomatch z⟩
 |@ins a C dx fs F U Y hn N hm=>
  cases (show u=YD a from rx);obtain⟨mA,O,_⟩:=G6 I.hok F;obtain⟨od,J,_⟩:=O.look;exact⟨_,afB (U.get _) U.hd Y hn N hm,J,λz=>nomatch z⟩
theorem GR:∀{N:List String}{us:List Value},Vals (N.map V.ty) us->us=N.map Z_
 |[],_,.nil=>rfl
 |t::r,_,.cons h q=>by cases (show _=Z_ t from h);rw[GR q];rfl
theorem y_:dq X (.builtin "isinstance") (λxs H Q=>∃x tp N t b,xs=[x,.ref tp]/\H tp=some (.tup (List.map V.ty N))/\lU X.K H x t/\acZ X.K t (N.map Z_)=some b/\Q (.bl b) H):=by
 intro pins s σ H xs us Q I r h;obtain⟨x,tp,N,t,b,rfl,a0,O,e,q⟩:=h;obtain⟨u,Y,rfl,U,r2⟩:=vals2 r;cases r2;obtain⟨Hq,Z,hz,hn⟩:=Uq I U O;obtain⟨_,its,J,o,h1,h2,n,F,_⟩:=(show cI X.prog X.w H s.heap tp (.tup (N.map V.ty))from I.hok tp _ a0);rw[GR J]at F;obtain⟨cls,dd,data,sl⟩:=o;cases h2;cases F;exact PySem.W.kia_tup Z I.kIn hz h1 e hn λtk=>⟨.bl b,H,I.tok tk,rfl,q⟩
theorem w6:∀(tk:Nat)(l:List Str),Vals (l.map V.str) (strsFrom tk l)
 |_,[]=>.nil
 |tk,x::r=>.cons ⟨_,rfl⟩ (w6 (tk+1) r)
def TY:V->List V->Hp->VK->Prop:=λx vs H Q=>∃(a b:Str)(l:List Str),x= .str a/\vs=[.str b]/\(decide (a.length<b.length)||decide (abN a<abN b))=false/\(b.length==0)=false/\
 (Za a b 0 a.length (a.length+1)).isEmpty=false/\a.length<=X3/\abZ a (Za a b 0 a.length (a.length+1)) b.length=l/\l.length<=X3/\
 ∀p,H p=none->Q (.ref p) (upd H p (.lst (l.map V.str)))
theorem JM:MtR X "str.split" TY:=by
 intro pins s σ H x vs v us Q I rx J h;obtain⟨a,b,l,rfl,rfl,O,N,V,Y,rfl,U,q⟩:=h;obtain⟨t,rfl⟩:=rx;obtain⟨u,rfl,t',rfl⟩:=J.one;refine adA F.slot_str_split (typeIs_str s a t) F.entry_str_split (F.args_str_split_2 _ _) (meets_str_split_sep a b t t' O N V Y U) ?_;exact⟨.ref s.heap.objs.size,_,I.lnew (w6 _ _) (by rw[X5];exact U),rfl,q _ I.fresh⟩
inductive Dt where
 |non|bl (b:Bool)|int (i:Int)|str (x:Str)|lst (ds:List Dt)|tup (ds:List Dt)
mutual
noncomputable def eqD:Dt->Dt->Bool
 |.non,.non=>true
 |.bl a,.bl b=>a==b
 |.int a,.int b=>a==b
 |.bl a,.int b=>(if a then 1 else 0)==b
 |.int a,.bl b=>a==(if b then 1 else 0)
 |.str a,.str b=>a==b
 |.lst a,.lst b=>eqL a b
 |.tup a,.tup b=>eqL a b
 |_,_=>false
noncomputable def eqL:List Dt->List Dt->Bool
 |[],[]=>true
 |a::r,b::q=>eqD a b&&eqL r q
 |_,_=>false
end
mutual
noncomputable def Brs(K:XS)(H:Hp):Dt->V->Prop
 |.non,v=>v= .non
 |.bl b,v=>v= .bl b
 |.int i,v=>v= .int i
 |.str x,v=>v= .str x
 |.lst ds,v=>∃a xs,v= .ref a/\SqL K H a xs/\j0 K H ds xs
 |.tup ds,v=>∃a xs,v= .ref a/\SqT K H a xs/\j0 K H ds xs
noncomputable def j0(K:XS)(H:Hp):List Dt->List V->Prop
 |[],xs=>xs=[]
 |d::r,xs=>∃x ys,xs=x::ys/\Brs K H d x/\j0 K H r ys
end
theorem j0.length{K:XS}:∀{ds:List Dt}{xs:List V},j0 K H ds xs->ds.length=xs.length
 |[],xs,h=>by
  have h:xs=[]:=by simpa[j0]using h
  rw[h];rfl
 |d::r,xs,h=>by
  obtain⟨x,ys,rfl,_,h⟩:=(by simpa[j0]using h:∃x ys,xs=x::ys/\Brs K H d x/\j0 K H r ys);simp[j0.length h]
theorem zN:∀{ds es:List Dt},ds.length≠es.length->eqL ds es=false
 |[],[],h=>absurd rfl h
 |[],_::_,_=>by simp[eqL]
 |_::_,[],_=>by simp[eqL]
 |d::r,e::q,h=>by
  have:r.length≠q.length:=by simpa using h
  simp[eqL,zN this]
def eqJ(ds es:List Dt)(j:Nat):Bool:=eqD (ds.getD j .non) (es.getD j .non)
theorem yR:∀{ds es:List Dt},ds.length=es.length->(Yp ds.length).all (eqJ ds es)=eqL ds es
 |[],[],_=>by simp[eqL]
 |[],_::_,h=>by simp at h
 |_::_,[],h=>by simp at h
 |d::r,e::q,h=>by
  have h':r.length=q.length:=by simpa using h
  have Z:=yR h';rw[Yj,aco,abI,ae7,eqL];congr 1
theorem uf{Y O vs:Value}{lo hi st:Option Int}{Q:Int×Int×Nat->Mx->Prop}(hs:s.heap.IsSliceOf sl Y O vs)(F:aby Y lo)(V:aby O hi)(ps:aby vs st)(U:st.getD 1≠0)
  (h:Q ((Y6 lo hi (st.getD 1) (n:Int)).1,st.getD 1,YX (Y6 lo hi (st.getD 1) (n:Int)).1 (Y6 lo hi (st.getD 1) (n:Int)).2 (st.getD 1)) s) :
  wpAny (model prog w) A (aaQ (.ref sl) (pure (n:Int))) Q E s:=by
 obtain⟨os,q,J,Z⟩:=id hs;unfold aaQ;refine gD (gD (ack q Z (x:=Y) rfl (gD (ack q Z (x:=O) rfl (gD (ack q Z (x:=vs) rfl (yr ?_)))))));refine gD (HT.slicePart_ ps ?_);have h1:(st.getD 1==0)=false:=by simpa using U
 simp![h1,Yz,Zi,pure_bind];exact gD (HT.slicePart_ F (gD (HT.slicePart_ V (yr h))))
def m5(xs:List α)(l st:Int)(k:Nat):List α:=(Yp k).filterMap λ(m:Nat)=>xs[(l+(m:Int)*st).toNat]?
theorem iC{t:Addr}{items:List Value}{Y O vs:Value}{lo hi st:Option Int}(U:IsTup s.heap t items.toArray)(hs:s.heap.IsSliceOf sl Y O vs)(F:aby Y lo)(V:aby O hi)(ps:aby vs st)(h0:st.getD 1≠0)
  {l h':Int} (ea:Y6 lo hi (st.getD 1) (items.length:Int)=(l,h'))  (ek:YX l h' (st.getD 1)=k)
  (N:(l=0/\st.getD 1=1/\k=items.length)->Q (.ref t) s)
  (hn:¬(l=0/\st.getD 1=1/\k=items.length)->Q (.ref s.heap.objs.size) {s with heap:=s.heap.push {cls:=.type "tuple",data:=.seq (m5 items l (st.getD 1) k).toArray}})
  (hsz:(m5 items l (st.getD 1) k).length<=X3):wpAny (model prog w) A (acW (.ref t) (.ref sl)) Q E s:=by
 have J:sizeOk (.seq (m5 items l (st.getD 1) k).toArray):=by
  show(m5 items l (st.getD 1) k).toArray.size<=X3;rw[List.size_toArray];exact hsz
 obtain⟨os,q,a0,a2⟩:=id hs;have a1:s.TypeIs (.ref sl) "slice":=⟨os,q,a0⟩;unfold acW
 try with_reducible refine Y_ ?_
 first|refine gD (yr ?_)|skip
 refine gD (wpAny_sequenceKey U.typeIs (by decide) ?_);refine gD (Zb (name:=ZK "__getitem__") U.typeIs Zf
  (abG Zf U.typeIs aeR ?_ (args_tuple_getitem _ _)))
 show wpAny _ _ (adb (.ref t) >>=_) _ _ s;refine gD (tupleItemsOf_ U ?_);refine gD (aaH a1 ?_);rw[X7 (by decide)];rw[List.size_toArray];refine gD (uf hs F V ps h0 ?_);rw[ea,ek];dsimp only;by_cases Z:(l=0/\st.getD 1=1/\k=items.length)
 .rw[X7 (by simp[Z])]
  refine gD ?_;unfold Builtin.Tuple.tupleIsExact;refine gD (aaH U.typeIs (yr ?_));rw[X7 (by decide)];exact gD (aap (yr ⟨_,rfl,yr (N Z)⟩))
 .rw[Yc (by simpa using Z)]
  have e:(List.filterMap (λ(k:Nat)=>items.toArray[(l+(k:Int)*st.getD 1).toNat]?) (Yp k)).toArray=(m5 items l (st.getD 1) k).toArray:=by
   unfold m5;simp
  rw[e];exact gD (m:=aaq _) (YQ (yr ⟨_,rfl,yr (hn Z)⟩) J)
theorem uW(xs:List α)(l st:Int)(k:Nat):(m5 xs l st k).length<=k:=by
 unfold m5;have:=List.length_filterMap_le (λ(m:Nat)=>xs[(l+(m:Int)*st).toNat]?) (Yp k);rw[ado]at this;exact this
theorem Lw(xs:List α):m5 xs ((xs.length:Int)-1) (-1) xs.length=xs.reverse:=by
 unfold m5;apply adp;intro j;have V:∀n,n<=xs.length->(Yp n).filterMap (λ(m:Nat)=>xs[((xs.length:Int)-1+(m:Int)* -1).toNat]?)=(xs.reverse).take n:=by
  intro n
  induction n with
  |zero=>intro _;simp
  |succ n Z=>
   intro hn;rw[List.range_succ,List.filterMap_append,Z (by omega),aas];congr 1;have e1:((xs.length:Int)-1+(n:Int)* -1).toNat=xs.length-1-n:=by omega
   rw[List.getElem?_reverse (by omega)];simp![abh,List.filterMap_nil,e1];rw[XX (by omega)]
   try rfl
 rw[V xs.length (XQ _),abq (by simp)]
section
variable{X:Cx}{e:Expr}{te:TE}{p2 pos:Pos}
def Vq(K:XS):V->Option Int->Option Int->Hp->VK->Prop:=λx lo hi H Q=>∃a xs,x= .ref a/\SqT K H a xs/\(vX xs lo hi=xs->Q (.ref a) H)/\∀p,H p=none->Q (.ref p) (upd H p (.tup (vX xs lo hi)))
theorem R7:SlR X (Vq X.K):=by
 intro pins s σ H x v Y O lo hi sl Q I rx hs F V h;obtain⟨a,xs,rfl,J,q1,q2⟩:=h;by_cases N:(HT.sIx xs.length 0 lo=0/\HT.sIx xs.length xs.length hi=xs.length)
 .have rx0:=rx
  cases rx;obtain⟨its,r,q,hz⟩:=I.tuple J;have U:=r.length;refine⟨"tuple",_,Zf.lookup,q.typeIs,?_⟩;have e1:Y6 lo hi ((none:Option Int).getD 1) (its.length:Int)=(((0:Nat):Int),((xs.length:Nat):Int)):=by
   have e1:=HT.adjust_gen lo hi its.length;rw[←U,N.1,N.2]at e1;rw[←U];exact e1
  refine iC (items:=its) (st:=none) q hs F V .none (by decide) e1 rfl (λ_=>?_) (λZ=>?_) ?_
  .refine⟨.ref a,H,I,rfl,q1 ?_⟩
   unfold vX;rw[N.1,N.2];simp
  .refine absurd ⟨rfl,rfl,?_⟩ Z
   show YX ((0:Nat):Int) ((xs.length:Nat):Int) 1=its.length;rw[HT.places_gen];omega
  .refine Zq (uW _ _ _ _) ?_
   show YX ((0:Nat):Int) ((xs.length:Nat):Int) 1<=X3;rw[HT.places_gen];omega
 .exact S6 pins s σ H _ v Y O lo hi sl Q I rx hs F V ⟨a,xs,rfl,J,N,q2⟩
def Vs(K:XS):R2:=λx y H Q=>∃a xs,x= .ref a/\SqT K H a xs/\((y= .int 1/\Q (.ref a) H)∨(y= .int (-1)/\∀p,H p=none->Q (.ref p) (upd H p (.tup xs.reverse))))
def Oc(K:XS):R2:=λx y H Q=>∃a b xs ys,x= .ref a/\y= .ref b/\SqT K H a xs/\SqT K H b ys/\xs.length+ys.length<=X3/\
 (xs=[]->Q (.ref b) H)/\(xs≠[]->ys=[]->Q (.ref a) H)/\(xs≠[]->ys≠[]->∀p,H p=none->Q (.ref p) (upd H p (.tup (xs++ys))))
theorem JW:OpR X (ZR .Add) (Oc X.K):=by
 intro pins s σ H x y v u Q I rx ry h;obtain⟨a,b,xs,ys,rfl,rfl,Y,U,hz,q0,q1,q2⟩:=h;by_cases J:xs=[]
 .cases rx
  cases ry;obtain⟨its,r1,p1,_⟩:=I.tuple Y;obtain⟨O,r2,p2,_⟩:=I.tuple U;obtain⟨⟨cls,dd,data,sl⟩,N,Z,n,hd⟩:=id p1;obtain⟨⟨a5,a3,a4,a2⟩,a1,V,q,a0⟩:=id p2;simp only at Z hd V a0;subst Z hd V a0;exact ae4 ⟨_,N,rfl⟩ ⟨_,a1,rfl⟩ adJ aeL acj ab6 (abW _ _)
   (tuple_addW0 a b its.toArray O.toArray n q dd a3 sl a2 (by rw[r1.nil_iff.mpr J];rfl)) ⟨N,a1,⟨.ref b,H,I,rfl,q0 J⟩⟩
 .exact O5 pins s σ H _ _ v u Q I rx ry ⟨a,b,xs,ys,rfl,rfl,Y,U,J,hz,q1 J,q2 J⟩
end
theorem p_{p:Addr}{o:HO}(I:Inv X pins σ H s)(V:∀b∈fp,jA X pins H b)(keep:∀b u,b∉fp->s.heap.get? b=some u->h'.get? b=some u)(F:s.heap.objs.size<=p)
  (new:cI X.prog X.w (upd H p o) h' p o):Inv X pins σ (upd H p o) {s with heap:=h',toks:=t'}:=by
 have hn:H p=none:=I.hok.fresh F;have O:∀b u,H b=some u->b∉fp:=λb u e U=>by rw[(V b U).1]at e;cases e
 have N:∀b u,s.heap.get? b=some u->b≠p:=λb u e=>X8 (Yk (XR e) F);refine I.step (g':=s.gens) (d':=s.drawn) (ch:=fp) (λb U=>⟨(V b U).2.2.2.1,(V b U).2.1,(V b U).2.2.2.2.1,(V b U).2.2.2.2.2⟩) (λb u _ _ Z e _=>keep b u Z e) (λb u _ _ Z e _=>⟨u.slots,keep b u Z e⟩)
  (λb u _ e n=>by rw[aM (N b u e)];exact n) (λb u Z e=>⟨u,keep b u Z e⟩) (λb xs e=>by rw[aM (aY e hn)];exact e) (λb ob u e=>by rw[aM (aY e hn)];exact e)
  (λb ps e=>⟨#[],by rw[aM (aY e hn),e];simp⟩) (λm J=>?_) (λb u e=>?_) I.bare
 .obtain⟨ob,es,ep,ho,r⟩:=J
  exact⟨ob,es,ep,keep _ ob (λz=>(V _ z).2.1 rfl) ho,r⟩
 .by_cases U:b=p
  .subst U
   rw[aU]at e;cases e;exact new
  .rw[aM U]at e
   refine(I.hok b u e).stay (λc v Z q=>keep c v ?_ q) (λc q=>by rw[aM (aY q hn)];exact q) λc xs q=>by rw[aM (aY q hn)];exact q
   rcases Z with z|z
   .rw[z]
    exact O b u e
   .exact O c _ z
theorem jd(I:Inv X pins σ H s)(F:∀b∈fp,jA X pins H b)(keep:∀b u,b∉fp->s.heap.get? b=some u->h'.get? b=some u):Inv X pins σ H {s with heap:=h',toks:=t'}:=by
 have O:∀b u,H b=some u->b∉fp:=λb u e U=>by rw[(F b U).1]at e;cases e
 refine I.step (g':=s.gens) (d':=s.drawn) (ch:=fp) (λb U=>⟨(F b U).2.2.2.1,(F b U).2.1,(F b U).2.2.2.2.1,(F b U).2.2.2.2.2⟩) (λb u _ _ Z e _=>keep b u Z e) (λb u _ _ Z e _=>⟨u.slots,keep b u Z e⟩)
  (λb u _ e n=>n) (λb u Z e=>⟨u,keep b u Z e⟩) (λb xs e=>e) (λb ob u e=>e) (λb ps e=>⟨#[],by rw[e];simp⟩) (λm J=>?_) (λb u e=>?_) I.bare
 .obtain⟨ob,es,ep,ho,r⟩:=J
  exact⟨ob,es,ep,keep _ ob (λz=>(F _ z).2.1 rfl) ho,r⟩
 .refine(I.hok b u e).stay (λc v Z q=>keep c v ?_ q) (λc q=>q) λc xs q=>q
  rcases Z with z|z
  .rw[z]
   exact O b u e
  .exact O c _ z
def Ite(K:XS)(a:Addr):It:=
 ⟨λi H=>∃xs x,SqL K H a xs/\xs[i]? =some x,λi H x H'=>∃p v,H p=none/\x= .ref p/\(∀xs,SqL K H a xs->xs[i]? =some v)/\H'=upd H p (.tup [.int i,v]),λi H=>∃xs,SqL K H a xs/\xs.length<=i⟩
theorem Ht{K:XS}{x1}(a e it:Addr)(a4:e≠it) :
  Turn P w K (.Tuple elts x1 pos) (Ite K a) [e,it] e (λi h=>(∃a0,IsEnum h e it (i:Int) a0)/\h.IsListIter it a i)where
 mem:=by simp
 obj:=λi h st b U=>by
  obtain⟨⟨a0,V⟩,o,N,c,d⟩:=st;rcases XJ.mp U with z|z
  .subst z
   exact⟨_,V,λv z=>by cases z⟩
  .have z:b=it:=by simpa using z
   subst z;exact⟨o,N,λv z=>by rw[d]at z;cases z⟩
 keep:=λi h h' st k=>by
  obtain⟨⟨a0,V⟩,a1⟩:=st;exact⟨⟨a0,k e (by simp) _ V⟩,a1.at λo q=>k it (by simp) o q⟩
 item:=by
  intro X hP hw hK Z i pins s σ H E I F st hg;subst hP hw hK;obtain⟨xs,x,hq,J⟩:=hg;obtain⟨its,rv,p,hz⟩:=I.list hq;obtain⟨u,O,ru⟩:=rv.get J;obtain⟨⟨a0,V⟩,a1⟩:=st;refine wpAny_pyNext_enum_item V a1 p.isList (x:=u) (by simpa using O) a4 λh1 b0 a3 a8 b1 k1=>?_;refine⟨.ref s.heap.objs.size,rfl,adg b0 λh2 a7 a2=>?_⟩;have a9:e<s.heap.objs.size:=XR V;have a5:s.heap.objs.size≠e:=Zx a9;have a6:h2.get? s.heap.objs.size=some {cls:=.type "tuple",data:=.seq #[.int i s.toks,u]}:=a2.extBut _ _ a5 a8;have I2:Inv X pins σ (upd H s.heap.objs.size (.tup [.int i,x])) {s with heap:=h2,toks:=s.toks+1}:=by
   refine p_ (fp:=[e,it]) (t':=s.toks+1) I F (λb o U q=>?_) (XQ _) ?_
   .have n1:b≠e:=λz=>U (by simp[z])
    have n2:b≠it:=λz=>U (by simp[z]);exact a2.extBut b o n1 (k1 b o n1 n2 q)
   .exact⟨by show 2<=X3;decide,[.int i s.toks,u],.cons ⟨_,rfl⟩ (.cons ru .nil),_,a6,rfl,_,rfl,rfl⟩
  refine⟨.ref s.heap.objs.size,upd H s.heap.objs.size (.tup [.int i,x]),I2,rfl,⟨_,x,I.hok.fresh (XQ _),rfl,λys hy=>by rw[I.list_inj hy hq];exact J,rfl⟩,?_,λb U=>?_⟩
  .refine⟨⟨u,?_⟩,a3.extBut a2.extBut (YC a4)⟩
   have e1:(((i+1:Nat)):Int)=(i:Int)+1:=by omega
   rw[e1];exact a7
  .rw[aM]
   .exact(F b U).1
   .intro z
    rw[z]at U;rcases XJ.mp U with q|q
    .exact a5 q
    .have q:s.heap.objs.size=it:=by simpa using q
     obtain⟨o,N,_⟩:=a1;exact absurd (XR N) (by rw[q];exact Zn _)
 done:=by
  intro X hP hw hK Z i pins s σ H E I F st hg;subst hP hw hK;obtain⟨xs,hq,J⟩:=hg;obtain⟨its,rv,p,hz⟩:=I.list hq;obtain⟨⟨a0,V⟩,a1⟩:=st;have Y:=rv.length;refine wpAny_pyNext_enum_end (I.ok.hd Z) V a1 p.isList (by simp;omega) λh1 eb=>⟨rfl,?_⟩;exact jd (fp:=[e,it]) (t':=s.toks) I F λb o U q=>eb b o (λz=>U (by simp[z])) q
 self:=λA i s Q E st h=>by
  obtain⟨⟨a0,V⟩,_⟩:=st;exact aca V h
end Jb
namespace PySem
theorem F.first_AttributeError:((Manifest.find? "AttributeError").elim false λt=>t.mro.contains "StopIteration"||t.mro.contains "SystemExit")=false:=by decide +kernel
theorem F.sub_AttributeError:isSubtype (.type "AttributeError") (.type "AttributeError")=pure true:=by rw[ab4];kernel_rfl
section
variable{prog:Program}{w:World}{A:Around}{E:Value->Shared->Prop}
theorem uh{α:Type}{o:Value}{name a0:Str}{Q:α->Mx->Prop}{h:Heap}{g:Array GenState}{d:Drawn}{t:Nat}{os:OsState}(O:A.handled=none)(J:a0.length<=X3)
  (N:∀h' tk e,(∀b u,h.get? b=some u->h'.get? b=some u)->(∃oe,h'.get? e=some oe/\oe.cls= .type "AttributeError")->E (.ref e) ⟨h',g,d,tk,os⟩):wpAny (model prog w) A (raiseAttrError o name a0:Sem α) Q E ⟨h,g,d,t,os⟩:=by
 unfold raiseAttrError;refine gD (wpAny_mkStr (gD ?_) J);unfold newExc newTuple;refine gD (YQ ?_);refine gD (m:=abz _ _) (aa0 (a:=YT) (by simp![abz,F.first_AttributeError];rfl) ?_);refine YQ ?_;refine gD (wpAny_mkText (gD ?_));dsimp only;generalize a2:h.push {cls:=.type "tuple",dict:=none,data:=.seq [abT a0 t].toArray}=H1;generalize a1:({cls:=.type "AttributeError",dict:=none,data:=.fields (#[.ref h.objs.size,.none,.none,.none,.bool false,.none]++ownMembersOf (.type "AttributeError") [abT a0 t])}:Obj)=ob;have V:(H1.push ob).get? H1.objs.size=some ob:=X4 _ (by subst a1;rfl);have hT:(⟨H1.push ob,g,d,t+1+1,os⟩:Mx).TypeIs (.ref H1.objs.size) "AttributeError":=⟨_,V,by subst a1;rfl⟩;have f1:=F.sub_AttributeError;have Y:∀b u,h.get? b=some u->(H1.push ob).get? b=some u:=λb u e=>qb _ (a2▸qb _ e);have U:ob.cls= .type "AttributeError":=by subst a1;rfl
 obtain⟨vs,Z,a3,a4⟩:∃vs,ob.data= .fields vs/\vs[6]? =some unsetMember/\vs[7]? =some unsetMember:=by subst a1;exact⟨_,rfl,rfl,rfl⟩
 unfold noteAttr;dsimp only;refine gD ?_;unfold lacksNameAndObj;refine gD (aam hT f1 ?_);simp![acw,Yz,Zi];refine gD (ab3 V ?_);rw[Z];dsimp only;rw[a3,a4];show wpAny (model prog w) A (pure true) _ _ _;refine yr ?_;rw[X7 rfl];refine gD (aap (gD (aaH hT ?_)));dsimp only;unfold layMembers;refine gD (ab3 V ?_);rw[Z];dsimp only;refine wpAny_update V ?_;unfold raiseNew;refine gD (adh ?_);rw[O];dsimp only;have q:h.objs.size<H1.objs.size:=by rw[←a2,Ze];exact aaB _
 refine acp (N _ _ _ (λb u e=>?_) ⟨_,aaK _ V (aej (ac6 Z _)),(afr ..).trans U⟩);exact(Y8 (H1.push ob) _ (YC (X8 (Nat.lt_trans (XR e) q)))).trans (Y b u e)
theorem F.lk_list_keys:aev (.type "list") "keys"=pure none:=by rw[acM,abA];kernel_rfl
theorem F.lk_list_getattr:aev (.type "list") "__getattr__"=pure none:=by rw[acM,abA];kernel_rfl
variable{h:Heap}{g:Array GenState}{d:Drawn}{t:Nat}{os:OsState}{a:Addr}{items:Array Value}{n:Nat}
def DG(E:Value->Mx->Prop)(h:Heap)(g:Array GenState)(d:Drawn)(os:OsState):Prop:=∀h' tk e,(∀b u,h.get? b=some u->h'.get? b=some u)->(∃Z,h'.get? e=some Z/\Z.cls= .type "AttributeError")->E (.ref e) ⟨h',g,d,tk,os⟩
theorem uq{tk:Tok}{Q:Fin->Mx->Prop}(O:A.handled=none)(J:h.get? a=some {cls:=.type "list",data:=.seq items n})(N:DG E h g d os) :
  wpAny (model prog w) A (Builtin.«object.__getattribute__» ⟨[.ref a,.str "keys" tk],[]⟩) Q E ⟨h,g,d,t,os⟩:=by
 have V:(⟨h,g,d,t,os⟩:Mx).TypeIs (.ref a) "list":=⟨_,J,rfl⟩;have q:=F.lk_list_keys
 repeat(any_goals(first|assumption|wp_step))
 exact uh O (by decide +kernel) N
theorem uV{tk:Tok}{R:aeg->Mx->Prop}(O:A.handled=none)(J:h.get? a=some {cls:=.type "list",data:=.seq items n})(N:DG (λe s=>R (.error e) s) h g d os) :
  aag (model prog w) A (.call (.builtin "list.__getattribute__") ⟨[.ref a,.str "keys" tk],[]⟩) R ⟨h,g,d,t,os⟩:=
 Zm aa8.plain F.entry_list_ga (aa8.check _ _ _ _ _ _ _ _ (show(⟨h,g,d,t,os⟩:Mx).TypeIs (.ref a) "list" from⟨_,J,rfl⟩) (F.args_list_getattribute_2 _ _) (uq O J N))
theorem zQ{tk:Tok}{Q:Value->Mx->Prop}(O:A.handled=none)(J:h.get? a=some {cls:=.type "list",data:=.seq items n})(N:DG E h g d os):wpAny (model prog w) A (getAttrBy (.ref a) (.str "keys" tk) false) Q E ⟨h,g,d,t,os⟩:=by
 have hT:(⟨h,g,d,t,os⟩:Mx).TypeIs (.ref a) "list":=⟨_,J,rfl⟩;have f2:=aa8.lookup;have f3:=aa8.bind (.ref a)
 repeat(any_goals(first|assumption|wp_step))
 refine uV O J λh' U e Y V=>?_;obtain⟨Z,a0,q⟩:=id V;have a1:(⟨h',g,d,U,os⟩:Mx).TypeIs (.ref e) "AttributeError":=⟨Z,a0,q⟩;dsimp only;unfold getattributeRaised;refine gD (aam a1 F.sub_AttributeError ?_);rw[X7 rfl];refine gD (aa0 (show hookBehind (.type "list") none=pure none from F.lk_list_getattr) ?_);show wpAny (model prog w) A (aeC (.ref a) (.str "keys" tk) (.ref e) false false) Q E ⟨h',g,d,U,os⟩;unfold aeC;dsimp only;rw[X7 (show(!false)=true from rfl)]
 first|exact acp (N h' U e Y V)|exact gD (acp (N h' U e Y V))
theorem mG{Q:Option Value->Mx->Prop}(O:A.handled=none)(J:h.get? a=some {cls:=.type "list",data:=.seq items n})
  (N:∀h' tk,(∀b u,h.get? b=some u->h'.get? b=some u)->Q none ⟨h',g,d,tk,os⟩):wpAny (model prog w) A (getAttr? (.ref a) "keys") Q E ⟨h,g,d,t,os⟩:=by
 unfold getAttr? getAttrBy?;refine gD (wpAny_mkText (gD (abk (zQ O J λh' U e Y V=>?_))));obtain⟨Z,a0,q⟩:=id V;have a1:(⟨h',g,d,U,os⟩:Mx).TypeIs (.ref e) "AttributeError":=⟨Z,a0,q⟩;dsimp only;refine gD (aam a1 F.sub_AttributeError ?_);rw[X7 rfl];exact yr (N h' U Y)
end
namespace F
theorem entry_dict_update_loop:aeD table "dict.update.loop"=some Builtin.«dict.update.loop»:=entryFor_of_tree (by kernel_rfl)
theorem plain_dict_update_loop:plainId "dict.update.loop"=true:=by decide +kernel
end F
end PySem
namespace Jb
open PySem PySem.Spec PyProof.Rows L2
def putAll(kvs:List (Key×V))(prs:List (Key×V)):List (Key×V):=prs.foldl (λacc O=>putK acc O.1 O.2) kvs
theorem uJ:∀(prs kvs:List (Key×V)),(putAll kvs prs).length<=kvs.length+prs.length
 |[],kvs=>by simp[putAll]
 |p::r,kvs=>by
  have h1:=uJ r (putK kvs p.1 p.2);have h2:=gP kvs p.1 p.2;have e:putAll kvs (p::r)=putAll (putK kvs p.1 p.2) r:=rfl;rw[e,Yj];omega
variable{X:Cx}{σ:L2.St}
theorem xP{D:Addr}{xs:List V}{prs:List (Key×V)}{R:aeg->Mx->Prop}(hh:A.handled=none)(a4:prs.length=xs.length):∀(m i:Nat)(kvs:List (Key×V))(H:Hp)(s:Mx),xs.length-i=m->i<=xs.length->
  Inv X pins σ H s->H D=some (.dK kvs)->SqL X.K H l xs->jA X pins H it->s.heap.IsListIter it l i->(∀(j:Nat)(k:Key)(v:V),prs[j]? =some (k,v)->∃p:Addr,xs[j]? =some (V.ref p)/\H p=some (.tup [kV k,v]))->kvs.length+m<=100000->
  (∀s',Inv X pins σ (upd H D (.dK (putAll kvs (prs.drop i)))) s'->R (.ok (.ret .none)) s')->aag (model X.prog X.w) A (.builtin "dict.update.loop" ⟨[.ref D,.ref it,Zk i,.none],[]⟩) R s:=by
 intro m
 induction m with
 |zero=>
  intro i kvs H s J hi I hD N hf a0 hp hz k;have e:i=xs.length:=by omega
  subst e;obtain⟨its,rv,p,_⟩:=I.list N;have Y:=rv.length;refine Zd F.entry_dict_update_loop ?_;rw[YW F.plain_dict_update_loop _];unfold Builtin.«dict.update.loop»;dsimp only;refine gD (acE (show A.in1.handled=none from hh) a0 p.isList (by simp;omega) λh' eb=>?_);dsimp only;have I1:Inv X pins σ H {s with heap:=h'}:=jd (fp:=[it]) (t':=s.toks) I (λb U=>by rw[Yh.mp U];exact hf) λb o U q=>eb b o (λz=>U (by simp[z])) q;have e1:prs.drop xs.length=[]:=by rw[←a4,aaC]
  have k1:=k _ (by
   rw[e1];show Inv X pins σ (upd H D (.dK kvs)) {s with heap:=h'};have:upd H D (.dK kvs)=H:=by
    funext b;unfold upd;split
    .rename_i z
     rw[z,hD]
    .rfl
   rw[this];exact I1)
  show wpAny (model X.prog X.w) A.in1 (Builtin.Dict.addKeywords D [] >>=λ_=>ret .none) _ _ _;exact gD (yr (yr k1))
 |succ m Z=>
  intro i kvs H s J hi I hD N hf a0 hp hz k;have a9:i<xs.length:=by omega
  obtain⟨its,rv,p,_⟩:=I.list N;have Y:=rv.length;have a6:i<prs.length:=by omega
  obtain⟨t,ht,hT⟩:=hp i prs[i].1 prs[i].2 (by rw[XX a6]);obtain⟨u,O,ru⟩:=rv.get ht;cases ru;refine Zd F.entry_dict_update_loop ?_;rw[YW F.plain_dict_update_loop _];unfold Builtin.«dict.update.loop»;dsimp only;refine gD (acg a0 p.isList (x:=.ref t) (by simpa using O) λh1 a3 b0=>?_);dsimp only;have I1:Inv X pins σ H {s with heap:=h1}:=jd (fp:=[it]) (t':=s.toks) I (λb U=>by rw[Yh.mp U];exact hf) λb o U q=>(b0.2 b (λz=>U (by simp[z]))).trans q;obtain⟨_,b6,rj,oj,ej,cj,nj,dj,_⟩:=(show cI X.prog X.w H h1 t (.tup [kV prs[i].1,prs[i].2])from I1.hok t _ hT);obtain⟨ku,vu,rfl,rk,a7⟩:=vals2 rj;have a8:(({s with heap:=h1}:Mx)).TypeIs (.ref t) "tuple":=⟨oj,ej,cj⟩;refine gD (Y_ (gD (abB ?_)));unfold Builtin.Dict.pairItems;refine gD (aaH a8 ?_);rw[X7 (by decide)];refine gD (aaa ej dj (yr ?_));show wpAny (model X.prog X.w) A.in1 (aa2 [ku,vu] (dictSet D ku vu)) _ _ _;obtain⟨z,hd,vs,rel,dd⟩:=Ai I1.hok hD;have b3:vs.length<=X3:=by rw[←rel.length];exact z
  have b5:200000<=X3:=by decide
  have b2:(putK kvs prs[i].1 prs[i].2).length<=X3:=by have:=gP kvs prs[i].1 prs[i].2;omega
  refine Y_ (aeT (hsz:=b3) (oE rk) dd λh2 a5 a2=>?_);have I2:Inv X pins σ (upd H D (.dK (putK kvs prs[i].1 prs[i].2))) {s with heap:=h2,toks:=s.toks+1}:=by
   have he:∃q,h2.get? D=some q:=let⟨q,_,_,N,_⟩:=a5;⟨q,N⟩;exact qj (s:=({s with heap:=h1}:Mx)) (t':=s.toks+1) I1 (by rw[hD];exact Zy) a2 he (yI b2 hd (rel.put prs[i].1 a7) a5)
  have b1:∀p ys,H p=some (.tup ys)->p≠D:=λp ys e=>Fo e hD (by intro z;cases z);have a1:it≠D:=λz=>by have:=hf.1;rw[z,hD]at this;cases this
  show wpAny (model X.prog X.w) A.in1 (again (.builtin "dict.update.loop" ⟨[.ref D,.ref it,Zk ((i:Int)+1),.none],[]⟩)) _ _ _;refine yr ⟨Zo F.plain_dict_update_loop _,?_⟩;have ei:((i:Int)+1)=((i+1:Nat):Int):=by omega
  rw[ei];have b4:=gP kvs prs[i].1 prs[i].2;refine Z (i+1) (putK kvs prs[i].1 prs[i].2) _ _ (by omega) a9 I2 aU ?_ ?_ (a3.extBut a2.extBut a1) ?_ (by omega) (λs' I'=>k s' ?_)
  .rcases N with(N|⟨o,N⟩)|N
   .exact .inl (.inl (by rw[aM (Fo N hD (by intro z;cases z))];exact N))
   .exact .inl (.inr ⟨o,by rw[aM (Fo N hD (by intro z;cases z))];exact N⟩)
   .exact .inr N
  .exact⟨by rw[aM a1];exact hf.1,hf.2⟩
  .intro j kk vv e
   obtain⟨p,h1,h2⟩:=hp j kk vv e;exact⟨p,h1,by rw[aM (b1 p _ h2)];exact h2⟩
  .rw[FZ]at I'
   rw[aaY a6];exact I'
theorem uo(Z:X.calm=true):dq X (.type "dict") (λxs H Q=>∃l ys prs,xs=[.ref l]/\H l=some (.lst ys)/\Z0 prs=Z0 ys/\Z0 prs<=50000/\
  (∀(j:Nat)(k:Key)(v:V),prs[j]? =some (k,v)->∃p:Addr,ys[j]? =some (V.ref p)/\H p=some (.tup [kV k,v]))/\∀D,H D=none->Q (.ref D) (upd H D (.dK (putAll [] prs)))):=by
 intro pins s σ H xs us Q I r h;obtain⟨l,ys,prs,rfl,Y,U,hsz,hp,q⟩:=h;obtain⟨u,rfl,N⟩:=vals1 r;cases N;have O:X.A.handled=none:=I.ok.hd Z;refine callType_codes (Q₁:=λobj a2=>obj= .ref s.heap.objs.size/\a2={s with heap:=s.heap.push {cls:=.type "dict",data:=.dict #[]}}) F.kt_called_dict (F.kt_typeCall_dict_1 _) F.entry_dict_init (kt_code_dict_new _ ⟨rfl,rfl⟩) ?_;rintro obj a2 ⟨rfl,rfl⟩;have a4:H s.heap.objs.size=none:=I.fresh;have I1:Inv X pins σ (upd H s.heap.objs.size (.dK [])) {s with heap:=s.heap.push {cls:=.type "dict",data:=.dict #[]}}:=I.laid (t':=s.toks) (λ_ _ z=>qb _ z) (XQ _) (vC s.heap I.big);have a1:(s.heap.push {cls:=.type "dict",data:=.dict #[]}).DictOf (bz X.prog X.w) s.heap.objs.size []:=ad1 s.heap;have nl:l≠s.heap.objs.size:=aY Y a4;have a3:(upd H s.heap.objs.size (.dK [])) l=some (.lst ys):=by rw[aM nl];exact Y
 obtain⟨_,its,n,J,el⟩:=(show cI X.prog X.w _ _ l (.lst ys)from I1.hok l _ a3);have a7:({s with heap:=s.heap.push {cls:=.type "dict",data:=.dict #[]}}:Mx).TypeIs (.ref l) "list":=⟨_,el,rfl⟩;refine⟨a1.typeIs,F.args_dict_init_2 _ _,?_⟩;unfold Builtin.«dict.__init__»;refine gD ?_;unfold adM;refine gD (aek a1.typeIs ?_);show wpAny _ _ (pure (s.heap.objs.size,[YD l])) _ _ _;refine yr ?_;show wpAny _ _ (abi "dict.__init__" s.heap.objs.size (.ref l) [] .none) _ _ _;unfold abi;refine gD (aaH a7 ?_);rw[X7 (by decide)];refine gD (mG (show X.A.in1.in1.handled=none from O) el λh2 a0 a5=>?_);rw[X7 (by rfl)];have I2:Inv X pins σ (upd H s.heap.objs.size (.dK [])) {s with heap:=h2,toks:=a0}:=I1.kept (t':=a0) a5;obtain⟨a8,a9,p2,_⟩:=I2.list (SqL.of a3);refine gD (aap (gD (aaT p2.isList ?_)));have I3:Inv X pins σ (upd H s.heap.objs.size (.dK [])) {s with heap:=h2.push {cls:=.type "list_iterator",data:=.fields #[.ref l,.int 0 0]},toks:=a0}:=I2.kept (t':=a0) λb o e=>qb _ e;have a6:jA X pins (upd H s.heap.objs.size (.dK [])) h2.objs.size:=I2.fpOk (XQ _) (I2.hok.fresh (XQ _));refine yr ⟨Zo F.plain_dict_update_loop _,?_⟩;refine xP (A:=X.A.in1) (l:=l) (xs:=ys) (prs:=prs) O U ys.length 0 [] _ _ rfl (aai _) I3 aU (SqL.of a3) a6 ⟨_,X4 _ rfl,rfl,rfl⟩ ?_ (by simp;omega) λs' I'=>?_
 .intro j k v e
  obtain⟨p,h1,h2⟩:=hp j k v e;exact⟨p,h1,by rw[aM (aY h2 a4)];exact h2⟩
 .rw[FZ,ael]at I'
  exact⟨rfl,.ref _,_,I',rfl,q _ a4⟩
theorem wK{kx vx iter:Expr}{it:Value}{D:Addr}(I:Nat->Mx->Prop)
  (J:∀n s,I n s->wpAny (model prog w) A (aax it) (λr Z=>match r with
   |none=>R (.ok .next) Z
   |some v=>wpAny (model prog w) A (abP target it v) (λ_ V=>wpAny (model prog w) A (abU target env v) (λ_ Y=>
    wpAny (model prog w) A (forIn ifs true λc r=>if r=true then do let ok ←aed c env (eval c env);pure (aaM ok)else pure (aaM r)) (λok F=>
     if ok=true then wpAny (model prog w) A (eval kx env) (λO U=>wpAny (model prog w) A (eval vx env) (λvv a1=>wpAny (model prog w) A (dictSet D O vv) (λ_ a2=>∃m,m<n/\I m a2) NoX a1) NoX U) NoX F
     else ∃m,m<n/\I m F) NoX Y) NoX V) NoX Z) NoX s)
  (n:Nat) (h:I n s):aag (model prog w) A (.compLoop (.DictComp kx vx [⟨target,iter,ifs,0⟩] scope pos) 0 it (.ref D) env) R s:=by
 refine codeAny_loop rfl I (λn s N=>?_) n h;show wpAny _ A ((compTurn (.DictComp kx vx [⟨target,iter,ifs,0⟩] scope pos) 0 it (.ref D) env).onRaise (λx=>do noteFrame x env;theTreesLotGoes x)) _ _ s;refine wpAny_noted ?_;rw[compTurn_dict];refine gD (aaP (gD (Zr (J n s N) (λr Z q=>?_) λ_ _ h'=>h'.elim)));cases r with
 |none=>exact yr q
 |some v=>
  refine gD (Zr q (λ_ V a3=>?_) λ_ _ h'=>h'.elim);refine gD (Zr a3 (λ_ Y a5=>gD (Zr a5 (λok F a0=>?_) λ_ _ h'=>h'.elim)) λ_ _ h'=>h'.elim);cases ok with
  |false=>exact yr ⟨rfl,a0⟩
  |true=>
   exact gD (gD (Zr a0 (λO U a6=>gD (Y_ (Zr a6 (λvv a1 a4=>gD (aaP (Y_ (Zr a4 (λ_ a2 a7=>yr ⟨rfl,a7⟩) λ_ _ h'=>h'.elim)))) λ_ _ h'=>h'.elim))) λ_ _ h'=>h'.elim))
def Nj(J:It)(H:Hp)(g:TG)(tt:TT)(tk tv:TE)(σ:L2.St)(Q:List (Key×V)->Hp->Prop):Prop:=
 ∃W:Nat->Nat->List (Key×V)->Hp->Prop,(∃m,W 0 m [] H)/\∀i m ys H,W i m ys H->
  (J.stop i H/\Q ys H)∨(J.go i H/\ys.length<X3/\∃N:List (Key×V)->Hp->Prop,(∀q H',N q H'->∃O,O<m/\W (i+1) O q H')/\
   ∀x H',J.yld i H x H'->g x σ H' λσ2 H2=>Kp σ σ2/\tt σ2 H2 λb Y=>if b=true then tk σ2 Y λx F=>∃k,x=kV k/\tv σ2 F λv U=>N (putK ys k v) U else N ys Y)
def Lf(cap:List (Option Nat))(wi:TI)(g:TG)(tt:TT)(tk tv:TE):TE:=λσ H Q=>wi σ H λJ H1=>
 Nj J H1 g tt tk tv (fX cap σ) λys H2=>ys.length<=X3/\∀D,H2 D=none->Q (.ref D) (upd H2 D (.dK ys))
section
variable{X:Cx}{kx vx target iter:Expr}{ifs:List Expr}{scope:Scope}{pos:Pos}{N':List Str}{cap:List (Option Nat)}{wi:TI}{g:TG}{tt:TT}{tk tv:TE}
structure DO(P:Program)(w:World)(vs:List (Key×Value))(o:Obj):Prop where
 ex:o.ExactDict
 es:∃es ep,o.data= .dict es ep/\KeysOf (bz P w) es/\Pairs (bz P w) es.toList vs/\(vs.map (·.1)).Nodup
theorem DO.at{P:YG}{w:World}{vs:List (Key×Value)}{o:Obj}(d:DO P w vs o){h:Heap}{a:Addr}(e:h.get? a=some o):h.DictOf (bz P w) a vs:=let⟨es,ep,h1,h2,h3,h4⟩:=d.es;⟨o,es,ep,e,d.ex,h1,h2,h3,h4⟩
theorem DO.of{P:YG}{w:World}{vs:List (Key×Value)}{h:Heap}{a:Addr}(d:h.DictOf (bz P w) a vs):∃o,h.get? a=some o/\DO P w vs o:=let⟨o,es,ep,e,x,h1,h2,h3,h4⟩:=d;⟨o,e,⟨x,es,ep,h1,h2,h3,h4⟩⟩
theorem DO.nc{P:YG}{w:World}{vs:List (Key×Value)}{o:Obj}(d:DO P w vs o):∀v,o.data≠.cell v:=λv z=>by
 obtain⟨es,ep,h1,_⟩:=d.es;rw[h1]at z;cases z
theorem Bg{pins:List (Addr×Obj)}{σ:L2.St}{H:Hp}{Y:Mx}{it:Addr}{fp:List Addr}{tn:Nat->Heap->Prop}{J:It}{Q:List (Key×V)->Hp->Prop}{RR:Value->Addr->aeg->Mx->Prop}{E:Value->Mx->Prop}
  (Z:X.calm=true) (O:bH X.env.scope X.N N' scope cap) (I:Inv X pins σ H Y) (T:Turn X.prog X.w X.K target J fp it tn) (st:tn 0 Y.heap) (f2:∀b∈fp,jA X pins H b)
  (q:∀C,PG (bw X N' scope C Y H fp) target g) (ht:∀C,PTs (bw X N' scope C Y H fp) ifs tt) (hk:∀C,PE (bw X N' scope C Y H fp) kx tk) (he:∀C,PE (bw X N' scope C Y H fp) vx tv) (cw:Nj J H g tt tk tv (fX cap σ) Q)
  (d0:∀(D C:Addr)(s':Mx)(H':Hp)(ys:List (Key×V))(its:List (Key×Value))(o:Obj)(F:L2.St),Y.heap.objs.size<=D->Y.heap.objs.size<=C->D≠C->Inv (bw X N' scope C Y H fp) [(D,o)] F H' s'->KV ys its->DO X.prog X.w its o->Q ys H'->
   RR (.ref D) C (.ok .next) s') :
  wpAny (model X.prog X.w) X.A newDict (λacc c5=>wpAny (model X.prog X.w) X.A (newFunctionEnv scope X.env.globals (oM scope X.env) [] X.env.qual none .none (some X.env)) (λb1 b7=>
   aag (model X.prog X.w) X.A (.compStart (.DictComp kx vx [⟨target,iter,ifs,0⟩] scope pos) 0 (.ref it) acc {b1 with scope:=relabel scope X.env}) (RR acc b1.locals) b7) E c5) E Y:=by
 refine YQ (aeB O.nocell (by intro y hy;simp at hy) (λa3 a1 a0=>?_) O.kind);dsimp only at a1 a0⊢;generalize b2:Y.heap.push {cls:=.type "dict",dict:=none,data:=.dict #[]}=H2 at a1 a0⊢;have hC:H2.objs.size=Y.heap.objs.size+1:=by rw[←b2,Ze]
 have a7:Y.heap.objs.size≠H2.objs.size:=by rw[hC];exact X8 (aaB _)
 have a5:Y.heap.objs.size<=H2.objs.size:=by rw[hC];exact ac1 _
 have b6:∀b o,Y.heap.get? b=some o->a3.get? b=some o:=λb o e=>a0.extBut b o (by rw[hC];exact X8 (Z2 (XR e))) (qb _ (b2▸qb _ e));have c4:H2.DictOf (bz X.prog X.w) Y.heap.objs.size []:=b2▸ad1 Y.heap;obtain⟨o0,d6,c0⟩:=DO.of c4;have c2:a3.get? Y.heap.objs.size=some o0:=a0.extBut _ _ a7 (qb _ d6);have a9:∀b∈fp,b<Y.heap.objs.size:=λb U=>by
  obtain⟨o,e,_⟩:=T.obj 0 _ st b U;exact XR e
 have I1:=Cw (tk:=Y.toks+([]:List (Str×Value)).length) I O f2 a9 a5 (XQ _) a7 b6 a1 c2 c0.nc;have b9:tn 0 a3:=T.keep _ _ _ st λb _ o e=>b6 b o e;obtain⟨W,⟨m0,w0⟩,c3⟩:=cw;generalize hD:Y.heap.objs.size=D at *
 generalize d8:H2.objs.size=C at *
 have a8:∀{H':Hp}{o:Obj},(∀b∈fp,H' b=none)->∀b∈fp,jA (bw X N' scope C Y H fp) [(D,o)] H' b:=λ{H' o} hn b U=>by
  refine⟨hn b U,X8 (Yk (a9 b U) a5),I1.ok.exfs b U,.inl U,(I1.ok.exf b U).2,λp hp=>?_⟩;have e:p=(D,o):=by simpa[bw]using hp
  subst e;exact Zx (a9 b U)
 have b0:aag (model X.prog X.w) X.A (.compLoop (.DictComp kx vx [⟨target,iter,ifs,0⟩] scope pos) 0 (.ref it) (.ref D) (compEnvC scope (oM scope X.env) C X.env)) (RR (.ref D) C) {Y with heap:=a3,toks:=Y.toks+([]:List (Str×Value)).length}:=by
  refine wK (λn s'=>∃i ys its k H',Inv (bw X N' scope C Y H fp) [(D,k)] (fX cap σ) H' s'/\(KV ys its/\DO X.prog X.w its k)/\tn i s'.heap/\(∀b∈fp,H' b=none)/\W i n ys H') ?_ m0 ⟨0,[],[],o0,H,I1,⟨.nil,c0⟩,b9,λb U=>(f2 b U).1,w0⟩;rintro n s3 ⟨i,ys,its,k,H3,I3,⟨rv,dk⟩,c1,b3,w3⟩;rcases c3 i n ys H3 w3 with⟨stop,qn⟩|⟨go,hsz,N,hN,step⟩
  .refine thn (T.done (bw X N' scope C Y H fp) rfl rfl rfl Z i _ s3 _ H3 NoX I3 (a8 b3) c1 stop) λr s4 ⟨hr,I4⟩=>?_
   subst hr;exact d0 D C s4 H3 ys its k _ (XQ _) a5 a7 I4 rv dk qn
  .refine thn (T.item (bw X N' scope C Y H fp) rfl rfl rfl Z i _ s3 _ H3 NoX I3 (a8 b3) c1 go) λr s4 ⟨u,hr,h4⟩=>?_
   subst hr;refine thn h4 λ_ s5 ⟨x,H5,I5,r5,y5,a6,d1⟩=>?_;have d2:=I5.pinned (a8 d1) (T.obj _ _ a6);refine thn (q C _ s5 _ H5 x u _ d2 r5 (step x H5 y5)) λ_ s6 ⟨a2,H6,I6,b5,q6⟩=>?_;refine thn (ht C _ s6 a2 H6 _ I6 q6) λok s7 ⟨H7,I7,q7⟩=>?_;have a4:∀{s':Mx}{H':Hp}{F:L2.St},Inv (bw X N' scope C Y H fp) ([(D,k)]++jT fp s5.heap) F H' s'->tn (i+1) s'.heap/\∀b∈fp,H' b=none:=λ{s' H' F} Ix=>by
    refine⟨T.keep _ _ _ a6 λb U o e=>(Ix.pin (b,o) (XD _ (XD _ (dH U e)))).1,λb U=>?_⟩;obtain⟨o,e,d⟩:=T.obj _ _ a6 b U;exact(Ix.pin (b,o) (XD _ (XD _ (dH U e)))).2.1
   have b4:(fX cap σ).length=a2.length:=by rw[I6.len,I1.len]
   cases ok with
   |false=>
    have n7:N ys H7:=by simpa using q7
    obtain⟨m',hm,w7⟩:=hN _ _ n7;exact⟨m',hm,i+1,ys,its,k,H7,I7.unpinned.weak b4 b5,⟨rv,dk⟩,(a4 I7).1,(a4 I7).2,w7⟩
   |true=>
    have q7:tk a2 H7 λx H4=>∃k',x=kV k'/\tv a2 H4 λv H5=>N (putK ys k' v) H5:=by simpa using q7
    refine thn (hk C _ s7 a2 H7 _ I7 q7) λuk d5 ⟨xk,c8,c6,c9,kk,ek,d7⟩=>?_;subst ek;refine thn (he C _ d5 a2 c8 _ c6 d7) λu8 s8 ⟨v,H8,I8,r8,n8⟩=>?_;obtain⟨eD,nD,_,d4,_⟩:=I8.pin (D,k) (XD _ (X6 _ Yw));have lv:=rv.length;refine aeT (oE c9) (dk.at eD) (λh9 c7 d3=>?_) (by omega);obtain⟨m',hm,w8⟩:=hN _ _ n8;obtain⟨o9,eN,b8⟩:=DO.of c7;have I9:Inv (bw X N' scope C Y H fp) (jT fp s5.heap) a2 H8 {s8 with heap:=h9,toks:=s8.toks+1}:=by
     refine Inv.turned (it:=D) (t':=s8.toks+1) (I8.pins_of λp hp=>I8.pin p (XD _ (XD _ hp))) (λb o U e=>d3.extBut b o U e) nD a7 (.inr (by rw[←hD];exact XQ _)) (λx c e z=>?_) (λp hp z=>?_)
     .obtain⟨vc,oc,h1,_⟩:=I.cell x c (iK I O e)
      have hh:=XR h1;rw[z,hD]at hh;exact Zn _ hh
     .have hp:p∈jT fp s5.heap:=hp
      have hh:=a9 p.1 (qY hp).1;rw[z]at hh;exact Zn _ hh
    refine⟨m',hm,i+1,putK ys kk v,stored its kk u8,o9,H8,(I9.weak b4 b5).pins_of (λp hp=>?_),⟨rv.put kk r8,b8⟩,?_,λb U=>?_,w8⟩
    .have e:p=(D,o9):=Yh.mp hp
     rw[e];exact⟨eN,nD,a7,d4,b8.nc⟩
    .exact T.keep _ _ _ a6 λb U o e=>(I9.pin (b,o) (XD _ (dH U e))).1
    .obtain⟨o,e,d⟩:=T.obj _ _ a6 b U
     exact(I9.pin (b,o) (XD _ (dH U e))).2.1
 exact codeAny_compStart_dict b0 (T.self _ 0 _ _ _ b9 b0)
end
theorem yc{F:α->β->Prop}:∀{xs:List α}{ys:List β},adG F xs ys->∀{i:Nat}{a:α}{b:β},xs[i]? =some a->ys[i]? =some b->F a b
 |_,_,.nil,i,a,b,h,_=>by simp at h
 |_,_,.cons p r,0,a,b,h1,h2=>by cases h1;cases h2;exact p
 |_,_,.cons p r,i+1,a,b,h1,h2=>yc r (i:=i) (by simpa using h1) (by simpa using h2)
theorem Nb{F:L2.St}{H2 H':Hp}{s2:Mx}{D C:Addr}{ob:HO}(I2:Inv X pins σ H2 s2)(N:∀b∈fp,jA X pins H2 b)
  (hD:s2.heap.objs.size<=D) (hC:s2.heap.objs.size<=C) (J:D≠C) (Y:Inv (bw X N' scope C s2 H2 fp) [(D,o)] F H' s') (new:∀h',h'.get? D=some o->cI X.prog X.w (upd H' D ob) h' D ob)
  (h':Heap) (sb:aaF C s'.heap h'):Inv X pins σ (upd H' D ob) {s' with heap:=h'}:=by
 obtain⟨eD,O,_,a0,_⟩:=Y.pin (D,o) (XD _ Yw);refine I2.call' (ch:=fp) Y.os ?_ ?_ Y.bare (λb U=>⟨(N b U).2.2.2.1,(N b U).2.1,(N b U).2.2.2.2.1,(N b U).2.2.2.2.2⟩)
 .have ne:∀b o,s2.heap.get? b=some o->b≠C/\b≠D:=λb o e=>⟨X8 (Yk (XR e) hC),X8 (Yk (XR e) hD)⟩
  refine⟨λb o e n U V=>sb.extBut b o (ne b o e).1 (Y.base.keep b o e n U V),λb o e n U V=>?_,λb o e n V=>?_,λb o e V=>?_,λb xs e=>?_,λb o u e=>?_,λb ps e=>?_⟩
  .obtain⟨sl,e1⟩:=Y.base.slot b o e n U V
   exact⟨sl,sb.extBut b _ (ne b o e).1 e1⟩
  .rw[aM (ne b o e).2]
   exact Y.base.free b o e n V
  .obtain⟨o',e1⟩:=Y.base.there b o e V
   exact⟨o',sb.extBut b _ (ne b o e).1 e1⟩
  .have e1:=Y.base.tups b xs e
   rw[aM (aY e1 O)];exact e1
  .have e1:=Y.base.frzs b o u e
   rw[aM (aY e1 O)];exact e1
  .obtain⟨more,e1⟩:=Y.base.tbls b ps e
   refine⟨more,?_⟩;rw[aM (aY e1 O)];exact e1
 .intro b u e
  by_cases U:b=D
  .subst U
   rw[aU]at e;cases e;exact new h' (sb.extBut _ _ J eD)
  .rw[aM U]at e
   have nC:∀b u,H' b=some u->b≠C:=λb u e z=>by
    have hf:H' C=none:=Y.free;rw[z,hf]at e;cases e
   refine(Y.hok b u e).stay (λc v Z q=>sb.extBut c v ?_ q) (λc q=>by rw[aM (aY q O)];exact q) λc xs q=>by rw[aM (aY q O)];exact q
   rcases Z with z|z
   .rw[z]
    exact nC b u e
   .exact nC c _ z
section
variable{X:Cx}{elt kx vx target iter:Expr}{ifs:List Expr}{scope:Scope}{pos pos' pos2:Pos}{N':List Str}{cap:List (Option Nat)}{wi:TI}{g:TG}{tt:TT}{te tk tv:TE}
theorem GJ{pins:List (Addr×Obj)}{σ F:L2.St}{H2 H':Hp}{Z s':Mx}{fp:List Addr}{D C:Addr}{o:Obj}{ob:HO}{i:Nat}{x:Str}{Dn:Ends}(V:Inv X pins σ H2 Z)(f2:∀b∈fp,jA X pins H2 b)
  (hD:Z.heap.objs.size<=D) (hC:Z.heap.objs.size<=C) (a3:D≠C) (Y:Inv (bw X N' scope C Z H2 fp) [(D,o)] F H' s') (new:∀h',h'.get? D=some o->cI X.prog X.w (upd H' D ob) h' D ob)
  (O:X.N.Nodup) (hi:X.N[i]? =some x) (J:Loc X.env.scope x) (hf:X.fn x=true∨X.env.scope.names.lookup x=some .local) (q:Dn.nx (σ.set i (some (.ref D))) (upd H' D ob)) :
  wpAny (model X.prog X.w) X.A (assignAll (.ref D) ((Zt [.Name x pos'] X.env).map (·.2))) (λ_ a0=>∃m,a0.heap.Ns C m/\∀h',aaF C a0.heap h'->SP X pins Dn .next {a0 with heap:=h'}) X.xe s':=by
 have I3:Inv X pins σ (upd H' D ob) s':=Nb V f2 hD hC a3 Y new s'.heap ⟨rfl,λ_ _=>rfl⟩;obtain⟨m,a1,_⟩:=Y.loc;obtain⟨a6,nD,_,a5,_⟩:=Y.pin (D,o) (XD _ Yw);have a1:s'.heap.Ns C m:=a1;have a2:upd H' D ob C=none:=by
  rw[aM (YC a3)];exact Y.free
 obtain⟨f0,f1,a4,f3,f4,f5⟩:=V.fpOk hC (V.hok.fresh hC);have fC:jA X pins (upd H' D ob) C:=⟨a2,f1,a4,f3,f4,f5⟩;obtain⟨oC,es,ep,gC,dC,k1,k2⟩:=a1;have I4:=I3.pinned (fp:=[C]) (λb U=>by rw[Yh.mp U];exact fC) λb U=>⟨oC,by rw[Yh.mp U];exact gC,λv z=>by rw[dC]at z;cases z⟩;have ea:assignAll (.ref D) ((Zt [.Name x pos'] X.env).map (·.2))=abU (.Name x pos') X.env (.ref D):=by
  unfold assignAll;simp[Zt]
 rw[ea];refine wpAny_assign_Name (mU I4 O hi J (v:=.ref D) rfl (λa0 I5=>⟨m,?_,λh' sb=>?_⟩) hf)
 .exact⟨oC,es,ep,(I5.pin (C,oC) (XD _ (XD _ (dH (Yh.mpr rfl) gC)))).1,dC,k1,k2⟩
 .exact⟨_,_,I5.unpinned.turned (t':=a0.toks) (λb o U e=>sb.extBut b o U e) a2 f1 f3 f4 f5,q⟩
theorem Qw{i:Nat}{x:Str}(hx:X.xe=NoX)(Z:X.calm=true)(hN:X.N.Nodup)(hi:X.N[i]? =some x)(hl:Loc X.env.scope x)(O:bH X.env.scope X.N N' scope cap)(a2:PI X target iter wi)
  (hg:∀C Y H fp,PG (bw X N' scope C Y H fp) target g) (U:∀C Y H fp,PTs (bw X N' scope C Y H fp) ifs tt) (V:∀C Y H fp,PE (bw X N' scope C Y H fp) elt te)
  (hw:abD (.ListComp elt [⟨target,iter,ifs,0⟩] scope pos) (some (.Name x pos')) pos2.line X.env=pure true:=by rfl) (hs:∀x,ZF iter X.env x=pure x:=by intro _;rfl)
  (hf:X.fn x=true∨X.env.scope.names.lookup x=some .local:=by first|exact .inl rfl|exact .inr rfl|assumption):PS X (.Assign [.Name x pos'] (.ListComp elt [⟨target,iter,ifs,0⟩] scope pos) pos2) (Oe (Fq cap wi g tt te) (uM i)):=by
 intro pins s σ H Dn I h;rw[adZ];refine gD (aaP ?_);rw[show abj [.Name x pos'] (.ListComp elt [⟨target,iter,ifs,0⟩] scope pos) pos2.line X.env=pure true from hw];refine gD (yr ?_);rw[X7 rfl,arm_evalThenUse_ListComp];refine gD (gD (abY (use:=some _) rfl hs (jW λy hy hk=>I.ok.has y.1 (O.free y hy hk)) O.kind O.nm (thn (a2 pins s σ H _ I h) λv s1 h1=>thn h1 λa3 s2 h2=>?_)));obtain⟨it,fp,tn,J,H2,e,I2,T,a0,f2,cw⟩:=h2;subst e;refine u_ (RR:=λacc C=>compPost (model X.prog X.w) X.A X.xe (some _) _ acc C) Z O I2 T a0 f2 (λC=>hg C _ _ _) (λC=>U C _ _ _) (λC=>V C _ _ _) cw ?_;intro D C s' H' ys its n F hD hC a1 I' rv q;obtain⟨hz,q⟩:=q;have nD:=(I'.pin (D,lobj its n) (XD _ Yw)).2.1;refine thn (GJ (ob:=.lst ys) (Dn:=Dn) (pos':=pos') I2 f2 hD hC a1 I' (λh' e=>⟨hz,its,n,rv,e⟩) hN hi hl hf (q D nD)) λ_ a4 ⟨m,h1,h2⟩=>⟨m,h1,λh' sb=>yr (yr (h2 h' sb))⟩
theorem Qd{i:Nat}{x:Str}(hx:X.xe=NoX)(Z:X.calm=true)(hN:X.N.Nodup)(hi:X.N[i]? =some x)(hl:Loc X.env.scope x)(O:bH X.env.scope X.N N' scope cap)(a2:PI X target iter wi)
  (hg:∀C Y H fp,PG (bw X N' scope C Y H fp) target g) (U:∀C Y H fp,PTs (bw X N' scope C Y H fp) ifs tt) (hk:∀C Y H fp,PE (bw X N' scope C Y H fp) kx tk) (V:∀C Y H fp,PE (bw X N' scope C Y H fp) vx tv)
  (hw:abD (.DictComp kx vx [⟨target,iter,ifs,0⟩] scope pos) (some (.Name x pos')) pos2.line X.env=pure true:=by rfl) (hs:∀x,ZF iter X.env x=pure x:=by intro _;rfl)
  (hf:X.fn x=true∨X.env.scope.names.lookup x=some .local:=by first|exact .inl rfl|exact .inr rfl|assumption):PS X (.Assign [.Name x pos'] (.DictComp kx vx [⟨target,iter,ifs,0⟩] scope pos) pos2) (Oe (Lf cap wi g tt tk tv) (uM i)):=by
 intro pins s σ H Dn I h;rw[adZ];refine gD (aaP ?_);rw[show abj [.Name x pos'] (.DictComp kx vx [⟨target,iter,ifs,0⟩] scope pos) pos2.line X.env=pure true from hw];refine gD (yr ?_);rw[X7 rfl,arm_evalThenUse_DictComp];refine gD (gD (abY (use:=some _) rfl hs (jW λy hy hk=>I.ok.has y.1 (O.free y hy hk)) O.kind O.nm (thn (a2 pins s σ H _ I h) λv s1 h1=>thn h1 λa3 s2 h2=>?_)));obtain⟨it,fp,tn,J,H2,e,I2,T,a0,f2,cw⟩:=h2;subst e;refine Bg (RR:=λacc C=>compPost (model X.prog X.w) X.A X.xe (some _) _ acc C) Z O I2 T a0 f2 (λC=>hg C _ _ _) (λC=>U C _ _ _) (λC=>hk C _ _ _) (λC=>V C _ _ _) cw ?_;intro D C s' H' ys its o F hD hC a1 I' rv dk q;obtain⟨hz,q⟩:=q;have nD:=(I'.pin (D,o) (XD _ Yw)).2.1;refine thn (GJ (ob:=.dK ys) (Dn:=Dn) (pos':=pos') I2 f2 hD hC a1 I' (λh' e=>⟨hz,beq_eq_false_iff_ne.mpr (YC (X8 (Yk I2.big hD))),its,rv,dk.at e⟩) hN hi hl hf (q D nD)) λ_ a4 ⟨m,h1,h2⟩=>⟨m,h1,λh' sb=>yr (yr (h2 h' sb))⟩
end
theorem wV:∀(more:List (Key×V)){kvs:List (Key×V)}{vs F:List (Key×Value)},KV kvs vs->KV more F->KV (putAll kvs more) (merged vs F)
 |[],kvs,vs,_,r,.nil=>r
 |p::m,kvs,vs,_::F,r,.cons h q=>by
  have e1:putAll kvs (p::m)=putAll (putK kvs p.1 p.2) m:=rfl;rw[e1];have:=wV m (r.put p.1 h.2) q;rw[h.1]at this;rw[h.1];exact this
def Ff:V->List V->Hp->VK->Prop:=λx vs H Q=>∃D kvs,x= .ref D/\H D=some (.dK kvs)/\
 ((∃l ys prs,vs=[.ref l]/\H l=some (.lst ys)/\Z0 prs=Z0 ys/\kvs.length+Z0 prs<=50000/\(∀(j:Nat)(k:Key)(v:V),prs[j]? =some (k,v)->∃p:Addr,ys[j]? =some (V.ref p)/\H p=some (.tup [kV k,v]))/\Q .non (upd H D (.dK (putAll kvs prs))))∨
  (∃o more,vs=[.ref o]/\o≠D/\H o=some (.dK more)/\kvs.length+more.length<=50000/\Q .non (upd H D (.dK (putAll kvs more)))))
theorem Jf(Z:X.calm=true):MtM X "dict.update" Ff:=by
 intro pins s σ H x vs v us Q I rx J h;obtain⟨D,kvs,rfl,hD,h⟩:=h;cases rx;have O:X.A.handled=none:=I.ok.hd Z;have a9:200000<=X3:=by decide
 obtain⟨z,a5,ds,rel,dd⟩:=Ai I.hok hD;rcases h with⟨l,ys,prs,rfl,Y,U,hsz,hp,q⟩|⟨o,more,rfl,N,hO,hsz,q⟩
 .obtain⟨u,rfl,ru⟩:=J.one
  cases ru;obtain⟨_,its,n,b0,el⟩:=(show cI X.prog X.w _ _ l (.lst ys)from I.hok l _ Y);have a7:s.TypeIs (.ref l) "list":=⟨_,el,rfl⟩;refine call_meetsIn ae8 dd.typeIs aeU (aeE _ _) (S:=λA R s'=>A=X.A/\s'=s/\∀s2,Inv X pins σ (upd H D (.dK (putAll kvs prs))) s2->R (.ok (.ret .none)) s2) ?_ ⟨rfl,rfl,λs2 I2=>⟨.non,_,I2,rfl,q⟩⟩;rintro A R s' ⟨rfl,rfl,k⟩;unfold Builtin.«dict.update»;refine gD ?_;unfold adM;refine gD (aek dd.typeIs ?_);show wpAny _ _ (pure (D,[YD l])) _ _ _;refine yr ?_;show wpAny _ _ (abi "dict.update" D (.ref l) [] .none) _ _ _;unfold abi;refine gD (aaH a7 ?_);rw[X7 (by decide)];refine gD (mG (show X.A.in1.handled=none from O) el λh2 a0 a2=>?_);rw[X7 (by rfl)];have I2:Inv X pins σ H {s' with heap:=h2,toks:=a0}:=I.kept (t':=a0) a2;obtain⟨a8,b1,p2,_⟩:=I2.list (SqL.of Y);refine gD (aap (gD (aaT p2.isList ?_)));have I3:Inv X pins σ H {s' with heap:=h2.push {cls:=.type "list_iterator",data:=.fields #[.ref l,.int 0 0]},toks:=a0}:=I2.kept (t':=a0) λb o e=>qb _ e;have a4:jA X pins H h2.objs.size:=I2.fpOk (XQ _) (I2.hok.fresh (XQ _));refine yr ⟨Zo F.plain_dict_update_loop _,?_⟩;refine xP (A:=X.A) (l:=l) (xs:=ys) (prs:=prs) O U ys.length 0 kvs _ _ rfl (aai _) I3 hD (SqL.of Y) a4 ⟨_,X4 _ rfl,rfl,rfl⟩ hp (by omega) λs2 I4=>?_;rw[ael]at I4;exact k s2 I4
 .obtain⟨u,rfl,ru⟩:=J.one
  cases ru;obtain⟨z2,a3,ms,a1,a6⟩:=Ai I.hok hO;have l1:=rel.length;have l2:=a1.length;refine call_meetsIn ae8 dd.typeIs aeU (aeE _ _) (meets_dict_update (bz X.prog X.w) D o (YC N) a3) ⟨ds,ms,dd,a6,by omega,λh' d1 d2 sb=>?_⟩;have V:∃q,h'.get? D=some q:=let⟨q,_,_,hq,_⟩:=d1;⟨q,hq⟩;have b2:=uJ more kvs;exact⟨.non,_,qj (t':=s.toks) I (by rw[hD];exact Zy) sb V (yI (by omega) a5 (wV more rel a1) d1),rfl,q⟩
mutual
noncomputable def pyD:Dt->PyData
 |.non=>.none
 |.bl b=>.bool b
 |.int i=>.int i
 |.str x=>.str x
 |.lst ds=>.list (pyL ds)
 |.tup ds=>.tuple (pyL ds)
noncomputable def pyL:List Dt->List PyData
 |[]=>[]
 |d::r=>pyD d::pyL r
end
mutual
theorem noDict:∀d:Dt,aa3 (pyD d)=false
 |.non=>by simp[pyD,aa3]
 |.bl _=>by simp[pyD,aa3]
 |.int _=>by simp[pyD,aa3]
 |.str _=>by simp[pyD,aa3]
 |.lst ds=>by simp[pyD,aa3,ym ds]
 |.tup ds=>by simp[pyD,aa3,ym ds]
theorem ym:∀ds:List Dt,adq (pyL ds)=false
 |[]=>by simp[pyL,adq]
 |d::r=>by simp[pyL,adq,noDict d,ym r]
end
mutual
theorem Ae{X:Cx}{pins:List (Addr×Obj)}{σ:L2.St}{H:Hp}{s:Mx}(I:Inv X pins σ H s):∀(d:Dt)(x:V)(u:Value),Brs X.K H d x->RelV x u->∃Z,Reads s.heap u (pyD d) Z
 |.non,x,u,h,r=>by simp![Brs]at h;subst h;cases (show u=YT from r);exact⟨_,.none⟩
 |.bl b,x,u,h,r=>by simp![Brs]at h;subst h;cases (show u=adz b from r);exact⟨_,.bool b⟩
 |.int i,x,u,h,r=>by simp![Brs]at h;subst h;obtain⟨t,rfl⟩:=(show ∃t,u=aad i t from r);exact⟨_,.int i t⟩
 |.str y,x,u,h,r=>by simp![Brs]at h;subst h;obtain⟨t,rfl⟩:=(show ∃t,u=abT y t from r);exact⟨_,.str y t⟩
 |.lst ds,x,u,h,r=>by
  simp![Brs]at h;obtain⟨a,xs,rfl,N,U⟩:=h;cases (show u=YD a from r);obtain⟨its,J,p,_⟩:=I.list N;obtain⟨Z,Y⟩:=rJ I ds xs its U J;obtain⟨o,h1,h2,n,F⟩:=p.isList;exact⟨_,.list h1 h2 F Y⟩
 |.tup ds,x,u,h,r=>by
  simp![Brs]at h;obtain⟨a,xs,rfl,N,U⟩:=h;cases (show u=YD a from r);obtain⟨its,J,p,_⟩:=I.tuple N;obtain⟨Z,Y⟩:=rJ I ds xs its U J;obtain⟨o,h1,h2,n,F⟩:=p;exact⟨_,.tuple h1 h2 F Y⟩
theorem rJ{X:Cx}{pins:List (Addr×Obj)}{σ:L2.St}{H:Hp}{s:Mx}(I:Inv X pins σ H s):∀(ds:List Dt)(xs:List V)(us:List Value),j0 X.K H ds xs->Vals xs us->∃Z,ReadsAll s.heap us (pyL ds) Z
 |[],xs,us,h,r=>by simp![j0]at h;subst h;cases r;exact⟨_,.nil⟩
 |d::ds,xs,us,h,r=>by
  simp![j0]at h;obtain⟨x,ys,rfl,h1,h2⟩:=h;cases r with
  |cons p q=>
   obtain⟨Z,Y⟩:=Ae I d x _ h1 p;obtain⟨bs,U⟩:=rJ I ds ys _ h2 q;exact⟨_,.cons Y U⟩
end
end Jb
namespace PySem
open PySem.Builtin PySem.Builtin.SmallTypes
def yV(id:String):Builtin:=λargs=>do
 let x ←slotArgs "__next__" 0 args
 match x with
 |(self,snd)=>do
  let seq ←field self 0
  let q:Unit->Sem ae9:=λ_=>do
   let y ←field self 1
   match y with
   |aad i tok=>do
    let z ←ab0 seq
    match z with
    |some xs=>
     match xs[i.toNat]? with
     |some v=>do
      setField self 1 (Zk (i+1))
      ret v
     |none=>do
      rule (toString id++toString ".end")
      setField self 0 YT
      adi
    |_=>abL (toString "internal:"++toString id)
   |_=>abL (toString "internal:"++toString id)
  if(seq==YT)=true then do
   rule (toString id++toString ".ended")
   let r ←adi
   q r
  else q ()
theorem tR:Builtin.«tuple_iterator.__next__»=yV "tuple_iterator.__next__":=rfl
section
variable{prog:Program}{w:World}{A:Around}{E:Value->Shared->Prop}{it t:Addr}{i:Nat}{items:Array Value}{h:Heap}{g:Array GenState}{d:Drawn}{tk:Nat}{os:OsState}
theorem fQ{x:Value}{Q:Value->Mx->Prop}(st:h.IsTupleIter it t i)(p:h.IsTuple t items)(J:items[i]? =some x)
  (Y:∀h',h'.IsTupleIter it t (i+1)->aaF it h h'->Q x ⟨h',g,d,tk,os⟩):wpAny (model prog w) A (aaZ (.ref it)) Q E ⟨h,g,d,tk,os⟩:=by
 have V:(⟨h,g,d,tk,os⟩:Mx).TypeIs (.ref it) "tuple_iterator":=st.typeIs;unfold aaZ;refine gD (Zb V ZX ?_);obtain⟨o,N,Z,hd⟩:=st;obtain⟨q,h1,h2,n,O⟩:=p
 repeat(any_goals(first|assumption|wp_step))
 refine Zm ZX.plain ac7 (ZX.check _ _ _ _ _ _ _ _ V (ac0 _) ?_);rw[tR];unfold yV
 repeat(any_goals(first|assumption|wp_step))
 rw[hd];refine yr (yr ?_);show wpAny _ _ (if(YD t==YT)=true then _ else _) _ _ _;rw[show(YD t==YT)=false from rfl,Yc YS]
 repeat(any_goals(first|assumption|wp_step))
 rw[hd];refine yr (yr ?_);show wpAny _ _ (ab0 (YD t) >>=_) _ _ _;refine gD (aaa h1 O ?_);dsimp only;have hi:(i:Int).toNat=i:=ZG i;rw[hi,J];dsimp only;refine gD (wpAny_setField N hd (by show 1<2;decide) ?_);refine yr ?_;dsimp only;refine yr (Y _ ?_ ⟨afE ..,λb U=>Y8 h _ (YC U)⟩);refine⟨_,aaK _ N (aej (ac6 hd _)),(afr ..).trans Z,?_⟩;rw[ac6 hd];have e1:(((i+1:Nat)):Int)=(i:Int)+1:=by omega
 rw[e1];rfl
theorem Mi{α:Type}{Q:α->Mx->Prop}(O:A.handled=none)
  (N:∀h' e,(∀b o,h.get? b=some o->h'.get? b=some o)->(∃o,h'.get? e=some o/\o.cls= .type "StopIteration")->E (.ref e) ⟨h',g,d,tk,os⟩):wpAny (model prog w) A (adi:Sem α) Q E ⟨h,g,d,tk,os⟩:=by
 unfold adi
 repeat(any_goals(first|assumption|wp_step))
 unfold raiseNew;refine gD (adh ?_);rw[O];dsimp only;exact acp (N _ _ (λb o e=>qb _ (qb _ e)) ⟨_,X4 _ rfl,rfl⟩)
theorem jZ{Q:Value->Mx->Prop}(O:A.handled=none)(st:h.IsTupleIter it t i)(p:h.IsTuple t items)(J:items[i]? =none)
  (hq:∀h' e,Heap.ExtBut it h h'->(∃o,h'.get? e=some o/\o.cls= .type "StopIteration")->E (.ref e) ⟨h',g,d,tk,os⟩):wpAny (model prog w) A (aaZ (.ref it)) Q E ⟨h,g,d,tk,os⟩:=by
 have hT:(⟨h,g,d,tk,os⟩:Mx).TypeIs (.ref it) "tuple_iterator":=st.typeIs;unfold aaZ;refine gD (Zb hT ZX ?_);obtain⟨o,N,Z,hd⟩:=st;obtain⟨ot,h1,h2,n,h3⟩:=p
 repeat(any_goals(first|assumption|wp_step))
 refine Zm ZX.plain ac7 (ZX.check _ _ _ _ _ _ _ _ hT (ac0 _) ?_);rw[tR];unfold yV
 repeat(any_goals(first|assumption|wp_step))
 rw[hd];refine yr (yr ?_);show wpAny _ _ (if(YD t==YT)=true then _ else _) _ _ _;rw[show(YD t==YT)=false from rfl,Yc YS]
 repeat(any_goals(first|assumption|wp_step))
 rw[hd];refine yr (yr ?_);show wpAny _ _ (ab0 (YD t) >>=_) _ _ _;refine gD (aaa h1 h3 ?_);dsimp only;have hi:(i:Int).toNat=i:=ZG i;rw[hi,J];dsimp only;refine gD (aap ?_);refine gD (wpAny_setField N hd (by show 0<2;decide) ?_);refine Mi (show A.in1.handled=none from O) λh' e Y V=>?_;exact hq h' e (λb ob U q=>Y b ob ((Y8 h _ (YC U)).trans q)) V
theorem Draws.tuple(O:A.handled=none)(it t:Addr)(Z:t≠it)(items:Array Value):Draws prog w A it [it,t] items.size (λi v=>items[i]? =some v) λi h=>h.IsTupleIter it t i/\h.IsTuple t items where
 live:=λi h st=>let⟨o,ho,_⟩:=st.1;⟨o,ho⟩
 frame:=λi h h' st k=>⟨st.1.at λo e=>k it (by simp) o e,let⟨o,h1,h2⟩:=st.2;⟨o,k t (by simp) o h1,h2⟩⟩
 item:=λi s Q E hi st k=>by
  obtain⟨h,g,d,tk,os⟩:=s;refine fQ st.1 st.2 (x:=items[i]) (by simp[hi]) λh' Y J=>k _ h' tk (by simp[hi]) ⟨Y,?_⟩ J;obtain⟨o,h1,h2⟩:=st.2;exact⟨o,(J.2 t Z).trans h1,h2⟩
 done:=λs Q E st k=>by
  obtain⟨h,g,d,tk,os⟩:=s;exact jZ O st.1 st.2 (by simp) λh' e U V=>k h' e U V
theorem Draws.tupleEnd(O:A.handled=none)(it t:Addr)(i:Nat)(items:Array Value)(J:items[i]? =none):Draws prog w A it [it,t] i (λ_ _=>False) λj h=>j=i/\h.IsTupleIter it t i/\h.IsTuple t items where
 live:=λj h st=>let⟨o,ho,_⟩:=st.2.1;⟨o,ho⟩
 frame:=λj h h' st k=>⟨st.1,st.2.1.at λo e=>k it (by simp) o e,let⟨o,h1,h2⟩:=st.2.2;⟨o,k t (by simp) o h1,h2⟩⟩
 item:=λj s Q E V st k=>absurd st.1 (X8 V)
 done:=λs Q E st k=>by
  obtain⟨h,g,d,tk,os⟩:=s;exact jZ O st.2.1 st.2.2 J λh' e U q=>k h' e U q
theorem uP{Q:ae9->Mx->Prop}(F:h.IsTuple t items)
  (N:Q (.done (.ret (.ref (h.objs.size+1)))) ⟨(h.push {cls:=.type "tuple_iterator",data:=.fields #[.ref t,.int 0 0]}).push {cls:=.type "enumerate",data:=.fields #[.none,.bool false,.ref h.objs.size,Zk 0,.none,.none]},g,d,tk,os⟩) :
  wpAny (model prog w) A (Builtin.«enumerate.__new__» ⟨[.type "enumerate",.ref t],[]⟩) Q E ⟨h,g,d,tk,os⟩:=by
 have J:=sub_enumerate
 repeat(any_goals(first|assumption|wp_step))
 refine wpAny_stack λst _ _ _=>?_;refine yr ?_;have V:wpAny (model prog w) A (do let it ←aee (.ref t);let r ←afU (Z_ "enumerate") (afk++[it,Zk 0,YT,YT]);ret r) Q E ⟨h,g,d,tk,os⟩:=by
  refine gD (wpAny_pyIter_tuple F ?_)
  repeat(any_goals(first|assumption|wp_step))
  rw[Ze];exact N
 dsimp only;split
 .split
  .refine gD (aa0 (a:=(YD t,none)) (by rfl) ?_)
   exact V
  .refine gD (aa0 (a:=(YD t,none)) (by rfl) ?_)
   exact V
 .rw[Yc (by decide)]
  refine gD (aa0 (a:=(YD t,none)) (by rfl) ?_);exact V
theorem mJ{Q:Value->Mx->Prop}(q:h.IsTuple t items)
  (N:∀h',IsEnum h' (h.objs.size+1) h.objs.size 0 .none->h'.IsTupleIter h.objs.size t 0->h'.objs.size=h.objs.size+2->(∀b o,h.get? b=some o->h'.get? b=some o)->Q (.ref (h.objs.size+1)) ⟨h',g,d,tk,os⟩) :
  wpAny (model prog w) A (call (.type "enumerate") [.ref t]) Q E ⟨h,g,d,tk,os⟩:=by
 have e1:((h.push {cls:=.type "tuple_iterator",data:=.fields #[.ref t,.int 0 0]}).push {cls:=.type "enumerate",data:=.fields #[.none,.bool false,.ref h.objs.size,Zk 0,.none,.none]}).get? (h.objs.size+1)=some {cls:=.type "enumerate",data:=.fields #[.none,.bool false,.ref h.objs.size,Zk 0,.none,.none]}:=by
  rw[←Ze h {cls:=.type "tuple_iterator",data:=.fields #[.ref t,.int 0 0]}];exact X4 _ rfl
 refine callType_newIn F.called_enumerate (by decide) (F.typeCall_enumerate_1 _) (F.newCall_enumerate_1 _) (λobj=>F.args_object_init_2 _ _) F.entry_enumerate_new (S:=λY R s'=>s'=⟨h,g,d,tk,os⟩/\R (.ok (.ret (.ref (h.objs.size+1)))) ⟨(h.push {cls:=.type "tuple_iterator",data:=.fields #[.ref t,.int 0 0]}).push {cls:=.type "enumerate",data:=.fields #[.none,.bool false,.ref h.objs.size,Zk 0,.none,.none]},g,d,tk,os⟩) ?_ ⟨rfl,⟨⟨_,e1,rfl⟩,N _ e1 ⟨_,qb _ (X4 _ rfl),rfl,rfl⟩ (by rw[Ze,Ze]) λb o e=>qb _ (qb _ e)⟩⟩;rintro Y R s' ⟨rfl,J⟩;exact uP q J
end
end PySem
namespace Jb
open PySem PySem.Spec PyProof.Rows L2
def Vo(K:XS)(a:Addr):It:=
 ⟨λi H=>∃xs x,SqT K H a xs/\xs[i]? =some x,λi H x H'=>∃p v,H p=none/\x= .ref p/\(∀xs,SqT K H a xs->xs[i]? =some v)/\H'=upd H p (.tup [.int i,v]),λi H=>∃xs,SqT K H a xs/\xs.length<=i⟩
theorem Er{K:XS}{x1}(a e it:Addr)(a3:e≠it)(a9:e≠a)(b3:it≠a) :
  Turn P w K (.Tuple elts x1 pos) (Vo K a) [e,it] e (λi h=>(∃a0,IsEnum h e it (i:Int) a0)/\h.IsTupleIter it a i)where
 mem:=by simp
 obj:=λi h st b U=>by
  obtain⟨⟨a0,V⟩,o,N,c,d⟩:=st;rcases XJ.mp U with z|z
  .subst z
   exact⟨_,V,λv z=>by cases z⟩
  .have z:b=it:=by simpa using z
   subst z;exact⟨o,N,λv z=>by rw[d]at z;cases z⟩
 keep:=λi h h' st k=>by
  obtain⟨⟨a0,V⟩,a1⟩:=st;exact⟨⟨a0,k e (by simp) _ V⟩,a1.at λo q=>k it (by simp) o q⟩
 item:=by
  intro X hP hw hK Z i pins s σ H E I F st hg;subst hP hw hK;obtain⟨xs,x,hq,J⟩:=hg;obtain⟨its,rv,p,hz⟩:=I.tuple hq;obtain⟨u,O,ru⟩:=rv.get J;obtain⟨⟨a0,V⟩,a1⟩:=st;have b2:i<its.toArray.size:=by simp;exact(XF.mp O).1
  have p':s.heap.IsTuple a its.toArray:=p;refine wpAny_pyNext_enum_itemD (Draws.tuple (show X.A.in1.handled=none from I.ok.hd Z) it a (YC b3) its.toArray) V ⟨a1,p'⟩ b2 a3 (λz=>by rcases XJ.mp z with q|q;exact a3 q;exact a9 (Yh.mp q)) λy h1 tk hy b1 a4 a8 b4 k1=>?_;have ey:y=u:=by
   have:its[i]? =some y:=by simpa using hy
   rw[O]at this;exact(Y4 this).symm
  subst ey;refine⟨.ref s.heap.objs.size,rfl,adg b1 λh2 a7 a2=>?_⟩;have b0:e<s.heap.objs.size:=XR V;have a5:s.heap.objs.size≠e:=Zx b0;have a6:h2.get? s.heap.objs.size=some {cls:=.type "tuple",data:=.seq #[.int i tk,y]}:=a2.extBut _ _ a5 a8;have I2:Inv X pins σ (upd H s.heap.objs.size (.tup [.int i,x])) {s with heap:=h2,toks:=tk+1}:=by
   refine p_ (fp:=[e,it]) (t':=tk+1) I F (λb o U q=>?_) (XQ _) ?_
   .have n1:b≠e:=λz=>U (by simp[z])
    have n2:b≠it:=λz=>U (by simp[z]);exact a2.extBut b o n1 (k1 b o n1 n2 q)
   .exact⟨by show 2<=X3;decide,[.int i tk,y],.cons ⟨_,rfl⟩ (.cons ru .nil),_,a6,rfl,_,rfl,rfl⟩
  refine⟨.ref s.heap.objs.size,upd H s.heap.objs.size (.tup [.int i,x]),I2,rfl,⟨_,x,I.hok.fresh (XQ _),rfl,λys hy=>by rw[I.tuple_inj hy hq];exact J,rfl⟩,?_,λb U=>?_⟩
  .refine⟨⟨y,?_⟩,a4.1.extBut a2.extBut (YC a3)⟩
   have e1:(((i+1:Nat)):Int)=(i:Int)+1:=by omega
   rw[e1];exact a7
  .rw[aM]
   .exact(F b U).1
   .intro z
    rw[z]at U;rcases XJ.mp U with q|q
    .exact a5 q
    .have q:s.heap.objs.size=it:=by simpa using q
     obtain⟨o,N,_⟩:=a1;exact absurd (XR N) (by rw[q];exact Zn _)
 done:=by
  intro X hP hw hK Z i pins s σ H E I F st hg;subst hP hw hK;obtain⟨xs,hq,J⟩:=hg;obtain⟨its,rv,p,hz⟩:=I.tuple hq;obtain⟨⟨a0,V⟩,a1⟩:=st;have Y:=rv.length;have p':s.heap.IsTuple a its.toArray:=p;refine wpAny_pyNext_enum_endD (Draws.tupleEnd (show X.A.in1.handled=none from I.ok.hd Z) it a i its.toArray (by simp;omega)) V ⟨rfl,a1,p'⟩ λh1 eb=>⟨rfl,?_⟩;exact jd (fp:=[e,it]) (t':=s.toks) I F λb o U q=>eb b o (λz=>U (by simp[z])) q
 self:=λA i s Q E st h=>by
  obtain⟨⟨a0,V⟩,_⟩:=st;exact aca V h
def Mf(K:XS)(ta:TA):TI:=λσ H R=>ta σ H λvs H1=>∃a,vs=[.ref a]/\(((∃xs,SqL K H1 a xs)/\R (Ite K a) H1)∨((∃xs,SqT K H1 a xs)/\R (Vo K a) H1))
variable{X:Cx}{p:Pos}
theorem Lg{a:Expr}{ta:TA}{x1}(hg:Gl X "enumerate")(J:X.mg "enumerate"=none)(Y:PA X [a] ta)(hs:X_ [a] X.env=[(false,eval a X.env)]:=by rfl):PI X (.Tuple elts x1 tpos) (.Call (.Name "enumerate" p) [a] [] pos) (Mf X.K ta):=by
 intro pins s σ H R I h;refine Call_ (kY I hg J boot_enumerate (aaf (thn (Y pos pins s σ H _ I h) λus O ⟨vs,H1,I1,r1,q1⟩=>?_) hs rfl));obtain⟨l,e,q⟩:=q1;subst e;obtain⟨u,rfl,ru⟩:=vals1 r1;cases ru;have fin:∀b∈[O.heap.objs.size+1,O.heap.objs.size],jA X pins H1 b:=λb U=>by
  have Z:O.heap.objs.size<=b:=by
   rcases XJ.mp U with z|z
   .rw[z];exact ac1 _
   .have z:b=O.heap.objs.size:=by simpa using z
    rw[z];exact XQ _
  exact I1.fpOk Z (I1.hok.fresh Z)
 rcases q with⟨⟨xs,N⟩,q⟩|⟨⟨xs,N⟩,q⟩
 .obtain⟨its,rv,pl,hz⟩:=I1.list N
  refine call_enumerate_list pl.isList λh1 V a0 hsz k1=>?_;have I2:Inv X pins σ H1 {O with heap:=h1}:=I1.kept (t':=O.toks) k1;refine aca V ?_;exact⟨O.heap.objs.size+1,[O.heap.objs.size+1,O.heap.objs.size],_,_,H1,rfl,I2,Ht l _ _ (afF _),⟨⟨_,V⟩,a0⟩,fin,q⟩
 .obtain⟨its,rv,pl,hz⟩:=I1.tuple N
  have a1:O.heap.IsTuple l its.toArray:=pl;have a2:l<O.heap.objs.size:=let⟨_,h1,_⟩:=a1;XR h1;obtain⟨F,g,d,tk,os⟩:=O;refine mJ a1 λh1 V a0 hsz k1=>?_;have I2:Inv X pins σ H1 {heap:=h1,gens:=g,drawn:=d,toks:=tk,os:=os}:=I1.kept (t':=tk) k1;refine aca V ?_;exact⟨F.objs.size+1,[F.objs.size+1,F.objs.size],_,_,H1,rfl,I2,Er l _ _ (afF _) (Zx (Z2 a2)) (Zx a2),⟨⟨_,V⟩,a0⟩,fin,q⟩
def Tj(K:XS)(te:TE):TI:=λσ H R=>te σ H λx H1=>∃a,x= .ref a/\(((∃xs,SqL K H1 a xs)/\R (Itl K a) H1)∨((∃xs,SqT K H1 a xs)/\R (Itt K a) H1))
variable{te:TE}
theorem Ke(Y:PE X e te):PI X tg e (Tj X.K te):=by
 intro pins s σ H R I h;refine thn (Y pins s σ H _ I h) λv O ⟨x,H1,F,J,q1⟩=>?_;obtain⟨a,ex,q⟩:=q1;subst ex;cases J;have fin:∀b∈[O.heap.objs.size],jA X pins H1 b:=λb U=>by
  rw[Yh.mp U];exact F.fpOk (XQ _) (F.hok.fresh (XQ _))
 rcases q with⟨⟨xs,N⟩,q⟩|⟨⟨xs,N⟩,q⟩
 .obtain⟨its,rv,p,hz⟩:=F.list N
  refine aaT p.isList ?_;exact⟨O.heap.objs.size,[O.heap.objs.size],_,_,H1,rfl,F.kept (t':=O.toks) λb o e=>qb _ e,Ia a _,⟨_,X4 _ rfl,rfl,rfl⟩,fin,q⟩
 .obtain⟨its,rv,p,hz⟩:=F.tuple N
  refine wpAny_pyIter_tuple (show O.heap.IsTuple a its.toArray from p) ?_;exact⟨O.heap.objs.size,[O.heap.objs.size],_,_,H1,rfl,F.kept (t':=O.toks) λb o e=>qb _ e,DP a _,⟨_,X4 _ rfl,rfl,rfl⟩,fin,q⟩
def Rr(K:XS)(A:Zc):List V->Hp->VK->Prop:=λxs H Q=>∃a d,xs=[.ref a]/\Brs K H d (.ref a)/\A.guards=some []/\A.units+((pyD d).depth+3)<cLine/\(pyD d).showable=true/\(pyD d).shown.length<=X3/\Q (.str (pyD d).shown) H
theorem Hl:dq X (.type "str") (Rr X.K X.A):=by
 intro pins s σ H xs us Q I r h;obtain⟨a,d,rfl,U,hg,O,F,V,q⟩:=h;obtain⟨u,rfl,N⟩:=vals1 r;cases N;obtain⟨Z,Y⟩:=Ae I d (.ref a) (.ref a) U rfl;exact str_of_reads Y F (λz=>by rw[noDict d]at z;cases z) hg O (λ_ _ e=>e) (λh' u tk J=>⟨.str _,H,I.kept (t':=tk) J,⟨_,rfl⟩,q⟩) V
inductive Mk where
 |own|frz|brw|bro|scr
 deriving DecidableEq
inductive D where
 |non|bl (b:Bool)|int (i:Int)|str (x:Str)|ty (n:String)
 |tup (ds:List D)
 |lst (m:Mk) (ds:List D)
 |dct (m:Mk) (ks:List Key) (ds:List D)
 |ins (m:Mk) (c:Str) (fs:List Str) (ds:List D)
structure Gc where
 K:XS
 mg:Str->Option Value
structure Wn where
 n:Addr->Prop
 s:Addr->Prop
 o:Addr->Prop
def Wn.free(W:Wn)(a:Addr):Prop:=¬W.n a/\¬W.s a/\¬W.o a
def KO(K:XS)(a:Addr)(o:HO):Prop:=∃xs,o= .lst xs/\∃(ob:Obj)(its:Array Value)(n:Nat),K.lookup a=some ob/\ob.cls= .type "list"/\ob.dict=none/\ob.data= .seq its n/\its.size<=X3/\Vals xs its.toList
def dJ(F:Addr->HO->Prop)(H:Hp)(W:Wn)(a:Addr)(o:HO):Mk->List Addr->List Addr->Prop
 |.own,L,M=>H a=some o/\L=a::M
 |.frz,L,M=>H a=some o/\W.free a/\M=[]/\L=[]
 |.brw,L,M=>H a=some o/\W.s a/\M=[]/\L=[]
 |.bro,L,M=>H a=some o/\M=[]/\L=[]
 |.scr,L,M=>((Rd H a o/\W.free a)∨F a o)/\M=[]/\L=[]
variable{H:Hp}{W:Wn}{o:HO}{m:Mk}
theorem dJ.sub{F:Addr->HO->Prop}(h:dJ F H W a o m L M):ZZ M L:=by
 cases m with
 |own=>rw[h.2];exact List.sublist_cons_self a M
 |frz=>rw[h.2.2.1];exact acy L
 |brw=>rw[h.2.2.1];exact acy L
 |bro=>rw[h.2.1];exact acy L
 |scr=>rw[h.2.1];exact acy L
theorem dJ.rx{F:Addr->HO->Prop}(h:dJ F H W a o m L M):Rd H a o∨F a o:=by
 cases m with
 |own=>exact .inl (.inl h.1)
 |frz=>exact .inl (.inl h.1)
 |brw=>exact .inl (.inl h.1)
 |bro=>exact .inl (.inl h.1)
 |scr=>exact h.1.imp (λz=>z.1) id
variable{xs:List V}
theorem dJ.sq{K:XS}(h:dJ (KO K) H W a (.lst xs) m L M):SqL K H a xs:=by
 rcases h.rx with z|⟨ys,e,z⟩
 .exact .inl z
 .cases e
  exact .inr z
variable{kvs:List (Key×V)}
theorem dJ.rdD{K:XS}(h:dJ (KO K) H W a (.dK kvs) m L M):Rd H a (.dK kvs):=by
 rcases h.rx with z|⟨ys,e,z⟩
 .exact z
 .cases e
theorem dJ.at{F:Addr->HO->Prop}(h:dJ F H W a o m L M)(J:m≠.scr):H a=some o:=by
 cases m with
 |own=>exact h.1
 |frz=>exact h.1
 |brw=>exact h.1
 |bro=>exact h.1
 |scr=>exact absurd rfl J
mutual
noncomputable def Rep(G:Gc)(H:Hp)(W:Wn):D->V->List Addr->Prop
 |.non,v,L=>v= .non/\L=[]
 |.bl b,v,L=>v= .bl b/\L=[]
 |.int i,v,L=>v= .int i/\L=[]
 |.str x,v,L=>v= .str x/\L=[]
 |.ty n,v,L=>v= .ty n/\L=[]
 |.tup ds,v,L=>∃a xs,v= .ref a/\H a=some (.tup xs)/\aH G H W ds xs L
 |.lst m ds,v,L=>∃a xs M,v= .ref a/\aH G H W ds xs M/\dJ (KO G.K) H W a (.lst xs) m L M
 |.dct m ks ds,v,L=>∃a kvs M,v= .ref a/\(List.map (·.1) kvs=ks/\ks.Nodup)/\aH G H W ds (List.map (·.2) kvs) M/\dJ (KO G.K) H W a (.dK kvs) m L M
 |.ins m c fs ds,v,L=>∃a C dx kvs M,v= .ref a/\G.mg c=some (.ref C)/\List.map (·.1) kvs=fs/\aH G H W ds (List.map (·.2) kvs) M/\dJ (KO G.K) H W a (.ins C dx kvs) m L M
noncomputable def aH(G:Gc)(H:Hp)(W:Wn):List D->List V->List Addr->Prop
 |[],xs,L=>xs=[]/\L=[]
 |d::r,xs,L=>∃x ys M M',xs=x::ys/\L=M++M'/\Rep G H W d x M/\aH G H W r ys M'
end
variable{G:Gc}
theorem aH.nil:aH G H W [] [] []:=by simp[aH]
theorem aH.cons{d:D}{r:List D}{x:V}{ys:List V}{M M':List Addr}(h:Rep G H W d x M)(t:aH G H W r ys M'):aH G H W (d::r) (x::ys) (M++M'):=by
 rw[aH];exact⟨x,ys,M,M',rfl,rfl,h,t⟩
variable{d:D}
theorem aH.one{x:V}(h:Rep G H W d x M):aH G H W [d] [x] M:=by
 have:=aH.cons h aH.nil;rwa[Ym]at this
theorem aH.inv{r:List D}(h:aH G H W (d::r) xs L):∃x ys M M',xs=x::ys/\L=M++M'/\Rep G H W d x M/\aH G H W r ys M':=by
 rw[aH]at h;exact h
theorem aH.inv0(h:aH G H W [] xs L):xs=[]/\L=[]:=by
 rw[aH]at h;exact h
theorem aH.length:∀{ds:List D}{xs:List V}{L:List Addr},aH G H W ds xs L->ds.length=xs.length
 |[],xs,L,h=>by rw[h.inv0.1];rfl
 |d::r,xs,L,h=>by
  obtain⟨x,ys,M,M',rfl,_,_,h⟩:=h.inv;simp[aH.length h]
theorem aH.append:∀{ds es:List D}{xs ys:List V}{L M:List Addr},aH G H W ds xs L->aH G H W es ys M->aH G H W (ds++es) (xs++ys) (L++M)
 |[],es,xs,ys,L,M,h,h'=>by obtain⟨rfl,rfl⟩:=h.inv0;exact h'
 |d::r,es,xs,ys,L,M,h,h'=>by
  obtain⟨x,zs,A,B,rfl,rfl,h1,h2⟩:=h.inv;rw[aat];exact .cons h1 (aH.append h2 h')
theorem aH.split:∀{ds es:List D}{xs:List V}{L:List Addr},aH G H W (ds++es) xs L->∃ys zs A B,xs=ys++zs/\L=A++B/\aH G H W ds ys A/\aH G H W es zs B
 |[],es,xs,L,h=>⟨[],xs,[],L,rfl,rfl,.nil,h⟩
 |d::r,es,xs,L,h=>by
  obtain⟨x,zs,A,B,rfl,rfl,h1,h2⟩:=aH.inv (r:=r++es) h;obtain⟨ys,Y,J,q,rfl,rfl,F,O⟩:=aH.split h2;exact⟨x::ys,Y,A++J,q,rfl,by rw[aat],.cons h1 F,O⟩
variable{ds:List D}
theorem aH.at(h:aH G H W ds xs L)(e:ds[j]? =some d) :
  ∃A B x ys zs J M U,ds=A++d::B/\A.length=j/\xs=ys++x::zs/\ys.length=j/\L=J++(M++U)/\aH G H W A ys J/\Rep G H W d x M/\aH G H W B zs U:=by
 have N:j<ds.length:=(XF.mp e).1;have hd:ds=ds.take j++d::ds.drop (j+1):=by
  have:ds[j]=d:=(XF.mp e).2;rw[←this,aak,acG]
 rw[hd]at h;obtain⟨ys,zs,A,B,rfl,rfl,h1,h2⟩:=aH.split h;obtain⟨x,q,M,M',rfl,rfl,F,O⟩:=h2.inv;have Y:(ds.take j).length=j:=by rw[aa6];omega
 exact⟨_,_,x,ys,q,A,M,M',hd,Y,rfl,by rw[←h1.length];exact Y,rfl,h1,F,O⟩
theorem aH.get(h:aH G H W ds xs L)(e:ds[j]? =some d):∃x M,xs[j]? =some x/\Rep G H W d x M/\ZZ M L:=by
 obtain⟨A,B,x,ys,zs,J,M,U,_,_,rfl,Y,rfl,_,h,_⟩:=h.at e;exact⟨x,M,by rw[Zv (by omega),Y,aa9];rfl,h,(aa_ M U).trans (Z3 J _)⟩
def muO:HO->Bool
 |.lst _=>true
 |.dK _=>true
 |.ins _ _ _=>true
 |_=>false
def Mu(H:Hp)(a:Addr):Prop:=∃o,H a=some o/\muO o=true
mutual
noncomputable def az:D->Bool
 |.tup ds=>aA ds
 |.lst m ds=>m != .brw&&aA ds
 |.dct m _ ds=>m != .brw&&aA ds
 |.ins m _ _ ds=>m != .brw&&aA ds
 |_=>true
noncomputable def aA:List D->Bool
 |[]=>true
 |d::r=>az d&&aA r
end
mutual
noncomputable def au:D->Bool
 |.tup ds=>aB ds
 |.lst m ds=>m != .bro&&aB ds
 |.dct m _ ds=>m != .bro&&aB ds
 |.ins m _ _ ds=>m != .bro&&aB ds
 |_=>true
noncomputable def aB:List D->Bool
 |[]=>true
 |d::r=>au d&&aB r
end
def clean(d:D):Bool:=az d&&au d
structure Evo(H H':Hp)(W W':Wn):Prop where
 k:∀b u,H b=some u->W.free b->H' b=some u/\W'.free b
 t:∀b xs,H b=some (.tup xs)->H' b=some (.tup xs)
def Kf(H H':Hp)(W W':Wn):Prop:=∀b u,H b=some u->W.s b->H' b=some u/\W'.s b
variable{H':Hp}{W':Wn}
theorem Evo.rd(e:Evo H H' W W')(h:Rd H a o)(f:W.free a):Rd H' a o/\W'.free a:=by
 rcases h with h|⟨u,h⟩
 .exact⟨.inl (e.k a _ h f).1,(e.k a _ h f).2⟩
 .exact⟨.inr ⟨u,(e.k a _ h f).1⟩,(e.k a _ h f).2⟩
theorem dJ.mono{F:Addr->HO->Prop}(e:Evo H H' W W')(h:dJ F H W a o m L M)(U:m≠.brw∨Kf H H' W W')(N:m≠.bro∨Same H H')(V:∀c∈L,∀u,H c=some u->H' c=some u):dJ F H' W' a o m L M:=by
 cases m with
 |own=>exact⟨V a (by rw[h.2];simp) o h.1,h.2⟩
 |frz=>exact⟨(e.k a o h.1 h.2.1).1,(e.k a o h.1 h.2.1).2,h.2.2⟩
 |brw=>
  have q:=(U.resolve_left λz=>z rfl) a o h.1 h.2.1;exact⟨q.1,q.2,h.2.2⟩
 |bro=>exact⟨(N.resolve_left λz=>z rfl) a o h.1,h.2⟩
 |scr=>exact⟨h.1.imp (λz=>e.rd z.1 z.2) id,h.2⟩
theorem Same.rd(s:Same H H')(h:Rd H a o):Rd H' a o:=h.imp (s _ _) λ⟨u,z⟩=>⟨u,s _ _ z⟩
mutual
theorem Rep.mono(e:Evo H H' W W'):∀{d:D}{v:V}{L:List Addr},Rep G H W d v L->(az d=true∨Kf H H' W W')->(au d=true∨Same H H')->(∀c∈L,∀u,H c=some u->H' c=some u)->Rep G H' W' d v L
 |.non,v,L,h,_,_,_=>by rw[Rep]at h⊢;exact h
 |.bl _,v,L,h,_,_,_=>by rw[Rep]at h⊢;exact h
 |.int _,v,L,h,_,_,_=>by rw[Rep]at h⊢;exact h
 |.str _,v,L,h,_,_,_=>by rw[Rep]at h⊢;exact h
 |.ty _,v,L,h,_,_,_=>by rw[Rep]at h⊢;exact h
 |.tup ds,v,L,h,b,o,hl=>by
  rw[Rep]at h⊢;obtain⟨a,xs,rfl,U,O⟩:=h;exact⟨a,xs,rfl,e.t a xs U,aH.mono e O (by simpa[az]using b) (by simpa[au]using o) hl⟩
 |.lst m ds,v,L,h,b,o,hl=>by
  rw[Rep]at h⊢;obtain⟨a,xs,M,rfl,O,hs⟩:=h;exact⟨a,xs,M,rfl,aH.mono e O (b.imp (λz=>by simp[az]at z;exact z.2) id) (o.imp (λz=>by simp[au]at z;exact z.2) id) λc Z=>hl c (hs.sub.subset Z),hs.mono e (b.imp (λz=>by simp[az]at z;exact z.1) id) (o.imp (λz=>by simp[au]at z;exact z.1) id) hl⟩
 |.dct m ks ds,v,L,h,b,o,hl=>by
  rw[Rep]at h⊢;obtain⟨a,xs,M,rfl,J,O,hs⟩:=h;exact⟨a,xs,M,rfl,J,aH.mono e O (b.imp (λz=>by simp[az]at z;exact z.2) id) (o.imp (λz=>by simp[au]at z;exact z.2) id) λc Z=>hl c (hs.sub.subset Z),hs.mono e (b.imp (λz=>by simp[az]at z;exact z.1) id) (o.imp (λz=>by simp[au]at z;exact z.1) id) hl⟩
 |.ins m c fs ds,v,L,h,b,o,hl=>by
  rw[Rep]at h⊢;obtain⟨a,C,dx,xs,M,rfl,Y,J,O,hs⟩:=h;exact⟨a,C,dx,xs,M,rfl,Y,J,aH.mono e O (b.imp (λz=>by simp[az]at z;exact z.2) id) (o.imp (λz=>by simp[au]at z;exact z.2) id) λc Z=>hl c (hs.sub.subset Z),hs.mono e (b.imp (λz=>by simp[az]at z;exact z.1) id) (o.imp (λz=>by simp[au]at z;exact z.1) id) hl⟩
theorem aH.mono(e:Evo H H' W W'):∀{ds:List D}{vs:List V}{L:List Addr},aH G H W ds vs L->(aA ds=true∨Kf H H' W W')->(aB ds=true∨Same H H')->(∀c∈L,∀u,H c=some u->H' c=some u)->aH G H' W' ds vs L
 |[],vs,L,h,_,_,_=>by rw[aH]at h⊢;exact h
 |d::r,vs,L,h,b,o,hl=>by
  obtain⟨x,ys,M,M',rfl,rfl,h1,h2⟩:=h.inv;exact .cons (Rep.mono e h1 (b.imp (λz=>by simp[aA]at z;exact z.1) id) (o.imp (λz=>by simp[aB]at z;exact z.1) id) λb U=>hl b (X6 _ U))
   (aH.mono e h2 (b.imp (λz=>by simp[aA]at z;exact z.2) id) (o.imp (λz=>by simp[aB]at z;exact z.2) id) λb U=>hl b (XD _ U))
end
structure Up(H H':Hp)(W W':Wn):Prop where
 s:Same H H'
 f:∀b u,H b=some u->W.free b->W'.free b
 n:∀b u,H b=some u->W.s b->W'.s b
theorem Up.evo(u:Up H H' W W'):Evo H H' W W':=⟨λb o h f=>⟨u.s b o h,u.f b o h f⟩,λb xs h=>u.s b _ h⟩
theorem Up.evoN(u:Up H H' W W'):Kf H H' W W':=λb o h f=>⟨u.s b o h,u.n b o h f⟩
theorem Up.refl:Up H H W W:=⟨Same.refl H,λ_ _ _ f=>f,λ_ _ _ f=>f⟩
variable{H2:Hp}
theorem Up.trans{N:Wn}(a:Up H H' W W')(b:Up H' H2 W' N):Up H H2 W N:=⟨a.s.trans b.s,λc u h f=>b.f c u (a.s c u h) (a.f c u h f),λc u h f=>b.n c u (a.s c u h) (a.n c u h f)⟩
variable{v:V}
theorem Rep.up(h:Rep G H W d v L)(u:Up H H' W W'):Rep G H' W' d v L:=h.mono u.evo (.inr u.evoN) (.inr u.s) λc _ o e=>u.s c o e
theorem aH.up{d:List D}{v:List V}(h:aH G H W d v L)(u:Up H H' W W'):aH G H' W' d v L:=h.mono u.evo (.inr u.evoN) (.inr u.s) λc _ o e=>u.s c o e
def Wn.add(W:Wn)(L:List Addr):Wn:=⟨λa=>a∈L∨W.n a,W.s,W.o⟩
theorem Up.add(s:Same H H')(V:∀a∈L,H a=none):Up H H' W (W.add L):=⟨s,λb u h f=>⟨λz=>z.elim (λz=>by rw[V b z]at h;cases h) f.1,f.2⟩,λb u h f=>f⟩
theorem Up.same(s:Same H H'):Up H H' W W:=⟨s,λ_ _ _ f=>f,λ_ _ _ f=>f⟩
def mkV(ob:Bool):Mk->Mk
 |.own=>if ob then .bro else .brw
 |m=>m
def mkF:Mk->Mk
 |.scr=>.scr
 |_=>.frz
mutual
noncomputable def view(ob:Bool):D->D
 |.tup ds=>.tup (e_ ob ds)
 |.lst m ds=>.lst (mkV ob m) (e_ ob ds)
 |.dct m ks ds=>.dct (mkV ob m) ks (e_ ob ds)
 |.ins m c fs ds=>.ins (mkV ob m) c fs (e_ ob ds)
 |d=>d
noncomputable def e_(ob:Bool):List D->List D
 |[]=>[]
 |d::r=>view ob d::e_ ob r
end
mutual
noncomputable def fz:D->D
 |.tup ds=>.tup (fzL ds)
 |.lst m ds=>.lst (mkF m) (fzL ds)
 |.dct m ks ds=>.dct (mkF m) ks (fzL ds)
 |.ins m c fs ds=>.ins (mkF m) c fs (fzL ds)
 |d=>d
noncomputable def fzL:List D->List D
 |[]=>[]
 |d::r=>fz d::fzL r
end
theorem bN(ob:Bool):∀ds:List D,e_ ob ds=ds.map (view ob)
 |[]=>rfl
 |d::r=>by rw[e_,bN ob r];rfl
theorem fV:∀ds:List D,fzL ds=ds.map fz
 |[]=>rfl
 |d::r=>by rw[fzL,fV r];rfl
theorem dJ.view{F:Addr->HO->Prop}{ob:Bool}(hn:ob=false->∀c∈L,W.s c)(h:dJ F H W a o m L M):dJ F H W a o (mkV ob m) [] []:=by
 cases m with
 |own=>
  cases ob with
  |false=>exact⟨h.1,hn rfl a (by rw[h.2];simp),rfl,rfl⟩
  |true=>exact⟨h.1,rfl,rfl⟩
 |frz=>exact⟨h.1,h.2.1,rfl,rfl⟩
 |brw=>exact⟨h.1,h.2.1,rfl,rfl⟩
 |bro=>exact⟨h.1,rfl,rfl⟩
 |scr=>exact⟨h.1,rfl,rfl⟩
mutual
theorem Rep.view{ob:Bool}:∀{d:D}{v:V}{L:List Addr},Rep G H W d v L->(ob=false->∀c∈L,W.s c)->Rep G H W (view ob d) v []
 |.non,v,L,h,_=>by rw[Rep]at h;simp[Jb.view,Rep,h]
 |.bl _,v,L,h,_=>by rw[Rep]at h;simp[Jb.view,Rep,h]
 |.int _,v,L,h,_=>by rw[Rep]at h;simp[Jb.view,Rep,h]
 |.str _,v,L,h,_=>by rw[Rep]at h;simp[Jb.view,Rep,h]
 |.ty _,v,L,h,_=>by rw[Rep]at h;simp[Jb.view,Rep,h]
 |.tup ds,v,L,h,hn=>by
  rw[Rep]at h;rw[Jb.view,Rep];obtain⟨a,xs,rfl,U,O⟩:=h;exact⟨a,xs,rfl,U,aH.view O hn⟩
 |.lst m ds,v,L,h,hn=>by
  rw[Rep]at h;rw[Jb.view,Rep];obtain⟨a,xs,M,rfl,O,hs⟩:=h;exact⟨a,xs,[],rfl,aH.view O λz c Z=>hn z c (hs.sub.subset Z),hs.view hn⟩
 |.dct m ks ds,v,L,h,hn=>by
  rw[Rep]at h;rw[Jb.view,Rep];obtain⟨a,xs,M,rfl,J,O,hs⟩:=h;exact⟨a,xs,[],rfl,J,aH.view O λz c Z=>hn z c (hs.sub.subset Z),hs.view hn⟩
 |.ins m c fs ds,v,L,h,hn=>by
  rw[Rep]at h;rw[Jb.view,Rep];obtain⟨a,C,dx,xs,M,rfl,Y,J,O,hs⟩:=h;exact⟨a,C,dx,xs,[],rfl,Y,J,aH.view O λz c Z=>hn z c (hs.sub.subset Z),hs.view hn⟩
theorem aH.view{ob:Bool}:∀{ds:List D}{vs:List V}{L:List Addr},aH G H W ds vs L->(ob=false->∀c∈L,W.s c)->aH G H W (e_ ob ds) vs []
 |[],vs,L,h,_=>by obtain⟨rfl,_⟩:=h.inv0;rw[e_];exact .nil
 |d::r,vs,L,h,hn=>by
  obtain⟨x,ys,M,M',rfl,rfl,h1,h2⟩:=h.inv;rw[e_];exact .cons (M:=[]) (M':=[]) (Rep.view h1 λz c Z=>hn z c (X6 _ Z)) (aH.view h2 λz c Z=>hn z c (XD _ Z))
end
structure Les(H:Hp)(W W':Wn)(L:List Addr):Prop where
 f:∀a,W.free a->W'.free a
 l:∀a∈L,W'.free a
theorem Les.sub(h:Les H W W' L)(s:∀a∈M,a∈L):Les H W W' M:=⟨h.f,λa Y=>h.l a (s a Y)⟩
def m_(W:Wn):Prop:=∀a,W.free a
theorem dJ.fz{F:Addr->HO->Prop}(hs:Les H W W' L)(hn:(m≠.brw/\m≠.bro)∨m_ W')(h:dJ F H W a o m L M):dJ F H W' a o (mkF m) [] []:=by
 cases m with
 |own=>exact⟨h.1,hs.l a (by rw[h.2];simp),rfl,rfl⟩
 |frz=>exact⟨h.1,hs.f a h.2.1,rfl,rfl⟩
 |brw=>exact⟨h.1,hn.elim (λz=>absurd rfl z.1) λz=>z a,rfl,rfl⟩
 |bro=>exact⟨h.1,hn.elim (λz=>absurd rfl z.2) λz=>z a,rfl,rfl⟩
 |scr=>exact⟨h.1.imp (λz=>⟨z.1,hs.f a z.2⟩) id,rfl,rfl⟩
mutual
theorem Rep.fz:∀{d:D}{v:V}{L:List Addr},Rep G H W d v L->Les H W W' L->(clean d=true∨m_ W')->Rep G H W' (fz d) v []
 |.non,v,L,h,_,_=>by rw[Rep]at h;simp[Jb.fz,Rep,h]
 |.bl _,v,L,h,_,_=>by rw[Rep]at h;simp[Jb.fz,Rep,h]
 |.int _,v,L,h,_,_=>by rw[Rep]at h;simp[Jb.fz,Rep,h]
 |.str _,v,L,h,_,_=>by rw[Rep]at h;simp[Jb.fz,Rep,h]
 |.ty _,v,L,h,_,_=>by rw[Rep]at h;simp[Jb.fz,Rep,h]
 |.tup ds,v,L,h,hs,c=>by
  rw[Rep]at h;rw[Jb.fz,Rep];obtain⟨a,xs,rfl,U,O⟩:=h;exact⟨a,xs,rfl,U,aH.fz O hs (c.imp (λz=>by simpa[clean,az,au]using z) id)⟩
 |.lst m ds,v,L,h,he,c=>by
  rw[Rep]at h;rw[Jb.fz,Rep];obtain⟨a,xs,M,rfl,O,hs⟩:=h;exact⟨a,xs,[],rfl,aH.fz O (he.sub λc Z=>hs.sub.subset Z) (c.imp (λz=>by simp[clean,az,au]at z;exact⟨z.1.2,z.2.2⟩) id),hs.fz he (c.imp (λz=>by simp[clean,az,au]at z;exact⟨z.1.1,z.2.1⟩) id)⟩
 |.dct m ks ds,v,L,h,he,c=>by
  rw[Rep]at h;rw[Jb.fz,Rep];obtain⟨a,xs,M,rfl,J,O,hs⟩:=h;exact⟨a,xs,[],rfl,J,aH.fz O (he.sub λc Z=>hs.sub.subset Z) (c.imp (λz=>by simp[clean,az,au]at z;exact⟨z.1.2,z.2.2⟩) id),hs.fz he (c.imp (λz=>by simp[clean,az,au]at z;exact⟨z.1.1,z.2.1⟩) id)⟩
 |.ins m c' fs ds,v,L,h,he,c=>by
  rw[Rep]at h;rw[Jb.fz,Rep];obtain⟨a,C,dx,xs,M,rfl,Y,J,O,hs⟩:=h;exact⟨a,C,dx,xs,[],rfl,Y,J,aH.fz O (he.sub λc Z=>hs.sub.subset Z) (c.imp (λz=>by simp[clean,az,au]at z;exact⟨z.1.2,z.2.2⟩) id),hs.fz he (c.imp (λz=>by simp[clean,az,au]at z;exact⟨z.1.1,z.2.1⟩) id)⟩
theorem aH.fz:∀{ds:List D}{vs:List V}{L:List Addr},aH G H W ds vs L->Les H W W' L->((aA ds=true/\aB ds=true)∨m_ W')->aH G H W' (fzL ds) vs []
 |[],vs,L,h,_,_=>by obtain⟨rfl,_⟩:=h.inv0;rw[fzL];exact .nil
 |d::r,vs,L,h,he,c=>by
  obtain⟨x,ys,M,M',rfl,rfl,h1,h2⟩:=h.inv;rw[fzL];exact .cons (M:=[]) (M':=[]) (Rep.fz h1 (he.sub λc Z=>X6 _ Z) (c.imp (λz=>by simp[clean,aA,aB]at z⊢;exact⟨z.1.1,z.2.1⟩) id))
   (aH.fz h2 (he.sub λc Z=>XD _ Z) (c.imp (λz=>by simp[clean,aA,aB]at z⊢;exact⟨z.1.2,z.2.2⟩) id))
end
mutual
theorem Ca:∀d:D,az (Jb.fz d)=true
 |.non=>rfl|.bl _=>rfl|.int _=>rfl|.str _=>rfl|.ty _=>rfl
 |.tup ds=>by simp[Jb.fz,az,gM ds]
 |.lst m ds=>by cases m<;>simp[Jb.fz,az,gM ds,mkF]
 |.dct m _ ds=>by cases m<;>simp[Jb.fz,az,gM ds,mkF]
 |.ins m _ _ ds=>by cases m<;>simp[Jb.fz,az,gM ds,mkF]
theorem gM:∀ds:List D,aA (fzL ds)=true
 |[]=>rfl
 |d::r=>by simp[fzL,aA,Ca d,gM r]
end
mutual
theorem Ak:∀d:D,au (Jb.fz d)=true
 |.non=>rfl|.bl _=>rfl|.int _=>rfl|.str _=>rfl|.ty _=>rfl
 |.tup ds=>by simp[Jb.fz,au,gO ds]
 |.lst m ds=>by cases m<;>simp[Jb.fz,au,gO ds,mkF]
 |.dct m _ ds=>by cases m<;>simp[Jb.fz,au,gO ds,mkF]
 |.ins m _ _ ds=>by cases m<;>simp[Jb.fz,au,gO ds,mkF]
theorem gO:∀ds:List D,aB (fzL ds)=true
 |[]=>rfl
 |d::r=>by simp[fzL,aB,Ak d,gO r]
end
theorem Mg(d:D):clean (Jb.fz d)=true:=by simp[clean,Ca,Ak]
mutual
theorem Rep.dom:∀{d:D}{v:V}{L:List Addr},Rep G H W d v L->∀a∈L,Mu H a
 |.non,v,L,h=>by rw[Rep]at h;rw[h.2];simp
 |.bl _,v,L,h=>by rw[Rep]at h;rw[h.2];simp
 |.int _,v,L,h=>by rw[Rep]at h;rw[h.2];simp
 |.str _,v,L,h=>by rw[Rep]at h;rw[h.2];simp
 |.ty _,v,L,h=>by rw[Rep]at h;rw[h.2];simp
 |.tup ds,v,L,h=>by
  rw[Rep]at h;obtain⟨a,xs,rfl,q,O⟩:=h;exact aH.dom O
 |.lst m ds,v,L,h=>by
  rw[Rep]at h;obtain⟨a,xs,M,rfl,O,hs⟩:=h;intro b U;cases m with
  |own=>
   rw[hs.2]at U;rcases XJ.mp U with z|z
   .rw[z];exact⟨_,hs.1,rfl⟩
   .exact aH.dom O b z
  |frz=>rw[hs.2.2.2]at U;cases U
  |brw=>rw[hs.2.2.2]at U;cases U
  |bro=>rw[hs.2.2]at U;cases U
  |scr=>rw[hs.2.2]at U;cases U
 |.dct m ks ds,v,L,h=>by
  rw[Rep]at h;obtain⟨a,xs,M,rfl,J,O,hs⟩:=h;intro b U;cases m with
  |own=>
   rw[hs.2]at U;rcases XJ.mp U with z|z
   .rw[z];exact⟨_,hs.1,rfl⟩
   .exact aH.dom O b z
  |frz=>rw[hs.2.2.2]at U;cases U
  |brw=>rw[hs.2.2.2]at U;cases U
  |bro=>rw[hs.2.2]at U;cases U
  |scr=>rw[hs.2.2]at U;cases U
 |.ins m c fs ds,v,L,h=>by
  rw[Rep]at h;obtain⟨a,C,dx,xs,M,rfl,Y,J,O,hs⟩:=h;intro b U;cases m with
  |own=>
   rw[hs.2]at U;rcases XJ.mp U with z|z
   .rw[z];exact⟨_,hs.1,rfl⟩
   .exact aH.dom O b z
  |frz=>rw[hs.2.2.2]at U;cases U
  |brw=>rw[hs.2.2.2]at U;cases U
  |bro=>rw[hs.2.2]at U;cases U
  |scr=>rw[hs.2.2]at U;cases U
theorem aH.dom:∀{ds:List D}{vs:List V}{L:List Addr},aH G H W ds vs L->∀a∈L,Mu H a
 |[],vs,L,h=>by rw[h.inv0.2];simp
 |d::r,vs,L,h=>by
  obtain⟨x,ys,M,M',rfl,rfl,h1,h2⟩:=h.inv;intro a Y;rcases XC.mp Y with z|z
  .exact Rep.dom h1 a z
  .exact aH.dom h2 a z
end
abbrev En:=List (Option D)
abbrev Ad:=Nat->List Addr
def Rel(G:Gc)(H:Hp)(W:Wn)(ob:Nat->Bool)(ρ:En)(σ:L2.St):Prop:=∀(i:Nat)(d:D),ρ[i]? =some (some d)->∃v L,σ[i]? =some (some v)/\Rep G H W d v L/\(ob i=false->∀c∈L,W.s c)
def WOk(H:Hp)(W:Wn):Prop:=∀a,W.n a∨W.s a∨W.o a->Mu H a
variable{ρ:En}{σ:L2.St}
theorem Rel.up(r:Rel G H W ob ρ σ)(u:Up H H' W W'):Rel G H' W' ob ρ σ:=λi d e=>let⟨v,L,h1,h2,h3⟩:=r i d e;⟨v,L,h1,h2.up u,λz c Z=>let⟨o,ho,_⟩:=h2.dom c Z;u.n c o ho (h3 z c Z)⟩
theorem WOk.add(h:WOk H W)(s:Same H H')(V:∀a∈L,Mu H' a):WOk H' (W.add L):=λa Y=>by
 rcases Y with(z|z)|z
 .exact V a z
 .obtain⟨o,h1,h2⟩:=h a (.inl z);exact⟨o,s a o h1,h2⟩
 .obtain⟨o,h1,h2⟩:=h a (.inr z);exact⟨o,s a o h1,h2⟩
def wn(ob:Nat->Bool)(S:Ad)(Fr:Addr->Prop):Wn:=⟨Fr,λa=>∃i,ob i=false/\a∈S i,λa=>∃i,ob i=true/\a∈S i⟩
def inS(S:Ad)(a:Addr):Prop:=∃i,a∈S i
def inO(ob:Nat->Bool)(S:Ad)(a:Addr):Prop:=∃i,ob i=true/\a∈S i
def plus(M:List Addr)(Fr:Addr->Prop):Addr->Prop:=λa=>a∈M∨Fr a
structure Sta(G:Gc)(H:Hp)(ob:Nat->Bool)(ρ:En)(σ:L2.St)(S:Ad)(Fr:Addr->Prop):Prop where
 len:ρ.length=σ.length
 sl:∀(i:Nat)(d:D),ρ[i]? =some (some d)->∃v,σ[i]? =some (some v)/\Rep G H (wn ob S Fr) d v (S i)/\clean d=true
 em:∀i,(∀d,ρ[i]?≠some (some d))->S i=[]
 nd:∀i,(S i).Nodup
 dj:∀i j a,a∈S i->a∈S j->i=j
 fdj:∀i a,Fr a->a∉S i
 fdm:∀a,Fr a->Mu H a
section
variable{G:Gc}{H H':Hp}{ob:Nat->Bool}{ρ:En}{σ:L2.St}{S S':Ad}{Fr Fr':Addr->Prop}
theorem Sta.mu(s:Sta G H ob ρ σ S Fr){i:Nat}{a:Addr}(h:a∈S i):Mu H a:=by
 by_cases e:∃d,ρ[i]? =some (some d)
 .obtain⟨d,e⟩:=e
  obtain⟨v,_,r,_⟩:=s.sl i d e;exact r.dom a h
 .rw[s.em i λd z=>e ⟨d,z⟩]at h
  cases h
theorem Sta.wok(s:Sta G H ob ρ σ S Fr):WOk H (wn ob S Fr):=λa Y=>by
 rcases Y with z|⟨i,_,z⟩|⟨i,_,z⟩
 .exact s.fdm a z
 .exact s.mu z
 .exact s.mu z
theorem Sta.rel(s:Sta G H ob ρ σ S Fr):Rel G H (wn ob S Fr) ob ρ σ:=λi d e=>by
 obtain⟨v,h1,h2,_⟩:=s.sl i d e;exact⟨v,S i,h1,h2,λz c Z=>⟨i,z,Z⟩⟩
theorem Sta.grow(s:Sta G H ob ρ σ S Fr)(J:Same H H')(h1:∀a,Fr' a->Fr a∨(H a=none/\Mu H' a)):Sta G H' ob ρ σ S Fr' where
 len:=s.len
 sl:=λi d e=>by
  obtain⟨v,q1,q2,F⟩:=s.sl i d e;have Z:az d=true/\au d=true:=by simpa[clean]using F
  have N:Evo H H' (wn ob S Fr) (wn ob S Fr'):=⟨λb u h f=>⟨J b u h,⟨λz=>(h1 b z).elim f.1 (λz=>by rw[z.1]at h;cases h),f.2⟩⟩,λb xs h=>J b _ h⟩;exact⟨v,q1,q2.mono N (.inl Z.1) (.inl Z.2) λc _ u e=>J c u e,F⟩
 em:=s.em
 nd:=s.nd
 dj:=s.dj
 fdj:=λi a h z=>by
  rcases h1 a h with q|q
  .exact s.fdj i a q z
  .obtain⟨o,ho,_⟩:=s.mu z
   rw[q.1]at ho;cases ho
 fdm:=λa h=>by
  rcases h1 a h with q|q
  .obtain⟨o,ho,hm⟩:=s.fdm a q
   exact⟨o,J a o ho,hm⟩
  .exact q.2
theorem Sta.lessF(s:Sta G H ob ρ σ S Fr)(h1:∀a,Fr' a->Fr a):Sta G H ob ρ σ S Fr':=s.grow (Same.refl H) λa h=>.inl (h1 a h)
end
def RfE(G:Gc)(ob:Nat->Bool)(t:TE)(f:En->Option D):Prop:=∀(ρ:En)(d:D),f ρ=some d->∀(σ:L2.St)(H:Hp)(W:Wn),Rel G H W ob ρ σ->WOk H W->∀Q:VK,
 (∀v H' L,Same H H'->Rep G H' (W.add L) d v L->(∀a∈L,H a=none)->L.Nodup->Q v H')->t σ H Q
def RfT(G:Gc)(ob:Nat->Bool)(t:TT)(f:En->Option Bool):Prop:=∀(ρ:En)(b:Bool),f ρ=some b->∀(σ:L2.St)(H:Hp)(W:Wn),Rel G H W ob ρ σ->WOk H W->∀Q:Bool->Hp->Prop,
 (∀H',Same H H'->Q b H')->t σ H Q
def RfA(G:Gc)(ob:Nat->Bool)(t:TA)(f:En->Option (List D)):Prop:=∀(ρ:En)(ds:List D),f ρ=some ds->∀(σ:L2.St)(H:Hp)(W:Wn),Rel G H W ob ρ σ->WOk H W->∀Q:List V->Hp->Prop,
 (∀vs H' L,Same H H'->aH G H' (W.add L) ds vs L->(∀a∈L,H a=none)->L.Nodup->Q vs H')->t σ H Q
structure Eff(ob:Nat->Bool)(H H':Hp)(S S':Ad)(M:List Addr):Prop where
 kp:∀b u,H b=some u->¬inO ob S b->H' b=some u
 sn:∀i,ob i=false->S' i=S i
 gr:∀i a,ob i=true->a∈S' i->inO ob S a∨H a=none
 fm:∀a∈M,inO ob S a∨H a=none
def jQ(G:Gc)(ob:Nat->Bool)(t:TE)(f:En->Option (D×En)):Prop:=∀(ρ:En)(d:D)(Z:En),f ρ=some (d,Z)->∀(σ:L2.St)(H:Hp)(S:Ad)(Fr:Addr->Prop),Sta G H ob ρ σ S Fr->∀Q:VK,
 (∀v H' M S',Sta G H' ob Z σ S' (plus M Fr)->Rep G H' (wn ob S' (plus M Fr)) d v M->M.Nodup->Eff ob H H' S S' M->Q v H')->t σ H Q
def zf(G:Gc)(ob:Nat->Bool)(t:TT)(f:En->Option (Bool×En)):Prop:=∀(ρ:En)(b:Bool)(Z:En),f ρ=some (b,Z)->∀(σ:L2.St)(H:Hp)(S:Ad)(Fr:Addr->Prop),Sta G H ob ρ σ S Fr->∀Q:Bool->Hp->Prop,
 (∀H' S',Sta G H' ob Z σ S' Fr->Eff ob H H' S S' []->Q b H')->t σ H Q
def Di(G:Gc)(ob:Nat->Bool)(t:TA)(f:En->Option (List D×En)):Prop:=∀(ρ:En)(ds:List D)(Z:En),f ρ=some (ds,Z)->∀(σ:L2.St)(H:Hp)(S:Ad)(Fr:Addr->Prop),Sta G H ob ρ σ S Fr->∀Q:List V->Hp->Prop,
 (∀vs H' M S',Sta G H' ob Z σ S' (plus M Fr)->aH G H' (wn ob S' (plus M Fr)) ds vs M->M.Nodup->Eff ob H H' S S' M->Q vs H')->t σ H Q
inductive Fl where
 |nx (ρ:En)|ret (d:D) (ρ:En)|brk (ρ:En)|cnt (ρ:En)
def Et(P:Nat->Bool)(σ F:L2.St):Prop:=∀i,P i=true->F[i]? =σ[i]?
variable{P:Nat->Bool}
theorem Et.refl:Et P σ σ:=λ_ _=>rfl
theorem Et.trans{N σ2:L2.St}(a:Et P σ N)(b:Et P N σ2):Et P σ σ2:=λi h=>(b i h).trans (a i h)
structure Mv(P:Nat->Bool)(H H':Hp)(σ σ':L2.St)(S S':Ad)(M:List Addr):Prop where
 kp:∀b u,H b=some u->¬inS S b->b∉M->H' b=some u
 gr:∀i a,a∈S' i->inS S a∨a∈M∨H a=none
 pr:Et P σ σ'
variable{S:Ad}
theorem Mv.trans{H1:Hp}{N σ2:L2.St}{S1 S2:Ad}(a:Mv P H H1 σ N S S1 M)(b:Mv P H1 H2 N σ2 S1 S2 []):Mv P H H2 σ σ2 S S2 M where
 kp:=λc u h n m=>b.kp c u (a.kp c u h n m) (λ⟨i,z⟩=>(a.gr i c z).elim n λz=>z.elim m λe=>by rw[h]at e;cases e) (by simp)
 gr:=λi c z=>by
  rcases b.gr i c z with⟨j,q⟩|q|q
  .exact a.gr j c q
  .cases q
  .by_cases h:inS S c
   .exact .inl h
   .by_cases hm:c∈M
    .exact .inr (.inl hm)
    .refine .inr (.inr ?_)
     cases e:H c with
     |none=>rfl
     |some u=>rw[a.kp c u e h hm]at q;cases q
 pr:=a.pr.trans b.pr
theorem Eff.mv{S':Ad}(e:Eff ob H H' S S' M):Mv P H H' σ σ S S' []where
 kp:=λb u h n _=>e.kp b u h λ⟨i,_,z⟩=>n ⟨i,z⟩
 gr:=λi a z=>by
  cases h:ob i with
  |false=>rw[e.sn i h]at z;exact .inl ⟨i,z⟩
  |true=>exact(e.gr i a h z).imp (λ⟨j,_,q⟩=>⟨j,q⟩) .inr
 pr:=.refl
def Aft(G:Gc)(ob P:Nat->Bool)(H:Hp)(σ:L2.St)(S:Ad)(Fr:Addr->Prop)(E:Ends):Fl->Prop
 |.nx Z=>∀F H' S',Sta G H' ob Z F S' Fr->Mv P H H' σ F S S' []->E.nx F H'
 |.brk Z=>∀F H' S',Sta G H' ob Z F S' Fr->Mv P H H' σ F S S' []->E.bk F H'
 |.cnt Z=>∀F H' S',Sta G H' ob Z F S' Fr->Mv P H H' σ F S S' []->E.ct F H'
 |.ret d Z=>∀v F H' M S',Sta G H' ob Z F S' (plus M Fr)->Rep G H' (wn ob S' (plus M Fr)) d v M->clean d=true->M.Nodup->(∀a∈M,inS S a∨H a=none)->Mv P H H' σ F S S' []->E.rt v H'
def RfS(G:Gc)(ob P:Nat->Bool)(t:TS)(f:En->Option Fl):Prop:=∀(ρ:En)(r:Fl),f ρ=some r->∀(σ:L2.St)(H:Hp)(S:Ad)(Fr:Addr->Prop),Sta G H ob ρ σ S Fr->∀E:Ends,Aft G ob P H σ S Fr E r->t E σ H
def RfG(G:Gc)(ob P:Nat->Bool)(g:TG)(f:D->En->Option En):Prop:=∀(d:D)(ρ Z:En),f d ρ=some Z->∀(v:V)(σ:L2.St)(H:Hp)(S:Ad)(M:List Addr)(Fr:Addr->Prop),Sta G H ob ρ σ S (plus M Fr)->Rep G H (wn ob S (plus M Fr)) d v M->M.Nodup->(∀a∈M,¬Fr a)->
 ∀Q:L2.St->Hp->Prop,(∀F H' S',Sta G H' ob Z F S' Fr->Mv P H H' σ F S S' M->Q F H')->g v σ H Q
def Xh(G:Gc)(ob P:Nat->Bool)(g:TGs)(f:List D->En->Option En):Prop:=∀(ds:List D)(ρ Z:En),f ds ρ=some Z->∀(vs:List V)(σ:L2.St)(H:Hp)(S:Ad)(M:List Addr)(Fr:Addr->Prop),Sta G H ob ρ σ S (plus M Fr)->aH G H (wn ob S (plus M Fr)) ds vs M->M.Nodup->(∀a∈M,¬Fr a)->
 ∀Q:L2.St->Hp->Prop,(∀F H' S',Sta G H' ob Z F S' Fr->Mv P H H' σ F S S' M->Q F H')->g vs σ H Q
structure PV{ι:Type}(X:ι->Cx)(G:Gc)(ob:Nat->Bool)(e:Expr)(f:En->Option D):Prop where
 mk::(ex:∃t,(∀c,PE (X c) e t)/\RfE G ob t f)
structure PVT{ι:Type}(X:ι->Cx)(G:Gc)(ob:Nat->Bool)(e:Expr)(f:En->Option Bool):Prop where
 mk::(ex:∃t,(∀c,PT (X c) e t)/\RfT G ob t f)
structure PVW{ι:Type}(X:ι->Cx)(G:Gc)(ob:Nat->Bool)(e:Expr)(f:En->Option Bool):Prop where
 mk::(ex:∃t,(∀c,PW (X c) e t)/\RfT G ob t f)
structure PVA{ι:Type}(X:ι->Cx)(G:Gc)(ob:Nat->Bool)(es:List Expr)(f:En->Option (List D)):Prop where
 mk::(ex:∃t,(∀c,PA (X c) es t)/\RfA G ob t f)
structure PVe{ι:Type}(X:ι->Cx)(G:Gc)(ob:Nat->Bool)(e:Expr)(f:En->Option (D×En)):Prop where
 mk::(ex:∃t,(∀c,PE (X c) e t)/\jQ G ob t f)
structure Dc{ι:Type}(X:ι->Cx)(G:Gc)(ob:Nat->Bool)(e:Expr)(f:En->Option (Bool×En)):Prop where
 mk::(ex:∃t,(∀c,PT (X c) e t)/\zf G ob t f)
structure Rg{ι:Type}(X:ι->Cx)(G:Gc)(ob:Nat->Bool)(e:Expr)(f:En->Option (Bool×En)):Prop where
 mk::(ex:∃t,(∀c,PW (X c) e t)/\zf G ob t f)
structure wJ{ι:Type}(X:ι->Cx)(G:Gc)(ob:Nat->Bool)(es:List Expr)(f:En->Option (List D×En)):Prop where
 mk::(ex:∃t,(∀c,PA (X c) es t)/\Di G ob t f)
structure PVS{ι:Type}(X:ι->Cx)(G:Gc)(ob P:Nat->Bool)(st:Stmt)(f:En->Option Fl):Prop where
 mk::(ex:∃t,(∀c,PS (X c) st t)/\RfS G ob P t f)
structure tE{ι:Type}(X:ι->Cx)(G:Gc)(ob P:Nat->Bool)(st:List Stmt)(f:En->Option Fl):Prop where
 mk::(ex:∃t,(∀c,PSs (X c) st t)/\RfS G ob P t f)
structure PVG{ι:Type}(X:ι->Cx)(G:Gc)(ob P:Nat->Bool)(tg:Expr)(f:D->En->Option En):Prop where
 mk::(ex:∃t,(∀c,PG (X c) tg t)/\RfG G ob P t f)
theorem dO(h1:L.Nodup)(h2:M.Nodup)(F:∀a∈L,a∉M):(L++M).Nodup:=Yb.mpr ⟨h1,h2,λa Y b U e=>F a Y (e▸U)⟩
def Wn.drop(W:Wn)(L:List Addr):Wn:=⟨λa=>W.n a/\a∉L,W.s,W.o⟩
def Wn.tmp(W:Wn)(a:Addr):Prop:=W.n a/\¬W.s a/\¬W.o a
theorem WOk.tmp(w:WOk H W)(fr:∀a∈L,H a=none):∀a∈L,(W.add L).tmp a:=λa Y=>by
 refine⟨.inl Y,λz=>?_,λz=>?_⟩
 .obtain⟨o,ho,_⟩:=w a (.inr (.inl z));rw[fr a Y]at ho;cases ho
 .obtain⟨o,ho,_⟩:=w a (.inr (.inr z));rw[fr a Y]at ho;cases ho
def Done(G:Gc)(H:Hp)(W:Wn)(Z:List Addr)(d:D)(Q:VK):Prop:=∀v H' L,Same H H'->Rep G H' ((W.drop Z).add L) d v L->(∀a∈L,a∈Z∨H a=none)->L.Nodup->Q v H'
def OpV(G:Gc)(r:R2)(g:D->D->Option D):Prop:=∀(dx F d:D),g dx F=some d->∀(x y:V)(H:Hp)(W:Wn)(N Z:List Addr),Rep G H W dx x N->Rep G H W F y Z->(N++Z).Nodup->(∀a∈N++Z,W.tmp a)->WOk H W->∀Q:VK,Done G H W (N++Z) d Q->r x y H Q
def UnV(G:Gc)(r:V->Hp->VK->Prop)(g:D->Option D):Prop:=∀(dx d:D),g dx=some d->∀(x:V)(H:Hp)(W:Wn)(N:List Addr),Rep G H W dx x N->N.Nodup->(∀a∈N,W.tmp a)->WOk H W->∀Q:VK,Done G H W N d Q->r x H Q
def CaV(G:Gc)(r:List V->Hp->VK->Prop)(g:List D->Option D):Prop:=∀(ds:List D)(d:D),g ds=some d->∀(xs:List V)(H:Hp)(W:Wn)(Z:List Addr),aH G H W ds xs Z->Z.Nodup->(∀a∈Z,W.tmp a)->WOk H W->∀Q:VK,Done G H W Z d Q->r xs H Q
def MtV(G:Gc)(r:V->List V->Hp->VK->Prop)(g:D->List D->Option D):Prop:=∀(dx:D)(ds:List D)(d:D),g dx ds=some d->∀(x:V)(xs:List V)(H:Hp)(W:Wn)(N Z:List Addr),Rep G H W dx x N->aH G H W ds xs Z->(N++Z).Nodup->(∀a∈N++Z,W.tmp a)->WOk H W->∀Q:VK,Done G H W (N++Z) d Q->r x xs H Q
theorem WOk.new(w:WOk H W)(fr:∀a∈L,H a=none)(h:W.n a):a∉L:=λz=>by
 obtain⟨o,N,_⟩:=w a (.inl h);rw[fr a z]at N;cases N
variable{Q:VK}
theorem Done.scal(h:Done G H W Z d Q)(r:∀W,Rep G H W d v []):Q v H:=h v H [] (Same.refl H) (r _) (by simp) List.nodup_nil
theorem _root_.L2.Same.none'(s:Same H H')(h:H' a=none):H a=none:=Same.free s h
variable{ta tb:TE}{fa fb:En->Option D}{R:V->V->Hp->Prop}
theorem RfE.two(Y:RfE G ob ta fa)(U:RfE G ob tb fb){dx F:D}(e1:fa ρ=some dx)(e2:fb ρ=some F)(r:Rel G H W ob ρ σ)(w:WOk H W)
  (h:∀x y H' L M,Same H H'->Rep G H' (W.add (L++M)) dx x L->Rep G H' (W.add (L++M)) F y M->(∀a∈L++M,H a=none)->(L++M).Nodup->WOk H' (W.add (L++M))->R x y H'):ta σ H λx H1=>tb σ H1 λy H2=>R x y H2:=by
 refine Y ρ dx e1 σ H W r w _ λx H1 L O rx fx nx=>?_;have u1:Up H H1 W (W.add L):=.add O fx;have w1:WOk H1 (W.add L):=w.add O rx.dom;refine U ρ F e2 σ H1 (W.add L) (r.up u1) w1 _ λy H2 M Z J fy ny=>?_;have q:∀a∈L,a∉M:=λa h1 h2=>by
  obtain⟨o,N,_⟩:=rx.dom a h1;rw[fy a h2]at N;cases N
 have eW:∀a,((W.add L).add M).n a↔(W.add (L++M)).n a:=λa=>by
  show(a∈M∨a∈L∨W.n a)↔(a∈L++M∨W.n a);rw[XC];constructor
  .rintro(z|z|z)
   .exact .inl (.inr z)
   .exact .inl (.inl z)
   .exact .inr z
  .rintro((z|z)|z)
   .exact .inr (.inl z)
   .exact .inl z
   .exact .inr (.inr z)
 have a0:(W.add L).add M=W.add (L++M):=by
  show Wn.mk _ _ _=Wn.mk _ _ _;congr 1;funext a;exact propext (eW a)
 have u2:Up H1 H2 (W.add L) (W.add (L++M)):=by rw[←a0];exact .add Z fy
 rw[a0]at J;refine h x y H2 L M (O.trans Z) (rx.up u2) J (λa Y=>?_) (dO nx ny q) ?_
 .rcases XC.mp Y with z|z
  .exact fx a z
  .exact O.none' (fy a z)
 .rw[←a0]
  exact w1.add Z J.dom
def aq(b:Bool)(i:Nat):En->Option D:=λρ=>match ρ[i]? with
 |some (some d)=>some (view b d)
 |_=>none
def eC(d:D):En->Option D:=λ_=>some d
theorem rK(W:Wn):W.add []=W:=by
 cases W;simp[Wn.add]
theorem Tp:RfE G ob (Ov i) (aq (ob i) i):=λρ d e σ H W r w Q q=>by
 unfold aq at e;split at e
 .rename_i d0 e0
  cases e;obtain⟨v,L,h1,h2,F⟩:=r i d0 e0;refine⟨v,h1,q v H [] (Same.refl H) ?_ (by simp) List.nodup_nil⟩;rw[rK];exact h2.view F
 .cases e
variable{X:ι->Cx}
theorem aj(b:Bool)(i:Nat)(U:ob i=b:=by rfl)(O:∀c,(X c).N[i]? =some x:=by intro _;rfl)(Z:∀c,Vis (X c).env.scope x:=by intro _;first|exact aaS rfl|exact aaj (aaS rfl)|exact aaj (aaj rfl))(hd:(x==("__debug__":Str))=false:=by decide)(q:(x==("__classdict__":Str))=false:=by decide):PV X G ob (.Name x pos) (aq b i):=⟨_,λc=>pv i (O c) (Z c) hd q,by rw[←U];exact Tp⟩
theorem Ob(h:∀H W,Rep G H W d v []):RfE G ob (tC v) (eC d):=λρ d' e σ H W r w Q q=>by
 cases e;exact q v H [] (Same.refl H) (h _ _) (by simp) List.nodup_nil
theorem aC{i j pos}:PV X G ob (.Constant (.int i) j pos) (eC (.int i)):=⟨_,λc=>UV,Ob λ_ _=>by simp[Rep]⟩
theorem N6{b j pos}:PV X G ob (.Constant (.bool b) j pos) (eC (.bl b)):=⟨_,λc=>Vy,Ob λ_ _=>by simp[Rep]⟩
theorem Vc{j pos}:PV X G ob (.Constant .none j pos) (eC .non):=⟨_,λc=>U5,Ob λ_ _=>by simp[Rep]⟩
theorem Ds{x j pos}:PV X G ob (.Constant (.str x) j pos) (eC (.str x)):=⟨_,λc=>Um,Ob λ_ _=>by simp[Rep]⟩
theorem lD{n:String}(q:∀c,Gl (X c) x)(J:∀c,(X c).mg x=none)(Z:Z6 x=some (.type n))(hn:x≠"__name__":=by decide)(hd:(x==("__debug__":Str))=false:=by decide):PV X G ob (.Name x pos) (eC (.ty n)):=⟨_,λc=>We (q c) (J c) Z hn hd,Ob λ_ _=>by simp[Rep]⟩
structure OpB{ι:Type}(X:ι->Cx)(G:Gc)(f:Value->Value->Sem Value)(g:D->D->Option D):Prop where
 ex:∃r,(∀c,OpR (X c) f r)/\OpV G r g
structure UnB{ι:Type}(X:ι->Cx)(G:Gc)(f:Value->Sem Value)(g:D->Option D):Prop where
 ex:∃r,(∀c,UnR (X c) f r)/\UnV G r g
structure IxB{ι:Type}(X:ι->Cx)(G:Gc)(g:D->D->Option D):Prop where
 ex:∃r,(∀c,IxR (X c) r)/\OpV G r g
structure CaB{ι:Type}(X:ι->Cx)(G:Gc)(f:Value)(g:List D->Option D):Prop where
 ex:∃r,(∀c,dq (X c) f r)/\CaV G r g
structure MtB{ι:Type}(X:ι->Cx)(G:Gc)(T id:String)(g:D->List D->Option D):Prop where
 ex:∃r,(∀c,MtR (X c) id r)/\MtV G r g/\∀dx ds d,g dx ds=some d->∀(x:V)(H:Hp)(W:Wn)(Lx:List Addr),Rep G H W dx x Lx->tyV G.K T x H
def e2(g:D->D->Option D)(fa fb:En->Option D):En->Option D:=λρ=>(fa ρ).bind λx=>(fb ρ).bind λy=>g x y
def e1(g:D->Option D)(fa:En->Option D):En->Option D:=λρ=>(fa ρ).bind g
variable{g:D->D->Option D}
theorem Cz{r:R2}(N:OpV G r g)(Y:RfE G ob ta fa)(U:RfE G ob tb fb):RfE G ob (tOp r ta tb) (e2 g fa fb):=λρ d e σ H W V w Q q=>by
 unfold e2 at e;cases h1:fa ρ with
 |none=>rw[h1]at e;cases e
 |some dx=>
  rw[h1]at e;cases h2:fb ρ with
  |none=>simp[h2]at e
  |some O=>
   have e:g dx O=some d:=by simpa[h2]using e
   refine RfE.two Y U h1 h2 V w λx y H' L M s rx J fr nd w'=>?_;refine N dx O d e x y H' _ L M rx J nd (w.tmp fr) w' Q λv H2 L2 Z F f2 n2=>?_;refine q v H2 L2 (s.trans Z) ?_ (λa Y=>(f2 a Y).elim (fr a) λz=>s.none' z) n2;exact F.up ⟨Same.refl _,λb u U f=>⟨λz=>z.elim (λz=>f.1 (.inl z)) λz=>f.1 (.inr ⟨.inr z,WOk.new w fr z⟩),f.2⟩,λ_ _ _ f=>f⟩
theorem Ws{r:V->Hp->VK->Prop}{g:D->Option D}(N:UnV G r g)(Y:RfE G ob ta fa):RfE G ob (tUn r ta) (e1 g fa):=λρ d e σ H W rl w Q q=>by
 unfold e1 at e;cases h1:fa ρ with
 |none=>rw[h1]at e;cases e
 |some dx=>
  rw[h1]at e;have e:g dx=some d:=by simpa using e
  refine Y ρ dx h1 σ H W rl w _ λx H' L s rx fr nd=>?_;refine N dx d e x H' _ L rx nd (w.tmp fr) (w.add s rx.dom) Q λv H2 L2 Z F O J=>?_;refine q v H2 L2 (s.trans Z) ?_ (λa Y=>(O a Y).elim (fr a) λz=>s.none' z) J;exact F.up ⟨Same.refl _,λb u U f=>⟨λz=>z.elim (λz=>f.1 (.inl z)) λz=>f.1 (.inr ⟨.inr z,WOk.new w fr z⟩),f.2⟩,λ_ _ _ f=>f⟩
def aF:En->Option (List D):=λ_=>some []
def ak(fa:En->Option D)(fr:En->Option (List D)):En->Option (List D):=λρ=>(fa ρ).bind λx=>(fr ρ).bind λxs=>some (x::xs)
theorem Km:RfA G ob Vf aF:=λρ ds e σ H W V w Q q=>by
 cases e;exact q [] H [] (Same.refl H) .nil (by simp) List.nodup_nil
variable{t:TA}
theorem PK{fr:En->Option (List D)}(Y:RfE G ob ta fa)(O:RfA G ob t fr):RfA G ob (J4 ta t) (ak fa fr):=λρ ds e σ H W V w Q q=>by
 unfold ak at e;cases h1:fa ρ with
 |none=>rw[h1]at e;cases e
 |some dx=>
  rw[h1]at e;cases h2:fr ρ with
  |none=>simp[h2]at e
  |some es=>
   have e:dx::es=ds:=by simpa[h2]using e
   subst e;refine Y ρ dx h1 σ H W V w _ λx H1 L s1 rx fx nx=>?_;have u1:Up H H1 W (W.add L):=.add s1 fx;have w1:WOk H1 (W.add L):=w.add s1 rx.dom;refine O ρ es h2 σ H1 (W.add L) (V.up u1) w1 _ λys H2 M Z J F ny=>?_;have a0:∀a∈L,a∉M:=λa h1 h2=>by
    obtain⟨o,N,_⟩:=rx.dom a h1;rw[F a h2]at N;cases N
   have u2:Up H1 H2 (W.add L) (W.add (L++M)):=⟨Z,λb u U f=>⟨λz=>z.elim (λz=>(XC.mp z).elim (λz=>f.1 (.inl z)) λz=>by rw[F b z]at U;cases U) λz=>f.1 (.inr z),f.2⟩,λ_ _ _ f=>f⟩;refine q (x::ys) H2 (L++M) (s1.trans Z) (.cons (rx.up u2) (J.up ⟨Same.refl _,λb u U f=>⟨λz=>?_,f.2⟩,λ_ _ _ f=>f⟩)) (λa Y=>?_) (dO nx ny a0)
   .rcases z with z|z
    .exact(XC.mp z).elim (λz=>f.1 (.inr (.inl z))) λz=>f.1 (.inl z)
    .exact f.1 (.inr (.inr z))
   .rcases XC.mp Y with z|z
    .exact fx a z
    .exact s1.none' (F a z)
variable{r:List V->Hp->VK->Prop}{f:En->Option (List D)}
theorem tO{g:List D->Option D}(N:CaV G r g)(h:RfA G ob t f):RfE G ob (λσ H Q=>t σ H λvs H1=>r vs H1 Q) (λρ=>(f ρ).bind g):=λρ d e σ H W rl w Q q=>by
 cases h1:f ρ with
 |none=>simp[h1]at e
 |some ds=>
  have e:g ds=some d:=by simpa[h1]using e
  refine h ρ ds h1 σ H W rl w _ λxs H' L s rx fr nd=>?_;refine N ds d e xs H' _ L rx nd (w.tmp fr) (w.add s rx.dom) Q λv H2 L2 Z F O J=>?_;refine q v H2 L2 (s.trans Z) ?_ (λa Y=>(O a Y).elim (fr a) λz=>s.none' z) J;exact F.up ⟨Same.refl _,λb u U f=>⟨λz=>z.elim (λz=>f.1 (.inl z)) λz=>f.1 (.inr ⟨.inr z,WOk.new w fr z⟩),f.2⟩,λ_ _ _ f=>f⟩
def eAp(g:List D->Option D)(f:En->Option (List D)):En->Option D:=λρ=>(f ρ).bind g
variable{fo:En->Option D}
theorem VD{r:V->List V->Hp->VK->Prop}{g:D->List D->Option D}{to:TE}(N:MtV G r g)(a1:∀dx ds d,g dx ds=some d->∀(x:V)(H:Hp)(W:Wn)(Lx:List Addr),Rep G H W dx x Lx->tyV G.K T x H)
  (h0:RfE G ob to fo) (h:RfA G ob t f):RfE G ob (tBM G.K T r to t) (λρ=>(fo ρ).bind λx=>(f ρ).bind λds=>g x ds):=λρ d e σ H W rl w Q q=>by
 cases h1:fo ρ with
 |none=>simp[h1]at e
 |some dx=>
  cases h2:f ρ with
  |none=>simp[h1,h2]at e
  |some ds=>
   have e:g dx ds=some d:=by simpa[h1,h2]using e
   refine h0 ρ dx h1 σ H W rl w _ λx H1 L O rx fx nx=>⟨a1 dx ds d e x H1 _ L rx,?_⟩;have u1:Up H H1 W (W.add L):=.add O fx;have w1:WOk H1 (W.add L):=w.add O rx.dom;refine h ρ ds h2 σ H1 (W.add L) (rl.up u1) w1 _ λys H2 M Z J F ny=>?_;have a0:∀a∈L,a∉M:=λa h1 h2=>by
    obtain⟨o,N,_⟩:=rx.dom a h1;rw[F a h2]at N;cases N
   have u2:Up H1 H2 (W.add L) (W.add (L++M)):=⟨Z,λb u U f=>⟨λz=>z.elim (λz=>(XC.mp z).elim (λz=>f.1 (.inl z)) λz=>by rw[F b z]at U;cases U) λz=>f.1 (.inr z),f.2⟩,λ_ _ _ f=>f⟩;have u3:Up H2 H2 ((W.add L).add M) (W.add (L++M)):=⟨Same.refl _,λb u U f=>⟨λz=>by
    rcases z with z|z
    .exact(XC.mp z).elim (λz=>f.1 (.inr (.inl z))) λz=>f.1 (.inl z)
    .exact f.1 (.inr (.inr z)),f.2⟩,λ_ _ _ f=>f⟩
   have w2:WOk H2 (W.add (L++M)):=w.add (O.trans Z) λa Y=>(XC.mp Y).elim (λz=>let⟨o,h,m⟩:=rx.dom a z;⟨o,Z a o h,m⟩) (J.dom a);refine N dx ds d e x ys H2 (W.add (L++M)) L M (rx.up u2) (J.up u3) (dO nx ny a0) (w.tmp λa Y=>(XC.mp Y).elim (fx a) λz=>O.none' (F a z)) w2 Q λv H3 L3 s3 r3 f3 n3=>?_;refine q v H3 L3 ((O.trans Z).trans s3) ?_ (λa Y=>(f3 a Y).elim (λz=>?_) λz=>(O.trans Z).none' z) n3
   .exact r3.up ⟨Same.refl _,λb u U f=>⟨λz=>z.elim (λz=>f.1 (.inl z)) λz=>f.1 (.inr ⟨.inr z,WOk.new w (λa Y=>(XC.mp Y).elim (fx a) λz=>O.none' (F a z)) z⟩),f.2⟩,λ_ _ _ f=>f⟩
   .rcases XC.mp z with z|z
    .exact fx a z
    .exact O.none' (F a z)
variable{a b:Expr}
theorem cu{op:Operator}(o:OpB X G (ZR op) g)(Y:PV X G ob a fa)(U:PV X G ob b fb):PV X G ob (.BinOp a op b pos) (e2 g fa fb):=let⟨r,o1,o2⟩:=o.ex;let⟨t,a1,a2⟩:=Y.ex;let⟨u,b1,b2⟩:=U.ex;⟨_,λc=>Rm (o1 c) (a1 c) (b1 c),Cz o2 a2 b2⟩
theorem rn(o:OpB X G (YK op) g)(Y:PV X G ob a fa)(U:PV X G ob b fb)(J:acu op b=false:=by with_unfolding_all rfl):PV X G ob (.Compare a [op] [b] pos) (e2 g fa fb):=let⟨r,o1,o2⟩:=o.ex;let⟨t,a1,a2⟩:=Y.ex;let⟨u,b1,b2⟩:=U.ex;⟨_,λc=>Qs (o1 c) (a1 c) (b1 c) J,Cz o2 a2 b2⟩
theorem Gj{op:UnaryOp}{g:D->Option D}(o:UnB X G (unaryOp op) g)(Y:PV X G ob a fa):PV X G ob (.UnaryOp op a pos) (e1 g fa):=let⟨r,o1,o2⟩:=o.ex;let⟨t,a1,a2⟩:=Y.ex;⟨_,λc=>Vh (o1 c) (a1 c),Ws o2 a2⟩
theorem eF(o:IxB X G g)(Y:PV X G ob a fa)(U:PV X G ob b fb)(hs:uw b:=by exact λ_ _=>rfl):PV X G ob (.Subscript a b pos) (e2 g fa fb):=let⟨r,o1,o2⟩:=o.ex;let⟨t,a1,a2⟩:=Y.ex;let⟨u,b1,b2⟩:=U.ex;⟨_,λc=>JZ (o1 c) (a1 c) (b1 c) hs,Cz o2 a2 b2⟩
theorem ao:PVA X G ob [] aF:=⟨_,λc=>TJ,Km⟩
theorem aa{f:En->Option D}{fr:En->Option (List D)}(Y:PV X G ob e f)(O:PVA X G ob es fr)(hs:∀c,X_ (e::es) (X c).env=(false,eval e (X c).env)::X_ es (X c).env:=by intro _;rfl):PVA X G ob (e::es) (ak f fr):=let⟨t,a1,a2⟩:=Y.ex;let⟨u,b1,b2⟩:=O.ex;⟨_,λc=>zF (a1 c) (b1 c) (hs c),PK a2 b2⟩
variable{g:List D->Option D}
theorem aV{id:String}(o:CaB X G (.builtin id) g)(q:∀c,Gl (X c) x)(J:∀c,(X c).mg x=none)(Z:Z6 x=some (.builtin id))(Y:PVA X G ob (e::es) f)(hn:x≠"__name__":=by decide)(U:(x==("__debug__":Str))=false:=by decide)(V:∀c,X_ (e::es) (X c).env=(false,eval e (X c).env)::X_ es (X c).env:=by intro _;rfl)(N:∀c,(aah pos (X_ es (X c).env)).any (·.1)=false:=by intro _;rfl):PV X G ob (.Call (.Name x p) (e::es) [] pos) (eAp g f):=let⟨r,o1,o2⟩:=o.ex;let⟨t,a1,a2⟩:=Y.ex;⟨_,λc=>Bc (o1 c) (q c) (J c) Z (a1 c) hn U (V c) (N c),tO o2 a2⟩
theorem j_(o:CaB X G (.type T) g)(q:∀c,Gl (X c) x)(J:∀c,(X c).mg x=none)(Z:Z6 x=some (.type T))(Y:PVA X G ob (e::es) f)(hn:x≠"__name__":=by decide)(U:(x==("__debug__":Str))=false:=by decide)(V:∀c,X_ (e::es) (X c).env=(false,eval e (X c).env)::X_ es (X c).env:=by intro _;rfl)(N:∀c,(aah pos (X_ es (X c).env)).any (·.1)=false:=by intro _;rfl):PV X G ob (.Call (.Name x p) (e::es) [] pos) (eAp g f):=let⟨r,o1,o2⟩:=o.ex;let⟨t,a1,a2⟩:=Y.ex;⟨_,λc=>xK (o1 c) (q c) (J c) Z (a1 c) hn U (V c) (N c),tO o2 a2⟩
def bT(ds:List D):Option D:=if ds.length<=1000 then some (.tup ds)else none
def aZ(ds:List D):Option D:=if ds.length<=1000 then some (.lst .own ds)else none
theorem Bh(h:n<=1000):n<=X3:=Zq h (by decide)
theorem Gf:CaV G (λxs H Q=>xs.length<=X3/\∀p,H p=none->Q (.ref p) (upd H p (.tup xs))) bT:=λds d e xs H W Z r nd hn w Q q=>by
 unfold bT at e;split at e
 .rename_i hl
  cases e;refine⟨Bh (by rw[←r.length];exact hl),λp F=>?_⟩;have J:Same H (upd H p (.tup xs)):=Same.new F;refine q (.ref p) _ Z J ?_ (λa Y=>.inl Y) nd;rw[Rep];exact⟨p,xs,rfl,aU,r.up ⟨J,λb u U f=>⟨λz=>z.elim (λz=>f.1 (hn b z).1) λz=>f.1 z.1,f.2⟩,λ_ _ _ f=>f⟩⟩
 .cases e
theorem Gh:CaV G (λxs H Q=>xs.length<=X3/\∀p,H p=none->Q (.ref p) (upd H p (.lst xs))) aZ:=λds d e xs H W Z r nd hn w Q q=>by
 unfold aZ at e;split at e
 .rename_i hl
  cases e;refine⟨Bh (by rw[←r.length];exact hl),λp F=>?_⟩;have J:Same H (upd H p (.lst xs)):=Same.new F;refine q (.ref p) _ (p::Z) J ?_ (λa Y=>(XJ.mp Y).elim (λz=>.inr (by rw[z];exact F)) .inl) (Yn.mpr ⟨λz=>?_,nd⟩)
  .rw[Rep]
   exact⟨p,xs,Z,rfl,r.up ⟨J,λb u U f=>⟨λz=>z.elim (λz=>(XJ.mp z).elim (λz=>by rw[z,F]at U;cases U) λz=>f.1 (hn b z).1) λz=>f.1 z.1,f.2⟩,λ_ _ _ f=>f⟩,aU,rfl⟩
  .obtain⟨o,ho,_⟩:=r.dom p z
   rw[F]at ho;cases ho
 .cases e
variable{k:Nat}
theorem gw(h:PVA X G ob es f):PV X G ob (.Tuple es k pos) (eAp bT f):=let⟨t,a1,a2⟩:=h.ex;⟨_,λc=>Mp (a1 c),tO Gf a2⟩
theorem cY(h:PVA X G ob es f):PV X G ob (.List es pos) (eAp aZ f):=let⟨t,a1,a2⟩:=h.ex;⟨_,λc=>KN (a1 c),tO Gh a2⟩
section
variable{G:Gc}{ob:Nat->Bool}{H H1 H2:Hp}{S S1 S2:Ad}{L M:List Addr}{ρ ρ1:En}{σ:L2.St}{Fr:Addr->Prop}
theorem Eff.refl:Eff ob H H S S []:=⟨λ_ _ h _=>h,λ_ _=>rfl,λi a h z=>.inl ⟨i,h,z⟩,by simp⟩
theorem Eff.back(e:Eff ob H H1 S S1 L){a:Addr}(h:H1 a=none):inO ob S a∨H a=none:=by
 by_cases z:inO ob S a
 .exact .inl z
 .refine .inr ?_
  cases q:H a with
  |none=>rfl
  |some u=>rw[e.kp a u q z]at h;cases h
theorem Eff.inO(e:Eff ob H H1 S S1 L){a:Addr}(h:inO ob S1 a):inO ob S a∨H a=none:=let⟨i,h1,h2⟩:=h;e.gr i a h1 h2
theorem Eff.notO(e:Eff ob H H1 S S1 L){a:Addr}{u:HO}(h:H a=some u)(n:¬Jb.inO ob S a):¬Jb.inO ob S1 a:=λz=>(e.inO z).elim n λz=>by rw[h]at z;cases z
theorem Eff.trans(a:Eff ob H H1 S S1 L)(b:Eff ob H1 H2 S1 S2 M):Eff ob H H2 S S2 (L++M)where
 kp:=λc u h n=>b.kp c u (a.kp c u h n) (a.notO h n)
 sn:=λi h=>(b.sn i h).trans (a.sn i h)
 gr:=λi c h z=>(b.gr i c h z).elim a.inO a.back
 fm:=λc Z=>(XC.mp Z).elim (a.fm c) λz=>(b.fm c z).elim a.inO a.back
theorem Eff.same(a:Eff ob H H1 S S1 L)(s:Same H1 H2)(h:∀c∈M,c∈L∨H1 c=none):Eff ob H H2 S S1 M where
 kp:=λc u Z n=>s c u (a.kp c u Z n)
 sn:=a.sn
 gr:=a.gr
 fm:=λc Z=>(h c Z).elim (a.fm c) a.back
theorem Sta.notO(s:Sta G H ob ρ σ S Fr){a:Addr}(h:Fr a):¬inO ob S a:=λ⟨i,_,z⟩=>s.fdj i a h z
theorem Sta.tmp(s:Sta G H ob ρ σ S Fr){a:Addr}(h:Fr a):(wn ob S Fr).tmp a:=⟨h,λ⟨i,_,z⟩=>s.fdj i a h z,λ⟨i,_,z⟩=>s.fdj i a h z⟩
theorem Eff.evo(s:Sta G H ob ρ σ S Fr)(e:Eff ob H H1 S S1 M):Evo H H1 (wn ob S Fr) (wn ob S1 (plus M Fr))where
 k:=λb u h f=>⟨e.kp b u h f.2.2,λz=>z.elim (λz=>(e.fm b z).elim f.2.2 λq=>by rw[h]at q;cases q) f.1,λ⟨i,h1,h2⟩=>f.2.1 ⟨i,h1,by rw[←e.sn i h1];exact h2⟩,e.notO h f.2.2⟩
 t:=λb xs h=>by
  have F:∀u,H b=some u->muO u=false->H1 b=some u:=λu O m=>e.kp b u O λ⟨i,_,z⟩=>by
   obtain⟨o,N,J⟩:=s.mu z;rw[O]at N;cases N;rw[m]at J;cases J
  exact F _ h rfl
theorem Eff.evoN(s:Sta G H ob ρ σ S Fr)(e:Eff ob H H1 S S1 M):Kf H H1 (wn ob S Fr) (wn ob S1 (plus M Fr)):=λb u h ⟨i,h1,h2⟩=>
 ⟨e.kp b u h (λ⟨j,q1,q2⟩=>by rw[s.dj i j b h2 q2,q1]at h1;cases h1),⟨i,h1,by rw[e.sn i h1];exact h2⟩⟩
theorem Eff.keepsF(s:Sta G H ob ρ σ S Fr)(e:Eff ob H H1 S S1 M){a:Addr}(h:Fr a):∀u,H a=some u->H1 a=some u:=λu O=>e.kp a u O (s.notO h)
theorem nJ{L M:List Addr}:plus M (plus L Fr)=plus (L++M) Fr:=by
 funext a;simp![plus,XC,eq_iff_iff];constructor
 .rintro(z|z|z)
  .exact .inl (.inr z)
  .exact .inl (.inl z)
  .exact .inr z
 .rintro((z|z)|z)
  .exact .inr (.inl z)
  .exact .inl z
  .exact .inr (.inr z)
theorem MT{F:List Addr}{d:D}{v:V}(s:Sta G H1 ob ρ1 σ S1 (plus L Fr))(e:Eff ob H H1 S S1 L)(J:Same H1 H2)(r:Rep G H2 (((wn ob S1 (plus L Fr)).drop L).add F) d v F)(f:∀a∈F,a∈L∨H1 a=none)(N:Sta G H ob ρ σ S Fr) :
  Sta G H2 ob ρ1 σ S1 (plus F Fr)/\Rep G H2 (wn ob S1 (plus F Fr)) d v F/\Eff ob H H2 S S1 F:=by
 refine⟨s.grow J λa h=>?_,r.up ⟨Same.refl _,λb u U q=>⟨λz=>?_,q.2⟩,λ_ _ _ q=>q⟩,e.same J f⟩
 .rcases h with h|h
  .exact(f a h).imp .inl λz=>⟨z,r.dom a h⟩
  .exact .inl (.inr h)
 .rcases z with z|z
  .exact q.1 (.inl z)
  .refine q.1 (.inr ⟨.inr z,λh=>?_⟩)
   rcases e.fm b h with y|y
   .exact N.notO z y
   .obtain⟨o,ho,_⟩:=N.fdm b z
    rw[y]at ho;cases ho
end
def eUp(f:En->Option D):En->Option (D×En):=λρ=>(f ρ).map λd=>(d,ρ)
theorem wY{f:En->Option D}(h:RfE G ob ta f):jQ G ob ta (eUp f):=λρ d Z e σ H S Fr s Q q=>by
 unfold eUp at e;cases h1:f ρ with
 |none=>rw[h1]at e;cases e
 |some d0=>
  rw[h1]at e;cases e;refine h ρ d h1 σ H _ s.rel s.wok Q λv H' L J r fr nd=>?_;exact q v H' L S (s.grow J λa z=>z.elim (λz=>.inr ⟨fr a z,r.dom a z⟩) .inl) r nd ⟨λb u U _=>J b u U,λ_ _=>rfl,λi a h z=>.inl ⟨i,h,z⟩,λa Y=>.inr (fr a Y)⟩
def ug(f:En->Option Bool):En->Option (Bool×En):=λρ=>(f ρ).map λd=>(d,ρ)
theorem Nk{t:TT}{f:En->Option Bool}(h:RfT G ob t f):zf G ob t (ug f):=λρ d Z e σ H S Fr s Q q=>by
 unfold ug at e;cases h1:f ρ with
 |none=>rw[h1]at e;cases e
 |some d0=>
  rw[h1]at e;cases e;refine h ρ d h1 σ H _ s.rel s.wok Q λH' J=>?_;exact q H' S (s.grow J λa z=>.inl z) ⟨λb u U _=>J b u U,λ_ _=>rfl,λi a h z=>.inl ⟨i,h,z⟩,by simp⟩
def eE(f:En->Option (List D)):En->Option (List D×En):=λρ=>(f ρ).map λd=>(d,ρ)
theorem Sq(h:RfA G ob t f):Di G ob t (eE f):=λρ d Z e σ H S Fr s Q q=>by
 unfold eE at e;cases h1:f ρ with
 |none=>rw[h1]at e;cases e
 |some d0=>
  rw[h1]at e;cases e;refine h ρ d h1 σ H _ s.rel s.wok Q λv H' L J r fr nd=>?_;exact q v H' L S (s.grow J λa z=>z.elim (λz=>.inr ⟨fr a z,r.dom a z⟩) .inl) r nd ⟨λb u U _=>J b u U,λ_ _=>rfl,λi a h z=>.inl ⟨i,h,z⟩,λa Y=>.inr (fr a Y)⟩
theorem cO{f:En->Option D}(h:PV X G ob e f):PVe X G ob e (eUp f):=let⟨t,a1,a2⟩:=h.ex;⟨t,a1,wY a2⟩
theorem uz{f:En->Option Bool}(h:PVT X G ob e f):Dc X G ob e (ug f):=let⟨t,a1,a2⟩:=h.ex;⟨t,a1,Nk a2⟩
theorem a_{e:List Expr}(h:PVA X G ob e f):wJ X G ob e (eE f):=let⟨t,a1,a2⟩:=h.ex;⟨t,a1,Sq a2⟩
variable{fa fb:En->Option (D×En)}
theorem jQ.two(Y:jQ G ob ta fa)(U:jQ G ob tb fb){ρ1 ρ2:En}{dx F:D}(e1:fa ρ=some (dx,ρ1))(e2:fb ρ1=some (F,ρ2))(J:au dx=true){Fr:Addr->Prop}(s:Sta G H ob ρ σ S Fr)
  (h:∀x y H' L M S',Sta G H' ob ρ2 σ S' (plus (L++M) Fr)->Rep G H' (wn ob S' (plus (L++M) Fr)) dx x L->Rep G H' (wn ob S' (plus (L++M) Fr)) F y M->(L++M).Nodup->Eff ob H H' S S' (L++M)->R x y H'):ta σ H λx H1=>tb σ H1 λy H2=>R x y H2:=by
 refine Y ρ dx ρ1 e1 σ H S Fr s _ λx H1 L S1 O rx nx f1=>?_;refine U ρ1 F ρ2 e2 σ H1 S1 (plus L Fr) O _ λy H2 M S2 s2 ry q N=>?_;have a0:=rx.mono (N.evo O) (.inr (N.evoN O)) (.inl J) λc Z u hu=>N.keepsF O (.inl Z) u hu;rw[nJ]at s2 ry a0;refine h x y H2 L M S2 s2 a0 ry (dO nx q λa h1 h2=>?_) (f1.trans N);rcases N.fm a h2 with z|z
 .exact O.notO (.inl h1) z
 .obtain⟨o,ho,_⟩:=rx.dom a h1
  rw[z]at ho;cases ho
def ee2(g:D->D->Option D)(fa fb:En->Option (D×En)):En->Option (D×En):=λρ=>(fa ρ).bind λp=>(fb p.2).bind λq=>if au p.1 then(g p.1 q.1).map λd=>(d,q.2)else none
theorem Dj{r:R2}{g:D->D->Option D}(N:OpV G r g)(Y:jQ G ob ta fa)(U:jQ G ob tb fb):jQ G ob (tOp r ta tb) (ee2 g fa fb):=λρ d Z e σ H S Fr s Q q=>by
 unfold ee2 at e;cases h1:fa ρ with
 |none=>simp[h1]at e
 |some p=>
  obtain⟨dx,ρ1⟩:=p;cases h2:fb ρ1 with
  |none=>simp[h1,h2]at e
  |some p=>
   obtain⟨V,ρ2⟩:=p;cases J:au dx with
   |false=>simp[h1,h2,J]at e
   |true=>
    cases F:g dx V with
    |none=>simp[h1,h2,J,F]at e
    |some d'=>
     obtain⟨rfl,rfl⟩:d'=d/\ρ2=Z:=by simpa[h1,h2,J,F]using e
     refine jQ.two Y U h1 h2 J s λx y H' L M S' s' rx ry nd O=>?_;refine N dx V _ F x y H' _ L M rx ry nd (λa Y=>s'.tmp (.inl Y)) s'.wok Q λv H3 L3 s3 r3 f3 n3=>?_;obtain⟨q1,q2,q3⟩:=MT s' O s3 r3 f3 s;exact q v H3 L3 S' q1 q2 n3 q3
def fD(fa:En->Option (D×En))(fr:En->Option (List D×En)):En->Option (List D×En):=λρ=>(fa ρ).bind λp=>(fr p.2).bind λq=>if au p.1 then some (p.1::q.1,q.2)else none
theorem MF{fr:En->Option (List D×En)}(Y:jQ G ob ta fa)(O:Di G ob t fr):Di G ob (J4 ta t) (fD fa fr):=λρ ds V e σ H S Fr s Q q=>by
 unfold fD at e;cases h1:fa ρ with
 |none=>simp[h1]at e
 |some p=>
  obtain⟨dx,ρ1⟩:=p;cases h2:fr ρ1 with
  |none=>simp[h1,h2]at e
  |some p=>
   obtain⟨es,ρ2⟩:=p;cases J:au dx with
   |false=>simp[h1,h2,J]at e
   |true=>
    obtain⟨rfl,rfl⟩:dx::es=ds/\ρ2=V:=by simpa[h1,h2,J]using e
    refine Y ρ dx ρ1 h1 σ H S Fr s _ λx H1 L S1 U rx nx f1=>?_;refine O ρ1 es _ h2 σ H1 S1 (plus L Fr) U _ λys H2 M S2 s2 ry ny N=>?_;have F:=rx.mono (N.evo U) (.inr (N.evoN U)) (.inl J) λc Z u hu=>N.keepsF U (.inl Z) u hu;rw[nJ]at s2 ry F;refine q (x::ys) H2 (L++M) S2 s2 (.cons F ry) (dO nx ny λa h1 h2=>?_) (f1.trans N);rcases N.fm a h2 with z|z
    .exact U.notO (.inl h1) z
    .obtain⟨o,ho,_⟩:=rx.dom a h1
     rw[z]at ho;cases ho
def qZ(g:List D->Option D)(f:En->Option (List D×En)):En->Option (D×En):=λρ=>(f ρ).bind λp=>(g p.1).map λd=>(d,p.2)
variable{f:En->Option (List D×En)}
theorem yM(N:CaV G r g)(h:Di G ob t f):jQ G ob (λσ H Q=>t σ H λvs H1=>r vs H1 Q) (qZ g f):=λρ d Z e σ H S Fr s Q q=>by
 unfold qZ at e;cases h1:f ρ with
 |none=>simp[h1]at e
 |some p=>
  obtain⟨ds,ρ1⟩:=p;cases F:g ds with
  |none=>simp[h1,F]at e
  |some d'=>
   obtain⟨rfl,rfl⟩:d'=d/\ρ1=Z:=by simpa[h1,F]using e
   refine h ρ ds _ h1 σ H S Fr s _ λxs H' L S' s' rx nd O=>?_;refine N ds _ F xs H' _ L rx nd (λa Y=>s'.tmp (.inl Y)) s'.wok Q λv J L3 s3 U f3 n3=>?_;obtain⟨q1,q2,q3⟩:=MT s' O s3 U f3 s;exact q v J L3 S' q1 q2 n3 q3
theorem jo{op:Operator}{g:D->D->Option D}(o:OpB X G (ZR op) g)(Y:PVe X G ob a fa)(U:PVe X G ob b fb):PVe X G ob (.BinOp a op b pos) (ee2 g fa fb):=let⟨r,o1,o2⟩:=o.ex;let⟨t,a1,a2⟩:=Y.ex;let⟨u,b1,b2⟩:=U.ex;⟨_,λc=>Rm (o1 c) (a1 c) (b1 c),Dj o2 a2 b2⟩
theorem iB{g:D->D->Option D}(o:IxB X G g)(Y:PVe X G ob a fa)(U:PVe X G ob b fb)(hs:uw b:=by exact λ_ _=>rfl):PVe X G ob (.Subscript a b pos) (ee2 g fa fb):=let⟨r,o1,o2⟩:=o.ex;let⟨t,a1,a2⟩:=Y.ex;let⟨u,b1,b2⟩:=U.ex;⟨_,λc=>JZ (o1 c) (a1 c) (b1 c) hs,Dj o2 a2 b2⟩
theorem cL{f:En->Option (D×En)}{fr:En->Option (List D×En)}(Y:PVe X G ob e f)(O:wJ X G ob es fr)(hs:∀c,X_ (e::es) (X c).env=(false,eval e (X c).env)::X_ es (X c).env:=by intro _;rfl):wJ X G ob (e::es) (fD f fr):=let⟨t,a1,a2⟩:=Y.ex;let⟨u,b1,b2⟩:=O.ex;⟨_,λc=>zF (a1 c) (b1 c) (hs c),MF a2 b2⟩
theorem xu{id:String}(o:CaB X G (.builtin id) g)(q:∀c,Gl (X c) x)(J:∀c,(X c).mg x=none)(Z:Z6 x=some (.builtin id))(Y:wJ X G ob (e::es) f)(hn:x≠"__name__":=by decide)(U:(x==("__debug__":Str))=false:=by decide)(V:∀c,X_ (e::es) (X c).env=(false,eval e (X c).env)::X_ es (X c).env:=by intro _;rfl)(N:∀c,(aah pos (X_ es (X c).env)).any (·.1)=false:=by intro _;rfl):PVe X G ob (.Call (.Name x p) (e::es) [] pos) (qZ g f):=let⟨r,o1,o2⟩:=o.ex;let⟨t,a1,a2⟩:=Y.ex;⟨_,λc=>Bc (o1 c) (q c) (J c) Z (a1 c) hn U (V c) (N c),yM o2 a2⟩
theorem DX(o:CaB X G (.type T) g)(q:∀c,Gl (X c) x)(J:∀c,(X c).mg x=none)(Z:Z6 x=some (.type T))(Y:wJ X G ob (e::es) f)(hn:x≠"__name__":=by decide)(U:(x==("__debug__":Str))=false:=by decide)(V:∀c,X_ (e::es) (X c).env=(false,eval e (X c).env)::X_ es (X c).env:=by intro _;rfl)(N:∀c,(aah pos (X_ es (X c).env)).any (·.1)=false:=by intro _;rfl):PVe X G ob (.Call (.Name x p) (e::es) [] pos) (qZ g f):=let⟨r,o1,o2⟩:=o.ex;let⟨t,a1,a2⟩:=Y.ex;⟨_,λc=>xK (o1 c) (q c) (J c) Z (a1 c) hn U (V c) (N c),yM o2 a2⟩
theorem Qu(h:wJ X G ob es f):PVe X G ob (.Tuple es k pos) (qZ bT f):=let⟨t,a1,a2⟩:=h.ex;⟨_,λc=>Mp (a1 c),yM Gf a2⟩
theorem Gn(h:wJ X G ob es f):PVe X G ob (.List es pos) (qZ aZ f):=let⟨t,a1,a2⟩:=h.ex;⟨_,λc=>KN (a1 c),yM Gh a2⟩
def truth:D->Option Bool
 |.non=>some false
 |.bl b=>some b
 |.int i=>some (i !=0)
 |.str y=>if y.length<=X3 then some ((y.length:Int)!=0)else none
 |.lst _ ds=>some (!ds.isEmpty)
 |.tup ds=>some (!ds.isEmpty)
 |.dct m _ ds=>if m= .scr then none else some (!ds.isEmpty)
 |_=>none
theorem rm(r:aH G H W ds xs L):ds.isEmpty=xs.isEmpty:=by
 have:=r.length;cases ds<;>cases xs<;>simp_all
theorem J2{k:Bool}(r:Rep G H W d v L)(h:truth d=some k):Pk G.K v H k:=by
 cases d with
 |non=>rw[Rep]at r;obtain⟨rfl,_⟩:=r;cases h;rfl
 |bl b=>rw[Rep]at r;obtain⟨rfl,_⟩:=r;cases h;rfl
 |int i=>rw[Rep]at r;obtain⟨rfl,_⟩:=r;cases h;rfl
 |str y=>
  rw[Rep]at r;obtain⟨rfl,_⟩:=r;simp![truth]at h;split at h
  .cases h;exact⟨‹_›,rfl⟩
  .cases h
 |ty n=>cases h
 |tup ds=>
  rw[Rep]at r;obtain⟨a,xs,rfl,U,O⟩:=r;cases h;exact .inr (.inl ⟨xs,SqT.of U,by rw[rm O]⟩)
 |lst m ds=>
  rw[Rep]at r;obtain⟨a,xs,M,rfl,O,hs⟩:=r;cases h;exact .inl ⟨xs,hs.sq,by rw[rm O]⟩
 |dct m ks ds=>
  rw[Rep]at r;obtain⟨a,kvs,M,rfl,J,O,hs⟩:=r;simp![truth]at h;split at h
  .cases h
  .cases h
   refine .inr (.inr ⟨kvs,hs.at ‹_›,?_⟩);rw[rm O];cases kvs<;>rfl
 |ins m c fs ds=>cases h
section
variable{ι:Type}{X:ι->Cx}{G:Gc}{ob:Nat->Bool}{a b:Expr}{pos:Pos}
def pZ(f:En->Option D):En->Option Bool:=λρ=>(f ρ).bind truth
theorem Sv{ta:TE}{f:En->Option D}(h:RfE G ob ta f):RfT G ob (λσ H Q=>ta σ H λx H'=>∃k,Pk G.K x H' k/\Q k H') (pZ f):=λρ k e σ H W V w Q q=>by
 unfold pZ at e;cases h1:f ρ with
 |none=>simp[h1]at e
 |some d=>
  have e:truth d=some k:=by simpa[h1]using e
  exact h ρ d h1 σ H W V w _ λx H' L s r fr nd=>⟨k,J2 r e,q H' s⟩
theorem nG{f:En->Option D}(h:PV X G ob a f)(V:∀c,∀q,aed a (X c).env q=(do let v ←q;afi a.pos;aa2 [v] (truthy v)):=by intro _;intro _;rfl)(F:∀c,(X c).K=G.K:=by intro _;rfl):PVT X G ob a (pZ f):=let⟨t,a1,a2⟩:=h.ex;⟨_,λc=>(by have h:=Nu (a1 c) (V c);rw[F c]at h;exact h),Sv a2⟩
def isB:D->Option Bool
 |.bl b=>some b
 |_=>none
def eB(f:En->Option D):En->Option Bool:=λρ=>(f ρ).bind isB
def eeB(f:En->Option (D×En)):En->Option (Bool×En):=λρ=>(f ρ).bind λp=>(isB p.1).map λb=>(b,p.2)
theorem vm{d:D}{k:Bool}(h:isB d=some k):d= .bl k:=by
 cases d<;>simp[isB]at h;rw[h]
theorem Wo{ta:TE}{f:En->Option D}(h:RfE G ob ta f):RfT G ob (Gb ta) (eB f):=λρ k e σ H W V w Q q=>by
 unfold eB at e;cases h1:f ρ with
 |none=>simp[h1]at e
 |some d=>
  have e:isB d=some k:=by simpa[h1]using e
  have:=vm e;subst this;refine h ρ _ h1 σ H W V w _ λx H' L s r fr nd=>⟨k,?_,q H' s⟩;rw[Rep]at r;exact r.1
theorem Wm{ta:TE}{f:En->Option (D×En)}(h:jQ G ob ta f):zf G ob (Gb ta) (eeB f):=λρ k Z e σ H S Fr s Q q=>by
 unfold eeB at e;cases h1:f ρ with
 |none=>simp[h1]at e
 |some p=>
  obtain⟨d,ρ1⟩:=p;cases h2:isB d with
  |none=>simp[h1,h2]at e
  |some F=>
   obtain⟨rfl,rfl⟩:F=k/\ρ1=Z:=by simpa[h1,h2]using e
   have:=vm h2;subst this;refine h ρ _ _ h1 σ H S Fr s _ λx H' M S' s' r nd O=>⟨F,?_,q H' S' (s'.lessF λa z=>.inr z) (O.same (Same.refl _) (by simp))⟩;rw[Rep]at r;exact r.1
theorem bZ{fa fb:En->Option D}{op:CmpOp}{g:D->D->Option D}(o:OpB X G (YK op) g)(Y:PV X G ob a fa)(U:PV X G ob b fb)(J:acu op b=false:=by with_unfolding_all rfl):PVT X G ob (.Compare a [op] [b] pos) (eB (e2 g fa fb)):=let⟨r,o1,o2⟩:=o.ex;let⟨t,a1,a2⟩:=Y.ex;let⟨u,b1,b2⟩:=U.ex;⟨_,λc=>G9 (o1 c) (a1 c) (b1 c) J,Wo (Cz o2 a2 b2)⟩
theorem v5{fa fb:En->Option (D×En)}{op:CmpOp}{g:D->D->Option D}(o:OpB X G (YK op) g)(Y:PVe X G ob a fa)(U:PVe X G ob b fb)(J:acu op b=false:=by with_unfolding_all rfl):Dc X G ob (.Compare a [op] [b] pos) (eeB (ee2 g fa fb)):=let⟨r,o1,o2⟩:=o.ex;let⟨t,a1,a2⟩:=Y.ex;let⟨u,b1,b2⟩:=U.ex;⟨_,λc=>G9 (o1 c) (a1 c) (b1 c) J,Wm (Dj o2 a2 b2)⟩
def pA(f g:En->Option Bool):En->Option Bool:=λρ=>(f ρ).bind λc=>if c then g ρ else some false
def eOr(f g:En->Option Bool):En->Option Bool:=λρ=>(f ρ).bind λc=>if c then some true else g ρ
def pG(f:En->Option Bool):En->Option Bool:=λρ=>(f ρ).map λc=>!c
def wC(f g:En->Option (Bool×En)):En->Option (Bool×En):=λρ=>(f ρ).bind λp=>if p.1 then g p.2 else some (false,p.2)
theorem Sy{t u:TT}{f g:En->Option Bool}(h:RfT G ob t f)(h':RfT G ob u g):RfT G ob (R6 t u) (pA f g):=λρ k e σ H W V w Q q=>by
 unfold pA at e;cases h1:f ρ with
 |none=>simp[h1]at e
 |some c=>
  refine h ρ c h1 σ H W V w _ λH1 O=>?_;cases c with
  |false=>
   have:false=k:=by simpa[h1]using e
   subst this;exact vQ (q H1 O)
  |true=>
   have e:g ρ=some k:=by simpa[h1]using e
   exact pB (h' ρ k e σ H1 W (V.up (Up.same O)) (λa Y=>let⟨o,z,m⟩:=w a Y;⟨o,O a o z,m⟩) Q λH2 Z=>q H2 (O.trans Z))
theorem VJ{t u:TT}{f g:En->Option Bool}(h:RfT G ob t f)(h':RfT G ob u g):RfT G ob (tOr t u) (eOr f g):=λρ k e σ H W V w Q q=>by
 unfold eOr at e;cases h1:f ρ with
 |none=>simp[h1]at e
 |some c=>
  refine h ρ c h1 σ H W V w _ λH1 O=>?_;cases c with
  |true=>
   have:true=k:=by simpa[h1]using e
   subst this;exact pB (q H1 O)
  |false=>
   have e:g ρ=some k:=by simpa[h1]using e
   exact vQ (h' ρ k e σ H1 W (V.up (Up.same O)) (λa Y=>let⟨o,z,m⟩:=w a Y;⟨o,O a o z,m⟩) Q λH2 Z=>q H2 (O.trans Z))
theorem Sx{t:TT}{f:En->Option Bool}(h:RfT G ob t f):RfT G ob (WD t) (pG f):=λρ k e σ H W V w Q q=>by
 unfold pG at e;cases h1:f ρ with
 |none=>simp[h1]at e
 |some c=>
  have:(!c)=k:=by simpa[h1]using e
  subst this;exact h ρ c h1 σ H W V w _ λH1 O=>q H1 O
theorem Ra{t u:TT}{f g:En->Option (Bool×En)}(h:zf G ob t f)(h':zf G ob u g):zf G ob (R6 t u) (wC f g):=λρ k Z e σ H S Fr s Q q=>by
 unfold wC at e;cases h1:f ρ with
 |none=>simp[h1]at e
 |some p=>
  obtain⟨c,ρ1⟩:=p;refine h ρ c ρ1 h1 σ H S Fr s _ λH1 S1 O J=>?_;cases c with
  |false=>
   obtain⟨rfl,rfl⟩:false=k/\ρ1=Z:=by simpa[h1]using e
   exact vQ (q H1 S1 O J)
  |true=>
   have e:g ρ1=some (k,Z):=by simpa[h1]using e
   exact pB (h' ρ1 k Z e σ H1 S1 Fr O Q λH2 S2 F N=>q H2 S2 F (J.trans N))
variable{rest:List Expr}{fa fb:En->Option Bool}{ga gb:En->Option (Bool×En)}
theorem uB(Y:PVT X G ob a fa)(U:PVW X G ob (.BoolOp .And (b::rest) pos) fb):PVW X G ob (.BoolOp .And (a::b::rest) pos) (pA fa fb):=let⟨t,a1,a2⟩:=Y.ex;let⟨u,b1,b2⟩:=U.ex;⟨_,λc=>KY (a1 c) (b1 c),Sy a2 b2⟩
theorem Dz(Y:PVT X G ob a fa)(U:PVW X G ob (.BoolOp .Or (b::rest) pos) fb):PVW X G ob (.BoolOp .Or (a::b::rest) pos) (eOr fa fb):=let⟨t,a1,a2⟩:=Y.ex;let⟨u,b1,b2⟩:=U.ex;⟨_,λc=>WT (a1 c) (b1 c),VJ a2 b2⟩
theorem qd(Y:PVT X G ob a fa):PVW X G ob (.BoolOp .And [a] pos) fa:=let⟨t,a1,a2⟩:=Y.ex;⟨_,λc=>FJ (a1 c),a2⟩
theorem yC(Y:PVT X G ob a fa):PVW X G ob (.BoolOp .Or [a] pos) fa:=let⟨t,a1,a2⟩:=Y.ex;⟨_,λc=>UW (a1 c),a2⟩
theorem vd(h:PVW X G ob a fa):PVT X G ob a fa:=let⟨t,a1,a2⟩:=h.ex;⟨_,λc=>PW.pt (a1 c),a2⟩
theorem uy(Y:PVT X G ob a fa):PVT X G ob (.UnaryOp .Not a pos) (pG fa):=let⟨t,a1,a2⟩:=Y.ex;⟨_,λc=>T6 (a1 c),Sx a2⟩
theorem vq(Y:Dc X G ob a ga)(U:Rg X G ob (.BoolOp .And (b::rest) pos) gb):Rg X G ob (.BoolOp .And (a::b::rest) pos) (wC ga gb):=let⟨t,a1,a2⟩:=Y.ex;let⟨u,b1,b2⟩:=U.ex;⟨_,λc=>KY (a1 c) (b1 c),Ra a2 b2⟩
theorem rG(Y:Dc X G ob a ga):Rg X G ob (.BoolOp .And [a] pos) ga:=let⟨t,a1,a2⟩:=Y.ex;⟨_,λc=>FJ (a1 c),a2⟩
theorem Eo(h:Rg X G ob a ga):Dc X G ob a ga:=let⟨t,a1,a2⟩:=h.ex;⟨_,λc=>PW.pt (a1 c),a2⟩
def wI(f g:En->Option D):En->Option D:=λρ=>(f ρ).bind λx=>(isB x).bind λc=>if c then g ρ else some (.bl false)
theorem WOk.up{H H':Hp}{W:Wn}(w:WOk H W)(s:Same H H'):WOk H' W:=λa Y=>let⟨o,z,m⟩:=w a Y;⟨o,s a o z,m⟩
theorem Tf{G:Gc}{H:Hp}{W:Wn}{b:Bool}:Rep G H W (.bl b) (.bl b) []:=by rw[Rep];exact⟨rfl,rfl⟩
theorem Ow{ta tb:TE}{f g:En->Option D}(h:RfE G ob ta f)(h':RfE G ob tb g):RfE G ob (Rn ta tb) (wI f g):=λρ d e σ H W V w Q q=>by
 unfold wI at e;cases h1:f ρ with
 |none=>simp[h1]at e
 |some x=>
  cases h2:isB x with
  |none=>simp[h1,h2]at e
  |some c=>
   have:=vm h2;subst this;refine h ρ _ h1 σ H W V w _ λv H1 L O r fr nd=>?_;rw[Rep]at r;refine⟨c,r.1,?_⟩;cases c with
   |false=>
    have:D.bl false=d:=by simpa[h1,isB]using e
    subst this;exact vQ (q _ H1 [] O Tf (by simp) List.nodup_nil)
   |true=>
    have e:g ρ=some d:=by simpa[h1,isB]using e
    exact pB (h' ρ d e σ H1 W (V.up (Up.same O)) (w.up O) Q λv H2 L Z r fr nd=>q v H2 L (O.trans Z) r (λa Y=>O.none' (fr a Y)) nd)
section
variable{c:Expr}{fa fb:En->Option D}{fc:En->Option Bool}
theorem wA(Y:PV X G ob a fa)(U:PV X G ob (.BoolOp .And (b::rest) pos) fb):PV X G ob (.BoolOp .And (a::b::rest) pos) (wI fa fb):=let⟨t,a1,a2⟩:=Y.ex;let⟨u,b1,b2⟩:=U.ex;⟨_,λc=>R9 (a1 c) (b1 c),Ow a2 b2⟩
theorem zJ{op}(Y:PV X G ob a fa):PV X G ob (.BoolOp op [a] pos) fa:=let⟨t,a1,a2⟩:=Y.ex;⟨_,λc=>Tu (a1 c),a2⟩
end
end
section
variable{G:Gc}{ob P:Nat->Bool}{H H1 H2:Hp}{S S1 S2:Ad}{L M:List Addr}{ρ ρ1:En}{σ:L2.St}{Fr:Addr->Prop}
def ie(S:Ad)(i:Nat)(M:List Addr):Ad:=λj=>if j=i then M else S j
theorem dU{i:Nat}:ie S i M i=M:=X7 rfl
theorem d7{i j:Nat}(h:j≠i):ie S i M j=S j:=Yc h
theorem dD{i j:Nat}{a:Addr}(h:a∈ie S i M j):(j=i/\a∈M)∨(j≠i/\a∈S j):=by
 by_cases e:j=i
 .rw[e,dU]at h;exact .inl ⟨e,h⟩
 .rw[d7 e]at h;exact .inr ⟨e,h⟩
theorem Mv.refl:Mv P H H σ σ S S M:=⟨λ_ _ h _ _=>h,λi a z=>.inl ⟨i,z⟩,.refl⟩
theorem Sta.store{i:Nat}{d:D}{v:V}(s:Sta G H ob ρ σ S (plus M Fr))(r:Rep G H (wn ob S (plus M Fr)) d v M)(Z:clean d=true)(nd:M.Nodup)(J:∀a∈M,¬Fr a) :
  ∃S',Sta G H ob (ρ.set i (some d)) (σ.set i (some v)) S' Fr/\∀j a,a∈S' j->inS S a∨a∈M:=by
 by_cases hi:i<ρ.length
 .refine⟨ie S i M,⟨by simp[s.len],λj e U=>?_,λj hj=>?_,λj=>?_,λj k a h1 h2=>?_,λj a h1 h2=>?_,λa h=>s.fdm a (.inr h)⟩,λj a h=>?_⟩
  .have ev:Evo H H (wn ob S (plus M Fr)) (wn ob (ie S i M) Fr):=⟨λb u h f=>⟨h,⟨λz=>f.1 (.inr z),λ⟨k,h1,h2⟩=>?_,λ⟨k,h1,h2⟩=>?_⟩⟩,λ_ _ h=>h⟩
   .by_cases e:j=i
    .subst e
     have:d=e:=by simpa[hi]using U
     have:d=e:=this;subst this;have Y:j<σ.length:=by rw[←s.len];exact hi
     refine⟨v,by simp[Y],?_,Z⟩;rw[dU];have q:az d=true/\au d=true:=by simpa[clean]using Z
     exact r.mono ev (.inl q.1) (.inl q.2) λ_ _ _ h=>h
    .rw[List.getElem?_set_ne (YC e)]at U
     obtain⟨N,h1,h2,F⟩:=s.sl j _ U;refine⟨N,by rw[List.getElem?_set_ne (YC e)];exact h1,?_,F⟩;rw[d7 e];have q:=(by simpa[clean]using F:az _=true/\au _=true);exact h2.mono ev (.inl q.1) (.inl q.2) λ_ _ _ h=>h
   .rcases dD h2 with⟨_,z⟩|⟨_,z⟩
    .exact f.1 (.inl z)
    .exact f.2.1 ⟨k,h1,z⟩
   .rcases dD h2 with⟨_,z⟩|⟨_,z⟩
    .exact f.1 (.inl z)
    .exact f.2.2 ⟨k,h1,z⟩
  .by_cases e:j=i
   .subst e
    exact absurd (by simp[hi]) (hj d)
   .rw[d7 e]
    exact s.em j λd'=>by have:=hj d';rwa[List.getElem?_set_ne (YC e)]at this
  .by_cases e:j=i
   .rw[e,dU];exact nd
   .rw[d7 e];exact s.nd j
  .rcases dD h1 with⟨e1,z1⟩|⟨e1,z1⟩<;>rcases dD h2 with⟨e2,O⟩|⟨e2,O⟩
   .rw[e1,e2]
   .exact absurd O (s.fdj k a (.inl z1))
   .exact absurd z1 (s.fdj j a (.inl O))
   .exact s.dj j k a z1 O
  .rcases dD h2 with⟨_,z⟩|⟨_,z⟩
   .exact J a z h1
   .exact s.fdj j a (.inr h1) z
  .rcases dD h with⟨_,z⟩|⟨_,z⟩
   .exact .inr z
   .exact .inl ⟨j,z⟩
 .have h1:ρ.set i (some d)=ρ:=adN (by omega)
  have h2:σ.set i (some v)=σ:=adN (by rw[←s.len];omega);rw[h1,h2];exact⟨S,s.lessF λa z=>.inr z,λj a h=>.inl ⟨j,h⟩⟩
end
section
variable{ι:Type}{X:ι->Cx}{G:Gc}{ob P:Nat->Bool}
def iM:En->Option Fl:=λρ=>some (.nx ρ)
def bF(f g:En->Option Fl):En->Option Fl:=λρ=>match f ρ with
 |some (.nx ρ')=>g ρ'
 |r=>r
theorem Aft.from{G:Gc}{H H1:Hp}{σ N:L2.St}{S S1:Ad}{Fr:Addr->Prop}{E:Ends}(m:Mv P H H1 σ N S S1 []):∀{r:Fl},Aft G ob P H σ S Fr E r->Aft G ob P H1 N S1 Fr E r
 |.nx ρ',h=>λF H' S' s O=>h F H' S' s (m.trans O)
 |.brk ρ',h=>λF H' S' s O=>h F H' S' s (m.trans O)
 |.cnt ρ',h=>λF H' S' s O=>h F H' S' s (m.trans O)
 |.ret d ρ',h=>λv F H' M S' s r c n f O=>h v F H' M S' s r c n (λa Y=>by
  rcases f a Y with⟨i,z⟩|z
  .exact(m.gr i a z).elim .inl λz=>z.elim (λz=>by cases z) .inr
  .by_cases q:inS S a
   .exact .inl q
   .refine .inr ?_
    cases e:H a with
    |none=>rfl
    |some u=>rw[m.kp a u e q (by simp)]at z;cases z) (m.trans O)
theorem O1:RfS G ob P RJ iM:=λρ r e σ H S Fr s E h=>by
 cases e;exact h σ H S s .refl
theorem Oh{t u:TS}{f g:En->Option Fl}(h1:RfS G ob P t f)(h2:RfS G ob P u g):RfS G ob P (Wl t u) (bF f g):=λρ r e σ H S Fr s E h=>by
 unfold bF at e;cases J:f ρ with
 |none=>rw[J]at e;cases e
 |some q=>
  rw[J]at e;refine h1 ρ q J σ H S Fr s _ ?_;cases q with
  |nx Z=>exact λF H' S' s' m=>h2 Z r e F H' S' Fr s' E (h.from m)
  |brk Z=>cases e;exact h
  |cnt Z=>cases e;exact h
  |ret d Z=>cases e;exact h
theorem dZ:tE X G ob P [] iM:=⟨_,λc=>O4,O1⟩
theorem aK{st:Stmt}{rest:List Stmt}{f g:En->Option Fl}(h1:PVS X G ob P st f)(h2:tE X G ob P rest g):tE X G ob P (st::rest) (bF f g):=let⟨t,a1,a2⟩:=h1.ex;let⟨u,b1,b2⟩:=h2.ex;⟨_,λc=>KH (a1 c) (b1 c),Oh a2 b2⟩
theorem aO{st:Stmt}{f:En->Option Fl}(h1:PVS X G ob P st f):tE X G ob P [st] f:=let⟨t,a1,a2⟩:=h1.ex;⟨_,λc=>Qq (a1 c),a2⟩
def tgN(i:Nat):D->En->Option En:=λd ρ=>if clean d then some (ρ.set i (some d))else none
theorem jk{i:Nat}(U:P i=false):RfG G ob P (uM i) (tgN i):=λd ρ Z e v σ H S M Fr s r nd J Q q=>by
 unfold tgN at e;split at e
 .rename_i hc
  cases e;obtain⟨S',s',h⟩:=s.store r hc nd J (i:=i);refine q _ H S' s' ⟨λb u h _ _=>h,λj a z=>(h j a z).imp id .inl,λj V=>?_⟩;have:j≠i:=λz=>by rw[z,U]at V;cases V
  rw[List.getElem?_set_ne (YC this)]
 .cases e
def cz:List D->En->Option En:=λds ρ=>match ds with
 |[]=>some ρ
 |_=>none
def aL(f:D->En->Option En)(g:List D->En->Option En):List D->En->Option En:=λds ρ=>match ds with
 |d::r=>(f d ρ).bind λρ1=>g r ρ1
 |[]=>none
def tgT(n:Nat)(g:List D->En->Option En):D->En->Option En:=λd ρ=>match d with
 |.tup ds=>if ds.length=n/\aB ds=true/\aA ds=true then g ds ρ else none
 |_=>none
theorem L_:Xh G ob P QZ cz:=λds ρ Z e vs σ H S M Fr s r nd J Q q=>by
 cases ds with
 |nil=>
  cases e;obtain⟨rfl,rfl⟩:=r.inv0;exact⟨rfl,q σ H S (s.lessF λa z=>.inr z) .refl⟩
 |cons d r=>cases e
def Nq(G:Gc)(ob P:Nat->Bool)(g:TGs)(f:List D->En->Option En):Prop:=∀(ds:List D)(ρ Z:En),aA ds=true->aB ds=true->f ds ρ=some Z->∀(vs:List V)(σ:L2.St)(H:Hp)(S:Ad)(M:List Addr)(Fr:Addr->Prop),Sta G H ob ρ σ S (plus M Fr)->aH G H (wn ob S (plus M Fr)) ds vs M->M.Nodup->(∀a∈M,¬Fr a)->
 ∀Q:L2.St->Hp->Prop,(∀F H' S',Sta G H' ob Z F S' Fr->Mv P H H' σ F S S' M->Q F H')->g vs σ H Q
theorem Bb:Nq G ob P QZ cz:=λds ρ Z _ _ e=>L_ ds ρ Z e
theorem su{t:TG}{u:TGs}{f:D->En->Option En}{g:List D->En->Option En}(h1:RfG G ob P t f)(h2:Nq G ob P u g):Nq G ob P (JC t u) (aL f g):=λds ρ a1 c1 c2 e vs σ H S M Fr s r nd hF Q q=>by
 cases ds with
 |nil=>cases e
 |cons d ds=>
  obtain⟨x,ys,M1,M2,rfl,rfl,J,O⟩:=r.inv;simp![aA,aB,Ys]at c1 c2;simp![aL]at e;cases F:f d ρ with
  |none=>rw[F]at e;cases e
  |some ρ1=>
   have e:g ds ρ1=some a1:=by simpa[F]using e
   have a0:=Yb.mp nd;have a2:plus (M1++M2) Fr=plus M1 (plus M2 Fr):=by
    funext a;simp![plus,XC,or_assoc]
   rw[a2]at s J O;refine⟨x,ys,rfl,h1 d ρ ρ1 F x σ H S M1 (plus M2 Fr) s J a0.1 (λa Y z=>?_) _ λa3 H1 S1 s1 m1=>?_⟩
   .rcases z with z|z
    .exact a0.2.2 a Y a z rfl
    .exact hF a (X6 _ Y) z
   .have ev:Evo H H1 (wn ob S (plus M1 (plus M2 Fr))) (wn ob S1 (plus M2 Fr)):=⟨λb u U f=>?_,λb xs h=>?_⟩
    .have hr1:aH G H1 (wn ob S1 (plus M2 Fr)) ds ys M2:=O.mono ev (.inl c1.2) (.inl c2.2) λc Z u hu=>m1.kp c u hu (λ⟨i,z⟩=>s.fdj i c (.inr (.inl Z)) z) λz=>a0.2.2 c z c Z rfl
     refine h2 ds ρ1 a1 c1.2 c2.2 e ys a3 H1 S1 M2 Fr s1 hr1 a0.2.1 (λa Y=>hF a (XD _ Y)) Q λσ2 H2 S2 s2 m2=>q σ2 H2 S2 s2 ⟨λb u U V n2=>?_,λi a z=>?_,m1.pr.trans m2.pr⟩
     .have n3:b∉M1:=λz=>n2 (X6 _ z)
      exact m2.kp b u (m1.kp b u U V n3) (λ⟨i,z⟩=>(m1.gr i b z).elim V λz=>z.elim n3 λz=>by rw[U]at z;cases z) λz=>n2 (XD _ z)
     .rcases m2.gr i a z with⟨j,z⟩|z|z
      .exact(m1.gr j a z).imp id λz=>z.imp (X6 _) id
      .exact .inr (.inl (XD _ z))
      .by_cases q1:inS S a
       .exact .inl q1
       .by_cases q2:a∈M1
        .exact .inr (.inl (X6 _ q2))
        .refine .inr (.inr ?_)
         cases e:H a with
         |none=>rfl
         |some u=>rw[m1.kp a u e q1 q2]at z;cases z
    .have V:¬inS S b:=λ⟨i,z⟩=>by
      cases N:ob i with
      |false=>exact f.2.1 ⟨i,N,z⟩
      |true=>exact f.2.2 ⟨i,N,z⟩
     have n2:b∉M1:=λz=>f.1 (.inl z);refine⟨m1.kp b u U V n2,λz=>f.1 (.inr z),λ⟨i,_,z⟩=>?_,λ⟨i,_,z⟩=>?_⟩
     .exact(m1.gr i b z).elim V λz=>z.elim n2 λz=>by rw[U]at z;cases z
     .exact(m1.gr i b z).elim V λz=>z.elim n2 λz=>by rw[U]at z;cases z
    .have no:∀u,H b=some u->muO u=false->H1 b=some u:=λu hu m=>m1.kp b u hu (λ⟨i,z⟩=>by
       obtain⟨o,N,hm⟩:=s.mu z;rw[hu]at N;cases N;rw[m]at hm;cases hm) λz=>by
       obtain⟨o,N,hm⟩:=J.dom b z;rw[hu]at N;cases N;rw[m]at hm;cases hm
     exact no _ h rfl
theorem Q_{n:Nat}{t:TGs}{g:List D->En->Option En}(h:Nq G ob P t g):RfG G ob P (T_ G.K n t) (tgT n g):=λd ρ Z e v σ H S M Fr s r nd J Q q=>by
 cases d with
 |tup ds=>
  simp![tgT]at e;split at e
  .rename_i hl
   rw[Rep]at r;obtain⟨a,xs,rfl,U,O⟩:=r;exact⟨a,xs,rfl,SqT.of U,by rw[←O.length];exact hl.1,h ds ρ Z hl.2.2 hl.2.1 e xs σ H S M Fr s O nd J Q q⟩
  .cases e
 |_=>cases e
structure Pq{ι:Type}(X:ι->Cx)(G:Gc)(ob P:Nat->Bool)(tg:List Expr)(f:List D->En->Option En):Prop where
 mk::(ex:∃t,(∀c,PGs (X c) tg t)/\Nq G ob P t f)
theorem bJ(i:Nat){x:Str}{pos:Pos}(O:∀c,(X c).N.Nodup)(U:P i=false:=by rfl)(hi:∀c,(X c).N[i]? =some x:=by intro _;rfl)(J:∀c,Loc (X c).env.scope x:=by intro _;first|exact aaS rfl|exact aaj rfl)(F:∀c,(X c).fn x=true∨(X c).env.scope.names.lookup x=some .local:=by intro _;first|exact .inl rfl|exact .inr rfl):PVG X G ob P (.Name x pos) (tgN i):=⟨_,λc=>yx (O c) (hi c) (J c) (F c),jk U⟩
theorem jw:Pq X G ob P [] cz:=⟨_,λc=>G_,Bb⟩
theorem bO{e:Expr}{es:List Expr}{f:D->En->Option En}{g:List D->En->Option En}(h1:PVG X G ob P e f)(h2:Pq X G ob P es g)(hs:∀c,(Zt (e::es) (X c).env).map (·.2)=abU e (X c).env::(Zt es (X c).env).map (·.2):=by intro _;rfl):Pq X G ob P (e::es) (aL f g):=let⟨t,a1,a2⟩:=h1.ex;let⟨u,b1,b2⟩:=h2.ex;⟨_,λc=>Cq (a1 c) (b1 c) (hs c),su a2 b2⟩
theorem lg{es:List Expr}{k n:Nat}{pos:Pos}{g:List D->En->Option En}(Z:∀c,(X c).calm=true)(h:Pq X G ob P es g)(hn:∀c,(Zt es (X c).env).length=n:=by intro _;rfl)(q:∀c,(Zt es (X c).env).findIdx? (·.1)=none:=by intro _;rfl)(V:∀c,(X c).K=G.K:=by intro _;rfl):PVG X G ob P (.Tuple es k pos) (tgT n g):=let⟨t,a1,a2⟩:=h.ex;⟨_,λc=>(by rw[←V c];exact Ky (Z c) (a1 c) (hn c) (q c)),Q_ a2⟩
def cT(f:En->Option D)(g:D->En->Option En):En->Option Fl:=λρ=>(f ρ).bind λd=>(g d ρ).map .nx
def fj(f:En->Option (D×En))(g:D->En->Option En):En->Option Fl:=λρ=>(f ρ).bind λp=>(g p.1 p.2).map .nx
theorem ju{Fr:Addr->Prop}:plus [] Fr=Fr:=by funext a;simp[plus]
theorem j4{te:TE}{t:TG}{f:En->Option (D×En)}{g:D->En->Option En}(h:jQ G ob te f)(hg:RfG G ob P t g):RfS G ob P (Oe te t) (fj f g):=λρ r e σ H S Fr s E q=>by
 unfold fj at e;cases h1:f ρ with
 |none=>simp[h1]at e
 |some p=>
  obtain⟨d,ρ1⟩:=p;cases h2:g d ρ1 with
  |none=>simp[h1,h2]at e
  |some ρ2=>
   have:Fl.nx ρ2=r:=by simpa[h1,h2]using e
   subst this;refine h ρ d ρ1 h1 σ H S Fr s _ λv H1 M S1 O r1 nd J=>?_;have Z:∀a∈M,¬Fr a:=λa Y z=>by
    rcases J.fm a Y with q|q
    .exact s.notO z q
    .obtain⟨o,N,_⟩:=s.fdm a z
     rw[q]at N;cases N
   refine hg d ρ1 ρ2 h2 v σ H1 S1 M Fr O r1 nd Z _ λF H' S' s' m=>q F H' S' s' ⟨λb u U V n2=>?_,λi a z=>?_,m.pr⟩
   .have hno:¬inO ob S b:=λ⟨i,_,z⟩=>V ⟨i,z⟩
    refine m.kp b u (J.kp b u U hno) (λ⟨i,z⟩=>?_) λz=>(J.fm b z).elim hno λz=>by rw[U]at z;cases z
    cases N:ob i with
    |false=>rw[J.sn i N]at z;exact V ⟨i,z⟩
    |true=>exact(J.gr i b N z).elim hno λz=>by rw[U]at z;cases z
   .rcases m.gr i a z with⟨j,z⟩|z|z
    .cases N:ob j with
     |false=>rw[J.sn j N]at z;exact .inl ⟨j,z⟩
     |true=>exact(J.gr j a N z).imp (λ⟨k,_,z⟩=>⟨k,z⟩) .inr
    .exact(J.fm a z).imp (λ⟨k,_,z⟩=>⟨k,z⟩) .inr
    .exact(J.back z).imp (λ⟨k,_,z⟩=>⟨k,z⟩) .inr
theorem yL{f:En->Option D}{g:D->En->Option En}:fj (eUp f) g=cT f g:=by
 funext ρ;unfold fj cT eUp;cases f ρ<;>rfl
section
variable{tg e:Expr}{pos:Pos}{g:D->En->Option En}
theorem yl{f:En->Option D}(V:PV X G ob e f)(q:PVG X G ob P tg g)(hs:∀c,abj [tg] e pos.line (X c).env=pure false:=by intro _;rfl)(N:∀c,acs [tg] e (X c).env=pure none:=by intro _;rfl)(h1:∀c,(Zt [tg] (X c).env).map (·.2)=[abU tg (X c).env]:=by intro _;rfl):PVS X G ob P (.Assign [tg] e pos) (cT f g):=let⟨t,a1,a2⟩:=V.ex;let⟨u,b1,b2⟩:=q.ex;⟨_,λc=>Li (a1 c) (b1 c) (hs c) (N c) (h1 c),by rw[←yL];exact j4 (wY a2) b2⟩
theorem CN{f:En->Option (D×En)}(V:PVe X G ob e f)(q:PVG X G ob P tg g)(hs:∀c,abj [tg] e pos.line (X c).env=pure false:=by intro _;rfl)(N:∀c,acs [tg] e (X c).env=pure none:=by intro _;rfl)(h1:∀c,(Zt [tg] (X c).env).map (·.2)=[abU tg (X c).env]:=by intro _;rfl):PVS X G ob P (.Assign [tg] e pos) (fj f g):=let⟨t,a1,a2⟩:=V.ex;let⟨u,b1,b2⟩:=q.ex;⟨_,λc=>Li (a1 c) (b1 c) (hs c) (N c) (h1 c),j4 a2 b2⟩
theorem bI(i:Nat){x:Str}{pos':Pos}{f:En->Option D}(O:∀c,(X c).N.Nodup)(V:PV X G ob e f)(U:P i=false:=by rfl)(hi:∀c,(X c).N[i]? =some x:=by intro _;rfl)(J:∀c,Loc (X c).env.scope x:=by intro _;first|exact aaS rfl|exact aaj rfl)(hs:∀c,abD e (some (.Name x pos')) pos.line (X c).env=pure false:=by intro _;rfl)(F:∀c,(X c).fn x=true∨(X c).env.scope.names.lookup x=some .local:=by intro _;first|exact .inl rfl|exact .inr rfl):PVS X G ob P (.Assign [.Name x pos'] e pos) (cT f (tgN i)):=let⟨t,a1,a2⟩:=V.ex;⟨_,λc=>J_ (O c) (hi c) (J c) (a1 c) (hs c) (F c),by rw[←yL];exact j4 (wY a2) (jk U)⟩
theorem dM(i:Nat){x:Str}{pos':Pos}{f:En->Option (D×En)}(O:∀c,(X c).N.Nodup)(V:PVe X G ob e f)(U:P i=false:=by rfl)(hi:∀c,(X c).N[i]? =some x:=by intro _;rfl)(J:∀c,Loc (X c).env.scope x:=by intro _;first|exact aaS rfl|exact aaj rfl)(hs:∀c,abD e (some (.Name x pos')) pos.line (X c).env=pure false:=by intro _;rfl)(F:∀c,(X c).fn x=true∨(X c).env.scope.names.lookup x=some .local:=by intro _;first|exact .inl rfl|exact .inr rfl):PVS X G ob P (.Assign [.Name x pos'] e pos) (fj f (tgN i)):=let⟨t,a1,a2⟩:=V.ex;⟨_,λc=>J_ (O c) (hi c) (J c) (a1 c) (hs c) (F c),j4 a2 (jk U)⟩
end
def vD(f:En->Option (List D×En))(g:List D->En->Option En):En->Option Fl:=λρ=>(f ρ).bind λp=>if aA p.1/\aB p.1 then(g p.1 p.2).map .nx else none
theorem Nz{ta:TA}{i j:Nat}(hi:P i=false)(V:P j=false){f:En->Option (List D×En)}(h:Di G ob ta f):RfS G ob P (WL i j ta) (vD f (aL (tgN i) (aL (tgN j) cz))):=λρ r e σ H S Fr s E q=>by
 unfold vD at e;cases h1:f ρ with
 |none=>simp[h1]at e
 |some p=>
  obtain⟨ds,ρ1⟩:=p;by_cases Z:aA ds/\aB ds
  .cases h2:(aL (tgN i) (aL (tgN j) cz)) ds ρ1 with
   |none=>simp[h1,h2,Z]at e
   |some ρ2=>
    have:Fl.nx ρ2=r:=by simpa[h1,h2,Z]using e
    subst this;refine h ρ ds ρ1 h1 σ H S Fr s _ λvs H1 M S1 O r1 nd J=>?_;have hF:∀a∈M,¬Fr a:=λa Y z=>by
     rcases J.fm a Y with q|q
     .exact s.notO z q
     .obtain⟨o,N,_⟩:=s.fdm a z
      rw[q]at N;cases N
    have a0:=su (jk (G:=G) (ob:=ob) hi) (su (jk V) Bb) ds ρ1 ρ2 Z.1 Z.2 h2 vs σ H1 S1 M Fr O r1 nd hF (λF H'=>E.nx F H') λF H' S' s' m=>q F H' S' s' ⟨λb u U n1 n2=>?_,λi a z=>?_,m.pr⟩
    .obtain⟨v,rr,e1,v2,r2,e2,e3,k⟩:=a0
     subst e3;exact⟨v,v2,by rw[e1,e2],k⟩
    .have hno:¬inO ob S b:=λ⟨i,_,z⟩=>n1 ⟨i,z⟩
     refine m.kp b u (J.kp b u U hno) (λ⟨i,z⟩=>?_) λz=>(J.fm b z).elim hno λz=>by rw[U]at z;cases z
     cases N:ob i with
     |false=>rw[J.sn i N]at z;exact n1 ⟨i,z⟩
     |true=>exact(J.gr i b N z).elim hno λz=>by rw[U]at z;cases z
    .rcases m.gr i a z with⟨j,z⟩|z|z
     .cases N:ob j with
      |false=>rw[J.sn j N]at z;exact .inl ⟨j,z⟩
      |true=>exact(J.gr j a N z).imp (λ⟨k,_,z⟩=>⟨k,z⟩) .inr
     .exact(J.fm a z).imp (λ⟨k,_,z⟩=>⟨k,z⟩) .inr
     .exact(J.back z).imp (λ⟨k,_,z⟩=>⟨k,z⟩) .inr
  .simp[h1,Z]at e
section
variable{x y:Str}{a b:Expr}{px py pt pos:Pos}{kt k2 pt2}
theorem K5(i j:Nat){f:En->Option (List D×En)}(Z:∀c,(X c).calm=true)(O:∀c,(X c).N.Nodup)(Y:wJ X G ob [a,b] f)(q:P i=false:=by rfl)(F:P j=false:=by rfl)(hi:∀c,(X c).N[i]? =some x:=by intro _;rfl)(V:∀c,(X c).N[j]? =some y:=by intro _;rfl)(U:i≠j:=by decide)(J:∀c,(X c).env.scope.names.lookup x=some .local:=by intro _;rfl)(hy:∀c,(X c).env.scope.names.lookup y=some .local:=by intro _;rfl)(hw:∀c,acs [.Tuple [.Name x px,.Name y py] kt pt] (.Tuple [a,b] k2 pt2) (X c).env=pure (some [x,y]):=by intro _;rfl)(hs:∀c,abj [.Tuple [.Name x px,.Name y py] kt pt] (.Tuple [a,b] k2 pt2) pos.line (X c).env=pure false:=by intro _;rfl) :
 PVS X G ob P (.Assign [.Tuple [.Name x px,.Name y py] kt pt] (.Tuple [a,b] k2 pt2) pos) (vD f (aL (tgN i) (aL (tgN j) cz))):=let⟨t,a1,a2⟩:=Y.ex;⟨_,λc=>U3 (Z c) (O c) (hi c) (V c) U (J c) (hy c) (a1 c) (hw c) (hs c),Nz q F a2⟩
end
def sIf(c:En->Option Bool)(f g:En->Option Fl):En->Option Fl:=λρ=>(c ρ).bind λb=>if b then f ρ else g ρ
def yP(c:En->Option (Bool×En))(f g:En->Option Fl):En->Option Fl:=λρ=>(c ρ).bind λp=>if p.1 then f p.2 else g p.2
theorem WX{c:En->Option Bool}{f g:En->Option Fl}:yP (ug c) f g=sIf c f g:=by
 funext ρ;unfold yP sIf ug;cases c ρ<;>rfl
theorem Fw{tc:TT}{t u:TS}{c:En->Option (Bool×En)}{f g:En->Option Fl}(Z:zf G ob tc c)(h1:RfS G ob P t f)(h2:RfS G ob P u g):RfS G ob P (W4 tc t u) (yP c f g):=λρ r e σ H S Fr s E q=>by
 unfold yP at e;cases F:c ρ with
 |none=>simp[F]at e
 |some p=>
  obtain⟨b,ρ1⟩:=p;refine Z ρ b ρ1 F σ H S Fr s _ λH1 S1 O J=>?_;have m:Mv P H H1 σ σ S S1 []:=J.mv;cases b with
  |true=>exact pB (h1 ρ1 r (by simpa[F]using e) σ H1 S1 Fr O E (q.from m))
  |false=>exact vQ (h2 ρ1 r (by simpa[F]using e) σ H1 S1 Fr O E (q.from m))
theorem gV{c:Expr}{a b:List Stmt}{pos:Pos}{fc:En->Option Bool}{f g:En->Option Fl}(Z:PVT X G ob c fc)(Y:tE X G ob P a f)(U:tE X G ob P b g):PVS X G ob P (.If c a b pos) (sIf fc f g):=let⟨v,c1,c2⟩:=Z.ex;let⟨t,a1,a2⟩:=Y.ex;let⟨u,b1,b2⟩:=U.ex;⟨_,λc=>Rx (c1 c) (a1 c) (b1 c),by rw[←WX];exact Fw (Nk c2) a2 b2⟩
theorem yH{c:Expr}{a b:List Stmt}{pos:Pos}{fc:En->Option (Bool×En)}{f g:En->Option Fl}(Z:Dc X G ob c fc)(Y:tE X G ob P a f)(U:tE X G ob P b g):PVS X G ob P (.If c a b pos) (yP fc f g):=let⟨v,c1,c2⟩:=Z.ex;let⟨t,a1,a2⟩:=Y.ex;let⟨u,b1,b2⟩:=U.ex;⟨_,λc=>Rx (c1 c) (a1 c) (b1 c),Fw c2 a2 b2⟩
def An(f:En->Option (D×En)):En->Option Fl:=λρ=>(f ρ).bind λp=>if clean p.1 then some (.ret p.1 p.2)else none
def gY(f:En->Option D):En->Option Fl:=λρ=>(f ρ).bind λd=>if clean d then some (.ret d ρ)else none
theorem TV{f:En->Option D}:An (eUp f)=gY f:=by
 funext ρ;unfold An gY eUp;cases f ρ<;>rfl
theorem Lr{te:TE}{f:En->Option (D×En)}(h:jQ G ob te f):RfS G ob P (U6 te) (An f):=λρ r e σ H S Fr s E q=>by
 unfold An at e;cases h1:f ρ with
 |none=>simp[h1]at e
 |some p=>
  obtain⟨d,ρ1⟩:=p;cases Z:clean d with
  |false=>simp[h1,Z]at e
  |true=>
   have:Fl.ret d ρ1=r:=by simpa[h1,Z]using e
   subst this;exact h ρ d ρ1 h1 σ H S Fr s _ λv H1 M S1 O U nd J=>q v σ H1 M S1 O U Z nd (λa Y=>(J.fm a Y).imp (λ⟨i,_,z⟩=>⟨i,z⟩) id) J.mv
theorem dX{e:Expr}{pos:Pos}{f:En->Option D}(V:PV X G ob e f):PVS X G ob P (.Return (some e) pos) (gY f):=let⟨t,a1,a2⟩:=V.ex;⟨_,λc=>LR (a1 c),by rw[←TV];exact Lr (wY a2)⟩
theorem Sta.move{G:Gc}{H:Hp}{ρ:En}{σ:L2.St}{S:Ad}{Fr:Addr->Prop}{i:Nat}{d:D}(s:Sta G H ob ρ σ S Fr)(e:ρ[i]? =some (some d)) :
  ∃v,σ[i]? =some (some v)/\clean d=true/\Sta G H ob (ρ.set i none) σ (ie S i []) (plus (S i) Fr)/\Rep G H (wn ob (ie S i []) (plus (S i) Fr)) d v (S i):=by
 obtain⟨v,h1,h2,F⟩:=s.sl i d e;have J:Evo H H (wn ob S Fr) (wn ob (ie S i []) (plus (S i) Fr)):=⟨λb u h f=>⟨h,⟨λz=>z.elim (λz=>?_) f.1,λ⟨k,q1,q2⟩=>?_,λ⟨k,q1,q2⟩=>?_⟩⟩,λ_ _ h=>h⟩
 .have q:=(by simpa[clean]using F:az d=true/\au d=true)
  refine⟨v,h1,F,⟨by simp[s.len],λj d' O=>?_,λj V=>?_,λj=>?_,λj k a q1 q2=>?_,λj a q1 q2=>?_,λa h=>?_⟩,h2.mono J (.inl q.1) (.inl q.2) λ_ _ _ h=>h⟩
  .by_cases e':j=i
   .subst e'
    rw[acb]at O;split at O
    .split at O
     .simp at O
     .cases O
    .exact absurd rfl ‹_›
   .rw[List.getElem?_set_ne (YC e')]at O
    obtain⟨N,q1,q2,U⟩:=s.sl j _ O;refine⟨N,q1,?_,U⟩;rw[d7 e'];have q:=(by simpa[clean]using U:az d'=true/\au d'=true);exact q2.mono J (.inl q.1) (.inl q.2) λ_ _ _ h=>h
  .by_cases e':j=i
   .rw[e',dU]
   .rw[d7 e']
    exact s.em j λd'=>by have:=V d';rwa[List.getElem?_set_ne (YC e')]at this
  .by_cases e':j=i
   .rw[e',dU];exact List.nodup_nil
   .rw[d7 e'];exact s.nd j
  .rcases dD q1 with⟨_,z⟩|⟨_,z⟩
   .cases z
   .rcases dD q2 with⟨_,z'⟩|⟨_,z'⟩
    .cases z'
    .exact s.dj j k a z z'
  .rcases dD q2 with⟨_,z⟩|⟨n,z⟩
   .cases z
   .rcases q1 with q1|q1
    .exact n (s.dj j i a z q1)
    .exact s.fdj j a q1 z
  .rcases h with h|h
   .exact s.mu h
   .exact s.fdm a h
 .cases ho:ob i with
  |false=>exact f.2.1 ⟨i,ho,z⟩
  |true=>exact f.2.2 ⟨i,ho,z⟩
 .rcases dD q2 with⟨_,z⟩|⟨_,z⟩
  .cases z
  .exact f.2.1 ⟨k,q1,z⟩
 .rcases dD q2 with⟨_,z⟩|⟨_,z⟩
  .cases z
  .exact f.2.2 ⟨k,q1,z⟩
def iI(i:Nat):En->Option Fl:=λρ=>match ρ[i]? with
 |some (some d)=>some (.ret d (ρ.set i none))
 |_=>none
theorem MJ{i:Nat}:RfS G ob P (U6 (Ov i)) (iI i):=λρ r e σ H S Fr s E q=>by
 unfold iI at e;split at e
 .rename_i d h1
  cases e;obtain⟨v,h2,F,O,J⟩:=s.move h1;exact⟨v,h2,q v σ H (S i) (ie S i []) O J F (s.nd i) (λa Y=>.inl ⟨i,Y⟩) ⟨λ_ _ h _ _=>h,λj a z=>(dD z).elim (λz=>by cases z.2) λz=>.inl ⟨j,z.2⟩,.refl⟩⟩
 .cases e
theorem jh(i:Nat){x:Str}{pos pos':Pos}(O:∀c,(X c).N[i]? =some x:=by intro _;rfl)(Z:∀c,Vis (X c).env.scope x:=by intro _;first|exact aaS rfl|exact aaj (aaS rfl)|exact aaj (aaj rfl))(hd:(x==("__debug__":Str))=false:=by decide)(U:(x==("__classdict__":Str))=false:=by decide):PVS X G ob P (.Return (some (.Name x pos)) pos') (iI i):=⟨_,λc=>LR (pv i (O c) (Z c) hd U),MJ⟩
end
def mkO:Mk->Mk
 |.own=>.frz
 |m=>m
mutual
noncomputable def fzo:D->D
 |.tup ds=>.tup (gh ds)
 |.lst m ds=>.lst (mkO m) (gh ds)
 |.dct m ks ds=>.dct (mkO m) ks (gh ds)
 |.ins m c fs ds=>.ins (mkO m) c fs (gh ds)
 |d=>d
noncomputable def gh:List D->List D
 |[]=>[]
 |d::r=>fzo d::gh r
end
theorem bW:∀ds:List D,gh ds=ds.map fzo
 |[]=>rfl
 |d::r=>by rw[gh,bW r];rfl
variable{a:Addr}
theorem dJ.fzo{F:Addr->HO->Prop}(hs:Les H W W' L)(hn:∀a,W.s a->W'.s a)(h:dJ F H W a o m L M):dJ F H W' a o (mkO m) [] []:=by
 cases m with
 |own=>exact⟨h.1,hs.l a (by rw[h.2];simp),rfl,rfl⟩
 |frz=>exact⟨h.1,hs.f a h.2.1,rfl,rfl⟩
 |brw=>exact⟨h.1,hn a h.2.1,rfl,rfl⟩
 |bro=>exact⟨h.1,rfl,rfl⟩
 |scr=>exact⟨h.1.imp (λz=>⟨z.1,hs.f a z.2⟩) id,rfl,rfl⟩
mutual
theorem Rep.fzo(hn:∀a,W.s a->W'.s a):∀{d:D}{v:V}{L:List Addr},Rep G H W d v L->Les H W W' L->Rep G H W' (fzo d) v []
 |.non,v,L,h,_=>by rw[Rep]at h;simp[Jb.fzo,Rep,h]
 |.bl _,v,L,h,_=>by rw[Rep]at h;simp[Jb.fzo,Rep,h]
 |.int _,v,L,h,_=>by rw[Rep]at h;simp[Jb.fzo,Rep,h]
 |.str _,v,L,h,_=>by rw[Rep]at h;simp[Jb.fzo,Rep,h]
 |.ty _,v,L,h,_=>by rw[Rep]at h;simp[Jb.fzo,Rep,h]
 |.tup ds,v,L,h,hs=>by
  rw[Rep]at h;rw[Jb.fzo,Rep];obtain⟨a,xs,rfl,U,O⟩:=h;exact⟨a,xs,rfl,U,aH.fzo hn O hs⟩
 |.lst m ds,v,L,h,he=>by
  rw[Rep]at h;rw[Jb.fzo,Rep];obtain⟨a,xs,M,rfl,O,hs⟩:=h;exact⟨a,xs,[],rfl,aH.fzo hn O (he.sub λc Z=>hs.sub.subset Z),hs.fzo he hn⟩
 |.dct m ks ds,v,L,h,he=>by
  rw[Rep]at h;rw[Jb.fzo,Rep];obtain⟨a,xs,M,rfl,J,O,hs⟩:=h;exact⟨a,xs,[],rfl,J,aH.fzo hn O (he.sub λc Z=>hs.sub.subset Z),hs.fzo he hn⟩
 |.ins m c' fs ds,v,L,h,he=>by
  rw[Rep]at h;rw[Jb.fzo,Rep];obtain⟨a,C,dx,xs,M,rfl,Y,J,O,hs⟩:=h;exact⟨a,C,dx,xs,[],rfl,Y,J,aH.fzo hn O (he.sub λc Z=>hs.sub.subset Z),hs.fzo he hn⟩
theorem aH.fzo(hn:∀a,W.s a->W'.s a):∀{ds:List D}{vs:List V}{L:List Addr},aH G H W ds vs L->Les H W W' L->aH G H W' (gh ds) vs []
 |[],vs,L,h,_=>by obtain⟨rfl,_⟩:=h.inv0;rw[gh];exact .nil
 |d::r,vs,L,h,he=>by
  obtain⟨x,ys,M,M',rfl,rfl,h1,h2⟩:=h.inv;rw[gh];exact .cons (M:=[]) (M':=[]) (Rep.fzo hn h1 (he.sub λc Z=>X6 _ Z)) (aH.fzo hn h2 (he.sub λc Z=>XD _ Z))
end
mutual
theorem IV:∀{d:D},az d=true->az (Jb.fzo d)=true
 |.non,_=>rfl|.bl _,_=>rfl|.int _,_=>rfl|.str _,_=>rfl|.ty _,_=>rfl
 |.tup ds,h=>by simp[az]at h;simp[Jb.fzo,az,dI h]
 |.lst m ds,h=>by simp[az]at h;cases m<;>simp[Jb.fzo,az,dI h.2,mkO]<;>simp at h
 |.dct m _ ds,h=>by simp[az]at h;cases m<;>simp[Jb.fzo,az,dI h.2,mkO]<;>simp at h
 |.ins m _ _ ds,h=>by simp[az]at h;cases m<;>simp[Jb.fzo,az,dI h.2,mkO]<;>simp at h
theorem dI:∀{ds:List D},aA ds=true->aA (gh ds)=true
 |[],_=>rfl
 |d::r,h=>by simp[aA]at h;simp[gh,aA,IV h.1,dI h.2]
end
mutual
theorem HW:∀{d:D},au d=true->au (Jb.fzo d)=true
 |.non,_=>rfl|.bl _,_=>rfl|.int _,_=>rfl|.str _,_=>rfl|.ty _,_=>rfl
 |.tup ds,h=>by simp[au]at h;simp[Jb.fzo,au,dG h]
 |.lst m ds,h=>by simp[au]at h;cases m<;>simp[Jb.fzo,au,dG h.2,mkO]<;>simp at h
 |.dct m _ ds,h=>by simp[au]at h;cases m<;>simp[Jb.fzo,au,dG h.2,mkO]<;>simp at h
 |.ins m _ _ ds,h=>by simp[au]at h;cases m<;>simp[Jb.fzo,au,dG h.2,mkO]<;>simp at h
theorem dG:∀{ds:List D},aB ds=true->aB (gh ds)=true
 |[],_=>rfl
 |d::r,h=>by simp[aB]at h;simp[gh,aB,HW h.1,dG h.2]
end
structure Wk(G:Gc)(J:It)(Lt:Hp->Wn->Prop)(items:List D):Prop where
 go:∀(i:Nat)(d:D),items[i]? =some d->∀H W,Lt H W->J.go i H
 yld:∀(i:Nat)(d:D),items[i]? =some d->∀H W,Lt H W->∀x H',J.yld i H x H'->Same H H'/\Rep G H' W d x []
 stop:∀H W,Lt H W->J.stop items.length H
def LtB(b:Bool)(H:Hp)(W:Wn):Hp->Wn->Prop:=λH2 N=>if b=true then Evo H H2 W N else Up H H2 W N
variable{b:Bool}
theorem LtB.up{N:Wn}(u:Up H H2 W N):LtB b H W H2 N:=by
 cases b with
 |true=>exact pB u.evo
 |false=>exact vQ u
def RfI(G:Gc)(ob:Nat->Bool)(wi:TI)(f:En->Option (Bool×List D)):Prop:=∀(ρ:En)(b:Bool)(items:List D),f ρ=some (b,items)->∀(σ:L2.St)(H:Hp)(W:Wn),Rel G H W ob ρ σ->WOk H W->∀R:It->Hp->Prop,
 (∀J H',Same H H'->Wk G J (LtB b H' W) items->R J H')->wi σ H R
structure PVI{ι:Type}(X:ι->Cx)(G:Gc)(ob:Nat->Bool)(tg it:Expr)(f:En->Option (Bool×List D)):Prop where
 mk::(ex:∃t,(∀c,PI (X c) tg it t)/\RfI G ob t f)
def gQ(lo:Int)(n:Nat):List D:=(Yp n).map λ(k:Nat)=>D.int (lo+(k:Int))
def um(f:En->Option (List D)):En->Option (Bool×List D):=λρ=>(f ρ).bind λds=>match ds with
 |[.int j]=>if -(2 ^ 62)<=j/\j<2 ^ 62 then some (true,gQ 0 j.toNat)else none
 |_=>none
theorem J7{q:Hp->Wn->Prop}{lo:Int}:Wk G (Itr lo n) q (gQ lo n)where
 go:=λi d e H W _=>by
  have:=(XF.mp e).1;show i<n;simpa[gQ]using this
 yld:=λi d e H W _ x H' h=>by
  obtain⟨rfl,rfl⟩:=h;have:d= .int (lo+(i:Int)):=by
   unfold gQ at e;rw[List.getElem?_map]at e;have hi:i<n:=by
    have:=(XF.mp (show(gQ lo n)[i]? =some d by unfold gQ;rw[List.getElem?_map];exact e)).1;simpa[gQ]using this
   rw[aeV hi]at e;simpa using e.symm
  subst this;exact⟨Same.refl _,by rw[Rep];exact⟨rfl,rfl⟩⟩
 stop:=λH W _=>by
  show n<=(gQ lo n).length;simp[gQ]
variable{f:En->Option (List D)}
theorem Ug(h:RfA G ob t f):RfI G ob (NT t) (um f):=λρ b items e σ H W F w R q=>by
 unfold um at e;cases h1:f ρ with
 |none=>simp[h1]at e
 |some ds=>
  rw[h1]at e;simp![Xz]at e;split at e
  .rename_i j
   split at e
   .rename_i hj
    cases e;refine h ρ _ h1 σ H W F w _ λvs H' L s r fr nd=>?_;obtain⟨x,ys,M,M',rfl,_,J,V⟩:=r.inv;obtain⟨rfl,_⟩:=V.inv0;rw[Rep]at J;obtain⟨rfl,_⟩:=J;exact⟨j,rfl,hj.1,hj.2,q _ H' s J7⟩
   .cases e
  .cases e
def bC:D->Option (Bool×List D)
 |.lst m ds=>some (clean (.lst m ds),gh ds)
 |.tup ds=>some (clean (.tup ds),gh ds)
 |_=>none
def itS(f:En->Option D):En->Option (Bool×List D):=λρ=>(f ρ).bind bC
theorem sO{F:Addr->HO->Prop}{W1 N:Wn}(h:dJ F H W1 a o m L M)(V:Les H W1 W L)(hn:W1.s a->W.s a)(U:b=true->m≠.brw/\m≠.bro)(l:LtB b H W H2 N):Rd H2 a o∨F a o:=by
 cases b with
 |false=>
  have u:Up H H2 W N:=(Yc YS).mp l;exact h.rx.imp (Same.rd u.s) id
 |true=>
  have e:Evo H H2 W N:=(X7 rfl).mp l;cases m with
  |own=>exact .inl (.inl (e.k a o h.1 (V.l a (by rw[h.2];simp))).1)
  |frz=>exact .inl (.inl (e.k a o h.1 (V.f a h.2.1)).1)
  |brw=>exact absurd rfl (U rfl).1
  |bro=>exact absurd rfl (U rfl).2
  |scr=>exact h.1.imp (λz=>(e.rd z.1 (V.f a z.2)).1) id
theorem Lj{K:XS}(h:Rd H a (.lst xs)∨KO K a (.lst xs)):SqL K H a xs:=by
 rcases h with z|⟨ys,e,z⟩
 .exact .inl z
 .cases e
  exact .inr z
theorem LtB.rep{N:Wn}(l:LtB b H W H2 N)(U:b=true->az d=true/\au d=true)(r:Rep G H W d v []):Rep G H2 N d v []:=by
 cases b with
 |false=>exact r.up ((Yc YS).mp l)
 |true=>exact r.mono ((X7 rfl).mp l) (.inl (U rfl).1) (.inl (U rfl).2) (by simp)
theorem LtB.tup{H H2:Hp}{W N:Wn}{b:Bool}{K:XS}{a:Addr}{xs:List V}(l:LtB b H W H2 N)(h:H a=some (.tup xs)):SqT K H2 a xs:=by
 cases b with
 |false=>exact SqT.of (((Yc YS).mp l).s a _ h)
 |true=>exact SqT.of (((X7 rfl).mp l).t a xs h)
theorem iz(h:aA ds=true)(e:ds[i]? =some d):az d=true:=by
 induction ds generalizing i with
 |nil=>simp at e
 |cons a r Z=>
  simp![aA,Ys]at h;cases i with
  |zero=>
   have:a=d:=by simpa using e
   rw[←this];exact h.1
  |succ i=>exact Z h.2 (by simpa using e)
theorem iG(h:aB ds=true)(e:ds[i]? =some d):au d=true:=by
 induction ds generalizing i with
 |nil=>simp at e
 |cons a r Z=>
  simp![aB,Ys]at h;cases i with
  |zero=>
   have:a=d:=by simpa using e
   rw[←this];exact h.1
  |succ i=>exact Z h.2 (by simpa using e)
structure Parts(G:Gc)(H:Hp)(W:Wn)(b:Bool)(es:List D)(xs:List V):Prop where
 r:aH G H W es xs []
 c:b=true->aA es=true/\aB es=true
theorem Parts.at{G:Gc}{H H2:Hp}{W N:Wn}{b:Bool}{es:List D}{xs:List V}(p:Parts G H W b es xs)(l:LtB b H W H2 N){i:Nat}{d:D}{x:V}(e:es[i]? =some d)(J:xs[i]? =some x):Rep G H2 N d x []:=by
 obtain⟨y,M,h1,h2,F⟩:=p.r.get e;rw[J]at h1;cases h1;have:M=[]:=by simpa using F
 subst this;exact l.rep (λz=>⟨iz (p.c z).1 e,iG (p.c z).2 e⟩) h2
theorem EY{es:List D}(w:WOk H W)(s:Same H H')(r:Rep G H' (W.add L) d v L)(fr:∀a∈L,H a=none)(e:bC d=some (b,es)) :
  ∃a xs,v= .ref a/\Parts G H' W b es xs/\((∀H2 N,LtB b H' W H2 N->SqL G.K H2 a xs)∨(∀H2 N,LtB b H' W H2 N->SqT G.K H2 a xs)):=by
 have free:∀a∈L,W.free a:=λa Y=>⟨λz=>?_,λz=>?_,λz=>?_⟩
 .have les:Les H' (W.add L) W L:=⟨λa f=>⟨λz=>f.1 (.inr z),f.2⟩,free⟩
  cases d with
  |lst m ds=>
   simp![bC,aac,abJ]at e;obtain⟨rfl,rfl⟩:=e;rw[Rep]at r;obtain⟨a,xs,M,rfl,O,hs⟩:=r;refine⟨a,xs,rfl,⟨aH.fzo (W:=W.add L) (W':=W) (λ_ z=>z) O (les.sub λc Z=>hs.sub.subset Z),λz=>?_⟩,.inl λH2 N l=>Lj (sO hs les (λz=>z) (λz=>?_) l)⟩
   .simp[clean,az,au]at z
    exact⟨dI z.1.2,dG z.2.2⟩
   .simp[clean,az,au]at z
    exact⟨z.1.1,z.2.1⟩
  |tup ds=>
   simp![bC,aac,abJ]at e;obtain⟨rfl,rfl⟩:=e;rw[Rep]at r;obtain⟨a,xs,rfl,U,O⟩:=r;refine⟨a,xs,rfl,⟨aH.fzo (W:=W.add L) (W':=W) (λ_ z=>z) O les,λz=>?_⟩,.inr λH2 N l=>l.tup U⟩;simp[clean,az,au]at z;exact⟨dI z.1,dG z.2⟩
  |_=>simp[bC]at e
 .obtain⟨o,ho,_⟩:=w a (.inl z);rw[fr a Y]at ho;cases ho
 .obtain⟨o,ho,_⟩:=w a (.inr (.inl z));rw[fr a Y]at ho;cases ho
 .obtain⟨o,ho,_⟩:=w a (.inr (.inr z));rw[fr a Y]at ho;cases ho
theorem aH.getV(h:aH G H W ds xs L)(e:ds[i]? =some d):∃x,xs[i]? =some x:=let⟨x,_,h,_⟩:=h.get e;⟨x,h⟩
theorem O2{f:En->Option D}(h:RfE G ob te f):RfI G ob (Tj G.K te) (itS f):=λρ b items e σ H W V w R q=>by
 unfold itS at e;cases h1:f ρ with
 |none=>simp[h1]at e
 |some d=>
  have e:bC d=some (b,items):=by simpa[h1]using e
  refine h ρ d h1 σ H W V w _ λv H' L s r fr nd=>?_;obtain⟨a,xs,rfl,p,hs⟩:=EY w s r fr e;refine⟨a,rfl,?_⟩;rcases hs with hs|hs
  .refine .inl ⟨⟨xs,hs H' W (LtB.up Up.refl)⟩,q _ H' s ⟨λi d e H2 N l=>?_,λi d e H2 N l x J y=>?_,λH2 N l=>?_⟩⟩
   .obtain⟨x,hx⟩:=p.r.getV e
    exact⟨xs,x,hs H2 N l,hx⟩
   .obtain⟨rfl,y⟩:=y
    exact⟨Same.refl _,p.at l e (y xs (hs _ N l))⟩
   .exact⟨xs,hs H2 N l,by rw[p.r.length];exact XQ _⟩
  .refine .inr ⟨⟨xs,hs H' W (LtB.up Up.refl)⟩,q _ H' s ⟨λi d e H2 N l=>?_,λi d e H2 N l x J y=>?_,λH2 N l=>?_⟩⟩
   .obtain⟨x,hx⟩:=p.r.getV e
    exact⟨xs,x,hs H2 N l,hx⟩
   .obtain⟨rfl,y⟩:=y
    exact⟨Same.refl _,p.at l e (y xs (hs _ N l))⟩
   .exact⟨xs,hs H2 N l,by rw[p.r.length];exact XQ _⟩
def gW:Nat->List D->List D
 |_,[]=>[]
 |i,d::r=>.tup [.int (i:Int),d]::gW (i+1) r
theorem nF:∀(ds:List D)(k i:Nat),(gW k ds)[i]? =(ds[i]?).map λd=>.tup [.int ((k+i:Nat):Int),d]
 |[],k,i=>by simp[gW]
 |d::r,k,i=>by
  cases i with
  |zero=>simp[gW]
  |succ i=>
   simp![gW,Yo];rw[nF r (k+1) i,show k+1+i=k+(i+1)by omega]
theorem nu:∀(ds:List D)(k:Nat),(gW k ds).length=ds.length
 |[],k=>rfl
 |d::r,k=>by simp[gW,nu r (k+1)]
def itE(f:En->Option (List D)):En->Option (Bool×List D):=λρ=>(f ρ).bind λds=>match ds with
 |[d]=>(bC d).map λp=>(p.1,gW 0 p.2)
 |_=>none
theorem Mr(h:RfA G ob t f):RfI G ob (Mf G.K t) (itE f):=λρ b items e σ H W rl w R q=>by
 unfold itE at e;cases h1:f ρ with
 |none=>simp[h1]at e
 |some ds=>
  rw[h1]at e;simp![Xz]at e;split at e
  .rename_i d
   cases h2:bC d with
   |none=>simp[h2]at e
   |some p=>
    obtain⟨b',es⟩:=p;obtain⟨rfl,rfl⟩:b'=b/\gW 0 es=items:=by simpa[h2]using e
    refine h ρ _ h1 σ H W rl w _ λvs H' L s r fr nd=>?_;obtain⟨v,ys,M,M',rfl,rfl,Z,hy⟩:=r.inv;obtain⟨rfl,rfl⟩:=hy.inv0;rw[Ym]at Z fr;obtain⟨a,xs,rfl,p,hs⟩:=EY w s Z fr h2;have Y:∀(i:Nat)(d':D)(O:Addr)(x:V)(H2:Hp)(N:Wn),(gW 0 es)[i]? =some d'->LtB b' H' W H2 N->H2 O=none->xs[i]? =some x->Same H2 (upd H2 O (.tup [.int i,x]))/\Rep G (upd H2 O (.tup [.int i,x])) N d' (.ref O) []:=λi d' O x H2 N e l F J=>by
     rw[nF]at e;cases h3:es[i]? with
     |none=>rw[h3]at e;cases e
     |some d0=>
      rw[h3]at e;have e:D.tup [.int (i:Int),d0]=d':=by simpa using e
      subst e;have sm:Same H2 (upd H2 O (.tup [.int i,x])):=Same.new F;refine⟨sm,?_⟩;rw[Rep];refine⟨O,_,rfl,aU,.cons (M:=[]) (M':=[]) (by rw[Rep];exact⟨rfl,rfl⟩) (.one ((p.at l h3 J).up (Up.same sm)))⟩
    refine⟨a,rfl,?_⟩;have U:∀(i:Nat)(d':D),(gW 0 es)[i]? =some d'->∃x,xs[i]? =some x:=λi d' e=>by
     rw[nF]at e;cases h3:es[i]? with
     |none=>rw[h3]at e;cases e
     |some d0=>exact p.r.getV h3
    rcases hs with hs|hs
    .refine .inl ⟨⟨xs,hs H' W (LtB.up Up.refl)⟩,q _ H' s ⟨λi d e H2 N l=>?_,λi d e H2 N l x H3 y=>?_,λH2 N l=>?_⟩⟩
     .obtain⟨x,J⟩:=U i d e
      exact⟨xs,x,hs H2 N l,J⟩
     .obtain⟨O,v,F,rfl,Z,rfl⟩:=y
      exact Y i d O v H2 N e l F (Z xs (hs _ N l))
     .exact⟨xs,hs H2 N l,by rw[nu,p.r.length];exact XQ _⟩
    .refine .inr ⟨⟨xs,hs H' W (LtB.up Up.refl)⟩,q _ H' s ⟨λi d e H2 N l=>?_,λi d e H2 N l x H3 y=>?_,λH2 N l=>?_⟩⟩
     .obtain⟨x,J⟩:=U i d e
      exact⟨xs,x,hs H2 N l,J⟩
     .obtain⟨O,v,F,rfl,Z,rfl⟩:=y
      exact Y i d O v H2 N e l F (Z xs (hs _ N l))
     .exact⟨xs,hs H2 N l,by rw[nu,p.r.length];exact XQ _⟩
  .cases e
variable{a:Expr}
theorem De(q:∀c,Gl (X c) "range")(J:∀c,(X c).mg "range"=none)(Y:PVA X G ob [a] f)(hs:∀c,X_ [a] (X c).env=[(false,eval a (X c).env)]:=by intro _;rfl):PVI X G ob tg (.Call (.Name "range" p) [a] [] pos) (um f):=let⟨t,a1,a2⟩:=Y.ex;⟨_,λc=>xH (q c) (J c) (a1 c) (hs c),Ug a2⟩
theorem cF{f:En->Option D}(Y:PV X G ob a f)(V:∀c,(X c).K=G.K:=by intro _;rfl):PVI X G ob tg a (itS f):=let⟨t,a1,a2⟩:=Y.ex;⟨_,λc=>(by rw[←V c];exact Ke (a1 c)),O2 a2⟩
theorem Ag(q:∀c,Gl (X c) "enumerate")(J:∀c,(X c).mg "enumerate"=none)(Y:PVA X G ob [a] f)(hs:∀c,X_ [a] (X c).env=[(false,eval a (X c).env)]:=by intro _;rfl)(V:∀c,(X c).K=G.K:=by intro _;rfl):PVI X G ob (.Tuple elts x1 tpos) (.Call (.Name "enumerate" p) [a] [] pos) (itE f):=let⟨t,a1,a2⟩:=Y.ex;⟨_,λc=>(by rw[←V c];exact Lg (q c) (J c) (a1 c) (hs c)),Mr a2⟩
def forL(tg:D->En->Option En)(V:En->Option Fl):List D->En->Option Fl
 |[],ρ=>some (.nx ρ)
 |d::r,ρ=>(tg d ρ).bind λρ1=>match V ρ1 with
  |some (.nx ρ2)=>forL tg V r ρ2
  |some (.cnt ρ2)=>forL tg V r ρ2
  |some (.brk ρ2)=>some (.nx ρ2)
  |o=>o
def lX(it:En->Option (Bool×List D))(tg:D->En->Option En)(V:En->Option Fl):En->Option Fl:=λρ=>(it ρ).bind λp=>if p.1=true then forL tg V p.2 ρ else none
theorem El{σ2:L2.St}{S2:Ad}{Fr:Addr->Prop}(s:Sta G H ob ρ σ S Fr)(m:Mv P H H2 σ σ2 S S2 []):Evo H H2 (wn ob S Fr) (wn ob S2 Fr)where
 k:=λb u U f=>by
  have V:¬inS S b:=λ⟨i,z⟩=>by
   cases N:ob i with
   |false=>exact f.2.1 ⟨i,N,z⟩
   |true=>exact f.2.2 ⟨i,N,z⟩
  have q:¬inS S2 b:=λ⟨i,z⟩=>(m.gr i b z).elim V λz=>z.elim (λz=>by cases z) λz=>by rw[U]at z;cases z
  exact⟨m.kp b u U V (by simp),f.1,λ⟨i,_,z⟩=>q ⟨i,z⟩,λ⟨i,_,z⟩=>q ⟨i,z⟩⟩
 t:=λb xs h=>by
  have F:∀u,H b=some u->muO u=false->H2 b=some u:=λu O mu=>m.kp b u O (λ⟨i,z⟩=>by
   obtain⟨o,N,J⟩:=s.mu z;rw[O]at N;cases N;rw[mu]at J;cases J) (by simp)
  exact F _ h rfl
variable{tg:D->En->Option En}{tb:TS}{wi:TI}{it:En->Option (Bool×List D)}
theorem Oi{g:TG}{V:En->Option Fl}(hi:RfI G ob wi it)(hg:RfG G ob P g tg)(U:RfS G ob P tb V):RfS G ob P (T3 wi g tb) (lX it tg V):=λρ r e σ H S Fr s E q=>by
 unfold lX at e;cases h1:it ρ with
 |none=>simp[h1]at e
 |some p=>
  obtain⟨b,items⟩:=p;cases b with
  |false=>simp[h1]at e
  |true=>
   have e:forL tg V items ρ=some r:=by simpa[h1]using e
   refine hi ρ true items h1 σ H _ s.rel s.wok _ λJ H1 sm wk=>?_;have O:Sta G H1 ob ρ σ S Fr:=s.grow sm λa z=>.inl z;have m1:Mv P H H1 σ σ S S []:=⟨λb u h _ _=>sm b u h,λi a z=>.inl ⟨i,z⟩,.refl⟩;have q1:=q.from m1;have a0:∀{ρ2:En}{σ2:L2.St}{H2:Hp}{S2:Ad},Mv P H1 H2 σ σ2 S S2 []->LtB true H1 (wn ob S Fr) H2 (wn ob S2 Fr):=λm=>pB (El O m);refine⟨λi m σ2 H2=>i+m=items.length/\∃ρ2 S2,Sta G H2 ob ρ2 σ2 S2 Fr/\Mv P H1 H2 σ σ2 S S2 []/\forL tg V (items.drop i) ρ2=some r,⟨items.length,by omega,ρ,S,O,.refl,e⟩,?_⟩;rintro i m σ2 H2 ⟨a7,ρ2,S2,Z,m2,e2⟩;by_cases a4:i<items.length
   .refine .inr ⟨wk.go i items[i] (by simp[a4]) H2 _ (a0 (ρ2:=ρ2) m2),λF H'=>(i+1)+(m-1)=items.length/\∃ρ2 S2,Sta G H' ob ρ2 F S2 Fr/\Mv P H1 H' σ F S S2 []/\forL tg V (items.drop (i+1)) ρ2=some r,λF H' h=>⟨m-1,by omega,h⟩,λx H3 hy=>?_⟩
    obtain⟨N,rx⟩:=wk.yld i items[i] (by simp[a4]) H2 _ (a0 (ρ2:=ρ2) m2) x H3 hy;rw[←aak a4,forL]at e2;cases h3:tg items[i] ρ2 with
    |none=>simp[h3]at e2
    |some a3=>
     rw[h3]at e2;simp![Xz]at e2;have a6:Sta G H3 ob ρ2 σ2 S2 Fr:=Z.grow N λa z=>.inl z;refine hg items[i] ρ2 a3 h3 x σ2 H3 S2 [] Fr (by rw[ju];exact a6) (by rw[ju];exact rx) List.nodup_nil (by simp) _ λa5 H4 S4 s4 m4=>?_;have a2:Mv P H1 H4 σ a5 S S4 []:=(m2.trans (S2:=S2) ⟨λb u h _ _=>N b u h,λi a z=>.inl ⟨i,z⟩,.refl⟩).trans m4;cases Y:V a3 with
     |none=>rw[Y]at e2;cases e2
     |some fl=>
      rw[Y]at e2;refine U a3 fl Y a5 H4 S4 Fr s4 _ ?_;cases fl with
      |nx a1=>exact λF H' S' s' m'=>⟨by omega,a1,S',s',a2.trans m',e2⟩
      |cnt a1=>exact λF H' S' s' m'=>⟨by omega,a1,S',s',a2.trans m',e2⟩
      |brk a1=>cases e2;exact λF H' S' s' m'=>q1 F H' S' s' (a2.trans m')
      |ret d a1=>cases e2;exact q1.from a2
   .have hl:i=items.length:=by omega
    rw[hl,aaC,forL]at e2;cases e2;subst hl;exact .inl ⟨wk.stop H2 _ (a0 (ρ2:=ρ2) m2),q1 σ2 H2 S2 Z m2⟩
variable{f:En->Option Fl}
theorem lz{tg iter:Expr}{V:List Stmt}{g:D->En->Option En}(F:∀c,ad0 (model (X c).prog (X c).w) (X c).A (X c).env (X c).xe)(Z:∀c,(X c).calm=true)(hi:PVI X G ob tg iter it)(q:PVG X G ob P tg g)(U:tE X G ob P V f)(hs:∀c,∀x,ZF iter (X c).env x=pure x:=by intro _;intro _;rfl):PVS X G ob P (.For tg iter V [] pos) (lX it g f):=let⟨v,c1,c2⟩:=hi.ex;let⟨t,a1,a2⟩:=q.ex;let⟨u,b1,b2⟩:=U.ex;⟨_,λc=>NZ (F c) (Z c) (c1 c) (a1 c) (b1 c) (hs c),Oi c2 a2 b2⟩
def jR(c:En->Option (Bool×En))(V:En->Option Fl):Nat->En->Option Fl
 |0,_=>none
 |n+1,ρ=>(c ρ).bind λp=>if p.1=true then(match V p.2 with
  |some (.nx ρ2)=>jR c V n ρ2
  |some (.cnt ρ2)=>jR c V n ρ2
  |some (.brk ρ2)=>some (.nx ρ2)
  |o=>o)else some (.nx p.2)
theorem Hc{tc:TT}{c:En->Option (Bool×En)}{V:En->Option Fl}(n:Nat)(Z:zf G ob tc c)(U:RfS G ob P tb V):RfS G ob P (Lb tc tb) (jR c V n):=λρ r e σ H S Fr s E q=>by
 refine⟨λm σ2 H2=>∃ρ2 S2,Sta G H2 ob ρ2 σ2 S2 Fr/\Mv P H H2 σ σ2 S S2 []/\jR c V m ρ2=some r,⟨n,ρ,S,s,.refl,e⟩,?_⟩;rintro m σ2 H2 ⟨ρ2,S2,s2,m2,e2⟩;cases m with
 |zero=>cases e2
 |succ m=>
  rw[jR]at e2;cases h1:c ρ2 with
  |none=>simp[h1]at e2
  |some p=>
   obtain⟨b,a1⟩:=p;rw[h1]at e2;simp![Xz]at e2;refine Z ρ2 b a1 h1 σ2 H2 S2 Fr s2 _ λJ S3 N f3=>?_;have m3:Mv P H J σ σ2 S S3 []:=m2.trans f3.mv;cases b with
   |false=>
    simp![Yz,Zi]at e2;cases e2;exact vQ (q σ2 J S3 N m3)
   |true=>
    simp![Yd]at e2;refine pB ⟨λF H'=>∃ρ2 S2,Sta G H' ob ρ2 F S2 Fr/\Mv P H H' σ F S S2 []/\jR c V m ρ2=some r,λF H' h=>⟨m,aaB m,h⟩,?_⟩;cases Y:V a1 with
    |none=>rw[Y]at e2;cases e2
    |some fl=>
     rw[Y]at e2;refine U a1 fl Y σ2 J S3 Fr N _ ?_;cases fl with
     |nx a0=>exact λF H' S' s' O=>⟨a0,S',s',m3.trans O,e2⟩
     |cnt a0=>exact λF H' S' s' O=>⟨a0,S',s',m3.trans O,e2⟩
     |brk a0=>cases e2;exact λF H' S' s' O=>q F H' S' s' (m3.trans O)
     |ret d a0=>cases e2;exact q.from m3
theorem HD(n:Nat){V:List Stmt}{fc:En->Option (Bool×En)}(F:∀c,ad0 (model (X c).prog (X c).w) (X c).A (X c).env (X c).xe)(Z:Dc X G ob c fc)(U:tE X G ob P V f):PVS X G ob P (.While c V [] pos) (jR fc f n):=let⟨v,c1,c2⟩:=Z.ex;let⟨u,b1,b2⟩:=U.ex;⟨_,λc=>Ls (F c) (c1 c) (b1 c),Hc n c2 b2⟩
def tH(i:Nat)(ρ:En):Option En:=match ρ[i]? with
 |some (some d)=>some (ρ.set i (some (fz d)))
 |_=>none
theorem Sta.freeze{Z:En}{Fr:Addr->Prop}(s:Sta G H ob ρ σ S Fr)(e:tH i ρ=some Z):Sta G H ob Z σ (ie S i []) Fr:=by
 unfold tH at e;split at e
 .rename_i d h1
  cases e;obtain⟨v,h2,F,O,h5⟩:=s.move h1;have J:Sta G H ob (ρ.set i none) σ (ie S i []) Fr:=O.lessF λa z=>.inr z;have q:i<ρ.length:=(XF.mp h1).1;have N:Rep G H (wn ob (ie S i []) Fr) (fz d) v []:=by
   refine h5.fz ⟨λa f=>⟨λz=>f.1 (.inr z),f.2⟩,λa Y=>⟨λz=>s.fdj i a z Y,λ⟨j,q1,q2⟩=>?_,λ⟨j,q1,q2⟩=>?_⟩⟩ (.inl F)
   .rcases dD q2 with⟨_,z⟩|⟨n,z⟩
    .cases z
    .exact n (s.dj j i a z Y)
   .rcases dD q2 with⟨_,z⟩|⟨n,z⟩
    .cases z
    .exact n (s.dj j i a z Y)
  refine⟨by simp[s.len],λj d' U=>?_,λj V=>?_,J.nd,J.dj,J.fdj,J.fdm⟩
  .by_cases e':j=i
   .subst e'
    have:fz d=d':=by simpa[q]using U
    subst this;exact⟨v,h2,by rw[dU];exact N,Mg d⟩
   .rw[List.getElem?_set_ne (YC e')]at U
    exact J.sl j d' (by rw[List.getElem?_set_ne (YC e')];exact U)
  .by_cases e':j=i
   .rw[e',dU]
   .exact J.em j λd'=>by have:=V d';rw[List.getElem?_set_ne (YC e')]at this⊢;exact this
 .cases e
def sFz(i:Nat)(f:En->Option Fl):En->Option Fl:=λρ=>(tH i ρ).bind f
theorem UJ{t:TS}(h:RfS G ob P t f):RfS G ob P t (sFz i f):=λρ r e σ H S Fr s E q=>by
 unfold sFz at e;cases h1:tH i ρ with
 |none=>simp[h1]at e
 |some ρ1=>
  have e:f ρ1=some r:=by simpa[h1]using e
  have m:Mv P H H σ σ S (ie S i []) []:=⟨λ_ _ h _ _=>h,λj a z=>(dD z).elim (λz=>by cases z.2) λz=>.inl ⟨j,z.2⟩,.refl⟩;exact h ρ1 r e σ H (ie S i []) Fr (s.freeze h1) E (q.from m)
theorem uO(i:Nat){st:Stmt}(h:PVS X G ob P st f):PVS X G ob P st (sFz i f):=let⟨t,a1,a2⟩:=h.ex;⟨t,a1,UJ a2⟩
mutual
noncomputable def dR:D->Bool
 |.tup ds=>b_ ds
 |.lst m ds=>m== .own&&b_ ds
 |.dct m _ ds=>m== .own&&b_ ds
 |.ins m _ _ ds=>m== .own&&b_ ds
 |_=>true
noncomputable def b_:List D->Bool
 |[]=>true
 |d::r=>dR d&&b_ r
end
mutual
theorem Rep.own:∀{d:D}{v:V}{L:List Addr},Rep G H W d v L->dR d=true->Rep G H W' d v L
 |.non,v,L,h,_=>by rw[Rep]at h⊢;exact h
 |.bl _,v,L,h,_=>by rw[Rep]at h⊢;exact h
 |.int _,v,L,h,_=>by rw[Rep]at h⊢;exact h
 |.str _,v,L,h,_=>by rw[Rep]at h⊢;exact h
 |.ty _,v,L,h,_=>by rw[Rep]at h⊢;exact h
 |.tup ds,v,L,h,o=>by
  rw[Rep]at h⊢;obtain⟨a,xs,rfl,U,O⟩:=h;exact⟨a,xs,rfl,U,aH.own O (by simpa[dR]using o)⟩
 |.lst m ds,v,L,h,o=>by
  rw[Rep]at h⊢;obtain⟨a,xs,M,rfl,O,hs⟩:=h;simp[dR]at o;obtain⟨rfl,o⟩:=o;exact⟨a,xs,M,rfl,aH.own O o,hs⟩
 |.dct m ks ds,v,L,h,o=>by
  rw[Rep]at h⊢;obtain⟨a,xs,M,rfl,J,O,hs⟩:=h;simp[dR]at o;obtain⟨rfl,o⟩:=o;exact⟨a,xs,M,rfl,J,aH.own O o,hs⟩
 |.ins m c fs ds,v,L,h,o=>by
  rw[Rep]at h⊢;obtain⟨a,C,dx,xs,M,rfl,Y,J,O,hs⟩:=h;simp[dR]at o;obtain⟨rfl,o⟩:=o;exact⟨a,C,dx,xs,M,rfl,Y,J,aH.own O o,hs⟩
theorem aH.own:∀{ds:List D}{vs:List V}{L:List Addr},aH G H W ds vs L->b_ ds=true->aH G H W' ds vs L
 |[],vs,L,h,_=>by rw[aH]at h⊢;exact h
 |d::r,vs,L,h,o=>by
  obtain⟨x,ys,M,M',rfl,rfl,h1,h2⟩:=h.inv;simp[b_]at o;exact .cons (Rep.own h1 o.1) (aH.own h2 o.2)
end
def W1(Fr:Addr->Prop):Wn:=⟨Fr,λ_=>False,λ_=>False⟩
def spP(G:Gc)(F:List D->Option D):Sp:=λvs H Q _=>∃(ds:List D)(Fr:Addr->Prop),aH G H (W1 Fr) ds vs []/\aA ds=true/\aB ds=true/\(∀a,Fr a->Mu H a)/\∃d,F ds=some d/\
 ∀v H' L,Same H H'->Rep G H' (W1 (plus L Fr)) d v L->(∀a∈L,H a=none)->L.Nodup->clean d=true->Q v H'
def en0(n:Nat)(ds:List D):En:=ds.map some++Y5 (n-ds.length) none
def fnP(N n:Nat)(V:En->Option Fl):List D->Option D:=λds=>if ds.length=N then(V (en0 n ds)).bind λr=>match r with
 |.ret d _=>some d
 |.nx _=>some .non
 |_=>none else none
theorem Fi(h:(en0 n ds)[i]? =some (some d)):ds[i]? =some d:=by
 unfold en0 at h;by_cases hi:i<ds.length
 .rw[YL (by simpa using hi)]at h
  simpa using h
 .rw[Zv (by simpa using Nat.le_of_not_lt hi)]at h
  rw[adV]at h;split at h
  .simp at h
  .cases h
variable{vs:List V}
theorem Xv{Fr:Addr->Prop}(r:aH G H (W1 Fr) ds vs [])(O:aA ds=true)(q:aB ds=true)(fm:∀a,Fr a->Mu H a):Sta G H ob (en0 N.length ds) (L2.start N vs) (λ_=>[]) Fr where
 len:=by simp[en0,L2.start,r.length]
 sl:=λi d e=>by
  have e:=Fi e;obtain⟨x,M,h1,h2,F⟩:=r.get e;have:M=[]:=by simpa using F
  subst this;refine⟨x,?_,h2.up ⟨Same.refl _,λb u U f=>⟨f.1,λ⟨j,_,z⟩=>(by cases z),λ⟨j,_,z⟩=>(by cases z)⟩,λb u U f=>f.elim⟩,by simp[clean,iz O e,iG q e]⟩;unfold L2.start;have hi:i<vs.length:=(XF.mp h1).1;rw[YL (by simpa using hi)];simp[h1]
 em:=λ_ _=>rfl
 nd:=λ_=>List.nodup_nil
 dj:=λi j a h=>by cases h
 fdj:=λi a _ h=>by cases h
 fdm:=fm
section
variable{P:Program}{w:World}{K:PySem.W.Frag}{mg:Str->Option Value}{base:Heap}
theorem Uv{a:Addr}:¬inS (λ_=>[]) a:=λ⟨_,z⟩=>by cases z
theorem okP{x a0:Str}{st:Stmt}{f:Addr}{fd:Y9}{N ps:List Str}{k:Nat}{ob Pr:Nat->Bool}{V:En->Option Fl}(F:Fun K x a0 st f fd)(S:cB N ps (aG st))
  (U:∀(J:Value)(A:Zc)(outer:List Env)(s:Mx)(H:Hp)(E:XK),iZ k (A.deeper (aci a0 (aG st) s.heap.objs.size f J))->tE (λ_:Unit=>(Bv CX0 P w K mg base N a0 (aG st) f J A outer s H E).nox) ⟨K,mg⟩ ob Pr (bL st) V) :
  gn P w K mg base CX0 (k+1) f fd ps (spP ⟨K,mg⟩ (fnP ps.length N.length V)):=by
 refine F.ok S (λvs H Q E h=>?_) (λJ A outer s H vs Q E O h=>?_)
 .obtain⟨ds,Fr,r,_,_,_,d,e,_⟩:=h
  unfold fnP at e;split at e
  .rename_i hl
   rw[←r.length];exact hl
  .cases e
 .obtain⟨ds,Fr,r,c1,c2,fm,d,e,q⟩:=h
  obtain⟨t,a1,a2⟩:=(U J A outer s H E O).ex;refine⟨t,a1 (),?_⟩;unfold fnP at e;split at e
  .cases h1:V (en0 N.length ds)with
   |none=>simp[h1]at e
   |some fl=>
    rw[h1]at e;simp![Xz]at e;refine a2 _ fl h1 (L2.start N vs) H (λ_=>[]) Fr (Xv (ob:=ob) r c1 c2 fm) _ ?_;have a4:∀{S':Ad}{M:List Addr}{b:Addr},(wn ob S' (plus M Fr)).free b->(W1 (plus M Fr)).free b:=λz=>⟨z.1,id,id⟩;cases fl with
    |nx Z=>
     cases e;exact λa5 H' S' s' m=>q .non H' [] (λb o h=>m.kp b o h Uv (by simp)) (by rw[Rep];exact⟨rfl,rfl⟩) (by simp) List.nodup_nil rfl
    |ret d' Z=>
     cases e;exact λv a5 H' M S' s' r' c n f m=>q v H' M (λb o h=>m.kp b o h Uv (by simp)) (by
      have a3:=(by simpa[clean]using c:az d=true/\au d=true);have ev:Evo H' H' (wn ob S' (plus M Fr)) (W1 (plus M Fr)):=⟨λb u h z=>⟨h,a4 z⟩,λ_ _ h=>h⟩;exact r'.mono ev (.inl a3.1) (.inl a3.2) λ_ _ _ h=>h) (λa Y=>(f a Y).resolve_left Uv) n c
    |brk Z=>cases e
    |cnt Z=>cases e
  .cases e
end
def bG(F:List D->Option D)(ds:List D):Option D:=(F (fzL ds)).bind λd=>if(aA ds&&aB ds)||dR d then some d else none
theorem KZ{F:List D->Option D}{E:XK}:CaV G (λvs H Q=>spP G F (vs++[]) H Q E) (bG F):=λds d e xs H W Z r nd hn w Q q=>by
 unfold bG at e;cases h1:F (fzL ds)with
 |none=>simp[h1]at e
 |some d'=>
  rw[h1]at e;simp![Xz]at e;split at e
  .rename_i hc
   cases e;rw[Ym];by_cases O:aA ds=true/\aB ds=true
   .refine⟨fzL ds,λa=>(W.n a∨W.s a∨W.o a)/\a∉Z,r.fz ⟨λa f=>⟨λz=>z.1.elim f.1 λz=>z.elim f.2.1 f.2.2,id,id⟩,λa Y=>⟨λz=>z.2 Y,id,id⟩⟩ (.inl O),gM ds,gO ds,λa h=>w a h.1,d,h1,λv H' L s r' fr n c=>?_⟩
    refine q v H' L s ?_ (λa Y=>.inr (fr a Y)) n;have U:=(by simpa[clean]using c:az d=true/\au d=true);have V:∀a∈L,a∉Z:=λa Y z=>by
     obtain⟨o,N,_⟩:=r.dom a z;rw[fr a Y]at N;cases N
    have J:Evo H' H' (W1 (plus L λa=>(W.n a∨W.s a∨W.o a)/\a∉Z)) ((W.drop Z).add L):=⟨λb u h f=>⟨h,⟨λz=>z.elim (λz=>f.1 (.inl z)) λz=>f.1 (.inr ⟨.inl z.1,z.2⟩),λz=>f.1 (.inr ⟨.inr (.inl z),λy=>?_⟩),λz=>f.1 (.inr ⟨.inr (.inr z),λy=>?_⟩)⟩⟩,λ_ _ h=>h⟩
    .exact r'.mono J (.inl U.1) (.inl U.2) λ_ _ _ h=>h
    .exact(hn b y).2.1 z
    .exact(hn b y).2.2 z
   .have N:dR d=true:=by
     simp![acN,Ys]at hc;exact hc.resolve_left O
    refine⟨fzL ds,λ_=>False,r.fz ⟨λa f=>⟨id,id,id⟩,λa Y=>⟨id,id,id⟩⟩ (.inr λa=>⟨id,id,id⟩),gM ds,gO ds,λa h=>h.elim,d,h1,λv H' L s r' fr n c=>?_⟩;exact q v H' L s (r'.own N) (λa Y=>.inr (fr a Y)) n
  .cases e
theorem eO{F:List D->Option D}{f:En->Option (List D)}(C:∀c,Cal (X c).prog (X c).w (X c).K (X c).mg (X c).base k x ps (spP G F))(O:∀c,iZ k (X c).A)(Y:PVA X G ob (e::es) f)(q:∀c,Gl (X c) x:=by intro _;rfl)(U:(x==("__debug__":Str))=false:=by decide)(V:∀c,X_ (e::es) (X c).env=(false,eval e (X c).env)::X_ es (X c).env:=by intro _;rfl)(N:∀c,(aah pos (X_ es (X c).env)).any (·.1)=false:=by intro _;rfl) :
 PV X G ob (.Call (.Name x p) (e::es) [] pos) (eAp (bG F) f):=let⟨t,a1,a2⟩:=Y.ex;⟨_,λc=>Lk (C c) (O c) (q c) (a1 c) U (V c) (N c),tO KZ a2⟩
variable{a:Addr}
theorem dJ.fz2{F:Addr->HO->Prop}(hs:Les H W W' L)(U:m≠.brw∨∀a,W.s a->W'.free a)(N:m≠.bro∨m_ W')(h:dJ F H W a o m L M):dJ F H W' a o (mkF m) [] []:=by
 cases m with
 |own=>exact⟨h.1,hs.l a (by rw[h.2];simp),rfl,rfl⟩
 |frz=>exact⟨h.1,hs.f a h.2.1,rfl,rfl⟩
 |brw=>exact⟨h.1,U.elim (λz=>absurd rfl z) λz=>z a h.2.1,rfl,rfl⟩
 |bro=>exact⟨h.1,N.elim (λz=>absurd rfl z) λz=>z a,rfl,rfl⟩
 |scr=>exact⟨h.1.imp (λz=>⟨z.1,hs.f a z.2⟩) id,rfl,rfl⟩
mutual
theorem Rep.fz2:∀{d:D}{v:V}{L:List Addr},Rep G H W d v L->Les H W W' L->(az d=true∨∀a,W.s a->W'.free a)->(au d=true∨m_ W')->Rep G H W' (fz d) v []
 |.non,v,L,h,_,_,_=>by rw[Rep]at h;simp[Jb.fz,Rep,h]
 |.bl _,v,L,h,_,_,_=>by rw[Rep]at h;simp[Jb.fz,Rep,h]
 |.int _,v,L,h,_,_,_=>by rw[Rep]at h;simp[Jb.fz,Rep,h]
 |.str _,v,L,h,_,_,_=>by rw[Rep]at h;simp[Jb.fz,Rep,h]
 |.ty _,v,L,h,_,_,_=>by rw[Rep]at h;simp[Jb.fz,Rep,h]
 |.tup ds,v,L,h,hs,c,o=>by
  rw[Rep]at h;rw[Jb.fz,Rep];obtain⟨a,xs,rfl,U,O⟩:=h;exact⟨a,xs,rfl,U,aH.fz2 O hs (by simpa[az]using c) (by simpa[au]using o)⟩
 |.lst m ds,v,L,h,he,c,o=>by
  rw[Rep]at h;rw[Jb.fz,Rep];obtain⟨a,xs,M,rfl,O,hs⟩:=h;exact⟨a,xs,[],rfl,aH.fz2 O (he.sub λc Z=>hs.sub.subset Z) (c.imp (λz=>by simp[az]at z;exact z.2) id) (o.imp (λz=>by simp[au]at z;exact z.2) id),hs.fz2 he (c.imp (λz=>by simp[az]at z;exact z.1) id) (o.imp (λz=>by simp[au]at z;exact z.1) id)⟩
 |.dct m ks ds,v,L,h,he,c,o=>by
  rw[Rep]at h;rw[Jb.fz,Rep];obtain⟨a,xs,M,rfl,J,O,hs⟩:=h;exact⟨a,xs,[],rfl,J,aH.fz2 O (he.sub λc Z=>hs.sub.subset Z) (c.imp (λz=>by simp[az]at z;exact z.2) id) (o.imp (λz=>by simp[au]at z;exact z.2) id),hs.fz2 he (c.imp (λz=>by simp[az]at z;exact z.1) id) (o.imp (λz=>by simp[au]at z;exact z.1) id)⟩
 |.ins m c' fs ds,v,L,h,he,c,o=>by
  rw[Rep]at h;rw[Jb.fz,Rep];obtain⟨a,C,dx,xs,M,rfl,Y,J,O,hs⟩:=h;exact⟨a,C,dx,xs,[],rfl,Y,J,aH.fz2 O (he.sub λc Z=>hs.sub.subset Z) (c.imp (λz=>by simp[az]at z;exact z.2) id) (o.imp (λz=>by simp[au]at z;exact z.2) id),hs.fz2 he (c.imp (λz=>by simp[az]at z;exact z.1) id) (o.imp (λz=>by simp[au]at z;exact z.1) id)⟩
theorem aH.fz2:∀{ds:List D}{vs:List V}{L:List Addr},aH G H W ds vs L->Les H W W' L->(aA ds=true∨∀a,W.s a->W'.free a)->(aB ds=true∨m_ W')->aH G H W' (fzL ds) vs []
 |[],vs,L,h,_,_,_=>by obtain⟨rfl,_⟩:=h.inv0;rw[fzL];exact .nil
 |d::r,vs,L,h,he,c,o=>by
  obtain⟨x,ys,M,M',rfl,rfl,h1,h2⟩:=h.inv;rw[fzL];exact .cons (M:=[]) (M':=[]) (Rep.fz2 h1 (he.sub λc Z=>X6 _ Z) (c.imp (λz=>by simp[aA]at z;exact z.1) id) (o.imp (λz=>by simp[aB]at z;exact z.1) id))
   (aH.fz2 h2 (he.sub λc Z=>XD _ Z) (c.imp (λz=>by simp[aA]at z;exact z.2) id) (o.imp (λz=>by simp[aB]at z;exact z.2) id))
end
def spI(G:Gc)(ob pr:Nat->Bool)(F:List D->Option (D×List D)):Sp:=λvs H Q _=>∃(ds:List D)(S:Ad)(Fr:Addr->Prop),Sta G H ob (ds.map some) (vs.map some) S Fr/\(∀i,pr i=false->S i=[])/\∃d q,F ds=some (d,q)/\
 ∀v H' M S',Sta G H' ob (q.map some) (vs.map some) S' (plus M Fr)->Rep G H' (wn ob S' (plus M Fr)) d v M->clean d=true->M.Nodup->(∀a∈M,inS S a∨H a=none)->Mv (λ_=>false) H H' [] [] S S' []->Q v H'
def outs(pr:Nat->Bool)(ρ:En):Nat->List D->Option (List D)
 |_,[]=>some []
 |i,d::r=>(if pr i=true then(match ρ[i]? with
  |some (some e)=>some e
  |_=>none)else some d).bind λe=>(outs pr ρ (i+1) r).map λt=>e::t
def fnI(pr:Nat->Bool)(N n:Nat)(V:En->Option Fl):List D->Option (D×List D):=λds=>if ds.length=N then(V (en0 n ds)).bind λr=>match r with
 |.ret d ρ=>(outs pr ρ 0 ds).map λo=>(d,o)
 |.nx ρ=>(outs pr ρ 0 ds).map λo=>(.non,o)
 |_=>none else none
theorem Fz{pr:Nat->Bool}{ρ:En}:∀{ds q:List D}{k:Nat},outs pr ρ k ds=some q->q.length=ds.length/\∀i d,q[i]? =some d->(pr (k+i)=true/\ρ[k+i]? =some (some d))∨(pr (k+i)=false/\ds[i]? =some d)
 |[],q,k,e=>by
  cases e;exact⟨rfl,λi d h=>by simp at h⟩
 |d0::r,q,k,e=>by
  rw[outs]at e;cases h2:outs pr ρ (k+1) r with
  |none=>
   rw[h2]at e;simp at e
  |some t=>
   rw[h2]at e;obtain⟨l1,l2⟩:=Fz h2;have V:∃U,q=U::t/\((pr k=true/\ρ[k]? =some (some U))∨(pr k=false/\d0=U)):=by
    split at e
    .rename_i hp
     split at e
     .rename_i U h0
      exact⟨U,by simpa using e.symm,.inl ⟨hp,h0⟩⟩
     .simp at e
    .rename_i hp
     exact⟨d0,by simpa using e.symm,.inr ⟨by simpa using hp,rfl⟩⟩
   obtain⟨U,rfl,J⟩:=V;refine⟨by simp[l1],λi d h=>?_⟩;cases i with
   |zero=>
    have:U=d:=by simpa using h
    subst this;exact J.imp id λz=>⟨z.1,by simp[z.2]⟩
   |succ i=>
    have:=l2 i d (by simpa using h);rw[show k+1+i=k+(i+1)by omega]at this;simpa using this
theorem km{xs:List α}{x:α}(h:(xs.map some)[i]? =some (some x)):xs[i]? =some x:=by
 rw[List.getElem?_map]at h;cases e:xs[i]? with
 |none=>rw[e]at h;cases h
 |some y=>rw[e]at h;simpa using h
theorem fB{xs:List α}{x:α}(h:xs[i]? =some x):(xs.map some)[i]? =some (some x):=by rw[List.getElem?_map,h];rfl
theorem Xe{Fr:Addr->Prop}(s:Sta G H ob (ds.map some) (vs.map some) S Fr):Sta G H ob (en0 N.length ds) (L2.start N vs) S Fr where
 len:=by have:=s.len;simp at this;simp[en0,L2.start,this]
 sl:=λi d e=>by
  obtain⟨v,h1,h2,F⟩:=s.sl i d (fB (Fi e));refine⟨v,?_,h2,F⟩;unfold L2.start;have hi:i<(vs.map some).length:=(XF.mp h1).1;rw[YL hi];exact h1
 em:=λi h=>s.em i λd e=>h d (by
  unfold en0;have hi:i<(ds.map some).length:=(XF.mp e).1;rw[YL hi];exact e)
 nd:=s.nd
 dj:=s.dj
 fdj:=s.fdj
 fdm:=s.fdm
section
variable{P:Program}{w:World}{K:PySem.W.Frag}{mg:Str->Option Value}{base:Heap}
theorem BZ{G:Gc}{H H':Hp}{ob pr:Nat->Bool}{ds a1:List D}{vs:List V}{N:List Str}{S S1:Ad}{Fr:Addr->Prop}{ρ:En}{σ:L2.St}{M:List Addr}(s:Sta G H ob (ds.map some) (vs.map some) S Fr)(F:∀i,pr i=false->S i=[])(O:Sta G H' ob ρ σ S1 (plus M Fr))
  (m:Mv pr H H' (L2.start N vs) σ S S1 []) (hM:∀a∈M,inS S a∨H a=none) (e:outs pr ρ 0 ds=some a1) :
  Sta G H' ob (a1.map some) (vs.map some) (λi=>if pr i=true/\i<ds.length then S1 i else[]) (plus M Fr):=by
 obtain⟨Y,q⟩:=Fz e;have lv:ds.length=vs.length:=by have:=s.len;simpa using this
 have sub:∀{i a},a∈(if pr i=true/\i<ds.length then S1 i else[])->a∈S1 i:=λ{i a} z=>by
  split at z
  .exact z
  .cases z
 refine⟨by simp[Y,lv],λi d h=>?_,λi h=>?_,λi=>?_,λi j a h1 h2=>O.dj i j a (sub h1) (sub h2),λi a h z=>O.fdj i a h (sub z),O.fdm⟩
 .have h:=km h
  have hi:i<ds.length:=by rw[←Y];exact(XF.mp h).1
  rcases q i d h with⟨h1,h2⟩|⟨h1,h2⟩
  .rw[aba]at h1 h2
   obtain⟨v,q1,q2,q3⟩:=O.sl i d h2;have e1:=m.pr i h1;rw[q1]at e1;refine⟨v,?_,?_,q3⟩
   .unfold L2.start at e1
    rw[YL (by simp;omega)]at e1;exact e1.symm
   .rw[X7 ⟨h1,hi⟩]
    have a0:=(by simpa[clean]using q3:az d=true/\au d=true);have J:Evo H' H' (wn ob S1 (plus M Fr)) (wn ob (λi=>if pr i=true/\i<ds.length then S1 i else[]) (plus M Fr)):=⟨λb u U f=>⟨U,⟨f.1,λ⟨j,z1,Z⟩=>f.2.1 ⟨j,z1,sub Z⟩,λ⟨j,z1,Z⟩=>f.2.2 ⟨j,z1,sub Z⟩⟩⟩,λ_ _ h=>h⟩;exact q2.mono J (.inl a0.1) (.inl a0.2) λ_ _ _ h=>h
  .rw[aba]at h1
   obtain⟨v,q1,q2,q3⟩:=s.sl i d (fB h2);refine⟨v,q1,?_,q3⟩;rw[Yc λz=>by rw[h1]at z;cases z.1];rw[F i h1]at q2;have a0:=(by simpa[clean]using q3:az d=true/\au d=true);have a2:=El s (σ2:=σ) (H2:=H') (S2:=S1) (P:=λ_=>false) ⟨m.kp,m.gr,λi h=>by cases h⟩;have J:Evo H H' (wn ob S Fr) (wn ob (λi=>if pr i=true/\i<ds.length then S1 i else[]) (plus M Fr)):=⟨λb u U f=>?_,a2.t⟩
   .exact q2.mono J (.inl a0.1) (.inl a0.2) (by simp)
   .obtain⟨k1,k2⟩:=a2.k b u U f
    refine⟨k1,λz=>z.elim (λz=>?_) f.1,λ⟨j,z1,Z⟩=>k2.2.1 ⟨j,z1,sub Z⟩,λ⟨j,z1,Z⟩=>k2.2.2 ⟨j,z1,sub Z⟩⟩;rcases hM b z with⟨j,y⟩|y
    .cases ho:ob j with
     |false=>exact f.2.1 ⟨j,ho,y⟩
     |true=>exact f.2.2 ⟨j,ho,y⟩
    .rw[U]at y;cases y
 .split
  .rename_i z
   exfalso;have hi:i<a1.length:=by rw[Y];exact z.2
   exact h a1[i] (fB (by simp[hi]))
  .rfl
 .show(if pr i=true/\i<ds.length then S1 i else[]).Nodup
  split
  .exact O.nd i
  .exact List.nodup_nil
theorem okI{x a0:Str}{st:Stmt}{f:Addr}{fd:Y9}{N ps:List Str}{k:Nat}{ob pr:Nat->Bool}{V:En->Option Fl}(F:Fun K x a0 st f fd)(S:cB N ps (aG st))
  (U:∀(J:Value)(A:Zc)(outer:List Env)(s:Mx)(H:Hp)(E:XK),iZ k (A.deeper (aci a0 (aG st) s.heap.objs.size f J))->tE (λ_:Unit=>(Bv CX0 P w K mg base N a0 (aG st) f J A outer s H E).nox) ⟨K,mg⟩ ob pr (bL st) V) :
  gn P w K mg base CX0 (k+1) f fd ps (spI ⟨K,mg⟩ ob pr (fnI pr ps.length N.length V)):=by
 refine F.ok S (λvs H Q E h=>?_) (λJ A outer s H vs Q E O h=>?_)
 .obtain⟨ds,S,Fr,st,_,d,ds',e,_⟩:=h
  unfold fnI at e;split at e
  .rename_i hl
   have:=st.len;simp at this;rw[←this];exact hl
  .cases e
 .obtain⟨ds,S0,Fr,st,hp,d,ds',e,q⟩:=h
  obtain⟨t,a1,Y⟩:=(U J A outer s H E O).ex;refine⟨t,a1 (),?_⟩;unfold fnI at e;split at e
  .cases h1:V (en0 N.length ds)with
   |none=>simp[h1]at e
   |some fl=>
    rw[h1]at e;simp![Xz]at e;refine Y _ fl h1 (L2.start N vs) H S0 Fr (Xe st) _ ?_;have sub:∀{S1:Ad}{i a},a∈(if pr i=true/\i<ds.length then S1 i else[])->a∈S1 i:=λ{S1 i a} z=>by
     split at z
     .exact z
     .cases z
    cases fl with
    |nx Z=>
     cases h2:outs pr Z 0 ds with
     |none=>simp[h2]at e
     |some o=>
      obtain⟨rfl,rfl⟩:D.non=d/\o=ds':=by simpa[h2]using e
      refine λa4 H' S1 s1 m=>q .non H' [] _ (BZ st hp (M:=[]) (by rw[ju];exact s1) m (by simp) h2) (by rw[Rep];exact⟨rfl,rfl⟩) rfl List.nodup_nil (by simp) ⟨m.kp,λi a z=>m.gr i a (sub z),λi h=>by cases h⟩
    |ret d' Z=>
     cases h2:outs pr Z 0 ds with
     |none=>simp[h2]at e
     |some o=>
      obtain⟨rfl,rfl⟩:d'=d/\o=ds':=by simpa[h2]using e
      refine λv a4 H' M S1 s1 r c n f m=>q v H' M _ (BZ st hp s1 m f h2) ?_ c n f ⟨m.kp,λi a z=>m.gr i a (sub z),λi h=>by cases h⟩;have a3:=(by simpa[clean]using c:az d'=true/\au d'=true);have ev:Evo H' H' (wn ob S1 (plus M Fr)) (wn ob (λi=>if pr i=true/\i<ds.length then S1 i else[]) (plus M Fr)):=⟨λb u U f=>⟨U,⟨f.1,λ⟨j,z1,z2⟩=>f.2.1 ⟨j,z1,sub z2⟩,λ⟨j,z1,z2⟩=>f.2.2 ⟨j,z1,sub z2⟩⟩⟩,λ_ _ h=>h⟩;exact r.mono ev (.inl a3.1) (.inl a3.2) λ_ _ _ h=>h
    |brk Z=>cases e
    |cnt Z=>cases e
  .cases e
end
def RfM(G:Gc)(ob:Nat->Bool)(t:TA)(js:List Nat)(f:En->Option (List D×En)):Prop:=∀(ρ:En)(ds:List D)(Z:En),f ρ=some (ds,Z)->∀(σ:L2.St)(H:Hp)(S:Ad)(Fr:Addr->Prop),Sta G H ob ρ σ S Fr->
 ∀us:List V,js.map (λj=>σ[j]?)=us.map (λu=>some (some u))->∀Q:List V->Hp->Prop,
 (∀vs H' M S',Sta G H' ob Z σ S' (plus M Fr)->aH G H' (wn ob S' (plus M Fr)) ds vs M->M.Nodup->Eff ob H H' S S' M->Q (us++vs) H')->t σ H Q
structure PVM{ι:Type}(X:ι->Cx)(G:Gc)(ob:Nat->Bool)(es:List Expr)(js:List Nat)(f:En->Option (List D×En)):Prop where
 mk::(ex:∃t,(∀c,PA (X c) es t)/\RfM G ob t js f)
variable{f:En->Option (List D×En)}
theorem bB(h:wJ X G ob es f):PVM X G ob es [] f:=by
 obtain⟨t,U,Y⟩:=h.ex;refine⟨t,U,λρ ds Z e σ H S Fr s us O Q q=>?_⟩;have:us=[]:=by simpa using O
 subst this;exact Y ρ ds Z e σ H S Fr s Q q
theorem bD(i:Nat)(h:PVM X G ob es js f)(hN:∀c,(X c).N[i]? =some x:=by intro _;rfl)(V:∀c,Vis (X c).env.scope x:=by intro _;first|exact aaS rfl|exact aaj (aaS rfl)|exact aaj (aaj rfl))(hd:(x==("__debug__":Str))=false:=by decide)(F:(x==("__classdict__":Str))=false:=by decide)(hs:∀c,X_ (.Name x pos::es) (X c).env=(false,eval (.Name x pos) (X c).env)::X_ es (X c).env:=by intro _;rfl):PVM X G ob (.Name x pos::es) (i::js) f:=by
 obtain⟨t,U,Y⟩:=h.ex;refine⟨_,λc=>zF (pv i (hN c) (V c) hd F) (U c) (hs c),λρ ds Z e σ H S Fr s us O Q q=>?_⟩;cases us with
 |nil=>simp at O
 |cons u us=>
  rw[XH,XH]at O;injection O with h1 h2;exact⟨u,h1,Y ρ ds Z e σ H S Fr s us h2 _ λvs H' M S' s' r n J=>q vs H' M S' s' r n J⟩
def objs(js:List Nat)(ρ:En):Option (List D):=js.mapM λj=>ρ[j]?.bind id
def mW:List Nat->List D->En->En
 |j::js,d::ds,ρ=>mW js ds (ρ.set j (some d))
 |_,_,ρ=>ρ
def eIo(F:List D->Option (D×List D))(js:List Nat)(f:En->Option (List D×En)):En->Option (D×En):=λρ=>if(objs js ρ).isSome=true then(f ρ).bind λp=>(objs js p.2).bind λos=>if aB p.1=true then(F (os++fzL p.1)).bind λq=>
 if aA p.1=true∨(dR q.1=true/\b_ (q.2.take js.length)=true)then some (q.1,mW js q.2 p.2)else none else none else none
theorem zp{ρ:En}:∀{js:List Nat}{os:List D},objs js ρ=some os->os.length=js.length/\∀(k j:Nat),js[k]? =some j->∃d,os[k]? =some d/\ρ[j]? =some (some d)
 |[],os,h=>by
  have:os=[]:=by simpa[objs]using h.symm
  subst this;exact⟨rfl,λk j h=>by simp at h⟩
 |j::js,os,h=>by
  unfold objs at h;rw[List.mapM_cons]at h;cases h1:ρ[j]?.bind id with
  |none=>simp[h1]at h
  |some d=>
   cases h2:js.mapM (λj=>ρ[j]?.bind id)with
   |none=>simp[h1,h2]at h
   |some t=>
    have:os=d::t:=by simpa[h1,h2]using h.symm
    subst this;obtain⟨l,g⟩:=zp (js:=js) (os:=t) h2;refine⟨by simp[l],λk i e=>?_⟩;cases k with
    |zero=>
     have:j=i:=by simpa using e
     subst this;refine⟨d,rfl,?_⟩;cases F:ρ[j]? with
     |none=>rw[F]at h1;cases h1
     |some o=>rw[F]at h1;simpa using h1
    |succ k=>simpa using g k i (by simpa using e)
theorem xG:∀(js:List Nat)(ds:List D)(ρ:En),(mW js ds ρ).length=ρ.length
 |[],ds,ρ=>by cases ds<;>rfl
 |_::_,[],ρ=>rfl
 |j::js,d::ds,ρ=>by rw[mW,xG js ds];simp
theorem pH:∀{js:List Nat}{ds:List D}{ρ:En}{j:Nat},j∉js->(mW js ds ρ)[j]? =ρ[j]?
 |[],ds,ρ,j,_=>by cases ds<;>rfl
 |_::_,[],ρ,j,_=>rfl
 |i::js,d::ds,ρ,j,h=>by
  rw[mW,pH (λz=>h (Yi _ z)),List.getElem?_set_ne λz=>h (by rw[z];exact Yw)]
theorem vN:∀{js:List Nat}{ds:List D}{ρ:En}{k j:Nat}{d:D},js.Nodup->js[k]? =some j->ds[k]? =some d->j<ρ.length->(mW js ds ρ)[j]? =some (some d)
 |[],ds,ρ,k,j,d,_,h,_,_=>by simp at h
 |_::_,[],ρ,k,j,d,_,_,h,_=>by simp at h
 |i::js,d0::ds,ρ,k,j,d,n,h1,h2,hl=>by
  rw[mW];cases k with
  |zero=>
   have e1:i=j:=by simpa using h1
   have e2:d0=d:=by simpa using h2
   subst e1 e2;rw[pH (Yn.mp n).1];simp[hl]
  |succ k=>exact vN (Yn.mp n).2 (by simpa using h1) (by simpa using h2) (by simpa using hl)
def pick(S:Ad)(js:List Nat):Ad:=λi=>match js[i]? with
 |some j=>S j
 |none=>[]
theorem iT(h:a∈pick S js i):∃j,js[i]? =some j/\a∈S j:=by
 unfold pick at h;split at h
 .rename_i j e;exact⟨j,e,h⟩
 .cases h
def back(S:Ad)(js:List Nat)(Sc:Ad):Ad:=λj=>match js.idxOf? j with
 |some i=>Sc i
 |none=>S j
theorem vg(h:js.idxOf? j=some i):js[i]? =some j:=by
 obtain⟨h1,h2,F⟩:=YM.mp h;have:js[i]=j:=by simpa using h2
 rw[XX h1,this]
theorem Aq(h:js.idxOf? j=none):j∉js:=by
 intro z;have:=ZD.mp h j z;simp at this
theorem Ss(n:js.Nodup)(h:js[i]? =some j):js.idxOf? j=some i:=by
 cases e:js.idxOf? j with
 |none=>exact absurd (Yt h) (Aq e)
 |some k=>
  have:=vg e;have J:k<js.length:=(XF.mp this).1;rw[(adt J n).mp (this.trans h.symm)]
theorem Ol{Sc:Ad}(n:js.Nodup)(h:js[i]? =some j):back S js Sc j=Sc i:=by unfold back;rw[Ss n h]
theorem yo{Sc:Ad}(h:j∉js):back S js Sc j=S j:=by
 unfold back;split
 .rename_i i e;exact absurd (Yt (vg e)) h
 .rfl
theorem jY{Sc:Ad}(h:a∈back S js Sc j):(∃i,js[i]? =some j/\a∈Sc i)∨(j∉js/\a∈S j):=by
 unfold back at h;split at h
 .rename_i i e;exact .inl ⟨i,vg e,h⟩
 .rename_i e;exact .inr ⟨Aq e,h⟩
theorem yK(h:b_ (ds.take k)=true)(e:ds[i]? =some d)(hi:i<k):dR d=true:=by
 induction ds generalizing k i with
 |nil=>simp at e
 |cons a r Z=>
  cases k with
  |zero=>omega
  |succ k=>
   rw[List.take_succ_cons,b_,Ys]at h;cases i with
   |zero=>
    have:a=d:=by simpa using e
    rw[←this];exact h.1
   |succ i=>exact Z h.2 (by simpa using e) (by omega)
theorem Gr:∀{js:List Nat},(∀j∈js,∃u,σ[j]? =some (some u))->∃us:List V,js.map (λj=>σ[j]?)=us.map (λu=>some (some u))
 |[],_=>⟨[],rfl⟩
 |j::js,h=>by
  obtain⟨us,O⟩:=Gr (js:=js) λi hi=>h i (Yi _ hi);obtain⟨u,q⟩:=h j Yw;exact⟨u::us,by rw[XH,XH,O,q]⟩
theorem SM{oc:Nat->Bool}{F:List D->Option (D×List D)}(hj:js.Nodup)(N:∀j∈js,ob j=true)(hp:∀i,i<js.length->pr i=true)(h:RfM G ob t js f){E:XK} :
  jQ G ob (λσ H Q=>t σ H λvs H1=>spI G oc pr F (vs++[]) H1 Q E) (eIo F js f):=λρ d c9 e σ H S Fr s Q q=>by
 unfold eIo at e;split at e
 .rename_i hsome
  cases h0:objs js ρ with
  |none=>rw[h0]at hsome;cases hsome
  |some d5=>
   cases h1:f ρ with
   |none=>simp[h1]at e
   |some p=>
    obtain⟨ds,ρ1⟩:=p;rw[h1]at e;simp![Xz]at e;cases h2:objs js ρ1 with
    |none=>simp[h2]at e
    |some os=>
     rw[h2]at e;simp![Xz]at e;split at e
     .rename_i hbro
      cases h3:F (os++fzL ds)with
      |none=>simp[h3]at e
      |some z=>
       obtain⟨d1,a2⟩:=z;rw[h3]at e;simp![Xz]at e;split at e
       .rename_i b4
        obtain⟨rfl,rfl⟩:d1=d/\mW js a2 ρ1=c9:=by simpa using e
        obtain⟨l0,g0⟩:=zp h0;obtain⟨l1,g1⟩:=zp h2;have b2:∃us:List V,js.map (λj=>σ[j]?)=us.map (λu=>some (some u)):=by
         have:∀j∈js,∃u,σ[j]? =some (some u):=λj hj=>by
          obtain⟨k,J⟩:=acH.mp hj;obtain⟨d0,_,q2⟩:=g0 k j J;obtain⟨v,q3,_⟩:=s.sl j d0 q2;exact⟨v,q3⟩
         exact Gr this
        obtain⟨us,b2⟩:=b2;have b9:us.length=js.length:=by have:=congrArg Z0 b2;simpa using this.symm
        have c4:∀(k j:Nat)(u:V),js[k]? =some j->us[k]? =some u->σ[j]? =some (some u):=λk j u h1 h2=>by
         have:=congrArg (λl=>l[k]?) b2;simp![List.getElem?_map,h1,h2,Yq,aac]at this;exact this
        refine h ρ ds ρ1 h1 σ H S Fr s us b2 _ λvs H1 M S1 O r1 nd1 c3=>?_;rw[Ym];have b3:∀{i a},a∈pick S1 js i->inO ob S1 a:=λ{i a} z=>by
         obtain⟨j,e,y⟩:=iT z;exact⟨j,N j (Yt e),y⟩
        have a1:∀{a},inS (pick S1 js) a->inO ob S1 a:=λ⟨i,z⟩=>b3 z;have a8:∀{i a},a∈S1 i->¬(wn ob S1 (plus M Fr)).free a:=λ{i a} z f=>by
         cases a9:ob i with
         |false=>exact f.2.1 ⟨i,a9,z⟩
         |true=>exact f.2.2 ⟨i,a9,z⟩
        let a3:Addr->Prop:=λa=>aA ds=true/\((Fr a∨inS S1 a)/\¬inS (pick S1 js) a)
        have b0:∀a,(wn ob S1 (plus M Fr)).free a->(wn oc (pick S1 js) a3).free a:=λa f=>by
         refine⟨λz=>?_,λ⟨i,_,z⟩=>?_,λ⟨i,_,z⟩=>?_⟩
         .rcases z.2.1 with y|⟨i,y⟩
          .exact f.1 (.inr y)
          .exact a8 y f
         .exact f.2.2 (b3 z)
         .exact f.2.2 (b3 z)
        have d4:∀a∈M,¬Fr a:=λa Y z=>by
         rcases c3.fm a Y with y|y
         .exact s.notO z y
         .obtain⟨o,N,_⟩:=s.fdm a z
          rw[y]at N;cases N
        have b6:∀a∈M,(wn oc (pick S1 js) a3).free a:=λa Y=>by
         refine⟨λz=>?_,λ⟨i,_,z⟩=>?_,λ⟨i,_,z⟩=>?_⟩
         .rcases z.2.1 with y|⟨i,y⟩
          .exact d4 a Y y
          .exact O.fdj i a (.inl Y) y
         .obtain⟨j,_,y⟩:=iT z;exact O.fdj j a (.inl Y) y
         .obtain⟨j,_,y⟩:=iT z;exact O.fdj j a (.inl Y) y
        have c5:aH G H1 (wn oc (pick S1 js) a3) (fzL ds) vs []:=by
         refine r1.fz2 ⟨b0,b6⟩ ?_ (.inl hbro);by_cases c6:aA ds=true
         .exact .inl c6
         .refine .inr λa Y=>⟨λz=>c6 z.1,λ⟨i,_,z⟩=>?_,λ⟨i,_,z⟩=>?_⟩
          .obtain⟨i1,o1,y1⟩:=Y
           obtain⟨i2,o2,y2⟩:=b3 z;rw[O.dj i1 i2 a y1 y2,o2]at o1;cases o1
          .obtain⟨i1,o1,y1⟩:=Y
           obtain⟨i2,o2,y2⟩:=b3 z;rw[O.dj i1 i2 a y1 y2,o2]at o1;cases o1
        have sc:Sta G H1 oc ((os++fzL ds).map some) ((us++vs).map some) (pick S1 js) a3:=by
         refine⟨by simp[l1,b9,c5.length],λi d0 hi=>?_,λi hi=>?_,λi=>?_,λi k a h1 h2=>?_,λi a h1 h2=>h1.2.2 ⟨i,h2⟩,λa Y=>?_⟩
         .have hi:=km hi
          by_cases b5:i<js.length
          .obtain⟨dd,q1,q2⟩:=g1 i js[i] (by simp[b5])
           rw[YL (by omega),q1]at hi;cases hi;obtain⟨v,q3,q4,q5⟩:=O.sl _ _ q2;have a6:=(by simpa[clean]using q5:az d0=true/\au d0=true);have d2:∃u,us[i]? =some u:=⟨us[i],by simp[b9,b5]⟩;obtain⟨u,hu⟩:=d2;have:=c4 i js[i] u (by simp[b5]) hu;rw[q3]at this;cases this;refine⟨v,fB (by rw[YL (by omega)];exact hu),?_,q5⟩;have:pick S1 js i=S1 js[i]:=by unfold pick;rw[XX b5]
           rw[this];have ev:Evo H1 H1 (wn ob S1 (plus M Fr)) (wn oc (pick S1 js) a3):=⟨λb u h f=>⟨h,b0 b f⟩,λ_ _ h=>h⟩;exact q4.mono ev (.inl a6.1) (.inl a6.2) λ_ _ _ h=>h
          .rw[Zv (by omega)]at hi
           obtain⟨x,M',q1,q2,q3⟩:=c5.get hi;have:M'=[]:=by simpa using q3
           subst this;refine⟨x,fB (by rw[Zv (by omega),b9,←l1];exact q1),?_,by simp[clean,iz (gM ds) hi,iG (gO ds) hi]⟩;have:pick S1 js i=[]:=by unfold pick;rw[abC (by omega)]
           rw[this];exact q2
         .unfold pick
          split
          .rename_i j hj'
           exfalso;obtain⟨dd,q1,q2⟩:=g1 i j hj';exact hi dd (fB (by rw[YL (by rw[l1];exact(XF.mp hj').1)];exact q1))
          .rfl
         .unfold pick
          split
          .exact O.nd _
          .exact List.nodup_nil
         .obtain⟨j1,e1,y1⟩:=iT h1
          obtain⟨j2,e2,y2⟩:=iT h2;have:=O.dj j1 j2 a y1 y2;rw[this,←e2]at e1;exact(adt (by
           cases hh:js[i]? with
           |none=>rw[hh,e2]at e1;cases e1
           |some _=>exact(XF.mp hh).1) hj).mp e1
         .rcases Y.2.1 with y|⟨i,y⟩
          .exact O.fdm a (.inr y)
          .exact O.mu y
        refine⟨os++fzL ds,pick S1 js,a3,sc,λi hi=>?_,d1,a2,h3,λv H2 Mc Sc s2 r2 c2 n2 c1 m2=>?_⟩
        .unfold pick
         split
         .rename_i j hj'
          rw[hp i (XF.mp hj').1]at hi;cases hi
         .rfl
        .have l2:a2.length=(os++fzL ds).length:=by
          have h1:=s2.len;have h2:=sc.len;simp![X5]at h1 h2;rw[h1,←h2]
         have kept:∀b u,H1 b=some u->¬inS (pick S1 js) b->H2 b=some u:=λb u U n=>m2.kp b u U n (by simp);have a4:∀{i b},b∈Sc i->inS (pick S1 js) b∨H1 b=none:=λ{i b} z=>(m2.gr i b z).imp id λy=>y.resolve_left (by simp);have b7:∀{b},Fr b->¬inS (pick S1 js) b:=λ{b} z ⟨i,y⟩=>by obtain⟨j,_,y⟩:=iT y;exact O.fdj j b (.inr z) y
         have a0:∀{j b},j∉js->b∈S1 j->¬inS (pick S1 js) b:=λ{j b} hn z ⟨i,y⟩=>by
          obtain⟨k,e,y⟩:=iT y;rw[O.dj j k b z y]at hn;exact hn (Yt e)
         have b8:∀{i b},b∈S1 i->H1 b≠none:=λ{i b} z y=>by obtain⟨o,N,_⟩:=O.mu z;rw[y]at N;cases N
         have ev:Evo H1 H2 (wn ob S1 (plus M Fr)) (wn ob (back S1 js Sc) (plus Mc Fr)):=by
          refine⟨λb u U f=>?_,λb xs h=>?_⟩
          .have n1:¬inS (pick S1 js) b:=λz=>f.2.2 (a1 z)
           have n2:∀i,b∉back S1 js Sc i:=λi z=>by
            rcases jY z with⟨k,_,y⟩|⟨_,y⟩
            .rcases a4 y with y|y
             .exact n1 y
             .rw[U]at y;cases y
            .exact a8 y f
           refine⟨kept b u U n1,λz=>?_,λ⟨i,_,z⟩=>n2 i z,λ⟨i,_,z⟩=>n2 i z⟩;rcases z with z|z
           .rcases c1 b z with y|y
            .exact n1 y
            .rw[U]at y;cases y
           .exact f.1 (.inr z)
          .have no:∀u,H1 b=some u->muO u=false->H2 b=some u:=λu hu mu=>kept b u hu λ⟨i,z⟩=>by
            obtain⟨j,_,z⟩:=iT z;obtain⟨o,N,hm⟩:=O.mu z;rw[hu]at N;cases N;rw[mu]at hm;cases hm
           exact no _ h rfl
         have conv:∀(e:D)(x:V)(L:List Addr),(aA ds=true∨dR e=true)->clean e=true->Rep G H2 (wn oc Sc (plus Mc a3)) e x L->Rep G H2 (wn ob (back S1 js Sc) (plus Mc Fr)) e x L:=λe x L Z b4 r=>by
          rcases Z with Z|Z
          .have a6:=(by simpa[clean]using b4:az e=true/\au e=true)
           have d3:Evo H2 H2 (wn oc Sc (plus Mc a3)) (wn ob (back S1 js Sc) (plus Mc Fr)):=⟨λb u U f=>?_,λ_ _ h=>h⟩
           .exact r.mono d3 (.inl a6.1) (.inl a6.2) λ_ _ _ h=>h
           .have nSc:∀i,b∉Sc i:=λi z=>by
             cases a9:oc i with
             |false=>exact f.2.1 ⟨i,a9,z⟩
             |true=>exact f.2.2 ⟨i,a9,z⟩
            have nb:∀j,b∉back S1 js Sc j:=λj z=>by
             rcases jY z with⟨k,_,y⟩|⟨hn,y⟩
             .exact nSc k y
             .exact f.1 (.inr ⟨Z,.inr ⟨j,y⟩,a0 hn y⟩)
            refine⟨U,λz=>?_,λ⟨i,_,z⟩=>nb i z,λ⟨i,_,z⟩=>nb i z⟩;rcases z with z|z
            .exact f.1 (.inl z)
            .exact f.1 (.inr ⟨Z,.inl z,b7 z⟩)
          .exact r.own Z
         have c8:∀(j:Nat)(d0:D),(mW js a2 ρ1)[j]? =some (some d0)->∃v,σ[j]? =some (some v)/\Rep G H2 (wn ob (back S1 js Sc) (plus Mc Fr)) d0 v (back S1 js Sc j)/\clean d0=true:=λj d0 a7=>by
          by_cases a5:j∈js
          .obtain⟨k,J⟩:=acH.mp a5
           have c7:k<js.length:=(XF.mp J).1;obtain⟨dd,q1,q2⟩:=g1 k j J;have c0:j<ρ1.length:=(XF.mp q2).1;have b1:k<a2.length:=by rw[l2,Zg];omega
           rw[vN hj J (d:=a2[k]) (by simp[b1]) c0]at a7;cases a7;obtain⟨v,q3,q4,q5⟩:=s2.sl k a2[k] (fB (by simp[b1]));have q3:=km q3;rw[YL (by omega)]at q3;refine⟨v,c4 k j v J q3,?_,q5⟩;rw[Ol hj J];refine conv _ _ _ (b4.imp id λz=>yK z.2 (by simp[b1]) c7) q5 q4
          .rw[pH a5]at a7
           obtain⟨v,q1,q2,q3⟩:=O.sl j d0 a7;have a6:=(by simpa[clean]using q3:az d0=true/\au d0=true);refine⟨v,q1,?_,q3⟩;rw[yo a5];exact q2.mono ev (.inl a6.1) (.inl a6.2) λc Z u hu=>kept c u hu (a0 a5 Z)
         refine q v H2 Mc (back S1 js Sc) ⟨?_,c8,?_,?_,?_,?_,?_⟩ (conv _ _ _ (b4.imp id λz=>z.1) c2 r2) n2 ?_
         .rw[xG];exact O.len
         .intro j a7
          by_cases a5:j∈js
          .obtain⟨k,J⟩:=acH.mp a5
           obtain⟨dd,q1,q2⟩:=g1 k j J;have c0:j<ρ1.length:=(XF.mp q2).1;have c7:k<js.length:=(XF.mp J).1;have b1:k<a2.length:=by rw[l2,Zg];omega
           exact absurd (vN hj J (d:=a2[k]) (by simp[b1]) c0) (a7 _)
          .rw[yo a5]
           exact O.em j λd0=>by have:=a7 d0;rwa[pH a5]at this
         .intro j
          unfold back;split
          .exact s2.nd _
          .exact O.nd j
         .intro i k a y1 y2
          rcases jY y1 with⟨i1,e1,z1⟩|⟨e1,z1⟩<;>rcases jY y2 with⟨i2,e2,z2⟩|⟨e2,z2⟩
          .have:=s2.dj i1 i2 a z1 z2
           rw[this,e2]at e1;exact(Y4 e1).symm
          .rcases a4 z1 with y|y
           .exact absurd y (a0 e2 z2)
           .exact absurd y (b8 z2)
          .rcases a4 z2 with y|y
           .exact absurd y (a0 e1 z1)
           .exact absurd y (b8 z1)
          .exact O.dj i k a z1 z2
         .intro j a Y z
          rcases jY z with⟨i,_,y⟩|⟨hn,y⟩
          .rcases Y with Y|Y
           .exact s2.fdj i a (.inl Y) y
           .rcases a4 y with y|y
            .exact b7 Y y
            .obtain⟨o,N,_⟩:=O.fdm a (.inr Y)
             rw[y]at N;cases N
          .rcases Y with Y|Y
           .rcases c1 a Y with y'|y'
            .exact a0 hn y y'
            .exact b8 y y'
           .exact O.fdj j a (.inr Y) y
         .intro a Y
          rcases Y with Y|Y
          .exact r2.dom a Y
          .obtain⟨o,N,hm⟩:=O.fdm a (.inr Y)
           exact⟨o,kept a o N (b7 Y),hm⟩
         .have ef2:Eff ob H1 H2 S1 (back S1 js Sc) Mc:=by
           refine⟨λb u U n=>kept b u U λz=>n (a1 z),λi hi=>yo (λz=>by rw[N i z]at hi;cases hi),λi a hi z=>?_,λa Y=>(c1 a Y).imp (λy=>a1 y) id⟩;rcases jY z with⟨k,_,y⟩|⟨_,y⟩
           .exact(a4 y).imp (λy=>a1 y) id
           .exact .inl ⟨i,hi,y⟩
          exact(c3.trans ef2).same (Same.refl _) λc Z=>.inl (XD _ Z)
       .cases e
     .cases e
 .cases e
theorem cA(js:List Nat){oc:Nat->Bool}{F:List D->Option (D×List D)}(C:∀c,Cal (X c).prog (X c).w (X c).K (X c).mg (X c).base k x ps (spI G oc pr F))(O:∀c,iZ k (X c).A)(Y:PVM X G ob (e::es) js f)(V:js.Nodup:=by decide)(N:∀j∈js,ob j=true:=by decide)(hp:∀i,i<js.length->pr i=true:=by decide)(q:∀c,Gl (X c) x:=by intro _;rfl)(U:(x==("__debug__":Str))=false:=by decide)(Z:∀c,X_ (e::es) (X c).env=(false,eval e (X c).env)::X_ es (X c).env:=by intro _;rfl)(J:∀c,(aah pos (X_ es (X c).env)).any (·.1)=false:=by intro _;rfl) :
 PVe X G ob (.Call (.Name x p) (e::es) [] pos) (eIo F js f):=let⟨t,a1,a2⟩:=Y.ex;⟨_,λc=>Lk (C c) (O c) (q c) (a1 c) U (Z c) (J c),SM V N hp a2⟩
def kids:D->List D
 |.tup ds=>ds
 |.lst _ ds=>ds
 |.dct _ _ ds=>ds
 |.ins _ _ _ ds=>ds
 |_=>[]
def KQ:D->List D->D
 |.tup _,es=>.tup es
 |.lst m _,es=>.lst m es
 |.dct m ks _,es=>.dct m ks es
 |.ins m c fs _,es=>.ins m c fs es
 |d,_=>d
def gA:List Nat->D->Option D
 |[],d=>some d
 |j::p,d=>((kids d)[j]?).bind (gA p)
def eQ:List Nat->D->D->D
 |[],e,_=>e
 |j::p,e,d=>match(kids d)[j]? with
  |some c=>KQ d ((kids d).set j (eQ p e c))
  |none=>d
theorem Evo.trans{H1:Hp}{W1 N:Wn}(a:Evo H H1 W W1)(b:Evo H1 H2 W1 N):Evo H H2 W N:=⟨λc u h f=>let⟨h1,f1⟩:=a.k c u h f;b.k c u h1 f1,λc xs h=>b.t c xs (a.t c xs h)⟩
structure Foc(G:Gc)(H:Hp)(W:Wn)(d0:D)(v0:V)(L:List Addr)(p:List Nat)(d:D)(v:V)(M:List Addr):Prop where
 r:Rep G H W d v M
 b:∃A B,L=A++(M++B)/\∀H' W' d' M',Evo H H' W W'->(∀c∈A++B,∀u,H c=some u->H' c=some u)->Rep G H' W' d' v M'->Rep G H' W' (eQ p d' d0) v0 (A++(M'++B))
theorem Foc.nil(r:Rep G H W d v L):Foc G H W d v L [] d v L:=⟨r,[],[],by simp,λH' W' d' M' _ _ h=>by simpa[eQ]using h⟩
variable{p:List Nat}{d0:D}
theorem Foc.mono{H1:Hp}{W1:Wn}{q:V}(f:Foc G H W d0 q L p d v M)(Z:clean d=true∨Up H H1 W W1)(e:Evo H H1 W W1)(k:∀c∈L,∀u,H c=some u->H1 c=some u):Foc G H1 W1 d0 q L p d v M:=by
 obtain⟨A,B,J,U⟩:=f.b;refine⟨?_,A,B,J,λH' W' d' M' Y F N=>U H' W' d' M' (e.trans Y) (λc Z u O=>F c Z u (k c ?_ u O)) N⟩
 .rcases Z with Z|Z
  .have hcc:=(by simpa[clean]using Z:az d=true/\au d=true)
   exact f.r.mono e (.inl hcc.1) (.inl hcc.2) λc Z u O=>k c (by rw[J];simp[Z]) u O
  .exact f.r.up Z
 .rw[J]
  simp![XC]at Z⊢;rcases Z with z|z<;>simp[z]
theorem Ku(p:List Nat)(j:Nat)(e:D):∀(d0:D){d:D},gA p d0=some d->(kids d)[j]?≠none->eQ (p++[j]) e d0=eQ p (eQ [j] e d) d0:=by
 induction p with
 |nil=>intro d0 d h _;cases h;rfl
 |cons k p Z=>
  intro d0 d h hn;simp![gA]at h;cases h1:(kids d0)[k]? with
  |none=>simp[h1]at h
  |some c=>
   have h:gA p c=some d:=by simpa[h1]using h
   rw[Yv,eQ,eQ,h1];simp only;rw[Z c h hn]
theorem Oa(p:List Nat)(j:Nat):∀(d0:D){d:D},gA p d0=some d->gA (p++[j]) d0=(kids d)[j]?:=by
 induction p with
 |nil=>
  intro d0 d h;cases h;simp![List.nil_append,gA];cases (kids d0)[j]?<;>rfl
 |cons k p Z=>
  intro d0 d h;simp![gA]at h;cases h1:(kids d0)[k]? with
  |none=>simp[h1]at h
  |some c=>
   have h:gA p c=some d:=by simpa[h1]using h
   rw[Yv,gA,h1];exact Z c h
theorem nA(h:clean (.lst m ds)=true):aA ds=true/\aB ds=true:=by simp[clean,az,au]at h;exact⟨h.1.2,h.2.2⟩
theorem jf{a b:List D}:aA (a++b)=(aA a&&aA b):=by
 induction a with
 |nil=>rfl
 |cons d r Z=>rw[Yv,aA,aA,Z,afV]
theorem jt{a b:List D}:aB (a++b)=(aB a&&aB b):=by
 induction a with
 |nil=>rfl
 |cons d r Z=>rw[Yv,aB,aB,Z,afV]
variable{c:D}
theorem aH.kid(O:aH G H W ds xs L)(U:aA ds=true)(N:aB ds=true)(e:ds[j]? =some c) :
  ∃x A M B,xs[j]? =some x/\L=A++(M++B)/\Rep G H W c x M/\∀H' W' d' M',Evo H H' W W'->(∀b∈A++B,∀u,H b=some u->H' b=some u)->Rep G H' W' d' x M'->aH G H' W' (ds.set j d') xs (A++(M'++B)):=by
 obtain⟨P,Q,x,ys,zs,LA,q,LB,rfl,Z,rfl,Y,rfl,h1,h2,F⟩:=O.at e;simp![jf,jt,aA,aB,Ys]at U N;refine⟨x,LA,q,LB,by rw[Zv (by omega),Y,aa9];rfl,rfl,h2,λH' W' d' M' J kp r'=>?_⟩;rw[←Z,acI _ _ (XQ _),aa9];exact aH.append (h1.mono J (.inl U.1) (.inl N.1) λb U u hu=>kp b (X6 _ U) u hu) (aH.cons r' (F.mono J (.inl U.2.2) (.inl N.2.2) λb U u hu=>kp b (XD _ U) u hu))
theorem Foc.lst{ds:List D}(r:Rep G H W (.lst .own ds) v L)(Z:clean (.lst .own ds)=true)(e:ds[j]? =some c):∃a xs x M,v= .ref a/\H a=some (.lst xs)/\xs.length=ds.length/\xs[j]? =some x/\Foc G H W (.lst .own ds) v L [j] c x M:=by
 rw[Rep]at r;obtain⟨a,xs,N,rfl,O,Y,rfl⟩:=r;obtain⟨h1,h2⟩:=nA Z;obtain⟨x,A,M,B,J,rfl,rx,U⟩:=O.kid h1 h2 e;refine⟨a,xs,x,M,rfl,Y,O.length.symm,J,rx,a::A,B,by simp,λH' W' d' M' V kp r'=>?_⟩;have F:eQ [j] d' (.lst .own ds)= .lst .own (ds.set j d'):=by simp![eQ,kids,e,KQ]
 rw[F,Rep];exact⟨a,xs,A++(M'++B),rfl,U H' W' d' M' V (λb U u q=>kp b (Yi _ U) u q) r',kp a (by simp) _ Y,by simp⟩
theorem Foc.tup{ds:List D}(r:Rep G H W (.tup ds) v L)(Z:clean (.tup ds)=true)(e:ds[j]? =some c):∃a xs x M,v= .ref a/\H a=some (.tup xs)/\xs.length=ds.length/\xs[j]? =some x/\Foc G H W (.tup ds) v L [j] c x M:=by
 rw[Rep]at r;obtain⟨a,xs,rfl,Y,O⟩:=r;have q:aA ds=true/\aB ds=true:=by simpa[clean,az,au]using Z
 obtain⟨x,A,M,B,J,rfl,rx,U⟩:=O.kid q.1 q.2 e;refine⟨a,xs,x,M,rfl,Y,O.length.symm,J,rx,A,B,rfl,λH' W' d' M' V kp N=>?_⟩;have F:eQ [j] d' (.tup ds)= .tup (ds.set j d'):=by simp![eQ,kids,e,KQ]
 rw[F,Rep];exact⟨a,xs,rfl,V.t a xs Y,U H' W' d' M' V kp N⟩
variable{ks:List Key}
theorem Foc.dct(r:Rep G H W (.dct .own ks ds) v L)(Z:clean (.dct .own ks ds)=true)(e:ds[j]? =some c):∃a kvs x M,v= .ref a/\H a=some (.dK kvs)/\(kvs.map (·.1)=ks/\ks.Nodup)/\(kvs.map (·.2))[j]? =some x/\Foc G H W (.dct .own ks ds) v L [j] c x M:=by
 rw[Rep]at r;obtain⟨a,kvs,N,rfl,V,O,Y,rfl⟩:=r;have q:aA ds=true/\aB ds=true:=by simp[clean,az,au]at Z;exact Z
 obtain⟨x,A,M,B,J,rfl,rx,U⟩:=O.kid q.1 q.2 e;refine⟨a,kvs,x,M,rfl,Y,V,J,rx,a::A,B,by simp,λH' W' d' M' ev kp r'=>?_⟩;have F:eQ [j] d' (.dct .own ks ds)= .dct .own ks (ds.set j d'):=by simp![eQ,kids,e,KQ]
 rw[F,Rep];exact⟨a,kvs,A++(M'++B),rfl,V,U H' W' d' M' ev (λb U u hu=>kp b (Yi _ U) u hu) r',kp a (by simp) _ Y,by simp⟩
theorem Foc.trans{q x:V}(f:Foc G H W d0 q Z p d v L)(g:Foc G H W d v L [j] c x M)(F:gA p d0=some d)(hj:(kids d)[j]?≠none):Foc G H W d0 q Z (p++[j]) c x M:=by
 obtain⟨A,B,hL,U⟩:=f.b;obtain⟨Y,B',a0,a1⟩:=g.b;refine⟨g.r,A++Y,B'++B,by rw[hL,a0];simp,λH' W' d' M' J kp N=>?_⟩;rw[Ku p j d' d0 F hj];have:=U H' W' (eQ [j] d' d) (Y++(M'++B')) J (λb U u O=>kp b ?_ u O) (a1 H' W' d' M' J (λb U u O=>kp b ?_ u O) N)
 .simpa using this
 .simp![XC]at U⊢
  rcases U with z|z<;>simp[z]
 .simp![XC]at U⊢
  rcases U with z|z<;>simp[z]
def RfP(G:Gc)(ob:Nat->Bool)(t:TE)(i:Nat)(pf:En->Option (List Nat)):Prop:=∀(ρ:En)(p:List Nat),pf ρ=some p->∀(σ:L2.St)(H:Hp)(S:Ad)(Fr:Addr->Prop),Sta G H ob ρ σ S Fr->∃d0 d,ρ[i]? =some (some d0)/\gA p d0=some d/\∀Q:VK,
 (∀v q H' M,Same H H'->σ[i]? =some (some q)->Foc G H' (wn ob S Fr) d0 q (S i) p d v M->Q v H')->t σ H Q
structure PVP{ι:Type}(X:ι->Cx)(G:Gc)(ob:Nat->Bool)(e:Expr)(i:Nat)(pf:En->Option (List Nat)):Prop where
 mk::(ex:∃t,(∀c,PE (X c) e t)/\RfP G ob t i pf)
def i_(i:Nat):En->Option (List Nat):=λρ=>match ρ[i]? with
 |some (some _)=>some []
 |_=>none
theorem gB(i:Nat)(J:∀c,(X c).N[i]? =some x:=by intro _;rfl)(Z:∀c,Vis (X c).env.scope x:=by intro _;first|exact aaS rfl|exact aaj (aaS rfl)|exact aaj (aaj rfl))(hd:(x==("__debug__":Str))=false:=by decide)
  (U:(x==("__classdict__":Str))=false:=by decide):PVP X G ob (.Name x pos) i (i_ i):=by
 refine⟨_,λc=>pv i (J c) (Z c) hd U,λρ p e σ H S Fr s=>?_⟩;unfold i_ at e;split at e
 .rename_i d h1
  cases e;obtain⟨v,h2,F,O⟩:=s.sl i d h1;exact⟨d,d,h1,rfl,λQ q=>⟨v,h2,q v v H _ (Same.refl H) h2 (.nil F)⟩⟩
 .cases e
theorem rP:∀{p:List Nat}{d:D},clean d0=true->gA p d0=some d->clean d=true:=by
 intro p
 induction p generalizing d0 with
 |nil=>intro d h e;cases e;exact h
 |cons j p Z=>
  intro d h e;simp![gA]at e;cases h1:(kids d0)[j]? with
  |none=>simp[h1]at e
  |some c=>
   have e:gA p c=some d:=by simpa[h1]using e
   refine Z ?_ e;have J:aA (kids d0)=true/\aB (kids d0)=true:=by
    cases d0<;>simp[kids,clean,az,au,aA,aB]at h h1⊢<;>(try exact h)<;>exact⟨h.1.2,h.2.2⟩
   simp[clean,iz J.1 h1,iG J.2 h1]
def gH:D->Option Key
 |.int i=>some (.inl i)
 |.str x=>some (.inr x)
 |_=>none
def gq(ks:List Key)(k:Key):Option Nat:=ks.findIdx? λx=>decide (x=k)
def ixP:D->D->Option Nat
 |.lst .own ds,.int i=>ixN ds.length i
 |.tup ds,.int i=>ixN ds.length i
 |.dct .own ks ds,k=>(gH k).bind λk=>(gq ks k).bind λj=>if j<ds.length then some j else none
 |_,_=>none
def zR(i:Nat)(pf:En->Option (List Nat))(fk:En->Option D):En->Option (List Nat):=λρ=>(pf ρ).bind λp=>(fk ρ).bind λk=>match ρ[i]? with
 |some (some d0)=>(gA p d0).bind λd=>(ixP d k).bind λj=>if j<(kids d).length then some (p++[j])else none
 |_=>none
def P0:R2:=λx y H Q=>∃a v,x= .ref a/\sI H a y (some v)/\Q v H
variable{Y:Cx}
theorem PJ(O:Y.A.units+1<cLine):IxR Y P0:=by
 intro V Z pins s σ H x y v u Q I rx J h hs;obtain⟨a,z,rfl,g,q⟩:=h;cases rx;exact aew (Bk I g) PySem.F.slot_dict_getitem.lookup (I_ O I g J λw' N I3 U=>⟨z,H,I3,U,q⟩) hs
theorem NB(O:Y.A.units+1<cLine):IxR Y (λx y H Q=>rIx Y.K x y H Q∨P0 x y H Q):=Tn.or (PJ O)
theorem pL:∀{kvs:List (Key×V)}{k:Key}{j:Nat},gq (kvs.map (·.1)) k=some j->lW kvs k=(kvs.map (·.2))[j]?
 |[],k,j,h=>by simp[gq]at h
 |(k0,v)::r,k,j,h=>by
  simp![XH,gq,ae_]at h;by_cases e:k0=k
  .subst e
   simp at h;subst h;simp[lW]
  .rw[YH e]at h
   simp![Yz,Zi]at h;cases h1:(r.map (·.1)).findIdx? (λx=>decide (x=k))with
   |none=>rw[h1]at h;cases h
   |some i=>
    rw[h1]at h;have:i+1=j:=by simpa using h
    subst this;have Z:=pL (kvs:=r) (k:=k) (j:=i) h1;simp![lW,aar,YH e,XH,Yo];exact Z
theorem xJ:∀{kvs:List (Key×V)}{k:Key},gq (kvs.map (·.1)) k=none->lW kvs k=none
 |[],k,h=>rfl
 |(k0,v)::r,k,h=>by
  simp![XH,gq,ae_]at h;by_cases e:k0=k
  .subst e
   simp at h
  .rw[YH e]at h
   simp![Yz,Zi]at h;have h1:(r.map (·.1)).findIdx? (λx=>decide (x=k))=none:=by
    cases h1:(r.map (·.1)).findIdx? (λx=>decide (x=k))with
    |none=>rfl
    |some i=>rw[h1]at h;cases h
   have Z:=xJ (kvs:=r) (k:=k) h1;simp![lW,aar,YH e];exact Z
theorem mj{k:Key}(r:Rep G H W d v L)(h:gH d=some k):v=kV k:=by
 cases d<;>simp[gH]at h<;>subst h<;>rw[Rep]at r<;>exact r.1
variable{pf:En->Option (List Nat)}{fk:En->Option D}
theorem QC{to ti:TE}{i0:Nat}(N:RfP G ob to i0 pf)(hi:RfE G ob ti fk):RfP G ob (tOp (λx y H Q=>rIx G.K x y H Q∨P0 x y H Q) to ti) i0 (zR i0 pf fk):=λρ p e σ H S Fr s=>by
 unfold zR at e;cases h1:pf ρ with
 |none=>simp[h1]at e
 |some p0=>
  cases h2:fk ρ with
  |none=>simp[h1,h2]at e
  |some k=>
   rw[h1,h2]at e;simp![Xz]at e;split at e
   .rename_i d0 h3
    cases h4:gA p0 d0 with
    |none=>simp[h4]at e
    |some d=>
     cases h5:ixP d k with
     |none=>simp[h4,h5]at e
     |some j=>
      by_cases h6:j<(kids d).length
      .obtain rfl:p0++[j]=p:=by simpa[h4,h5,h6]using e
       obtain⟨a5,d',g1,g2,g3⟩:=N ρ p0 h1 σ H S Fr s;rw[h3]at g1;cases g1;rw[h4]at g2;cases g2;have U:clean d=true:=rP (let⟨_,_,_,h⟩:=s.sl i0 d0 h3;h) h4;refine⟨d0,(kids d)[j],h3,by rw[Oa p0 j d0 h4,XX h6],λQ q=>?_⟩;refine g3 _ λv v0 H1 M O a2 a4=>?_;have F:Sta G H1 ob ρ σ S Fr:=s.grow O λa z=>.inl z;refine hi ρ k h2 σ H1 _ F.rel F.wok _ λy H2 L2 Z ry fy ny=>?_;have up:Up H1 H2 (wn ob S Fr) (wn ob S Fr):=Up.same Z;have a0:=a4.mono (.inr up) up.evo λc _ u hu=>Z c u hu;have V:(kids d)[j]? =some (kids d)[j]:=XX h6;have fin:∀x M',Foc G H2 (wn ob S Fr) d v M [j] (kids d)[j] x M'->Q x H2:=λx M' f=>q x v0 H2 M' (O.trans Z) a2 (a0.trans f h4 (by rw[V];simp));cases d with
       |lst m ds=>
        cases m<;>(try(simp[ixP]at h5));cases k<;>(try(simp[ixP]at h5));rename_i n;rw[Rep]at ry;obtain⟨a,xs,x,M',rfl,Y,hl,J,f⟩:=Foc.lst a0.r U V;refine .inl (.inl ⟨a,xs,n,x,rfl,ry.1,SqL.of Y,?_,fin x M' f⟩);unfold atI;rw[hl,h5];exact J
       |tup ds=>
        cases k<;>(try(simp[ixP]at h5));rename_i n;rw[Rep]at ry;obtain⟨a,xs,x,M',rfl,Y,hl,J,f⟩:=Foc.tup a0.r U V;refine .inl (.inr (.inl ⟨a,xs,n,x,rfl,ry.1,SqT.of Y,?_,fin x M' f⟩));unfold atI;rw[hl,h5];exact J
       |dct m ks ds=>
        cases m<;>(try(simp[ixP]at h5));cases hk:gH k with
        |none=>simp[hk]at h5
        |some kk=>
         cases J:gq ks kk with
         |none=>simp[hk,J]at h5
         |some j'=>
          have:j'=j:=by
           have:=h5;simp[hk,J]at this;exact this.2
          subst this;obtain⟨a,kvs,x,M',rfl,Y,a1,a3,f⟩:=Foc.dct a0.r U V;refine .inr ⟨a,x,rfl,?_,fin x M' f⟩;have:=mj ry hk;subst this;have hv:=pL (kvs:=kvs) (k:=kk) (j:=j') (by rw[a1.1];exact J);rw[a3]at hv;rw[←hv];exact sI.k Y
       |_=>simp[ixP]at h5
      .simp[h4,h5,h6]at e
   .cases e
theorem Gw{o i:Expr}{q:Nat}(O:∀c,(X c).A.units+1<cLine)(N:PVP X G ob o q pf)(hi:PV X G ob i fk)(hs:uw i:=by exact λ_ _=>rfl)(V:∀c,(X c).K=G.K:=by intro _;rfl):PVP X G ob (.Subscript o i pos) q (zR q pf fk):=let⟨t,a1,a2⟩:=N.ex;let⟨u,b1,b2⟩:=hi.ex;⟨_,λc=>(by rw[←V c];exact JZ (NB (O c)) (a1 c) (b1 c) hs),QC a2 b2⟩
def MuV(G:Gc)(r:V->List V->Hp->VK->Prop)(op:D->List D->Option (D×D)):Prop:=∀(d:D)(es:List D)(d' res:D),op d es=some (d',res)->∀(v:V)(xs:List V)(H:Hp)(W:Wn)(M N:List Addr),Rep G H W d v M->aH G H W es xs N->(M++N).Nodup->(∀a∈M,¬W.free a)->
 clean d=true->aA es=true->aB es=true->∀Q:VK,(∀x H' M' R,(∀b u,H b=some u->b∉M->H' b=some u)->(∀W',Evo H H' W W'->Rep G H' W' d' v M'/\Rep G H' W' res x R)->(M'++R).Nodup->(∀a∈M'++R,a∈M∨a∈N∨H a=none)->clean d'=true->clean res=true->Q x H')->r v xs H Q
theorem Dq{e:D}:∀{p:List Nat},clean d0=true->clean e=true->clean (eQ p e d0)=true:=by
 intro p
 induction p generalizing d0 with
 |nil=>intro _ h;exact h
 |cons j p O=>
  intro h V;simp![eQ];cases h1:(kids d0)[j]? with
  |none=>exact h
  |some c=>
   have Z:clean c=true:=rP (p:=[j]) h (by simp[gA,h1]);have:=O (d0:=c) Z V;have F:∀{ds:List D}{j:Nat}{x:D},aA ds=true->aB ds=true->clean x=true->aA (ds.set j x)=true/\aB (ds.set j x)=true:=λ{ds}=>by
    induction ds with
    |nil=>intro j x a b _;simp[a,b]
    |cons y r q=>
     intro j x a b J;simp![aA,aB,Ys]at a b;have N:=(by simpa[clean]using J:az x=true/\au x=true);cases j with
     |zero=>simp[aA,aB,N,a,b]
     |succ j=>simp![YJ,aA,aB,Ys];exact⟨⟨a.1,(q a.2 b.2 J).1⟩,⟨b.1,(q a.2 b.2 J).2⟩⟩
   cases d0<;>simp![kids,List.getElem?_nil]at h1<;>(try cases h1)<;>simp![KQ,kids]<;>simp[clean,az,au]at h⊢
   .exact⟨(F h.1 h.2 this).1,(F h.1 h.2 this).2⟩
   .exact⟨⟨h.1.1,(F h.1.2 h.2.2 this).1⟩,h.2.1,(F h.1.2 h.2.2 this).2⟩
   .exact⟨⟨h.1.1,(F h.1.2 h.2.2 this).1⟩,h.2.1,(F h.1.2 h.2.2 this).2⟩
   .exact⟨⟨h.1.1,(F h.1.2 h.2.2 this).1⟩,h.2.1,(F h.1.2 h.2.2 this).2⟩
variable{res:D}
theorem Sta.mut{Fr:Addr->Prop}{d':D}{v0 x:V}{N M' R:List Addr}(s:Sta G H ob ρ σ S (plus N Fr))(e:ρ[i]? =some (some d0))(b1:σ[i]? =some (some v0))(b4:Foc G H (wn ob S (plus N Fr)) d0 v0 (S i) p d v M)
  (hF:∀a∈N,¬Fr a) (kp:∀b u,H b=some u->b∉M->H' b=some u) (O:∀W',Evo H H' (wn ob S (plus N Fr)) W'->Rep G H' W' d' v M'/\Rep G H' W' res x R) (nd:(M'++R).Nodup) (gr:∀a∈M'++R,a∈M∨a∈N∨H a=none) (Z:clean d'=true) :
  ∃S',Sta G H' ob (ρ.set i (some (eQ p d' d0))) σ S' (plus R Fr)/\Rep G H' (wn ob S' (plus R Fr)) res x R/\(∀j,j≠i->S' j=S j)/\(∀a∈S' i,a∈S i∨a∈N∨H a=none)/\(∀a∈R,a∈S i∨a∈N∨H a=none)/\(∀b u,H b=some u->b∉S i->H' b=some u):=by
 obtain⟨A,B,hL,U⟩:=b4.b;have a9:i<ρ.length:=(XF.mp e).1;have a1:∀a∈M,a∈S i:=λa Y=>by rw[hL];simp[Y]
 have a2:∀a∈A++B,a∈S i/\a∉M:=λa Y=>by
  have hn:=s.nd i;rw[hL]at hn;have h1:=Yb.mp hn;have h2:=Yb.mp h1.2.1;rcases XC.mp Y with z|z
  .exact⟨by rw[hL];simp[z],λy=>h1.2.2 a z a (by simp[y]) rfl⟩
  .exact⟨by rw[hL];simp[z],λy=>h2.2.2 a y a z rfl⟩
 have a7:∀a∈M'++R,∀j,j≠i->a∉S j:=λa Y j hj z=>by
  rcases gr a Y with y|y|y
  .exact hj (s.dj j i a z (a1 a y))
  .exact s.fdj j a (.inl y) z
  .obtain⟨o,ho,_⟩:=s.mu z;rw[y]at ho;cases ho
 have b3:∀a∈M'++R,¬Fr a:=λa Y z=>by
  rcases gr a Y with y|y|y
  .exact s.fdj i a (.inr z) (a1 a y)
  .exact hF a y z
  .obtain⟨o,ho,_⟩:=s.fdm a (.inr z);rw[y]at ho;cases ho
 have a3:∀a∈M'++R,a∉A++B:=λa Y z=>by
  obtain⟨z1,z2⟩:=a2 a z;rcases gr a Y with y|y|y
  .exact z2 y
  .exact s.fdj i a (.inl y) z1
  .obtain⟨o,ho,_⟩:=s.mu z1;rw[y]at ho;cases ho
 let S':=ie S i (A++(M'++B))
 have a5:∀a∈S' i,a∈S i∨a∈N∨H a=none:=λa Y=>by
  have Y:a∈ie S i (A++(M'++B)) i:=Y;rw[dU]at Y;simp![XC]at Y;rcases Y with z|z|z
  .exact .inl (a2 a (X6 _ z)).1
  .exact(gr a (X6 _ z)).imp (a1 a) id
  .exact .inl (a2 a (XD _ z)).1
 have a6:∀b u,H b=some u->(wn ob S (plus N Fr)).free b->H' b=some u/\(wn ob S' (plus R Fr)).free b:=λb u U f=>by
  have nS:∀j,b∉S j:=λj z=>by
   cases ho:ob j with
   |false=>exact f.2.1 ⟨j,ho,z⟩
   |true=>exact f.2.2 ⟨j,ho,z⟩
  have b0:∀j,b∉S' j:=λj z=>by
   by_cases hj:j=i
   .subst hj
    rcases a5 b z with y|y|y
    .exact nS j y
    .exact f.1 (.inl y)
    .rw[U]at y;cases y
   .have z:b∈ie S i (A++(M'++B)) j:=z
    rw[d7 hj]at z;exact nS j z
  refine⟨kp b u U λz=>nS i (a1 b z),λz=>?_,λ⟨j,_,z⟩=>b0 j z,λ⟨j,_,z⟩=>b0 j z⟩;rcases z with z|z
  .rcases gr b (XD _ z)with y|y|y
   .exact nS i (a1 b y)
   .exact f.1 (.inl y)
   .rw[U]at y;cases y
  .exact f.1 (.inr z)
 have ev:Evo H H' (wn ob S (plus N Fr)) (wn ob S' (plus R Fr)):=⟨a6,λb xs h=>by
  have no:∀u,H b=some u->muO u=false->H' b=some u:=λu hu mu=>kp b u hu λz=>by
   obtain⟨o,ho,J⟩:=s.mu (a1 b z);rw[hu]at ho;cases ho;rw[mu]at J;cases J
  exact no _ h rfl⟩
 obtain⟨r1,F⟩:=O _ ev;have a8:=Yb.mp nd;refine⟨S',⟨by simp[s.len],λj dj hj=>?_,λj hj=>?_,λj=>?_,λj k a h1 h2=>?_,λj a h1 h2=>?_,λa Y=>?_⟩,F,λj hj=>d7 hj,a5,λa Y=>(gr a (XD _ Y)).imp (a1 a) id,λb u U n=>kp b u U λz=>n (a1 b z)⟩
 .by_cases a0:j=i
  .subst a0
   have:eQ p d' d0=dj:=by simpa[a9]using hj
   subst this;have b2:clean d0=true:=let⟨_,_,_,h⟩:=s.sl j d0 e;h;refine⟨v0,b1,?_,Dq b2 Z⟩;show Rep G H' _ _ v0 (ie S j (A++(M'++B)) j);rw[dU];exact U H' _ d' M' ev (λc Z u hu=>kp c u hu (a2 c Z).2) r1
  .rw[List.getElem?_set_ne (YC a0)]at hj
   obtain⟨w,q1,q2,q3⟩:=s.sl j dj hj;have q:=(by simpa[clean]using q3:az dj=true/\au dj=true);refine⟨w,q1,?_,q3⟩;show Rep G H' _ dj w (ie S i (A++(M'++B)) j);rw[d7 a0];exact q2.mono ev (.inl q.1) (.inl q.2) λc Z u hu=>kp c u hu λz=>a0 (s.dj j i c Z (a1 c z))
 .by_cases a0:j=i
  .subst a0
   exact absurd (by simp[a9]) (hj (eQ p d' d0))
  .show ie S i (A++(M'++B)) j=[]
   rw[d7 a0];exact s.em j λd1=>by have:=hj d1;rwa[List.getElem?_set_ne (YC a0)]at this
 .by_cases a0:j=i
  .subst a0
   show(ie S j (A++(M'++B)) j).Nodup;rw[dU];have hn:=s.nd j;rw[hL]at hn;have h1:=Yb.mp hn;have h2:=Yb.mp h1.2.1;refine dO h1.1 (dO a8.1 h2.2.1 λa Y z=>a3 a (X6 _ Y) (XD _ z)) λa Y z=>?_;rcases XC.mp z with z|z
   .exact a3 a (X6 _ z) (X6 _ Y)
   .exact h1.2.2 a Y a (by simp[z]) rfl
  .show(ie S i (A++(M'++B)) j).Nodup
   rw[d7 a0];exact s.nd j
 .have key:∀{j:Nat}{a:Addr},j≠i->a∈S j->a∈S' i->False:=λ{j a} hj z1 z2=>by
   have z2:a∈ie S i (A++(M'++B)) i:=z2;rw[dU]at z2;simp![XC]at z2;rcases z2 with z|z|z
   .exact hj (s.dj j i a z1 (a2 a (X6 _ z)).1)
   .exact a7 a (X6 _ z) j hj z1
   .exact hj (s.dj j i a z1 (a2 a (XD _ z)).1)
  by_cases a0:j=i<;>by_cases a4:k=i
  .rw[a0,a4]
  .subst a0
   have h2:a∈ie S j (A++(M'++B)) k:=h2;rw[d7 a4]at h2;exact(key a4 h2 h1).elim
  .subst a4
   have h1:a∈ie S k (A++(M'++B)) j:=h1;rw[d7 a0]at h1;exact(key a0 h1 h2).elim
  .have h1:a∈ie S i (A++(M'++B)) j:=h1
   have h2:a∈ie S i (A++(M'++B)) k:=h2;rw[d7 a0]at h1;rw[d7 a4]at h2;exact s.dj j k a h1 h2
 .by_cases a0:j=i
  .subst a0
   have h2:a∈ie S j (A++(M'++B)) j:=h2;rw[dU]at h2;simp![XC]at h2;rcases h1 with h1|h1
   .rcases h2 with z|z|z
    .exact a3 a (XD _ h1) (X6 _ z)
    .exact a8.2.2 a z a h1 rfl
    .exact a3 a (XD _ h1) (XD _ z)
   .rcases h2 with z|z|z
    .exact s.fdj j a (.inr h1) (a2 a (X6 _ z)).1
    .exact b3 a (X6 _ z) h1
    .exact s.fdj j a (.inr h1) (a2 a (XD _ z)).1
  .have h2:a∈ie S i (A++(M'++B)) j:=h2
   rw[d7 a0]at h2;rcases h1 with h1|h1
   .exact a7 a (XD _ h1) j a0 h2
   .exact s.fdj j a (.inr h1) h2
 .rcases Y with Y|Y
  .exact F.dom a Y
  .obtain⟨o,ho,J⟩:=s.fdm a (.inr Y)
   exact⟨o,kp a o ho λz=>s.fdj i a (.inr Y) (a1 a z),J⟩
section
variable{ι:Type}{X:ι->Cx}{G:Gc}{ob P:Nat->Bool}
theorem Bt{G:Gc}{r:V->List V->Hp->VK->Prop}{op:D->List D->Option (D×D)}{H:Hp}{ρ:En}{σ:L2.St}{S:Ad}{Fr:Addr->Prop}{i:Nat}{p:List Nat}{d0 d d' res:D}{v v0:V}{M N:List Addr}{es:List D}{xs:List V}(J:MuV G r op)(s:Sta G H ob ρ σ S (plus N Fr))(e:ρ[i]? =some (some d0))(a1:σ[i]? =some (some v0))(F:gA p d0=some d)
  (a0:Foc G H (wn ob S (plus N Fr)) d0 v0 (S i) p d v M) (re:aH G H (wn ob S (plus N Fr)) es xs N) (nd:N.Nodup) (hF:∀a∈N,¬Fr a) (c1:aA es=true) (c2:aB es=true) (h:op d es=some (d',res)) {Q:VK}
  (q:∀x H' R S',Sta G H' ob (ρ.set i (some (eQ p d' d0))) σ S' (plus R Fr)->Rep G H' (wn ob S' (plus R Fr)) res x R->R.Nodup->clean res=true->(∀j,j≠i->S' j=S j)->(∀a∈S' i,a∈S i∨a∈N∨H a=none)->(∀a∈R,a∈S i∨a∈N∨H a=none)->(∀b u,H b=some u->b∉S i->H' b=some u)->Q x H'):r v xs H Q:=by
 have Z:ZZ M (S i):=by
  obtain⟨A,B,hL,_⟩:=a0.b;rw[hL];exact(aa_ M B).trans (Z3 A _)
 have a3:clean d0=true:=let⟨_,_,_,h⟩:=s.sl i d0 e;h;refine J d es d' res h v xs H _ M N a0.r re (dO (Z.nodup (s.nd i)) nd λa h1 h2=>s.fdj i a (.inl h2) (Z.subset h1)) (λa Y f=>?_) (rP a3 F) c1 c2 Q λx H' M' R kp O U gr a4 a2=>?_
 .cases ho:ob i with
  |false=>exact f.2.1 ⟨i,ho,Z.subset Y⟩
  |true=>exact f.2.2 ⟨i,ho,Z.subset Y⟩
 .obtain⟨S',q1,q2,q3,q4,q5,q6⟩:=s.mut e a1 a0 hF kp O U gr a4
  exact q x H' R S' q1 q2 (Yb.mp U).2.1 a2 q3 q4 q5 q6
def upS(op:D->List D->Option (D×D))(i:Nat)(p:List Nat)(es:List D)(ρ:En):Option (D×En):=match ρ[i]? with
 |some (some d0)=>(gA p d0).bind λd=>if aA es=true/\aB es=true then(op d es).map λq=>(q.2,ρ.set i (some (eQ p q.1 d0)))else none
 |_=>none
theorem JB{op:D->List D->Option (D×D)}{i:Nat}{p:List Nat}{es:List D}{ρ F:En}{res:D}(h:upS op i p es ρ=some (res,F)):∃d0 d d',ρ[i]? =some (some d0)/\gA p d0=some d/\aA es=true/\aB es=true/\op d es=some (d',res)/\F=ρ.set i (some (eQ p d' d0)):=by
 unfold upS at h;split at h
 .rename_i d0 h1
  cases h2:gA p d0 with
  |none=>simp[h2]at h
  |some d=>
   by_cases Z:aA es=true/\aB es=true
   .cases h3:op d es with
    |none=>simp[h2,Z,h3]at h
    |some q=>
     obtain⟨d',N⟩:=q;obtain⟨rfl,rfl⟩:N=res/\ρ.set i (some (eQ p d' d0))=F:=by simpa[h2,Z,h3]using h
     exact⟨d0,d,d',h1,h2,Z.1,Z.2,h3,rfl⟩
   .simp[h2,Z]at h
 .cases h
def pR(op:D->List D->Option (D×D))(i:Nat)(pf:En->Option (List Nat))(f:En->Option (List D)):En->Option (D×En):=λρ=>(pf ρ).bind λp=>(f ρ).bind λes=>upS op i p es ρ
def lR(op:D->List D->Option (D×D))(i:Nat)(pf:En->Option (List Nat))(f:En->Option (List D)):En->Option Fl:=λρ=>(pR op i pf f ρ).map λq=>.nx q.2
def IK(G:Gc)(T:String)(op:D->List D->Option (D×D)):Prop:=∀d es q,op d es=some q->∀(v:V)(H:Hp)(W:Wn)(L:List Addr),Rep G H W d v L->tyV G.K T v H
theorem Nv{T:String}{r:V->List V->Hp->VK->Prop}{op:D->List D->Option (D×D)}{to:TE}{t:TA}{i:Nat}{pf:En->Option (List Nat)}{f:En->Option (List D)}(J:MuV G r op)(ht:IK G T op)(ho:RfP G ob to i pf)(Y:RfA G ob t f){ρ Z:En}{res:D}(e:pR op i pf f ρ=some (res,Z))
  {σ:L2.St} {H:Hp} {S:Ad} {Fr:Addr->Prop} (s:Sta G H ob ρ σ S Fr) {Q:VK}
  (q:∀x H' R S',Sta G H' ob Z σ S' (plus R Fr)->Rep G H' (wn ob S' (plus R Fr)) res x R->R.Nodup->clean res=true->(∀j,j≠i->S' j=S j)->(∀a∈S' i,a∈S i∨H a=none)->(∀a∈R,a∈S i∨H a=none)->(∀b u,H b=some u->b∉S i->H' b=some u)->Q x H'):tBM G.K T r to t σ H Q:=by
 unfold pR at e;cases h1:pf ρ with
 |none=>simp[h1]at e
 |some p=>
  cases h2:f ρ with
  |none=>simp[h1,h2]at e
  |some es=>
   have e:upS op i p es ρ=some (res,Z):=by simpa[h1,h2]using e
   obtain⟨d0,d,d',g1,g2,c1,c2,g3,rfl⟩:=JB e;obtain⟨a5,dd,F,k2,k3⟩:=ho ρ p h1 σ H S Fr s;rw[g1]at F;cases F;rw[g2]at k2;cases k2;refine k3 _ λv v0 H1 M O a3 a2=>⟨ht d es _ g3 v H1 _ M a2.r,?_⟩;have a0:Sta G H1 ob ρ σ S Fr:=s.grow O λa z=>.inl z;refine Y ρ es h2 σ H1 _ a0.rel a0.wok _ λxs H2 N s2 re fr nd=>?_;have a4:Sta G H2 ob ρ σ S (plus N Fr):=a0.grow s2 λa z=>z.elim (λz=>.inr ⟨fr a z,re.dom a z⟩) .inl;have up:Up H1 H2 (wn ob S Fr) (wn ob S (plus N Fr)):=Up.add s2 fr;have a1:=a2.mono (.inr up) up.evo λc _ u hu=>s2 c u hu;have hF:∀a∈N,¬Fr a:=λa Y z=>by
    obtain⟨o,ho,_⟩:=a0.fdm a z;rw[fr a Y]at ho;cases ho
   have nf:∀{a},a∈S i∨a∈N∨H2 a=none->a∈S i∨H a=none:=λ{a} z=>z.imp id λz=>z.elim (λz=>O.none' (fr a z)) λz=>(O.trans s2).none' z;exact Bt J a4 g1 a3 g2 a1 re nd hF c1 c2 g3 λx H' R S' q1 q2 q3 q4 q5 q6 q7 q8=>q x H' R S' q1 q2 q3 q4 q5 (λa Y=>nf (q6 a Y)) (λa Y=>nf (q7 a Y)) λb u U n=>q8 b u ((O.trans s2) b u U) n
theorem Qp{T:String}{r:V->List V->Hp->VK->Prop}{op:D->List D->Option (D×D)}{to:TE}{t:TA}{i:Nat}{pf:En->Option (List Nat)}{f:En->Option (List D)}(J:MuV G r op)(ht:IK G T op)(N:RfP G ob to i pf)(Y:RfA G ob t f):RfS G ob P (RG (tBM G.K T r to t)) (lR op i pf f):=λρ r e σ H S Fr s E q=>by
 unfold lR at e;cases h1:pR op i pf f ρ with
 |none=>simp[h1]at e
 |some p=>
  obtain⟨res,Z⟩:=p;have:Fl.nx Z=r:=by simpa[h1]using e
  subst this;refine Nv J ht N Y h1 s λx H' R S' q1 q2 q3 q4 O q6 F q8=>q σ H' S' (q1.lessF λa z=>.inr z) ⟨λb u U n _=>q8 b u U λz=>n ⟨i,z⟩,λj a z=>?_,.refl⟩;by_cases hj:j=i
  .subst hj;exact(q6 a z).imp (λz=>⟨j,z⟩) .inr
  .rw[O j hj]at z;exact .inl ⟨j,z⟩
theorem Ox{T:String}{r:V->List V->Hp->VK->Prop}{op:D->List D->Option (D×D)}{to:TE}{t:TA}{i:Nat}{pf:En->Option (List Nat)}{f:En->Option (List D)}(O:ob i=true)(J:MuV G r op)(ht:IK G T op)(N:RfP G ob to i pf)(Y:RfA G ob t f):jQ G ob (tBM G.K T r to t) (pR op i pf f):=λρ d Z e σ H S Fr s Q q=>by
 refine Nv J ht N Y e s λx H' R S' q1 q2 q3 q4 q5 q6 q7 q8=>q x H' R S' q1 q2 q3 ⟨λb u U n=>q8 b u U λz=>n ⟨i,O,z⟩,λj hj=>q5 j (λz=>by rw[z,O]at hj;cases hj),λj a hj z=>?_,λa Y=>(q7 a Y).imp (λz=>⟨i,O,z⟩) id⟩;by_cases F:j=i
 .subst F;exact(q6 a z).imp (λz=>⟨j,O,z⟩) id
 .rw[q5 j F]at z;exact .inl ⟨j,hj,z⟩
structure MuB{ι:Type}(X:ι->Cx)(G:Gc)(T id:String)(op:D->List D->Option (D×D)):Prop where
 ex:∃r,(∀c,MtR (X c) id r)/\MuV G r op/\IK G T op
section
variable{T name id:String}{op:D->List D->Option (D×D)}{o e:Expr}{es:List Expr}{apos cpos pos:Pos}{i:Nat}{pf:En->Option (List Nat)}
theorem jE{nm:Str}(m:MuB X G T id op)(O:aex T)(slot:Slot T nm id)(Z:typeOf (.builtin id)=pure (.type "method_descriptor")){f:En->Option (List D)}(N:PVP X G ob o i pf)(Y:PVA X G ob (e::es) f)(a0:∀c,abD (.Call (.Attribute o nm apos) (e::es) [] cpos) none pos.line (X c).env=pure false:=by intro _;rfl)(F:∀c,adf o nm (X c).env (eval o (X c).env)=eval o (X c).env:=by intro _;rfl)(U:∀c,((aah cpos (X_ (e::es) (X c).env)).all (λx=>!x.1)&&(backToKw cpos (ad9 [] (X c).env)).all (λx=>x.1.isSome)
  &&decide ((e::es).length+([]:List acX).length+(if([]:List acX).isEmpty then 0 else 1)<30))=true:=by intro _;rfl) (J:(apos.endLine==cpos.line)=true:=by rfl) (hs:∀c,X_ (e::es) (X c).env=(false,eval e (X c).env)::X_ es (X c).env:=by intro _;rfl) (q:∀c,(aah cpos (X_ es (X c).env)).any (·.1)=false:=by intro _;rfl) (V:∀c,(X c).K=G.K:=by intro _;rfl) :
 PVS X G ob P (.Expr (.Call (.Attribute o nm apos) (e::es) [] cpos) pos) (lR op i pf f):=let⟨r,m1,m2,m3⟩:=m.ex;let⟨t,a1,a2⟩:=N.ex;let⟨u,b1,b2⟩:=Y.ex;⟨_,λc=>(by rw[←V c];exact Qi (Nx O slot Z (m1 c) (a1 c) (b1 c) (F c) (U c) J (hs c) (q c)) (a0 c)),Qp m2 m3 a2 b2⟩
theorem Qa{nm:Str}(m:MuB X G T id op)(pa:aex T)(slot:Slot T nm id)(Z:typeOf (.builtin id)=pure (.type "method_descriptor")){f:En->Option (List D)}(N:PVP X G ob o i pf)(Y:PVA X G ob (e::es) f)(O:ob i=true:=by rfl)(F:∀c,adf o nm (X c).env (eval o (X c).env)=eval o (X c).env:=by intro _;rfl)(U:∀c,((aah cpos (X_ (e::es) (X c).env)).all (λx=>!x.1)&&(backToKw cpos (ad9 [] (X c).env)).all (λx=>x.1.isSome)
  &&decide ((e::es).length+([]:List acX).length+(if([]:List acX).isEmpty then 0 else 1)<30))=true:=by intro _;rfl) (J:(apos.endLine==cpos.line)=true:=by rfl) (hs:∀c,X_ (e::es) (X c).env=(false,eval e (X c).env)::X_ es (X c).env:=by intro _;rfl) (q:∀c,(aah cpos (X_ es (X c).env)).any (·.1)=false:=by intro _;rfl) (V:∀c,(X c).K=G.K:=by intro _;rfl) :
 PVe X G ob (.Call (.Attribute o nm apos) (e::es) [] cpos) (pR op i pf f):=let⟨r,m1,m2,m3⟩:=m.ex;let⟨t,a1,a2⟩:=N.ex;let⟨u,b1,b2⟩:=Y.ex;⟨_,λc=>(by rw[←V c];exact Nx pa slot Z (m1 c) (a1 c) (b1 c) (F c) (U c) J (hs c) (q c)),Ox O m2 m3 a2 b2⟩
end
structure MuT{ι:Type}(X:ι->Cx)(G:Gc)(op:D->List D->Option (D×D)):Prop where
 ex:∃t:Im,(∀c,QL (X c) t)/\MuV G (λo xs H Q=>∃i v,xs=[i,v]/\t o i v H λH'=>Q .non H') op
def tU(op:D->List D->Option (D×D))(i:Nat)(pf:En->Option (List Nat))(fk:En->Option D):D->En->Option En:=λd ρ=>(pf ρ).bind λp=>(fk ρ).bind λk=>(upS op i p [k,d] ρ).map λq=>q.2
theorem PB{t:Im}{op:D->List D->Option (D×D)}{to ti:TE}{i:Nat}{pf:En->Option (List Nat)}{fk:En->Option D}(J:MuV G (λo xs H Q=>∃i v,xs=[i,v]/\t o i v H λH'=>Q .non H') op)(ho:RfP G ob to i pf)(hi:RfE G ob ti fk):RfG G ob P (lu to ti t) (tU op i pf fk):=λd ρ Z e v σ H S M Fr s r nd hF Q q=>by
 unfold tU at e;cases h1:pf ρ with
 |none=>simp[h1]at e
 |some p=>
  cases h2:fk ρ with
  |none=>simp[h1,h2]at e
  |some k=>
   cases F:upS op i p [k,d] ρ with
   |none=>simp[h1,h2,F]at e
   |some w=>
    obtain⟨res,ρ1⟩:=w;obtain rfl:ρ1=Z:=by simpa[h1,h2,F]using e
    obtain⟨d0,dd,d',g1,g2,c1,c2,g3,rfl⟩:=JB F;obtain⟨b0,a9,k1,k2,k3⟩:=ho ρ p h1 σ H S (plus M Fr) s;rw[g1]at k1;cases k1;rw[g2]at k2;cases k2;refine k3 _ λo v0 H1 M1 O a5 a8=>?_;have a0:Sta G H1 ob ρ σ S (plus M Fr):=s.grow O λa z=>.inl z;refine hi ρ k h2 σ H1 _ a0.rel a0.wok _ λy H2 N s2 ry fr nN=>?_;have a6:Sta G H2 ob ρ σ S (plus (N++M) Fr):=a0.grow s2 λa z=>z.elim (λz=>(XC.mp z).elim (λz=>.inr ⟨fr a z,ry.dom a z⟩) λz=>.inl (.inl z)) λz=>.inl (.inr z);have up:Up H1 H2 (wn ob S (plus M Fr)) (wn ob S (plus (N++M) Fr)):=⟨s2,λb u U f=>⟨λz=>z.elim (λz=>(XC.mp z).elim (λz=>by rw[fr b z]at U;cases U) λz=>f.1 (.inl z)) λz=>f.1 (.inr z),f.2⟩,λ_ _ _ f=>f⟩;have a3:Up H H2 (wn ob S (plus M Fr)) (wn ob S (plus (N++M) Fr)):=(Up.same O).trans up;have a1:=a8.mono (.inr up) up.evo λc _ u hu=>s2 c u hu;have a2:(wn ob S (plus M Fr)).add N=wn ob S (plus (N++M) Fr):=by
     show Wn.mk _ _ _=Wn.mk _ _ _;congr 1;funext a;simp![plus,XC,eq_iff_iff,or_assoc];constructor
     .rintro(z|z)
      .exact .inl z
      .exact .inr z
     .rintro(z|z)
      .exact .inl z
      .exact .inr z
    rw[a2]at ry;have a7:∀a∈N,a∉M:=λa h1 h2=>by
     obtain⟨o,ho,_⟩:=r.dom a h2;rw[O.none' (fr a h1)]at ho;cases ho
    have re:aH G H2 (wn ob S (plus (N++M) Fr)) [k,d] [y,v] (N++M):=.cons ry (.one (r.up a3));have a4:∀a∈N++M,¬Fr a:=λa Y z=>by
     rcases XC.mp Y with y|y
     .obtain⟨o,ho,_⟩:=a0.fdm a (.inr z)
      rw[fr a y]at ho;cases ho
     .exact hF a y z
    have V:=Bt J a6 g1 a5 g2 a1 re (dO nN nd a7) a4 c1 c2 g3 (Q:=λ_ H'=>Q σ H') λx H' R S' q1 q2 q3 q4 q5 q6 q7 q8=>q σ H' S' (q1.lessF λa z=>.inr z) ⟨λb u U n m=>?_,λj a z=>?_,.refl⟩
    .obtain⟨i1,v1,e1,k⟩:=V
     cases e1;exact k
    .exact q8 b u ((O.trans s2) b u U) λz=>n ⟨i,z⟩
    .by_cases hj:j=i
     .subst hj
      rcases q6 a z with y|y|y
      .exact .inl ⟨j,y⟩
      .exact(XC.mp y).elim (λy=>.inr (.inr (O.none' (fr a y)))) λy=>.inr (.inl y)
      .exact .inr (.inr ((O.trans s2).none' y))
     .rw[q5 j hj]at z;exact .inl ⟨j,z⟩
theorem zT{op:D->List D->Option (D×D)}{o k:Expr}{pos:Pos}{i:Nat}{pf:En->Option (List Nat)}{fk:En->Option D}(m:MuT X G op)(N:PVP X G ob o i pf)(J:PV X G ob k fk)(Y:∀c,∀v,abU (.Subscript o k pos) (X c).env v=(do
 let ov ←aa2 [v] (eval o (X c).env)
 let iv ←aa2 [v,ov] (eval k (X c).env)
 afi pos
 aa2 [v,ov,iv] (setItem ov iv v)
 release [v,ov,iv] []):=by intro _;intro _;rfl):PVG X G ob P (.Subscript o k pos) (tU op i pf fk):=let⟨t,m1,m2⟩:=m.ex;let⟨_,a1,a2⟩:=N.ex;let⟨_,b1,b2⟩:=J.ex;⟨_,λc=>UL (a1 c) (b1 c) (m1 c) (Y c),PB m2 a2 b2⟩
theorem qQ{G:Gc}{H:Hp}{W:Wn}:Rep G H W .non .non []:=by rw[Rep];exact⟨rfl,rfl⟩
theorem qU{ds:List D}(h1:aA ds=true)(h2:aB ds=true):clean (.lst .own ds)=true:=by simp[clean,az,au,h1,h2]
theorem GZ{G:Gc}{H:Hp}{W W':Wn}{a:Addr}{xs:List V}{ds:List D}{M:List Addr}{ys:List V}(O:aH G H W ds xs M)(q:aA ds=true)(F:aB ds=true)(hn:a∉M)(J:Evo H (upd H a (.lst ys)) W W'):aH G (upd H a (.lst ys)) W' ds xs M:=
 O.mono J (.inl q) (.inl F) λc Z u N=>by rw[aM (show c≠a from λz=>hn (z▸Z))];exact N
def bc:D->List D->Option (D×D)
 |.lst .own ds,[e]=>if ds.length<1000000 then some (.lst .own (ds++[e]),.non)else none
 |_,_=>none
theorem LQ{n:Nat}(h:n<1000000):n<X3:=Yk h (by decide)
theorem Ea{G:Gc}:MuV G Fj bc:=λd es d' res h v xs H W M N r V nd hM Z c1 c2 Q q=>by
 unfold bc at h;split at h
 .rename_i ds e
  split at h
  .rename_i hl
   cases h;rw[Rep]at r;obtain⟨a,ys,M0,rfl,O,Y,rfl⟩:=r;obtain⟨x,zs,N1,N2,rfl,rfl,J,hz⟩:=V.inv;obtain⟨rfl,rfl⟩:=hz.inv0;rw[Ym]at nd V;obtain⟨F,k2⟩:=nA Z;have a0:=Yb.mp nd;have hn:=Yn.mp a0.1;have a1:a∉N1:=λz=>a0.2.2 a (by simp) a z rfl;simp![aA,aB,Ys]at c1 c2;refine⟨a,ys,x,rfl,rfl,Y,LQ (by rw[←O.length];exact hl),q .non _ (a::(M0++N1)) [] (λb u U n=>by rw[aM (show b≠a from λz=>n (by rw[z];simp))];exact U) (λW' ev=>⟨?_,qQ⟩) ?_ (λb U=>?_) (qU (by rw[jf];simp[F,aA,c1]) (by rw[jt];simp[k2,aB,c2])) rfl⟩
   .rw[Rep]
    refine⟨a,ys++[x],M0++N1,rfl,(GZ O F k2 hn.1 ev).append (.one (J.mono ev (.inl c1.1) (.inl c2.1) λc Z u hu=>?_)),aU,rfl⟩;rw[aM (show c≠a from λz=>a1 (z▸Z))];exact hu
   .rw[Ym]
    exact nd
   .rw[Ym]at U
    rcases XJ.mp U with z|z
    .exact .inl (by simp[z])
    .rcases XC.mp z with z|z
     .exact .inl (by simp[z])
     .exact .inr (.inl (by simp[z]))
  .cases h
 .cases h
theorem Ln{T:String}{op:D->List D->Option (D×D)}(V:T="list")(h:∀d es q,op d es=some q->∃m ds,d= .lst m ds):IK G T op:=λd es q e v H W L r=>by
 obtain⟨m,ds,rfl⟩:=h d es q e;rw[Rep]at r;obtain⟨a,xs,M,rfl,O,hs⟩:=r;exact .inl ⟨V,xs,hs.sq⟩
theorem gF:MuB X G "list" "list.append" bc:=⟨_,λc=>Ii,Ea,Ln rfl λd es q e=>by
 unfold bc at e;split at e
 .exact⟨_,_,rfl⟩
 .cases e⟩
def gR(ks:List Key)(ds:List D)(k:Key)(v:D):List Key×List D:=match gq ks k with
 |some j=>(ks,ds.set j v)
 |none=>(ks++[k],ds++[v])
def iW:D->List D->Option (D×D)
 |.lst .own ds,[.int k,v]=>(ixN ds.length k).map λj=>(.lst .own (ds.set j v),.non)
 |.dct .own ks ds,[k,v]=>(gH k).bind λk=>if ks.length<1000000 then some (.dct .own (gR ks ds k v).1 (gR ks ds k v).2,.non)else none
 |_,_=>none
def RC:Im:=λo i v H Q=>Rv o i v H Q∨∃a H',o= .ref a/\Mh H a i v H'/\Q H'
theorem QK{Y:Cx}(O:Y.A.units+1<cLine):QL Y RC:=by
 intro pins s σ H o i v Z N u Q I V U J h;rcases h with h|⟨a,H',rfl,g,q⟩
 .exact set_list pins s σ H o i v Z N u Q I V U J h
 .cases V
  exact Jq O I g U J λs4 F=>⟨H',F,q⟩
theorem aH.set{G:Gc}{H:Hp}{W:Wn}{ds:List D}{xs:List V}{L:List Addr}{j:Nat}{c d':D}{y:V}{M':List Addr}(O:aH G H W ds xs L)(e:ds[j]? =some c)(N:Rep G H W d' y M'):∃A M B,L=A++(M++B)/\aH G H W (ds.set j d') (xs.set j y) (A++(M'++B)):=by
 obtain⟨P,Q,x,ys,zs,J,q,U,rfl,Z,rfl,Y,rfl,h1,h2,F⟩:=O.at e;refine⟨J,q,U,rfl,?_⟩;rw[←Z,acI _ _ (XQ _),aa9];rw[show P.length=ys.length by omega,acI _ _ (XQ _),aa9];exact aH.append h1 (aH.cons N F)
theorem k_{ds:List D}{j:Nat}{x:D}(h:aA ds=true)(J:az x=true):aA (ds.set j x)=true:=by
 induction ds generalizing j with
 |nil=>simpa using h
 |cons y r Z=>
  simp![aA,Ys]at h;cases j with
  |zero=>simp[aA,J,h]
  |succ j=>simp![YJ,aA,Ys];exact⟨h.1,Z h.2⟩
theorem lq{ds:List D}{j:Nat}{x:D}(h:aB ds=true)(J:au x=true):aB (ds.set j x)=true:=by
 induction ds generalizing j with
 |nil=>simpa using h
 |cons y r Z=>
  simp![aB,Ys]at h;cases j with
  |zero=>simp[aB,J,h]
  |succ j=>simp![YJ,aB,Ys];exact⟨h.1,Z h.2⟩
theorem T7{n:Nat}{k:Int}{j:Nat}(h:ixN n k=some j):j<n:=by
 unfold ixN at h;split at h
 .split at h
  .cases h;omega
  .cases h
 .split at h
  .cases h;omega
  .cases h
theorem uG{ks:List Key}{k:Key}{j:Nat}(h:gq ks k=some j):j<ks.length:=(YM.mp h).1
theorem Av:∀{kvs:List (Key×V)}{k:Key}{j:Nat}{v:V},gq (kvs.map (·.1)) k=some j->(kvs.map (·.1)).Nodup->(putK kvs k v).map (·.1)=kvs.map (·.1)/\(putK kvs k v).map (·.2)=(kvs.map (·.2)).set j v:=by
 intro kvs k j v h n;have hj:=YM.mp h;obtain⟨Y,J,_⟩:=hj;have F:j<kvs.length:=by simpa using Y
 have U:kvs[j].1=k:=by simpa using J
 have a0:(kvs.any λO=>decide (O.1=k))=true:=acz.mpr ⟨kvs[j],Z7 _,by simpa using U⟩;unfold putK;rw[X7 a0];constructor
 .rw[XN]
  apply Yr;intro p _;simp![Z8];split<;>rfl
 .apply adp
  intro i;rw[XN,List.getElem?_map];by_cases N:j=i
  .subst N
   rw[acf (by simpa using F)];simp[F,U]
  .rw[List.getElem?_set_ne N,List.getElem?_map]
   cases e:kvs[i]? with
   |none=>rfl
   |some p=>
    have q:i<kvs.length:=(XF.mp e).1;have a1:kvs[i]=p:=(XF.mp e).2;have Z:p.1≠k:=λz=>by
     have e1:(kvs.map (·.1))[i]? =(kvs.map (·.1))[j]?:=by
      rw[List.getElem?_map,List.getElem?_map,e,XX F];simp[z,U]
     exact N ((adt (by simpa using q) n).mp e1).symm
    simp[Z]
theorem mK{kvs:List (Key×V)}{k:Key}{v:V}(h:gq (kvs.map (·.1)) k=none):putK kvs k v=kvs++[(k,v)]:=by
 unfold putK;rw[Yc];intro z;obtain⟨p,F,e⟩:=acz.mp z;have:=ZD.mp h p.1 (XM.mpr ⟨p,F,rfl⟩);simp at this e;exact this e
theorem vL{ks:List Key}{k:Key}(h:gq ks k=none):k∉ks:=λz=>by
 have:=ZD.mp h k z;simp at this
theorem Q8{G:Gc}:MuV G (λo xs H Q=>∃i v,xs=[i,v]/\RC o i v H λH'=>Q .non H') iW:=λd es d' res h v xs H W M N r re nd hM Z c1 c2 Q q=>by
 unfold iW at h;split at h
 .rename_i ds k e
  cases V:ixN ds.length k with
  |none=>simp[V]at h
  |some j=>
   obtain⟨rfl,rfl⟩:D.lst .own (ds.set j e)=d'/\D.non=res:=by simpa[V]using h
   rw[Rep]at r;obtain⟨a,ys,M0,rfl,O,Y,rfl⟩:=r;obtain⟨x1,zs,N1,N2,rfl,rfl,a1,hz⟩:=re.inv;obtain⟨x,zs,N3,N4,rfl,rfl,J,hz⟩:=hz.inv;obtain⟨rfl,rfl⟩:=hz.inv0;rw[Rep]at a1;obtain⟨rfl,rfl⟩:=a1;rw[Ym,List.nil_append]at nd re;obtain⟨k1,k2⟩:=nA Z;have a0:=Yb.mp nd;have hn:=Yn.mp a0.1;have a2:a∉N3:=λz=>a0.2.2 a (by simp) a z rfl;simp![aA,aB,Ys]at c1 c2;have a7:=T7 V;obtain⟨A,M1,B,a6,a4⟩:=O.set (XX a7) J;have F:ZZ (A++B) M0:=by rw[a6];exact(aaU A).append (Z3 M1 B)
   refine⟨_,_,rfl,.inl ⟨a,ys,k,j,rfl,rfl,Y,by rw[←O.length];exact V,q .non _ (a::(A++(N3++B))) [] (λb u U n=>by rw[aM (show b≠a from λz=>n (by rw[z];simp))];exact U) (λW' ev=>⟨?_,qQ⟩) ?_ (λb U=>?_) (qU (k_ k1 c1.2.1) (lq k2 c2.2.1)) rfl⟩⟩
   .rw[Rep]
    refine⟨a,_,A++(N3++B),rfl,?_,aU,rfl⟩;refine a4.mono ev (.inl (k_ k1 c1.2.1)) (.inl (lq k2 c2.2.1)) λc Z u hu=>?_;rw[aM (show c≠a from λz=>?_)]
    .exact hu
    .subst z
     simp![XC]at Z;rcases Z with y|y|y
     .exact hn.1 (F.subset (by simp[y]))
     .exact a2 y
     .exact hn.1 (F.subset (by simp[y]))
   .rw[Ym]
    have n2:=F.nodup hn.2;have n3:=Yb.mp n2;have a3:∀z∈N3,z∉A++B:=λz h1 h2=>a0.2.2 z (Yi _ (F.subset h2)) z h1 rfl;refine Yn.mpr ⟨λy=>?_,dO n3.1 (dO a0.2.1 n3.2.1 λz h1 h2=>a3 z h1 (by simp[h2])) λz h1 h2=>?_⟩
    .simp![XC]at y
     rcases y with y|y|y
     .exact hn.1 (F.subset (by simp[y]))
     .exact a2 y
     .exact hn.1 (F.subset (by simp[y]))
    .rcases XC.mp h2 with y|y
     .exact a3 z y (by simp[h1])
     .exact n3.2.2 z h1 z y rfl
   .rw[Ym]at U
    rcases XJ.mp U with z|z
    .exact .inl (by simp[z])
    .simp![XC]at z
     rcases z with z|z|z
     .exact .inl (Yi _ (F.subset (by simp[z])))
     .exact .inr (.inl (by simp[z]))
     .exact .inl (Yi _ (F.subset (by simp[z])))
 .rename_i ks ds k0 e
  cases hk:gH k0 with
  |none=>simp[hk]at h
  |some k=>
   rw[hk]at h;simp![Xz]at h;split at h
   .rename_i hl
    cases h;rw[Rep]at r;obtain⟨a,kvs,M0,rfl,⟨rfl,a5⟩,O,Y,rfl⟩:=r;obtain⟨x1,zs,N1,N2,rfl,rfl,a1,hz⟩:=re.inv;obtain⟨x,zs,N3,N4,rfl,rfl,J,hz⟩:=hz.inv;obtain⟨rfl,rfl⟩:=hz.inv0;have a8:=mj a1 hk;subst a8;have b0:N1=[]:=by
     cases k0<;>simp[gH]at hk<;>rw[Rep]at a1<;>exact a1.2
    subst b0;rw[Ym,List.nil_append]at nd re;have k1:aA ds=true/\aB ds=true:=by simp[clean,az,au]at Z;exact Z
    have a0:=Yb.mp nd;have hn:=Yn.mp a0.1;have a2:a∉N3:=λz=>a0.2.2 a (by simp) a z rfl;simp![aA,aB,Ys]at c1 c2;have a9:kvs.length<X3:=LQ (by simpa using hl);refine⟨_,_,rfl,.inr ⟨a,_,rfl,Mh.k (k:=k) Y a9,?_⟩⟩;cases V:gq (kvs.map (·.1)) k with
    |some j=>
     have a7:j<ds.length:=by rw[O.length];simpa using uG V
     obtain⟨A,M1,B,a6,a4⟩:=O.set (XX a7) J;obtain⟨p1,p2⟩:=Av (v:=x) V a5;have F:ZZ (A++B) M0:=by rw[a6];exact(aaU A).append (Z3 M1 B)
     refine q .non _ (a::(A++(N3++B))) [] (λb u U n=>by rw[aM (show b≠a from λz=>n (by rw[z];simp))];exact U) (λW' ev=>⟨?_,qQ⟩) ?_ (λb U=>?_) ?_ rfl
     .simp![gR,V]
      rw[Rep];refine⟨a,_,A++(N3++B),rfl,⟨p1,a5⟩,?_,aU,rfl⟩;rw[p2];refine a4.mono ev (.inl (k_ k1.1 c1.2.1)) (.inl (lq k1.2 c2.2.1)) λc Z u hu=>?_;rw[aM (show c≠a from λz=>?_)]
      .exact hu
      .subst z
       simp![XC]at Z;rcases Z with y|y|y
       .exact hn.1 (F.subset (by simp[y]))
       .exact a2 y
       .exact hn.1 (F.subset (by simp[y]))
     .rw[Ym]
      have n2:=F.nodup hn.2;have n3:=Yb.mp n2;have a3:∀z∈N3,z∉A++B:=λz h1 h2=>a0.2.2 z (Yi _ (F.subset h2)) z h1 rfl;refine Yn.mpr ⟨λy=>?_,dO n3.1 (dO a0.2.1 n3.2.1 λz h1 h2=>a3 z h1 (by simp[h2])) λz h1 h2=>?_⟩
      .simp![XC]at y
       rcases y with y|y|y
       .exact hn.1 (F.subset (by simp[y]))
       .exact a2 y
       .exact hn.1 (F.subset (by simp[y]))
      .rcases XC.mp h2 with y|y
       .exact a3 z y (by simp[h1])
       .exact n3.2.2 z h1 z y rfl
     .rw[Ym]at U
      rcases XJ.mp U with z|z
      .exact .inl (by simp[z])
      .simp![XC]at z
       rcases z with z|z|z
       .exact .inl (Yi _ (F.subset (by simp[z])))
       .exact .inr (.inl (by simp[z]))
       .exact .inl (Yi _ (F.subset (by simp[z])))
     .simp[gR,V,clean,az,au,k_ k1.1 c1.2.1,lq k1.2 c2.2.1]
    |none=>
     rw[mK V];refine q .non _ (a::(M0++N3)) [] (λb u U n=>by rw[aM (show b≠a from λz=>n (by rw[z];simp))];exact U) (λW' ev=>⟨?_,qQ⟩) ?_ (λb U=>?_) ?_ rfl
     .simp![gR,V]
      rw[Rep];refine⟨a,_,M0++N3,rfl,⟨by simp,?_⟩,?_,aU,rfl⟩
      .exact Yb.mpr ⟨a5,by simp,λy hy z hz=>by
        have:z=k:=by simpa using hz
        subst this;exact λe=>vL V (e▸hy)⟩
      .rw[YB]
       refine(O.mono ev (.inl k1.1) (.inl k1.2) λc Z u hu=>?_).append (.one (J.mono ev (.inl c1.2.1) (.inl c2.2.1) λc Z u hu=>?_))
       .rw[aM (show c≠a from λz=>hn.1 (z▸Z))];exact hu
       .rw[aM (show c≠a from λz=>a2 (z▸Z))];exact hu
     .rw[Ym];exact nd
     .rw[Ym]at U
      rcases XJ.mp U with z|z
      .exact .inl (by simp[z])
      .rcases XC.mp z with z|z
       .exact .inl (by simp[z])
       .exact .inr (.inl (by simp[z]))
     .simp[gR,V,clean,az,au,jf,jt,aA,aB,k1,c1,c2]
   .cases h
 .cases h
theorem yG(O:∀c,(X c).A.units+1<cLine):MuT X G iW:=⟨_,λc=>QK (O c),Q8⟩
end
noncomputable abbrev InX(X:ι->Cx)(N':List Str)(scope:Scope):ι×(Addr×Mx×Hp×List Addr)->Cx:=λp=>bw (X p.1) N' scope p.2.1 p.2.2.1 p.2.2.2.1 p.2.2.2.2
def fZ(cap:List (Option Nat))(ρ:En):En:=cap.map λo=>o.bind λj=>(ρ[j]?).bind id
def obC(cap:List (Option Nat))(ob:Nat->Bool):Nat->Bool:=λi=>match cap[i]? with
 |some (some j)=>ob j
 |_=>false
variable{x:α}{l:List (Option α)}
theorem qx{α:Type}{cap:List (Option Nat)}{l:List (Option α)}{x:α}(h:(cap.map λo=>o.bind λj=>(l[j]?).bind id)[i]? =some (some x)):∃j,cap[i]? =some (some j)/\l[j]? =some (some x):=by
 rw[List.getElem?_map]at h;cases e:cap[i]? with
 |none=>rw[e]at h;cases h
 |some o=>
  rw[e]at h;cases o with
  |none=>simp at h
  |some j=>
   refine⟨j,rfl,?_⟩;have h:(l[j]?).bind id=some x:=by simpa using h
   cases e2:l[j]? with
   |none=>rw[e2]at h;cases h
   |some o=>rw[e2]at h;simpa using h
theorem zu{α:Type}{cap:List (Option Nat)}{l:List (Option α)}{x:α}(h:cap[i]? =some (some j))(h2:l[j]? =some (some x)):(cap.map λo=>o.bind λj=>(l[j]?).bind id)[i]? =some (some x):=by
 rw[List.getElem?_map,h];simp[h2]
theorem Rel.cap{cap:List (Option Nat)}(r:Rel G H W ob ρ σ):Rel G H W (obC cap ob) (fZ cap ρ) (fX cap σ):=λi d e=>by
 obtain⟨j,h1,h2⟩:=qx e;obtain⟨v,L,q1,q2,q⟩:=r j d h2;refine⟨v,L,zu h1 q1,q2,λz=>q ?_⟩;unfold obC at z;rw[h1]at z;exact z
def Hv(G:Gc)(ob own:Nat->Bool)(g:TG)(f:D->En->Option En):Prop:=∀(d:D)(ρ Z:En),f d ρ=some Z->∀(x:V)(σ:L2.St)(H:Hp)(W:Wn),Rep G H W d x []->Rel G H W ob ρ σ->σ.length=ρ.length->∀Q:L2.St->Hp->Prop,
 (∀F,Rel G H W ob Z F->F.length=Z.length->(∀j,own j=false->F[j]? =σ[j]?)->Q F H)->g x σ H Q
def BR(G:Gc)(ob own:Nat->Bool)(g:TGs)(f:List D->En->Option En):Prop:=∀(ds:List D)(ρ Z:En),f ds ρ=some Z->∀(xs:List V)(σ:L2.St)(H:Hp)(W:Wn),aH G H W ds xs []->Rel G H W ob ρ σ->σ.length=ρ.length->∀Q:L2.St->Hp->Prop,
 (∀F,Rel G H W ob Z F->F.length=Z.length->(∀j,own j=false->F[j]? =σ[j]?)->Q F H)->g xs σ H Q
structure Ij{ι:Type}(X:ι->Cx)(G:Gc)(ob own:Nat->Bool)(tg:Expr)(f:D->En->Option En):Prop where
 mk::(ex:∃t,(∀c,PG (X c) tg t)/\Hv G ob own t f)
structure FT{ι:Type}(X:ι->Cx)(G:Gc)(ob own:Nat->Bool)(tg:List Expr)(f:List D->En->Option En):Prop where
 mk::(ex:∃t,(∀c,PGs (X c) tg t)/\BR G ob own t f)
def tpN(i:Nat):D->En->Option En:=λd ρ=>some (ρ.set i (some d))
def tpT(n:Nat)(g:List D->En->Option En):D->En->Option En:=λd ρ=>match d with
 |.tup ds=>if ds.length=n then g ds ρ else none
 |_=>none
theorem Ha{own:Nat->Bool}(N:own i=true):Hv G ob own (uM i) (tpN i):=λd ρ J e x σ H W r O Y Q q=>by
 cases e;refine q _ (λj d' V=>?_) (by simp[Y]) λj V=>?_
 .by_cases e:i=j
  .subst e
   rw[acb]at V;split at V
   .split at V
    .rename_i h2
     have:d=d':=by simpa using V
     subst this;exact⟨x,[],by simp[Y,h2],r,λ_ c Z=>by cases Z⟩
    .cases V
   .exact absurd rfl ‹_›
  .rw[List.getElem?_set_ne e]at V
   obtain⟨v,L,h1,h2,F⟩:=O j d' V;exact⟨v,L,by rw[List.getElem?_set_ne e];exact h1,h2,F⟩
 .have:i≠j:=λz=>by rw[←z,N]at V;cases V
  rw[List.getElem?_set_ne this]
theorem Hz{own:Nat->Bool}:BR G ob own QZ cz:=λds ρ Z e xs σ H W r V Y Q q=>by
 cases ds with
 |nil=>
  cases e;obtain⟨rfl,_⟩:=r.inv0;exact⟨rfl,q σ V Y λ_ _=>rfl⟩
 |cons d r=>cases e
variable{g:List D->En->Option En}
theorem Ep{own:Nat->Bool}{t:TG}{u:TGs}{f:D->En->Option En}(h1:Hv G ob own t f)(h2:BR G ob own u g):BR G ob own (JC t u) (aL f g):=λds ρ Z e xs σ H W r rl Y Q q=>by
 cases ds with
 |nil=>cases e
 |cons d ds=>
  obtain⟨x,ys,M1,M2,rfl,hL,J,O⟩:=r.inv;obtain⟨rfl,rfl⟩:M1=[]/\M2=[]:=by simpa using hL.symm
  simp![aL]at e;cases F:f d ρ with
  |none=>rw[F]at e;cases e
  |some ρ1=>
   have e:g ds ρ1=some Z:=by simpa[F]using e
   exact⟨x,ys,rfl,h1 d ρ ρ1 F x σ H W J rl Y _ λN U a1 k1=>h2 ds ρ1 Z e ys N H W O U a1 Q λσ2 a0 a2 k2=>q σ2 a0 a2 λj V=>(k2 j V).trans (k1 j V)⟩
theorem MK{own:Nat->Bool}{t:TGs}(h:BR G ob own t g):Hv G ob own (T_ G.K n t) (tpT n g):=λd ρ Z e x σ H W r V Y Q q=>by
 cases d with
 |tup ds=>
  simp![tpT]at e;split at e
  .rename_i hn
   rw[Rep]at r;obtain⟨a,xs,rfl,U,O⟩:=r;exact⟨a,xs,rfl,SqT.of U,by rw[←O.length];exact hn,h ds ρ Z e xs σ H W O V Y Q q⟩
  .cases e
 |_=>cases e
section
variable{ι:Type}{X:ι->Cx}{G:Gc}{ob own:Nat->Bool}
theorem aW(i:Nat){x:Str}{pos:Pos}(O:∀c,(X c).N.Nodup)(q:own i=true:=by rfl)(hi:∀c,(X c).N[i]? =some x:=by intro _;rfl)(J:∀c,Loc (X c).env.scope x:=by intro _;first|exact aaS rfl|exact aaj rfl)(F:∀c,(X c).fn x=true∨(X c).env.scope.names.lookup x=some .local:=by intro _;first|exact .inl rfl|exact .inr rfl):Ij X G ob own (.Name x pos) (tpN i):=⟨_,λc=>yx (O c) (hi c) (J c) (F c),Ha q⟩
theorem jX:FT X G ob own [] cz:=⟨_,λc=>G_,Hz⟩
theorem cN{e:Expr}{es:List Expr}{f:D->En->Option En}{g:List D->En->Option En}(h1:Ij X G ob own e f)(h2:FT X G ob own es g)(hs:∀c,(Zt (e::es) (X c).env).map (·.2)=abU e (X c).env::(Zt es (X c).env).map (·.2):=by intro _;rfl):FT X G ob own (e::es) (aL f g):=
 let⟨t,a1,a2⟩:=h1.ex;let⟨u,b1,b2⟩:=h2.ex;⟨_,λc=>Cq (a1 c) (b1 c) (hs c),Ep a2 b2⟩
theorem mR{es:List Expr}{k n:Nat}{pos:Pos}{g:List D->En->Option En}(Z:∀c,(X c).calm=true)(h:FT X G ob own es g)(hn:∀c,(Zt es (X c).env).length=n:=by intro _;rfl)(q:∀c,(Zt es (X c).env).findIdx? (·.1)=none:=by intro _;rfl)(V:∀c,(X c).K=G.K:=by intro _;rfl):Ij X G ob own (.Tuple es k pos) (tpT n g):=
 let⟨t,a1,a2⟩:=h.ex;⟨_,λc=>(by rw[←V c];exact Ky (Z c) (a1 c) (hn c) (q c)),MK a2⟩
structure Jj{ι:Type}(X:ι->Cx)(G:Gc)(ob:Nat->Bool)(ifs:List Expr)(f:En->Option Bool):Prop where
 mk::(ex:∃t,(∀c,PTs (X c) ifs t)/\RfT G ob t f)
def eTT:En->Option Bool:=λ_=>some true
theorem dh:Jj X G ob [] eTT:=⟨_,λc=>Qo,λρ b e σ H W V w Q q=>by cases e;exact q H (Same.refl H)⟩
theorem kj{c:Expr}{f:En->Option Bool}(h:PVT X G ob c f):Jj X G ob [c] f:=let⟨t,a1,a2⟩:=h.ex;⟨t,λc=>QB (a1 c),a2⟩
def cC(tg:D->En->Option En)(c:En->Option Bool)(e:En->Option D)(ρ0:En):List D->Option (List D)
 |[]=>some []
 |d::r=>(tg d ρ0).bind λρ1=>(c ρ1).bind λb=>if b=true then(e ρ1).bind λx=>(cC tg c e ρ0 r).map λt=>x::t else cC tg c e ρ0 r
def cR(cap:List (Option Nat))(it:En->Option (Bool×List D))(tg:D->En->Option En)(c:En->Option Bool)(e:En->Option D):En->Option D:=λρ=>(it ρ).bind λp=>if p.2.length<=1000000 then(cC tg c e (fZ cap ρ) p.2).map λys=>.lst .own ys else none
theorem six{n:Nat}(h:n<=1000000):n<X3:=Nat.lt_of_le_of_lt h (by decide)
theorem DQ{cap:List (Option Nat)}{σ F:L2.St}(Z:∀i:Nat,own i=true->cap[i]?≠none->cap[i]? =some none)(h:∀j,own j=false->F[j]? =(fX cap σ)[j]?):Kp (fX cap σ) F:=λi v e=>by
 cases N:own i with
 |false=>rw[h i N];exact e
 |true=>
  obtain⟨j,h1,_⟩:=qx e;rw[Z i N (by rw[h1];simp)]at h1;cases h1
theorem Ga{cap:List (Option Nat)}{wi:TI}{g:TG}{tt:TT}{te:TE}{it:En->Option (Bool×List D)}{tg:D->En->Option En}{c:En->Option Bool}{e:En->Option D}(a6:∀i:Nat,own i=true->cap[i]?≠none->cap[i]? =some none)(hi:RfI G ob wi it)(hg:Hv G (obC cap ob) own g tg)(ht:RfT G (obC cap ob) tt c)(V:RfE G (obC cap ob) te e):RfE G ob (Fq cap wi g tt te) (cR cap it tg c e):=λρ d ee σ H W rl w Q q=>by
 unfold cR at ee;cases h1:it ρ with
 |none=>simp[h1]at ee
 |some p=>
  obtain⟨b,items⟩:=p;rw[h1]at ee;simp![Xz]at ee;split at ee
  .rename_i hlen
   cases h2:cC tg c e (fZ cap ρ) items with
   |none=>simp[h2]at ee
   |some tot=>
    obtain rfl:D.lst .own tot=d:=by simpa[h2]using ee
    refine hi ρ b items h1 σ H W rl w _ λJ H1 O wk=>?_;refine⟨λi m ys H2=>i+m=items.length/\ys.length<=i/\∃acc L rest,Same H1 H2/\aH G H2 (W.add L) acc ys L/\(∀a∈L,H1 a=none)/\L.Nodup/\WOk H2 (W.add L)/\cC tg c e (fZ cap ρ) (items.drop i)=some rest/\acc++rest=tot,⟨items.length,by omega,by simp,[],[],tot,Same.refl _,.nil,by simp,List.nodup_nil,?_,h2,rfl⟩,?_⟩
    .rw[rK];exact w.up O
    rintro i m ys H2 ⟨b4,b2,acc,L,rest,s2,ra,fa,na,wa,Z,a0⟩;have a3:Up H1 H2 W (W.add L):=Up.add s2 fa
    .by_cases hil:i<items.length
     .have hdr:=(aak hil).symm
      rw[hdr,cC]at Z;refine .inr ⟨wk.go i items[i] (by simp[hil]) H2 _ (LtB.up a3),by have:=six hlen;omega,λa4 H'=>(i+1)+(m-1)=items.length/\a4.length<=i+1/\∃acc L rest,Same H1 H'/\aH G H' (W.add L) acc a4 L/\(∀a∈L,H1 a=none)/\L.Nodup/\WOk H' (W.add L)/\cC tg c e (fZ cap ρ) (items.drop (i+1))=some rest/\acc++rest=tot,λa4 H' h=>⟨m-1,by omega,h⟩,λx H3 hy=>?_⟩;obtain⟨s3,rx⟩:=wk.yld i items[i] (by simp[hil]) H2 _ (LtB.up a3) x H3 hy;cases h3:tg items[i] (fZ cap ρ)with
      |none=>simp[h3]at Z
      |some ρ1=>
       rw[h3]at Z;simp![Xz]at Z;have b0:Rel G H3 (W.add L) (obC cap ob) (fZ cap ρ) (fX cap σ):=(rl.cap).up ((Up.same O).trans (a3.trans (Up.same s3)));have a2:=ra.up (Up.same s3 (W:=W.add L));have a5:WOk H3 (W.add L):=wa.up s3;refine hg items[i] _ ρ1 h3 x _ H3 (W.add L) rx b0 (by simp[fZ,fX]) _ λσ2 a8 b3 k4=>⟨DQ a6 k4,?_⟩;cases h4:c ρ1 with
       |none=>simp[h4]at Z
       |some bb=>
        rw[h4]at Z;simp![Xz]at Z;refine ht ρ1 bb h4 σ2 H3 (W.add L) a8 a5 _ λH4 s4=>?_;have b1:=a8.up (Up.same s4);have a7:=a5.up s4;cases bb with
        |false=>
         simp![Yz,Zi]at Z;exact vQ ⟨by omega,by omega,acc,L,rest,((s2.trans s3).trans s4),a2.up (Up.same s4),fa,na,a7,Z,a0⟩
        |true=>
         simp![Yd]at Z;cases h5:e ρ1 with
         |none=>simp[h5]at Z
         |some y=>
          cases h6:cC tg c e (fZ cap ρ) (items.drop (i+1))with
          |none=>simp[h5,h6]at Z
          |some a1=>
           obtain rfl:y::a1=rest:=by simpa[h5,h6]using Z
           refine pB (V ρ1 y h5 σ2 H4 (W.add L) b1 a7 _ λv H5 M s5 ry fy ny=>?_);have fM:∀a∈M,H1 a=none:=λa Y=>(((s2.trans s3).trans s4)).none' (fy a Y);have a9:∀a∈L,a∉M:=λa h1 h2=>by
            obtain⟨o,N,_⟩:=(a2.up (Up.same s4 (W:=W.add L))).dom a h1;rw[fy a h2]at N;cases N
           have u5:Up H4 H5 (W.add L) (W.add (L++M)):=⟨s5,λb u U f=>⟨λz=>z.elim (λz=>(XC.mp z).elim (λz=>f.1 (.inl z)) λz=>by rw[fy b z]at U;cases U) λz=>f.1 (.inr z),f.2⟩,λ_ _ _ f=>f⟩;have u6:Up H5 H5 ((W.add L).add M) (W.add (L++M)):=⟨Same.refl _,λb u U f=>⟨λz=>by
            rcases z with z|z
            .exact(XC.mp z).elim (λz=>f.1 (.inr (.inl z))) λz=>f.1 (.inl z)
            .exact f.1 (.inr (.inr z)),f.2⟩,λ_ _ _ f=>f⟩
           refine⟨by omega,by simp;omega,acc++[y],L++M,a1,((s2.trans s3).trans s4).trans s5,((a2.up (Up.same s4)).up u5).append (.one (ry.up u6)),λa Y=>(XC.mp Y).elim (fa a) (fM a),dO na ny a9,?_,rfl,by rw[←a0];simp⟩;exact w.add (((O.trans s2).trans s3).trans s4 |>.trans s5) λa Y=>(XC.mp Y).elim (λz=>let⟨o,h,m⟩:=(a2.up (Up.same s4 (W:=W.add L))).dom a z;⟨o,s5 a o h,m⟩) (ry.dom a)
     .have hl:i=items.length:=by omega
      subst hl;rw[aaC,cC]at Z;cases Z;refine .inl ⟨wk.stop H2 _ (LtB.up a3),aa5 (six (by omega)),λp F=>?_⟩;have sm:Same H2 (upd H2 p (.lst ys)):=Same.new F;rw[Ym]at a0;subst a0;refine q (.ref p) _ (p::L) ((O.trans s2).trans sm) ?_ (λa Y=>(XJ.mp Y).elim (λz=>by rw[z];exact(O.trans s2).none' F) λz=>O.none' (fa a z)) (Yn.mpr ⟨λz=>?_,na⟩)
      .rw[Rep]
       exact⟨p,ys,L,rfl,ra.up ⟨sm,λb u U f=>⟨λz=>z.elim (λz=>(XJ.mp z).elim (λz=>by rw[z,F]at U;cases U) λz=>f.1 (.inl z)) λz=>f.1 (.inr z),f.2⟩,λ_ _ _ f=>f⟩,aU,rfl⟩
      .obtain⟨o,N,_⟩:=ra.dom p z
       rw[F]at N;cases N
  .cases ee
end
def oG(cap:List (Option Nat)):Prop:=∀(i k j:Nat),cap[i]? =some (some j)->cap[k]? =some (some j)->i=k
def lB(cap:List (Option Nat))(S:Ad):Ad:=λi=>match cap[i]? with
 |some (some j)=>S j
 |_=>[]
def sV(cap:List (Option Nat))(S:Ad)(Fr:Addr->Prop):Addr->Prop:=λa=>Fr a∨∃j:Nat,(∀i:Nat,cap[i]?≠some (some j))/\a∈S j
theorem iU{cap:List (Option Nat)}(h:a∈lB cap S i):∃j,cap[i]? =some (some j)/\a∈S j:=by
 unfold lB at h;split at h
 .rename_i j e;exact⟨j,e,h⟩
 .cases h
theorem zx{cap:List (Option Nat)}(h:cap[i]? =some (some j)):lB cap S i=S j:=by unfold lB;rw[h]
theorem Ej{cap:List (Option Nat)}(h:cap[i]? =some (some j)):obC cap ob i=ob j:=by unfold obC;rw[h]
section
variable{G:Gc}{ob own:Nat->Bool}{cap:List (Option Nat)}
theorem yq{S:Ad}{Fr:Addr->Prop}{a:Addr}:(wn ob S Fr).free a↔(wn (obC cap ob) (lB cap S) (sV cap S Fr)).free a:=by
 constructor
 .intro f
  have q:∀j,a∉S j:=λj z=>by
   cases N:ob j with
   |false=>exact f.2.1 ⟨j,N,z⟩
   |true=>exact f.2.2 ⟨j,N,z⟩
  refine⟨λz=>z.elim f.1 λ⟨j,_,z⟩=>q j z,λ⟨i,_,z⟩=>?_,λ⟨i,_,z⟩=>?_⟩
  .obtain⟨j,_,z⟩:=iU z;exact q j z
  .obtain⟨j,_,z⟩:=iU z;exact q j z
 .intro f
  have q:∀j,a∉S j:=λj z=>by
   by_cases Z:∃i:Nat,cap[i]? =some (some j)
   .obtain⟨i,hi⟩:=Z
    have V:a∈lB cap S i:=by rw[zx hi];exact z
    cases N:obC cap ob i with
    |false=>exact f.2.1 ⟨i,N,V⟩
    |true=>exact f.2.2 ⟨i,N,V⟩
   .exact f.1 (.inr ⟨j,λi hi=>Z ⟨i,hi⟩,z⟩)
  exact⟨λz=>f.1 (.inl z),λ⟨j,_,z⟩=>q j z,λ⟨j,_,z⟩=>q j z⟩
theorem SN{H:Hp}{S:Ad}{Fr:Addr->Prop}{d:D}{v:V}{L:List Addr}(Z:clean d=true):Rep G H (wn ob S Fr) d v L↔Rep G H (wn (obC cap ob) (lB cap S) (sV cap S Fr)) d v L:=by
 have q:=(by simpa[clean]using Z:az d=true/\au d=true);constructor
 .intro r
  have J:Evo H H (wn ob S Fr) (wn (obC cap ob) (lB cap S) (sV cap S Fr)):=⟨λb u U f=>⟨U,yq.mp f⟩,λ_ _ h=>h⟩;exact r.mono J (.inl q.1) (.inl q.2) λ_ _ _ h=>h
 .intro r
  have J:Evo H H (wn (obC cap ob) (lB cap S) (sV cap S Fr)) (wn ob S Fr):=⟨λb u U f=>⟨U,yq.mpr f⟩,λ_ _ h=>h⟩;exact r.mono J (.inl q.1) (.inl q.2) λ_ _ _ h=>h
theorem Sta.inn{H:Hp}{ρ:En}{σ:L2.St}{S:Ad}{Fr:Addr->Prop}(V:oG cap)(s:Sta G H ob ρ σ S Fr):Sta G H (obC cap ob) (fZ cap ρ) (fX cap σ) (lB cap S) (sV cap S Fr)where
 len:=by simp[fZ,fX]
 sl:=λi d e=>by
  obtain⟨j,h1,h2⟩:=qx e;obtain⟨v,q1,q2,q⟩:=s.sl j d h2;exact⟨v,zu h1 q1,by rw[zx h1];exact(SN q).mp q2,q⟩
 em:=λi h=>by
  unfold lB;split
  .rename_i j e
   exact s.em j λd hd=>h d (zu e hd)
  .rfl
 nd:=λi=>by
  unfold lB;split
  .exact s.nd _
  .exact List.nodup_nil
 dj:=λi k a h1 h2=>by
  obtain⟨Y,e1,N⟩:=iU h1;obtain⟨F,e2,Z⟩:=iU h2;have:=s.dj Y F a N Z;subst this;exact V i k Y e1 e2
 fdj:=λi a h z=>by
  obtain⟨j,e,z⟩:=iU z;rcases h with h|⟨k,J,h⟩
  .exact s.fdj j a h z
  .have:=s.dj j k a z h
   subst this;exact J i e
 fdm:=λa h=>by
  rcases h with h|⟨k,_,h⟩
  .exact s.fdm a h
  .exact s.mu h
def ir:List (Option Nat)->En->En->En
 |some j::cs,d::ds,ρ=>ir cs ds (ρ.set j d)
 |none::cs,_::ds,ρ=>ir cs ds ρ
 |_,_,ρ=>ρ
theorem nO:∀(cap:List (Option Nat))(ds ρ:En),(ir cap ds ρ).length=ρ.length
 |[],ds,ρ=>by cases ds<;>rfl
 |some j::cs,[],ρ=>rfl
 |none::cs,[],ρ=>rfl
 |some j::cs,d::ds,ρ=>by rw[ir,nO cs ds];simp
 |none::cs,d::ds,ρ=>by rw[ir,nO cs ds]
theorem mH:∀{cap:List (Option Nat)}{ds ρ:En}{j:Nat},(∀i:Nat,cap[i]?≠some (some j))->(ir cap ds ρ)[j]? =ρ[j]?
 |[],ds,ρ,j,_=>by cases ds<;>rfl
 |some k::cs,[],ρ,j,_=>rfl
 |none::cs,[],ρ,j,_=>rfl
 |some k::cs,d::ds,ρ,j,h=>by
  rw[ir,mH λi e=>h (i+1) (by simpa using e),List.getElem?_set_ne λz=>h 0 (by simp[z])]
 |none::cs,d::ds,ρ,j,h=>by rw[ir,mH λi e=>h (i+1) (by simpa using e)]
theorem p6:∀{cap:List (Option Nat)}{ds ρ:En}{i j:Nat}{x:Option D},oG cap->cap[i]? =some (some j)->ds[i]? =some x->j<ρ.length->(ir cap ds ρ)[j]? =some x
 |[],ds,ρ,i,j,x,_,h,_,_=>by simp at h
 |some k::cs,[],ρ,i,j,x,_,_,h,_=>by simp at h
 |none::cs,[],ρ,i,j,x,_,_,h,_=>by simp at h
 |some k::cs,d::ds,ρ,i,j,x,hj,h1,h2,hl=>by
  rw[ir];cases i with
  |zero=>
   have e1:k=j:=by simpa using h1
   have e2:d=x:=by simpa using h2
   subst e1 e2;rw[mH λi e=>?_]
   .simp[hl]
   .have:=hj 0 (i+1) k (by simp) (by simpa using e)
    omega
  |succ i=>exact p6 (λa b c h1 h2=>by have:=hj (a+1) (b+1) c (by simpa using h1) (by simpa using h2);omega) (by simpa using h1) (by simpa using h2) (by simpa using hl)
 |none::cs,d::ds,ρ,i,j,x,hj,h1,h2,hl=>by
  rw[ir];cases i with
  |zero=>simp at h1
  |succ i=>exact p6 (λa b c h1 h2=>by have:=hj (a+1) (b+1) c (by simpa using h1) (by simpa using h2);omega) (by simpa using h1) (by simpa using h2) hl
def t_(cap:List (Option Nat))(q S:Ad):Ad:=λj=>match cap.findIdx? (λo=>o==some j)with
 |some i=>q i
 |none=>S j
theorem h_{q S:Ad}{i j:Nat}(V:oG cap)(h:cap[i]? =some (some j)):t_ cap q S j=q i:=by
 unfold t_;split
 .rename_i k e
  obtain⟨h1,h2,_⟩:=YM.mp e;have:cap[k]=some j:=by simpa using h2
  rw[V i k j h (by rw[XX h1,this])]
 .rename_i e
  have:=ZD.mp e (some j) (Yt h);simp at this
theorem gZ{q S:Ad}{j:Nat}(h:∀i:Nat,cap[i]?≠some (some j)):t_ cap q S j=S j:=by
 unfold t_;split
 .rename_i k e
  obtain⟨h1,h2,_⟩:=YM.mp e;have:cap[k]=some j:=by simpa using h2
  exact absurd (by rw[XX h1,this]) (h k)
 .rfl
theorem gk(cap:List (Option Nat))(j:Nat):(∃i:Nat,cap[i]? =some (some j))∨(∀i:Nat,cap[i]?≠some (some j)):=by
 by_cases h:∃i:Nat,cap[i]? =some (some j)
 .exact .inl h
 .exact .inr λi z=>h ⟨i,z⟩
theorem Sta.out{H H':Hp}{ρ a4:En}{σ a8:L2.St}{S Si:Ad}{Fr:Addr->Prop}{M:List Addr}(V:oG cap)(s:Sta G H ob ρ σ S Fr)(N:∀i:Nat,cap[i]? =some none->True)(hk:∀i j:Nat,cap[i]? =some (some j)->a8[i]? =(fX cap σ)[i]?)
  (si:Sta G H' (obC cap ob) a4 a8 Si (plus M (sV cap S Fr))) (ef:Eff (obC cap ob) H H' (lB cap S) Si M):Sta G H' ob (ir cap a4 ρ) σ (t_ cap Si S) (plus M Fr)/\Eff ob H H' S (t_ cap Si S) M/\
   (∀d v L,clean d=true->Rep G H' (wn (obC cap ob) Si (plus M (sV cap S Fr))) d v L->Rep G H' (wn ob (t_ cap Si S) (plus M Fr)) d v L):=by
 have a0:∀{a},inO (obC cap ob) (lB cap S) a->inO ob S a:=λ{a}⟨i,h1,h2⟩=>by
  obtain⟨j,e,z⟩:=iU h2;exact⟨j,by rw[←Ej (ob:=ob) e];exact h1,z⟩
 have b0:Eff ob H H' S (t_ cap Si S) M:=by
  refine⟨λb u U n=>ef.kp b u U λz=>n (a0 z),λj a2=>?_,λj a a2 z=>?_,λa Y=>(ef.fm a Y).imp a0 id⟩
  .rcases gk cap j with⟨i,hi⟩|hn
   .rw[h_ V hi,ef.sn i (by rw[Ej hi];exact a2),zx hi]
   .exact gZ hn
  .rcases gk cap j with⟨i,hi⟩|hn
   .rw[h_ V hi]at z
    exact(ef.gr i a (by rw[Ej hi];exact a2) z).imp a0 id
   .rw[gZ hn]at z;exact .inl ⟨j,a2,z⟩
 have a7:∀a,(wn (obC cap ob) Si (plus M (sV cap S Fr))).free a->(wn ob (t_ cap Si S) (plus M Fr)).free a:=λa f=>by
  have nS:∀j,a∉t_ cap Si S j:=λj z=>by
   rcases gk cap j with⟨i,hi⟩|hn
   .rw[h_ V hi]at z
    cases a9:obC cap ob i with
    |false=>exact f.2.1 ⟨i,a9,z⟩
    |true=>exact f.2.2 ⟨i,a9,z⟩
   .rw[gZ hn]at z
    exact f.1 (.inr (.inr ⟨j,hn,z⟩))
  exact⟨λz=>z.elim (λz=>f.1 (.inl z)) λz=>f.1 (.inr (.inl z)),λ⟨j,_,z⟩=>nS j z,λ⟨j,_,z⟩=>nS j z⟩
 have conv:∀d v L,clean d=true->Rep G H' (wn (obC cap ob) Si (plus M (sV cap S Fr))) d v L->Rep G H' (wn ob (t_ cap Si S) (plus M Fr)) d v L:=λd v L Z r=>by
  have q:=(by simpa[clean]using Z:az d=true/\au d=true);have ev:Evo H' H' (wn (obC cap ob) Si (plus M (sV cap S Fr))) (wn ob (t_ cap Si S) (plus M Fr)):=⟨λb u U f=>⟨U,a7 b f⟩,λ_ _ h=>h⟩;exact r.mono ev (.inl q.1) (.inl q.2) λ_ _ _ h=>h
 have a1:∀{j a},(∀i:Nat,cap[i]?≠some (some j))->a∈S j->∀i,a∉Si i:=λ{j a} hn z i y=>si.fdj i a (.inr (.inr ⟨j,hn,z⟩)) y;refine⟨⟨by rw[nO];exact s.len,λj d hd=>?_,λj hd=>?_,λj=>?_,λj k a h1 h2=>?_,λj a h z=>?_,λa h=>?_⟩,b0,conv⟩
 .rcases gk cap j with⟨i,hi⟩|hn
  .have a5:j<ρ.length:=by
    have:=(XF.mp hd).1;rwa[nO]at this
   cases J:a4[i]? with
   |none=>
    have h1:a4.length<=i:=aan.mp J;have h2:a8.length<=i:=by rw[←si.len];exact h1
    have F:=hk i j hi;rw[aan.mpr h2]at F;have h4:(fX cap σ).length<=i:=aan.mp F.symm;have h5:i<cap.length:=(XF.mp hi).1;simp[fX]at h4;omega
   |some x=>
    rw[p6 V hi J a5]at hd;cases hd;obtain⟨v,q1,q2,q3⟩:=si.sl i d J;rw[hk i j hi]at q1;obtain⟨j',e1,e2⟩:=qx q1;rw[hi]at e1;cases e1;exact⟨v,e2,by rw[h_ V hi];exact conv _ _ _ q3 q2,q3⟩
  .rw[mH hn]at hd
   obtain⟨v,q1,q2,q3⟩:=s.sl j d hd;refine⟨v,q1,?_,q3⟩;rw[gZ hn];have q:=(by simpa[clean]using q3:az d=true/\au d=true);refine q2.mono (b0.evo s) (.inl q.1) (.inl q.2) λc Z u O=>?_;exact ef.kp c u O λ⟨i,_,z⟩=>by
    obtain⟨k,e,z⟩:=iU z;have:=s.dj j k c Z z;subst this;exact hn i e
 .rcases gk cap j with⟨i,hi⟩|hn
  .rw[h_ V hi]
   refine si.em i λd b1=>?_;by_cases a5:j<ρ.length
   .exact hd d (p6 V hi b1 a5)
   .
    obtain⟨v,q1,_⟩:=si.sl i d b1;rw[hk i j hi]at q1;obtain⟨j',e1,e2⟩:=qx q1;rw[hi]at e1;cases e1;have:=(XF.mp e2).1;rw[←s.len]at this;exact a5 this
  .rw[gZ hn]
   exact s.em j λd=>by have:=hd d;rwa[mH hn]at this
 .rcases gk cap j with⟨i,hi⟩|hn
  .rw[h_ V hi];exact si.nd i
  .rw[gZ hn];exact s.nd j
 .rcases gk cap j with⟨i,hi⟩|hn<;>rcases gk cap k with⟨i',a3⟩|a6
  .rw[h_ V hi]at h1
   rw[h_ V a3]at h2;have:=si.dj i i' a h1 h2;subst this;rw[hi]at a3;cases a3;rfl
  .rw[h_ V hi]at h1
   rw[gZ a6]at h2;exact absurd h1 (a1 a6 h2 i)
  .rw[gZ hn]at h1
   rw[h_ V a3]at h2;exact absurd h2 (a1 hn h1 i')
  .rw[gZ hn]at h1
   rw[gZ a6]at h2;exact s.dj j k a h1 h2
 .rcases gk cap j with⟨i,hi⟩|hn
  .rw[h_ V hi]at z
   exact si.fdj i a (h.imp id .inl) z
  .rw[gZ hn]at z
   rcases h with h|h
   .rcases ef.fm a h with y|y
    .obtain⟨k,_,y⟩:=a0 y
     have:=s.dj j k a z y;subst this;obtain⟨i,hi,y'⟩:∃i,obC cap ob i=true/\a∈lB cap S i:=by assumption
     obtain⟨k',e,y'⟩:=iU y';have:=s.dj j k' a z y';subst this;exact hn i e
    .obtain⟨o,N,_⟩:=s.mu z
     rw[y]at N;cases N
   .exact s.fdj j a h z
 .rcases h with h|h
  .exact si.fdm a (.inl h)
  .exact si.fdm a (.inr (.inl h))
end
section
variable{ι:Type}{X:ι->Cx}{G:Gc}{ob own:Nat->Bool}
def Ux(G:Gc)(ob own:Nat->Bool)(g:TG)(f:D->En->Option En):Prop:=∀(d:D)(ρ Z:En),f d ρ=some Z->∀(x:V)(σ:L2.St)(H:Hp)(S:Ad)(Fr:Addr->Prop),Sta G H ob ρ σ S Fr->(∀i,own i=true->S i=[])->Rep G H (wn ob S Fr) d x []->∀Q:L2.St->Hp->Prop,
 (∀F,Sta G H ob Z F S Fr->(∀j,own j=false->F[j]? =σ[j]?)->Q F H)->g x σ H Q
theorem Jl{i:Nat}(N:own i=true):Ux G ob own (uM i) (tgN i):=λd ρ Z e x σ H S Fr s J r Q q=>by
 unfold tgN at e;split at e
 .rename_i hc
  cases e;refine q _ ⟨by simp[s.len],λj d' V=>?_,λj V=>?_,s.nd,s.dj,s.fdj,s.fdm⟩ λj V=>?_
  .by_cases ej:i=j
   .subst ej
    rw[acb]at V;split at V
    .split at V
     .rename_i h2
      have:d=d':=by simpa using V
      subst this;exact⟨x,by simp[←s.len,h2],by rw[J i N];exact r,hc⟩
     .cases V
    .exact absurd rfl ‹_›
   .rw[List.getElem?_set_ne ej]at V
    obtain⟨v,h1,h2,F⟩:=s.sl j d' V;exact⟨v,by rw[List.getElem?_set_ne ej];exact h1,h2,F⟩
  .by_cases ej:i=j
   .subst ej;exact J i N
   .exact s.em j λd'=>by have:=V d';rwa[List.getElem?_set_ne ej]at this
  .have:i≠j:=λz=>by rw[←z,N]at V;cases V
   rw[List.getElem?_set_ne this]
 .cases e
structure WY{ι:Type}(X:ι->Cx)(G:Gc)(ob own:Nat->Bool)(tg:Expr)(f:D->En->Option En):Prop where
 mk::(ex:∃t,(∀c,PG (X c) tg t)/\Ux G ob own t f)
theorem H9(i:Nat){x:Str}{pos:Pos}(O:∀c,(X c).N.Nodup)(q:own i=true:=by rfl)(hi:∀c,(X c).N[i]? =some x:=by intro _;rfl)(J:∀c,Loc (X c).env.scope x:=by intro _;first|exact aaS rfl|exact aaj rfl)(F:∀c,(X c).fn x=true∨(X c).env.scope.names.lookup x=some .local:=by intro _;first|exact .inl rfl|exact .inr rfl):WY X G ob own (.Name x pos) (tgN i):=⟨_,λc=>yx (O c) (hi c) (J c) (F c),Jl q⟩
def jF(cap:List (Option Nat))(tg:D->En->Option En)(c:En->Option Bool)(e:En->Option (D×En)):List D->En->Option (List D×En)
 |[],ρ=>some ([],ρ)
 |d::r,ρ=>(tg d (fZ cap ρ)).bind λρ1=>(c ρ1).bind λb=>if b=true then(e ρ1).bind λp=>if clean p.1=true then(jF cap tg c e r (ir cap p.2 ρ)).map λt=>(p.1::t.1,t.2)else none else jF cap tg c e r ρ
def vo(cap:List (Option Nat))(it:En->Option (Bool×List D))(tg:D->En->Option En)(c:En->Option Bool)(e:En->Option (D×En)):En->Option (D×En):=λρ=>(it ρ).bind λp=>if p.1=true/\p.2.length<=1000000 then(jF cap tg c e p.2 ρ).map λt=>(.lst .own t.1,t.2)else none
theorem Kz{cap:List (Option Nat)}{wi:TI}{g:TG}{tt:TT}{te:TE}{it:En->Option (Bool×List D)}{tg:D->En->Option En}{c:En->Option Bool}{e:En->Option (D×En)}(V:oG cap)(a5:∀i:Nat,own i=true->cap[i]?≠none->cap[i]? =some none)(hi:RfI G ob wi it)(hg:Ux G (obC cap ob) own g tg)(ht:RfT G (obC cap ob) tt c)(he:jQ G (obC cap ob) te e) :
  jQ G ob (Fq cap wi g tt te) (vo cap it tg c e):=λρ d c5 ee σ H S Fr s Q q=>by
 unfold vo at ee;cases h1:it ρ with
 |none=>simp[h1]at ee
 |some p=>
  obtain⟨b,items⟩:=p;rw[h1]at ee;simp![Xz]at ee;split at ee
  .rename_i a1
   obtain⟨U,a1⟩:=a1;change b=true at U;change items.length<=1000000 at a1;subst U;cases h2:jF cap tg c e items ρ with
   |none=>simp[h2]at ee
   |some w=>
    obtain⟨tot,a4⟩:=w;obtain⟨rfl,rfl⟩:D.lst .own tot=d/\a4=c5:=by simpa[h2]using ee
    refine hi ρ true items h1 σ H _ s.rel s.wok _ λJ H1 sm wk=>?_;have s1:Sta G H1 ob ρ σ S Fr:=s.grow sm λa z=>.inl z;have e1:Eff ob H H1 S S []:=⟨λb u h _=>sm b u h,λ_ _=>rfl,λi a h z=>.inl ⟨i,h,z⟩,by simp⟩;refine⟨λi m ys H2=>i+m=items.length/\ys.length<=i/\∃ρ2 S2 acc L rest,Sta G H2 ob ρ2 σ S2 (plus L Fr)/\aH G H2 (wn ob S2 (plus L Fr)) acc ys L/\L.Nodup/\aA acc=true/\aB acc=true/\Eff ob H1 H2 S S2 L/\jF cap tg c e (items.drop i) ρ2=some (rest,a4)/\acc++rest=tot,
     ⟨items.length,by omega,by simp,ρ,S,[],[],tot,by rw[ju];exact s1,.nil,List.nodup_nil,rfl,rfl,.refl,h2,rfl⟩,?_⟩
    rintro i m ys H2 ⟨d3,d2,ρ2,S2,acc,L,rest,s2,ra,na,b1,b0,ef,a0,a2⟩;have lt:LtB true H1 (wn ob S Fr) H2 (wn (obC cap ob) (lB cap S2) (sV cap S2 (plus L Fr))):=pB ⟨λb u U f=>let⟨h1,h2⟩:=(ef.evo s1).k b u U f;⟨h1,yq.mp h2⟩,(ef.evo s1).t⟩;by_cases b4:i<items.length
    .have hdr:=(aak b4).symm
     rw[hdr,jF]at a0;refine .inr ⟨wk.go i items[i] (by simp[b4]) H2 _ lt,by have:=six a1;omega,λb2 H'=>(i+1)+(m-1)=items.length/\b2.length<=i+1/\∃ρ2 S2 acc L rest,Sta G H' ob ρ2 σ S2 (plus L Fr)/\aH G H' (wn ob S2 (plus L Fr)) acc b2 L/\L.Nodup/\aA acc=true/\aB acc=true/\Eff ob H1 H' S S2 L/\jF cap tg c e (items.drop (i+1)) ρ2=some (rest,a4)/\acc++rest=tot,λb2 H' h=>⟨m-1,by omega,h⟩,λx H3 hy=>?_⟩;obtain⟨s3,rx⟩:=wk.yld i items[i] (by simp[b4]) H2 _ lt x H3 hy;have b8:Sta G H3 ob ρ2 σ S2 (plus L Fr):=s2.grow s3 λa z=>.inl z;have c9:Eff ob H1 H3 S S2 L:=ef.same s3 λc Z=>.inl Z;have d0:aH G H3 (wn ob S2 (plus L Fr)) acc ys L:=ra.up (Up.same s3);have si:=b8.inn (cap:=cap) V;cases h3:tg items[i] (fZ cap ρ2)with
     |none=>simp[h3]at a0
     |some a3=>
      rw[h3]at a0;simp![Xz]at a0;have c7:∀k,own k=true->lB cap S2 k=[]:=λk hk=>by
       unfold lB;split
       .rename_i j e
        rw[a5 k hk (by rw[e];simp)]at e;cases e
       .rfl
      refine hg items[i] _ a3 h3 x _ H3 _ (sV cap S2 (plus L Fr)) si c7 rx _ λa8 s4 b9=>⟨DQ a5 b9,?_⟩;cases h4:c a3 with
      |none=>simp[h4]at a0
      |some bb=>
       rw[h4]at a0;simp![Xz]at a0;refine ht a3 bb h4 a8 H3 _ s4.rel s4.wok _ λH4 a9=>?_;have a6:Sta G H4 ob ρ2 σ S2 (plus L Fr):=b8.grow a9 λa z=>.inl z;have c8:Sta G H4 (obC cap ob) a3 a8 (lB cap S2) (sV cap S2 (plus L Fr)):=s4.grow a9 λa z=>.inl z;have b7:Eff ob H1 H4 S S2 L:=c9.same a9 λc Z=>.inl Z;have b6:aH G H4 (wn ob S2 (plus L Fr)) acc ys L:=d0.up (Up.same a9);cases bb with
       |false=>
        simp![Yz,Zi]at a0;exact vQ ⟨by omega,by omega,ρ2,S2,acc,L,rest,a6,b6,na,b1,b0,b7,a0,a2⟩
       |true=>
        simp![Yd]at a0;cases Y:e a3 with
        |none=>simp[Y]at a0
        |some w=>
         obtain⟨y,b5⟩:=w;rw[Y]at a0;simp![Xz]at a0;split at a0
         .rename_i hcy
          cases h6:jF cap tg c e (items.drop (i+1)) (ir cap b5 ρ2)with
          |none=>simp[h6]at a0
          |some w=>
           obtain⟨a7,c0⟩:=w;obtain⟨rfl,rfl⟩:y::a7=rest/\c0=a4:=by simpa[h6]using a0
           refine pB (he a3 y b5 Y a8 H4 _ _ c8 _ λv H5 M S5 s5 ry ny d1=>?_);have c6:∀i j:Nat,cap[i]? =some (some j)->a8[i]? =(fX cap σ)[i]?:=λi j hi=>b9 i (by
            cases N:own i with
            |false=>rfl
            |true=>rw[a5 i N (by rw[hi];simp)]at hi;cases hi)
           obtain⟨o1,o2,o3⟩:=a6.out V (λ_ _=>trivial) c6 s5 d1;have c3:=(by simpa[clean]using hcy:az y=true/\au y=true);have c1:=b6.mono (o2.evo a6) (.inl b1) (.inl b0) λc Z u hu=>o2.keepsF a6 (.inl Z) u hu;rw[nJ]at o1 c1;have c2:=o3 y v M hcy ry;rw[nJ]at c2;have c4:∀a∈L,a∉M:=λa z1 z2=>by
            rcases o2.fm a z2 with y|y
            .exact a6.notO (.inl z1) y
            .obtain⟨o,N,_⟩:=b6.dom a z1
             rw[y]at N;cases N
           exact⟨by omega,by simp;omega,ir cap b5 ρ2,_,acc++[y],L++M,a7,o1,c1.append (.one c2),dO na ny c4,by rw[jf];simp[b1,aA,c3],by rw[jt];simp[b0,aB,c3],b7.trans o2,h6,by rw[←a2];simp⟩
         .cases a0
    .have hl:i=items.length:=by omega
     subst hl;rw[aaC,jF]at a0;obtain⟨rfl,rfl⟩:[]=rest/\ρ2=a4:=by simpa using a0
     refine .inl ⟨wk.stop H2 _ lt,aa5 (six (by omega)),λp F=>?_⟩;have b3:Same H2 (upd H2 p (.lst ys)):=Same.new F;rw[Ym]at a2;subst a2;have np:p∉L:=λz=>by obtain⟨o,N,_⟩:=ra.dom p z;rw[F]at N;cases N
     have O:Rep G (upd H2 p (.lst ys)) (wn ob S2 (plus (p::L) Fr)) (.lst .own acc) (.ref p) (p::L):=by
      rw[Rep];exact⟨p,ys,L,rfl,ra.up ⟨b3,λb u U f=>⟨λz=>z.elim (λz=>(XJ.mp z).elim (λz=>by rw[z,F]at U;cases U) λz=>f.1 (.inl z)) λz=>f.1 (.inr z),f.2⟩,λ_ _ _ f=>f⟩,aU,rfl⟩
     refine q (.ref p) _ (p::L) S2 (s2.grow b3 λa z=>?_) O (Yn.mpr ⟨np,na⟩) ?_
     .rcases z with z|z
      .rcases XJ.mp z with z|z
       .exact .inr ⟨by rw[z];exact F,O.dom a (by simp[z])⟩
       .exact .inl (.inl z)
      .exact .inl (.inr z)
     .exact(e1.trans ef).same b3 λc Z=>(XJ.mp Z).elim (λz=>.inr (by rw[z];exact F)) λz=>.inl (by simpa using z)
  .cases ee
section
variable{elt target iter:Expr}{ifs:List Expr}{scope:Scope}{pos pos' pos2:Pos}{N':List Str}{it:En->Option (Bool×List D)}{tg:D->En->Option En}{fc:En->Option Bool}
theorem dY(cap:List (Option Nat))(own:Nat->Bool){fe:En->Option D}(J:∀c,(X c).xe=NoX)(Z:∀c,(X c).calm=true)(O:∀c,bH (X c).env.scope (X c).N N' scope cap)(F:∀i:Nat,own i=true->cap[i]?≠none->cap[i]? =some none)(hi:PVI X G ob target iter it)(q:Ij (InX X N' scope) G (obC cap ob) own target tg)(U:Jj (InX X N' scope) G (obC cap ob) ifs fc)(V:PV (InX X N' scope) G (obC cap ob) elt fe)
  (hs:∀c,∀x,ZF iter (X c).env x=pure x:=by intro _ _;rfl):PV X G ob (.ListComp elt [⟨target,iter,ifs,0⟩] scope pos) (cR cap it tg fc fe):=
 let⟨_,i1,i2⟩:=hi.ex;let⟨_,g1,g2⟩:=q.ex;let⟨_,t1,t2⟩:=U.ex;let⟨_,e1,e2⟩:=V.ex
 ⟨_,λc=>GC (J c) (Z c) (O c) (i1 c) (λC s H fp=>g1 (c,C,s,H,fp)) (λC s H fp=>t1 (c,C,s,H,fp)) (λC s H fp=>e1 (c,C,s,H,fp)) (hs c),Ga F i2 g2 t2 e2⟩
theorem Nt(cap:List (Option Nat))(own:Nat->Bool){fe:En->Option (D×En)}(J:∀c,(X c).xe=NoX)(Z:∀c,(X c).calm=true)(O:∀c,bH (X c).env.scope (X c).N N' scope cap)(V:oG cap)(F:∀i:Nat,own i=true->cap[i]?≠none->cap[i]? =some none)(hi:PVI X G ob target iter it)(q:WY (InX X N' scope) G (obC cap ob) own target tg)(U:Jj (InX X N' scope) G (obC cap ob) ifs fc)(Y:PVe (InX X N' scope) G (obC cap ob) elt fe)
  (hs:∀c,∀x,ZF iter (X c).env x=pure x:=by intro _ _;rfl):PVe X G ob (.ListComp elt [⟨target,iter,ifs,0⟩] scope pos) (vo cap it tg fc fe):=
 let⟨_,i1,i2⟩:=hi.ex;let⟨_,g1,g2⟩:=q.ex;let⟨_,t1,t2⟩:=U.ex;let⟨_,e1,e2⟩:=Y.ex
 ⟨_,λc=>GC (J c) (Z c) (O c) (i1 c) (λC s H fp=>g1 (c,C,s,H,fp)) (λC s H fp=>t1 (c,C,s,H,fp)) (λC s H fp=>e1 (c,C,s,H,fp)) (hs c),Kz V F i2 g2 t2 e2⟩
variable{P:Nat->Bool}{x:Str}
theorem uQ(i:Nat)(cap:List (Option Nat))(own:Nat->Bool){fe:En->Option D}(hN:∀c,(X c).N.Nodup)(J:∀c,(X c).xe=NoX)(Z:∀c,(X c).calm=true)(O:∀c,bH (X c).env.scope (X c).N N' scope cap)(a0:∀i:Nat,own i=true->cap[i]?≠none->cap[i]? =some none)(hi:PVI X G ob target iter it)(q:Ij (InX X N' scope) G (obC cap ob) own target tg)(U:Jj (InX X N' scope) G (obC cap ob) ifs fc)(V:PV (InX X N' scope) G (obC cap ob) elt fe)
  (hP:P i=false:=by rfl) (a1:∀c,(X c).N[i]? =some x:=by intro _;rfl) (Y:∀c,Loc (X c).env.scope x:=by intro _;first|exact aaS rfl|exact aaj rfl) (hw:∀c,abD (.ListComp elt [⟨target,iter,ifs,0⟩] scope pos) (some (.Name x pos')) pos2.line (X c).env=pure true:=by intro _;rfl) (hs:∀c,∀x,ZF iter (X c).env x=pure x:=by intro _ _;rfl)
  (F:∀c,(X c).fn x=true∨(X c).env.scope.names.lookup x=some .local:=by intro _;first|exact .inl rfl|exact .inr rfl):PVS X G ob P (.Assign [.Name x pos'] (.ListComp elt [⟨target,iter,ifs,0⟩] scope pos) pos2) (cT (cR cap it tg fc fe) (tgN i)):=
 let⟨_,i1,i2⟩:=hi.ex;let⟨_,g1,g2⟩:=q.ex;let⟨_,t1,t2⟩:=U.ex;let⟨_,e1,e2⟩:=V.ex
 ⟨_,λc=>Qw (J c) (Z c) (hN c) (a1 c) (Y c) (O c) (i1 c) (λC s H fp=>g1 (c,C,s,H,fp)) (λC s H fp=>t1 (c,C,s,H,fp)) (λC s H fp=>e1 (c,C,s,H,fp)) (hw c) (hs c) (F c),by rw[←yL];exact j4 (wY (Ga a0 i2 g2 t2 e2)) (jk hP)⟩
end
end
inductive Sc:Dt->Dt->Prop
 |bl (a b:Bool):Sc (.bl a) (.bl b)
 |int (a b:Int):Sc (.int a) (.int b)
 |str (a b:Str):Sc (.str a) (.str b)
inductive Alk:Dt->Dt->Prop
 |sc {d e:Dt}:Sc d e->Alk d e
 |lst {a b:List Dt}:(∀p∈a.zip b,Sc p.1 p.2)->Alk (.lst a) (.lst b)
 |tup {a b:List Dt}:(∀p∈a.zip b,Sc p.1 p.2)->Alk (.tup a) (.tup b)
section
variable{X:Cx}{pins:List (Addr×Obj)}{σ:L2.St}{H:Hp}{s:Shared}{A:Around}
open PySem.SeqAt
theorem Ry{d e:Dt}{v u:V}{N q:Value}(h:Sc d e)(h1:Brs X.K H d v)(h2:Brs X.K H e u)(U:RelV v N)(F:RelV u q):EqAt A s N q (eqD d e)/\RcAt A s N q (eqD d e)/\RcNeAt A s N q (!eqD d e):=by
 cases h<;>simp![Brs]at h1 h2<;>subst h1 h2
 case bl a b=>cases U;cases F;exact⟨EqAt.bool_bool a b,RcAt.bool_bool a b,RcNeAt.bool_bool a b⟩
 case int a b=>obtain⟨t,rfl⟩:=U;obtain⟨t',rfl⟩:=F;exact⟨EqAt.int_int a t b t',RcAt.int_int a t b t',RcNeAt.int_int a t b t'⟩
 case str a b=>obtain⟨t,rfl⟩:=U;obtain⟨t',rfl⟩:=F;exact⟨EqAt.str_str a t b t',RcAt.str_str a t b t',RcNeAt.str_str a t b t'⟩
theorem wy:∀{ds es:List Dt}{ys xs:List V}{N its:List Value},(∀p∈ds.zip es,Sc p.1 p.2)->j0 X.K H ds ys->j0 X.K H es xs->Vals ys N->Vals xs its->
  ∀j (h1:j<N.toArray.size)(h2:j<its.toArray.size),EqAt A s N.toArray[j] its.toArray[j] (eqJ ds es j)
 |[],es,ys,xs,N,its,_,h,h',r,r',j,h1,h2=>by
  simp![j0]at h;subst h;cases r;simp at h1
 |d::ds,[],ys,xs,N,its,_,h,h',r,r',j,h1,h2=>by
  simp![j0]at h';subst h';cases r';simp at h2
 |d::ds,e::es,ys,xs,N,its,ha,h,h',r,r',j,h1,h2=>by
  simp![j0]at h h';obtain⟨y,q,rfl,hd,O⟩:=h;obtain⟨x,J,rfl,Y,Z⟩:=h';cases r with
  |cons U rb=>
   cases r' with
   |cons a1 a0=>
    cases j with
    |zero=>exact(Ry (ha (d,e) (by simp)) hd Y U a1).1
    |succ j=>exact wy (λp F=>ha p (by simp[F])) O Z rb a0 j (by simpa using h1) (by simpa using h2)
theorem NQ(I:Inv X pins σ H s){d e:Dt}{v u:V}{N u':Value}(h:Alk d e)(h1:Brs X.K H d v)(h2:Brs X.K H e u)(U:RelV v N)(F:RelV u u')(hz:A.units<cLine):RcAt A s N u' (eqD d e)/\RcNeAt A s N u' (!eqD d e):=by
 cases h with
 |sc h=>exact(Ry h h1 h2 U F).2
 |@lst ds es h=>
  simp![Brs]at h1 h2;obtain⟨a1,a7,rfl,a5,q⟩:=h1;obtain⟨a2,a6,rfl,a4,Z⟩:=h2;cases U;cases F;obtain⟨J,a3,p1,_⟩:=I.list a5;obtain⟨O,a0,p2,_⟩:=I.list a4;have l1:=q.length;have l2:=Z.length;have l3:=a3.length;have l4:=a0.length;rw[show eqD (.lst ds) (.lst es)=eqL ds es by simp[eqD]];by_cases Y:ds.length=es.length
  .have e1:J.toArray.size=O.toArray.size:=by rw[List.size_toArray,List.size_toArray];omega
   have e2:ds.length=J.toArray.size:=by rw[List.size_toArray];omega
   rw[←yR Y,e2];exact⟨RcAt.lists p1.isList p2.isList e1 hz (wy h q Z a3 a0),RcNeAt.lists p1.isList p2.isList e1 hz (wy h q Z a3 a0)⟩
  .have e1:(J.toArray.size !=O.toArray.size)=true:=by rw[List.size_toArray,List.size_toArray];exact bne_iff_ne.mpr (by omega)
   rw[zN Y];exact⟨RcAt.lists_lengths p1.isList p2.isList e1 hz,RcNeAt.lists_lengths p1.isList p2.isList e1 hz⟩
 |@tup ds es h=>
  simp![Brs]at h1 h2;obtain⟨a1,a7,rfl,a5,q⟩:=h1;obtain⟨a2,a6,rfl,a4,Z⟩:=h2;cases U;cases F;obtain⟨J,a3,p1,_⟩:=I.tuple a5;obtain⟨O,a0,p2,_⟩:=I.tuple a4;have l1:=q.length;have l2:=Z.length;have l3:=a3.length;have l4:=a0.length;have e:eqD (.tup ds) (.tup es)=((Yp (min J.toArray.size O.toArray.size)).all (eqJ ds es)&&J.toArray.size==O.toArray.size):=by
   rw[show eqD (.tup ds) (.tup es)=eqL ds es by simp[eqD],List.size_toArray,List.size_toArray];by_cases Y:ds.length=es.length
   .rw[show min J.length O.length=ds.length by omega,yR Y,show(J.length==O.length)=true by simp;omega,abl]
   .rw[zN Y,show(J.length==O.length)=false by simp;omega,afW]
  rw[e];exact⟨RcAt.tuples p1 p2 hz (wy h q Z a3 a0),RcNeAt.tuples p1 p2 hz (wy h q Z a3 a0)⟩
def V0(K:XS)(A:Zc):R2:=λx y H Q=>∃d e,Alk d e/\Brs K H d x/\Brs K H e y/\A.units<cLine/\Q (.bl (eqD d e)) H
def W9(K:XS)(A:Zc):R2:=λx y H Q=>∃d e,Alk d e/\Brs K H d x/\Brs K H e y/\A.units<cLine/\Q (.bl (!eqD d e)) H
theorem T8:OpR X (YK .Eq) (V0 X.K X.A):=by
 intro pins s σ H x y v u Q I rx J ⟨d,e,h,h1,h2,O,q⟩;exact(NQ I h h1 h2 rx J O).1 _ _ _ _ ⟨.bl (eqD d e),H,I,rfl,q⟩
theorem Uo:OpR X (YK .NotEq) (W9 X.K X.A):=by
 intro pins s σ H x y v u Q I rx J ⟨d,e,h,h1,h2,O,q⟩;exact(NQ I h h1 h2 rx J O).2 _ _ _ _ ⟨.bl (!eqD d e),H,I,rfl,q⟩
end
theorem OpR.or{f:Value->Value->Sem Value}{r N:R2}(h:OpR Y f r)(h':OpR Y f N):OpR Y f (λx y H Q=>r x y H Q∨N x y H Q):=λpins s σ H x y v u Q I rx J q=>q.elim (h pins s σ H x y v u Q I rx J) (h' pins s σ H x y v u Q I rx J)
theorem dq.or{f:Value}{N:List V->Hp->VK->Prop}(h:dq Y f r)(h':dq Y f N):dq Y f (λxs H Q=>r xs H Q∨N xs H Q):=λpins s σ H xs us Q I J q=>q.elim (h pins s σ H xs us Q I J) (h' pins s σ H xs us Q I J)
variable{i:Int}
theorem cU:Rep G H W (.int i) (.int i) []:=by rw[Rep];exact⟨rfl,rfl⟩
theorem yj{i:Str}:Rep G H W (.str i) (.str i) []:=by rw[Rep];exact⟨rfl,rfl⟩
theorem fU{i:Bool}:Rep G H W (.bl i) (.bl i) []:=by rw[Rep];exact⟨rfl,rfl⟩
theorem aP(r:Rep G H W (.int i) v L):v= .int i/\L=[]:=by rw[Rep]at r;exact r
theorem bM{i:Str}(r:Rep G H W (.str i) v L):v= .str i/\L=[]:=by rw[Rep]at r;exact r
theorem jm{i:Bool}(r:Rep G H W (.bl i) v L):v= .bl i/\L=[]:=by rw[Rep]at r;exact r
variable{g:Int->Int->V}{U:D->D->Option D}
theorem Gg(h:∀dx F d,U dx F=some d->∃i j,dx= .int i/\F= .int j/\C i j/\∀H W,Rep G H W d (g i j) []):OpV G (rI C g) U:=λdx F d e x y H W N Y rx J nd hn w Q q=>by
 obtain⟨i,j,rfl,rfl,Z,O⟩:=h dx F d e;obtain⟨rfl,rfl⟩:=aP rx;obtain⟨rfl,rfl⟩:=aP J;exact⟨i,j,rfl,rfl,Z,q.scal (λW=>O H W)⟩
theorem zB(h:∀dx F d,U dx F=some d->∃i j,dx= .int i/\F= .int j/\∀H W,Rep G H W d (g i j) []):OpV G (rI0 g) U:=λdx F d e x y H W N Z rx J nd hn w Q q=>by
 obtain⟨i,j,rfl,rfl,O⟩:=h dx F d e;obtain⟨rfl,rfl⟩:=aP rx;obtain⟨rfl,rfl⟩:=aP J;exact⟨i,j,rfl,rfl,q.scal (λW=>O H W)⟩
def lu:D->D->Option D
 |.int a,.int b=>some (.int (a-b))
 |_,_=>none
def g_:D->D->Option D
 |.int a,.int b=>if(-(2 ^ 64)<a/\a<2 ^ 64)∨(-(2 ^ 64)<b/\b<2 ^ 64)then some (.int (a*b))else none
 |_,_=>none
def lL:D->D->Option D
 |.int a,.int b=>if 0<b/\b<18446744073709551616 then some (.int (a / b))else none
 |_,_=>none
def jz:D->D->Option D
 |.int a,.int b=>if 0<b then some (.int (a % b))else none
 |_,_=>none
def lA:D->D->Option D
 |.int a,.int b=>if 0<=b/\b<=1000000/\a.natAbs<2 ^ 64 then some (.int (a ^ b.toNat))else none
 |_,_=>none
theorem Ec:OpB X G (ZR .Sub) lu:=⟨_,λc=>Su,zB λdx F d e=>by
 unfold lu at e;split at e
 .cases e;exact⟨_,_,rfl,rfl,λ_ _=>cU⟩
 .cases e⟩
theorem jU:OpB X G (ZR .Mult) g_:=⟨_,λc=>S9,Gg λdx F d e=>by
 unfold g_ at e;split at e
 .split at e
  .cases e;exact⟨_,_,rfl,rfl,‹_›,λ_ _=>cU⟩
  .cases e
 .cases e⟩
theorem Fx:OpB X G (ZR .FloorDiv) lL:=⟨_,λc=>KJ,Gg λdx F d e=>by
 unfold lL at e;split at e
 .split at e
  .cases e;exact⟨_,_,rfl,rfl,‹_›,λ_ _=>cU⟩
  .cases e
 .cases e⟩
theorem mq:OpB X G (ZR .Mod) jz:=⟨_,λc=>Tc,Gg λdx F d e=>by
 unfold jz at e;split at e
 .split at e
  .cases e;exact⟨_,_,rfl,rfl,‹_›,λ_ _=>cU⟩
  .cases e
 .cases e⟩
theorem zU:OpB X G (ZR .Pow) lA:=⟨_,λc=>Sw,Gg λdx F d e=>by
 unfold lA at e;split at e
 .split at e
  .cases e;exact⟨_,_,rfl,rfl,‹_›,λ_ _=>cU⟩
  .cases e
 .cases e⟩
def nU:D->Option D
 |.int a=>some (.int (-a))
 |_=>none
theorem zG:UnB X G (unaryOp .USub) nU:=⟨_,λc=>Uc,λdx d e x H W N rx nd hn w Q q=>by
 unfold nU at e;split at e
 .cases e
  obtain⟨rfl,rfl⟩:=aP rx;exact⟨_,rfl,q.scal λW=>cU⟩
 .cases e⟩
def bK:D->D->Option D
 |.int a,.int b=>some (.int (a+b))
 |.str a,.str b=>if a.length+b.length<=X3 then some (.str (a++b))else none
 |.lst m a,.lst n b=>if m≠.scr/\n≠.scr/\a.length+b.length<=1000000 then some (.lst .own (a++b))else none
 |.tup a,.tup b=>if a.length+b.length<=1000000 then some (.tup (a++b))else none
 |_,_=>none
variable{ys:List V}
theorem xW{dx F:List D}{N Y O:List Addr}(J:aH G H W dx xs Y)(hy:aH G H W F ys O)(sx:ZZ Y N)(sy:ZZ O Z)(hn:∀a∈N++Z,W.tmp a)(s:Same H H')(q:List Addr)(he:∀a∈q,H a=none):aH G H' ((W.drop (N++Z)).add (q++(Y++O))) (dx++F) (xs++ys) (Y++O):=by
 refine(J.append hy).up ⟨s,λb u U f=>⟨λz=>z.elim (λz=>?_) λz=>f.1 z.1,f.2⟩,λ_ _ _ f=>f⟩;rcases XC.mp z with z|z
 .rw[he b z]at U;cases U
 .rcases XC.mp z with z|z
  .exact f.1 (hn b (X6 _ (sx.subset z))).1
  .exact f.1 (hn b (XD _ (sy.subset z))).1
def VL(K:XS):R2:=λx y H Q=>((rI0 (λi j=>.int (i+j)) x y H Q∨(∃i j,x= .str i/\y= .str j/\i.length+j.length<=X3/\Q (.str (i++j)) H))∨Wx x y H Q)∨Oc K x y H Q
theorem QW:OpV G (VL G.K) bK:=λdx dy d e x y H W Lx Ly rx ry nd hn w Q q=>by
 unfold bK at e;split at e
 .cases e
  obtain⟨rfl,rfl⟩:=aP rx;obtain⟨rfl,rfl⟩:=aP ry;exact .inl (.inl (.inl ⟨_,_,rfl,rfl,q.scal λ_=>cU⟩))
 .split at e
  .cases e
   obtain⟨rfl,rfl⟩:=bM rx;obtain⟨rfl,rfl⟩:=bM ry;exact .inl (.inl (.inr ⟨_,_,rfl,rfl,‹_›,q.scal λ_=>yj⟩))
  .cases e
 .rename_i m a n b
  split at e
  .rename_i Z
   cases e;rw[Rep]at rx ry;obtain⟨p,xs,Y,rfl,J,sx⟩:=rx;obtain⟨U,ys,My,rfl,V,sy⟩:=ry;refine .inl (.inr ⟨p,U,xs,ys,rfl,rfl,sx.at Z.1,sy.at Z.2.1,by rw[←J.length,←V.length];exact aa5 (six Z.2.2),λr O=>?_⟩);have sm:Same H (upd H r (.lst (xs++ys))):=Same.new O;have nr:r∉Y++My:=λz=>by
    obtain⟨o,N,_⟩:=(J.append V).dom r z;rw[O]at N;cases N
   have a1:(Y++My).Nodup:=(sx.sub.append sy.sub).nodup nd;refine q (.ref r) _ (r::(Y++My)) sm ?_ (λc Z=>?_) (Yn.mpr ⟨nr,a1⟩)
   .rw[Rep]
    exact⟨r,xs++ys,Y++My,rfl,xW J V sx.sub sy.sub hn sm [r] (by simpa using O),aU,rfl⟩
   .rcases XJ.mp Z with z|z
    .exact .inr (by rw[z];exact O)
    .exact .inl ((sx.sub.append sy.sub).subset z)
  .cases e
 .rename_i a b
  split at e
  .rename_i Z
   cases e;rw[Rep]at rx ry;obtain⟨p,xs,rfl,F,J⟩:=rx;obtain⟨U,ys,rfl,a0,V⟩:=ry;have base:∀H' p2,Same H H'->H' p2=some (.tup (xs++ys))->Q (.ref p2) H':=λH' p2 sm hq=>by
    refine q (.ref p2) H' (Lx++Ly) sm ?_ (λc Z=>.inl Z) nd;rw[Rep];exact⟨p2,xs++ys,rfl,hq,xW J V (aaU _) (aaU _) hn sm [] (by simp)⟩
   refine .inr ⟨p,U,xs,ys,rfl,rfl,SqT.of F,SqT.of a0,by rw[←J.length,←V.length];exact aa5 (six Z),λz=>base H U (Same.refl H) (by rw[z];exact a0),λ_ z=>base H p (Same.refl H) (by rw[z,Ym];exact F),λ_ _ r O=>base _ r (Same.new O) aU⟩
  .cases e
 .cases e
theorem di(V:∀c,(X c).K=G.K:=by intro _;rfl):OpB X G (ZR .Add) bK:=⟨_,λc=>by rw[←V c];exact OpR.or (OpR.or (OpR.or TX DK) SJ) JW,QW⟩
def gLt:D->D->Option D
 |.int a,.int b=>some (.bl (decide (a<b)))
 |.str a,.str b=>some (.bl (decide (a.cps.toList<b.cps.toList)))
 |_,_=>none
def gLe:D->D->Option D
 |.int a,.int b=>some (.bl (decide (a<=b)))
 |_,_=>none
def gGt:D->D->Option D
 |.int a,.int b=>some (.bl (decide (b<a)))
 |_,_=>none
def gGe:D->D->Option D
 |.int a,.int b=>some (.bl (decide (b<=a)))
 |_,_=>none
theorem GK:OpB X G (YK .Lt) gLt:=⟨_,λc=>OpR.or WF HF,λdx F d e x y H W N Z rx J nd hn w Q q=>by
 unfold gLt at e;split at e
 .cases e
  obtain⟨rfl,rfl⟩:=aP rx;obtain⟨rfl,rfl⟩:=aP J;exact .inl ⟨_,_,rfl,rfl,q.scal λ_=>fU⟩
 .cases e
  obtain⟨rfl,rfl⟩:=bM rx;obtain⟨rfl,rfl⟩:=bM J;exact .inr ⟨_,_,rfl,rfl,q.scal λ_=>fU⟩
 .cases e⟩
theorem Wb:OpB X G (YK .LtE) gLe:=⟨_,λc=>VG,zB λdx F d e=>by
 unfold gLe at e;split at e
 .cases e;exact⟨_,_,rfl,rfl,λ_ _=>fU⟩
 .cases e⟩
theorem M5:OpB X G (YK .Gt) gGt:=⟨_,λc=>Ve,zB λdx F d e=>by
 unfold gGt at e;split at e
 .cases e;exact⟨_,_,rfl,rfl,λ_ _=>fU⟩
 .cases e⟩
theorem Vg:OpB X G (YK .GtE) gGe:=⟨_,λc=>WP,zB λdx F d e=>by
 unfold gGe at e;split at e
 .cases e;exact⟨_,_,rfl,rfl,λ_ _=>fU⟩
 .cases e⟩
def oA:D->Bool
 |.non=>true
 |_=>false
def gIs:D->D->Option D
 |x,.non=>some (.bl (oA x))
 |_,_=>none
theorem Io(r:Rep G H W d v L):decide (v= .non)=oA d:=by
 cases d<;>rw[Rep]at r
 case non=>obtain⟨rfl,_⟩:=r;rfl
 case bl=>obtain⟨rfl,_⟩:=r;rfl
 case int=>obtain⟨rfl,_⟩:=r;rfl
 case str=>obtain⟨rfl,_⟩:=r;rfl
 case ty=>obtain⟨rfl,_⟩:=r;rfl
 case tup=>obtain⟨a,xs,rfl,_⟩:=r;rfl
 case lst=>obtain⟨a,xs,M,rfl,_⟩:=r;rfl
 case dct=>obtain⟨a,xs,M,rfl,_⟩:=r;rfl
 case ins=>obtain⟨a,C,dx,xs,M,rfl,_⟩:=r;rfl
theorem Wv:OpB X G (YK .Is) gIs:=⟨_,λc=>SX,λdx F d e x y H W N Z rx J nd hn w Q q=>by
 unfold gIs at e;split at e
 .cases e
  rw[Rep]at J;exact⟨J.1,by rw[Io rx];exact q.scal λ_=>fU⟩
 .cases e⟩
mutual
noncomputable def dt:D->Dt
 |.non=>.non
 |.bl b=>.bl b
 |.int i=>.int i
 |.str x=>.str x
 |.tup ds=>.tup (dtL ds)
 |.lst _ ds=>.lst (dtL ds)
 |_=>.non
noncomputable def dtL:List D->List Dt
 |[]=>[]
 |d::r=>dt d::dtL r
end
mutual
noncomputable def gJ:D->Bool
 |.ty _=>false
 |.dct _ _ _=>false
 |.ins _ _ _ _=>false
 |.tup ds=>il ds
 |.lst _ ds=>il ds
 |_=>true
noncomputable def il:List D->Bool
 |[]=>true
 |d::r=>gJ d&&il r
end
mutual
theorem Rep.brs{H:Hp}{W:Wn}:∀{d:D}{v:V}{L:List Addr},Rep G H W d v L->gJ d=true->Brs G.K H (dt d) v
 |.non,v,L,r,_=>by rw[Rep]at r;simp[dt,Brs,r]
 |.bl _,v,L,r,_=>by rw[Rep]at r;simp[dt,Brs,r]
 |.int _,v,L,r,_=>by rw[Rep]at r;simp[dt,Brs,r]
 |.str _,v,L,r,_=>by rw[Rep]at r;simp[dt,Brs,r]
 |.ty _,v,L,r,h=>by cases h
 |.dct _ _ _,v,L,r,h=>by cases h
 |.ins _ _ _ _,v,L,r,h=>by cases h
 |.tup ds,v,L,r,h=>by
  rw[Rep]at r;obtain⟨a,xs,rfl,U,O⟩:=r;rw[dt,Brs];exact⟨a,xs,rfl,SqT.of U,aH.brs O h⟩
 |.lst m ds,v,L,r,h=>by
  rw[Rep]at r;obtain⟨a,xs,M,rfl,O,hs⟩:=r;rw[dt,Brs];exact⟨a,xs,rfl,hs.sq,aH.brs O h⟩
theorem aH.brs{H:Hp}{W:Wn}:∀{ds:List D}{vs:List V}{L:List Addr},aH G H W ds vs L->il ds=true->j0 G.K H (dtL ds) vs
 |[],vs,L,r,_=>by obtain⟨rfl,_⟩:=r.inv0;simp[dtL,j0]
 |d::r,vs,L,hr,h=>by
  obtain⟨x,ys,M,M',rfl,rfl,h1,h2⟩:=hr.inv;rw[il,Ys]at h;rw[dtL,j0];exact⟨x,ys,rfl,Rep.brs h1 h.1,aH.brs h2 h.2⟩
end
open Classical in
def gEq:D->D->Option D:=λx y=>if gJ x=true/\gJ y=true/\Alk (dt x) (dt y)then some (.bl (eqD (dt x) (dt y)))else none
open Classical in
def gNe:D->D->Option D:=λx y=>if gJ x=true/\gJ y=true/\Alk (dt x) (dt y)then some (.bl (!eqD (dt x) (dt y)))else none
theorem cb_eq(A:Zc)(Y:∀c,(X c).A=A)(O:A.units+64<cLine)(V:∀c,(X c).K=G.K:=by intro _;rfl):OpB X G (YK .Eq) gEq:=⟨V0 G.K A,λc=>by rw[←V c,←Y c];exact T8,λdx F d e x y H W N Z rx J nd hn w Q q=>by
 unfold gEq at e;split at e
 .rename_i hc
  cases e;exact⟨_,_,hc.2.2,rx.brs hc.1,J.brs hc.2.1,by omega,q.scal λ_=>fU⟩
 .cases e⟩
theorem pC(A:Zc)(Y:∀c,(X c).A=A)(O:A.units+64<cLine)(V:∀c,(X c).K=G.K:=by intro _;rfl):OpB X G (YK .NotEq) gNe:=⟨W9 G.K A,λc=>by rw[←V c,←Y c];exact Uo,λdx F d e x y H W N Z rx J nd hn w Q q=>by
 unfold gNe at e;split at e
 .rename_i hc
  cases e;exact⟨_,_,hc.2.2,rx.brs hc.1,J.brs hc.2.1,by omega,q.scal λ_=>fU⟩
 .cases e⟩
def gIx:D->D->Option D
 |.lst _ ds,.int i=>atI ds i
 |.tup ds,.int i=>atI ds i
 |.str z,.int i=>if z.length<=X3 then(atI z.cps.toList i).map λc=>.str ⟨#[c]⟩else none
 |.dct _ ks ds,k=>(gH k).bind λk=>(gq ks k).bind λj=>ds[j]?
 |_,_=>none
theorem Kc(O:aH G H W ds xs L)(e:atI ds i=some d):∃j:Nat,ds[j]? =some d/\∀x,xs[j]? =some x->atI xs i=some x:=by
 unfold atI at e⊢;rw[←O.length];cases h:ixN ds.length i with
 |none=>simp[h]at e
 |some j=>
  refine⟨j,by simpa[h]using e,λx J=>by simpa using J⟩
variable{x:V}
theorem sH{N:List Addr}(r:Rep G H W d x M)(s:ZZ M N)(nd:(N++Z).Nodup)(hn:∀a∈N++Z,W.tmp a)(q:Done G H W (N++Z) d Q):Q x H:=by
 refine q x H M (Same.refl H) (r.up ⟨Same.refl H,λb u U f=>⟨λz=>z.elim (λz=>f.1 (hn b (X6 _ (s.subset z))).1) λz=>f.1 z.1,f.2⟩,λ_ _ _ f=>f⟩) (λa Y=>.inl (X6 _ (s.subset Y))) (s.nodup (Yb.mp nd).1)
theorem Tv:OpV G (λx y H Q=>rIx G.K x y H Q∨P0 x y H Q) gIx:=λdx dy d e x y H W N Ly rx ry nd hn w Q q=>by
 unfold gIx at e;split at e
 .rename_i m ds i
  obtain⟨rfl,rfl⟩:=aP ry;rw[Rep]at rx;obtain⟨a,xs,M,rfl,O,hs⟩:=rx;obtain⟨j,h1,h2⟩:=Kc O e;obtain⟨z,Mz,F,h4,Y⟩:=O.get h1;exact .inl (.inl ⟨a,xs,i,z,rfl,rfl,hs.sq,h2 z F,sH h4 (Y.trans hs.sub) nd hn q⟩)
 .rename_i ds i
  obtain⟨rfl,rfl⟩:=aP ry;rw[Rep]at rx;obtain⟨a,xs,rfl,U,O⟩:=rx;obtain⟨j,h1,h2⟩:=Kc O e;obtain⟨z,Mz,F,h4,Y⟩:=O.get h1;exact .inl (.inr (.inl ⟨a,xs,i,z,rfl,rfl,SqT.of U,h2 z F,sH h4 Y nd hn q⟩))
 .rename_i z i
  obtain⟨rfl,rfl⟩:=aP ry;obtain⟨rfl,rfl⟩:=bM rx;split at e
  .rename_i hl
   cases h1:atI z.cps.toList i with
   |none=>simp[h1]at e
   |some c=>
    obtain rfl:D.str ⟨#[c]⟩=d:=by simpa[h1]using e
    exact .inl (.inr (.inr ⟨z,i,c,rfl,rfl,hl,h1,q.scal λ_=>yj⟩))
  .cases e
 .rename_i m ks ds
  cases J:gH dy with
  |none=>simp[J]at e
  |some k=>
   cases V:gq ks k with
   |none=>simp[J,V]at e
   |some j=>
    have e':ds[j]? =some d:=by simpa[J,V]using e
    rw[Rep]at rx;obtain⟨a,kvs,M,rfl,⟨rfl,a0⟩,O,hs⟩:=rx;obtain⟨z,Mz,F,h4,Y⟩:=O.get e';have Z:=pL V;rw[F]at Z;refine .inr ⟨a,z,rfl,.inl ⟨kvs,k,hs.rdD,mj ry J,Z.symm⟩,sH h4 (Y.trans hs.sub) nd hn q⟩
 .cases e
theorem ixb(O:∀c,(X c).A.units+1<cLine)(V:∀c,(X c).K=G.K:=by intro _;rfl):IxB X G gIx:=⟨_,λc=>by rw[←V c];exact NB (O c),Tv⟩
def scV:D->Option V
 |.non=>some .non
 |.bl b=>some (.bl b)
 |.int i=>some (.int i)
 |.str x=>some (.str x)
 |_=>none
def wO:List D->Option (List V)
 |[]=>some []
 |d::r=>(scV d).bind λv=>(wO r).map λt=>v::t
theorem zP{u:V}(r:Rep G H W d v L)(h:scV d=some u):v=u/\lM u=true:=by
 cases d<;>simp[scV]at h<;>subst h<;>rw[Rep]at r<;>exact⟨r.1,rfl⟩
theorem wD:∀{ds:List D}{vs us:List V}{L:List Addr},aH G H W ds vs L->wO ds=some us->vs=us/\us.all lM=true
 |[],vs,us,L,r,h=>by
  cases h;exact⟨r.inv0.1,rfl⟩
 |d::t,vs,us,L,r,h=>by
  obtain⟨x,ys,M,M',rfl,rfl,h1,h2⟩:=r.inv;rw[wO]at h;cases e1:scV d with
  |none=>simp[e1]at h
  |some v=>
   cases e2:wO t with
   |none=>simp[e1,e2]at h
   |some w=>
    obtain rfl:v::w=us:=by simpa[e1,e2]using h
    obtain⟨rfl,J⟩:=zP h1 e1;obtain⟨rfl,N⟩:=wD h2 e2;exact⟨rfl,by simp[J,N]⟩
def Ru(x y:Str):Bool:=!(Za y x 0 y.length 1).isEmpty
def uI:D->D->Option Bool
 |x,.lst _ ds=>(scV x).bind λv=>(wO ds).map λvs=>inV v vs
 |x,.tup ds=>(scV x).bind λv=>(wO ds).map λvs=>inV v vs
 |.str x,.str y=>some (Ru x y)
 |x,.dct _ ks _=>(gH x).map λk=>(gq ks k).isSome
 |_,_=>none
def gIn(x y:D):Option D:=(uI x y).map .bl
def kZ(x y:D):Option D:=(uI x y).map λb=>.bl !b
theorem D_(O:Y.A.units+1<cLine):OpR Y (YK .In) (λx y H Q=>∃a o,y= .ref a/\sI H a x o/\Q (.bl o.isSome) H):=λpins s σ H x y v u Q I rx J h=>by
 obtain⟨a,o,rfl,g,q⟩:=h;cases J;exact Xn O I g rx λN U=>⟨.bl o.isSome,H,U,rfl,q⟩
theorem wU(O:Y.A.units+1<cLine):OpR Y (YK .NotIn) (λx y H Q=>∃a o,y= .ref a/\sI H a x o/\Q (.bl (!o.isSome)) H):=λpins s σ H x y v u Q I rx J h=>by
 obtain⟨a,o,rfl,g,q⟩:=h;cases J;exact Qh O I g rx λN U=>⟨.bl (!o.isSome),H,U,rfl,q⟩
theorem Og{dx F:D}{y:V}{Lx:List Addr}(e:uI dx F=some b)(rx:Rep G H W dx x Lx)(J:Rep G H W F y Z) :
  (∃p xs,y= .ref p/\(SqL G.K H p xs∨SqT G.K H p xs)/\lM x=true/\xs.all lM=true/\b=inV x xs)∨(∃i j,x= .str i/\y= .str j/\b=Ru i j)∨(∃a o,y= .ref a/\sI H a x o/\b=o.isSome):=by
 unfold uI at e;split at e
 .rename_i m ds
  cases e1:scV dx with
  |none=>simp[e1]at e
  |some v=>
   cases e2:wO ds with
   |none=>simp[e1,e2]at e
   |some vs=>
    obtain rfl:inV v vs=b:=by simpa[e1,e2]using e
    rw[Rep]at J;obtain⟨a,xs,M,rfl,O,hs⟩:=J;obtain⟨rfl,Y⟩:=zP rx e1;obtain⟨rfl,N⟩:=wD O e2;exact .inl ⟨a,_,rfl,.inl hs.sq,Y,N,rfl⟩
 .rename_i ds
  cases e1:scV dx with
  |none=>simp[e1]at e
  |some v=>
   cases e2:wO ds with
   |none=>simp[e1,e2]at e
   |some vs=>
    obtain rfl:inV v vs=b:=by simpa[e1,e2]using e
    rw[Rep]at J;obtain⟨a,xs,rfl,U,O⟩:=J;obtain⟨rfl,Y⟩:=zP rx e1;obtain⟨rfl,N⟩:=wD O e2;exact .inl ⟨a,_,rfl,.inr (SqT.of U),Y,N,rfl⟩
 .cases e
  obtain⟨rfl,_⟩:=bM rx;obtain⟨rfl,_⟩:=bM J;exact .inr (.inl ⟨_,_,rfl,rfl,rfl⟩)
 .rename_i m ks ds
  cases e1:gH dx with
  |none=>simp[e1]at e
  |some k=>
   have e':(gq ks k).isSome=b:=by simpa[e1]using e
   rw[Rep]at J;obtain⟨a,kvs,M,rfl,⟨rfl,q⟩,O,hs⟩:=J;refine .inr (.inr ⟨a,lW kvs k,rfl,.inl ⟨kvs,k,hs.rdD,mj rx e1,rfl⟩,?_⟩);rw[←e'];cases hj:gq (kvs.map (·.1)) k with
   |none=>rw[xJ hj];rfl
   |some j=>
    rw[pL hj,XX (by simpa using uG hj)];rfl
 .cases e
def Xu(K:XS):R2:=λx y H Q=>(rIn K false x y H Q∨(∃i j,x= .str i/\y= .str j/\Q (.bl (!(Za j i 0 j.length 1).isEmpty)) H))∨∃a o,y= .ref a/\sI H a x o/\Q (.bl o.isSome) H
def Oq(K:XS):R2:=λx y H Q=>(rIn K true x y H Q∨(∃i j,x= .str i/\y= .str j/\Q (.bl (!(!(Za j i 0 j.length 1).isEmpty))) H))∨∃a o,y= .ref a/\sI H a x o/\Q (.bl (!o.isSome)) H
theorem RW(O:∀c,(X c).A.units+1<cLine)(V:∀c,(X c).K=G.K:=by intro _;rfl):OpB X G (YK .In) gIn:=⟨Xu G.K,λc=>by rw[←V c];exact OpR.or (OpR.or Il Hy) (D_ (O c)),λdx dy d e x y H W N Z rx J nd hn w Q q=>by
 unfold gIn at e;cases h1:uI dx dy with
 |none=>simp[h1]at e
 |some b=>
  obtain rfl:D.bl b=d:=by simpa[h1]using e
  have U:Q (.bl b) H:=q.scal λ_=>fU;rcases Og h1 rx J with⟨p,xs,rfl,h2,F,Y,rfl⟩|⟨i,j,rfl,rfl,rfl⟩|⟨a,o,rfl,h2,rfl⟩
  .exact .inl (.inl ⟨p,xs,rfl,h2,F,Y,U⟩)
  .exact .inl (.inr ⟨i,j,rfl,rfl,U⟩)
  .exact .inr ⟨a,o,rfl,h2,U⟩⟩
theorem BJ(O:∀c,(X c).A.units+1<cLine)(V:∀c,(X c).K=G.K:=by intro _;rfl):OpB X G (YK .NotIn) kZ:=⟨Oq G.K,λc=>by rw[←V c];exact OpR.or (OpR.or zr yX) (wU (O c)),λdx dy d e x y H W N Z rx J nd hn w Q q=>by
 unfold kZ at e;cases h1:uI dx dy with
 |none=>simp[h1]at e
 |some b=>
  obtain rfl:D.bl (!b)=d:=by simpa[h1]using e
  have U:Q (.bl (!b)) H:=q.scal λ_=>fU;rcases Og h1 rx J with⟨p,xs,rfl,h2,F,Y,rfl⟩|⟨i,j,rfl,rfl,rfl⟩|⟨a,o,rfl,h2,rfl⟩
  .exact .inl (.inl ⟨p,xs,rfl,h2,F,Y,U⟩)
  .exact .inl (.inr ⟨i,j,rfl,rfl,U⟩)
  .exact .inr ⟨a,o,rfl,h2,U⟩⟩
theorem aH.inv1(r:aH G H W [d] xs L):∃x,xs=[x]/\Rep G H W d x L:=by
 obtain⟨x,ys,M,M',rfl,rfl,h1,h2⟩:=r.inv;obtain⟨rfl,rfl⟩:=h2.inv0;exact⟨x,rfl,by rw[Ym];exact h1⟩
theorem aH.inv2{e:D}(r:aH G H W [d,e] xs L):∃x y M N,xs=[x,y]/\L=M++N/\Rep G H W d x M/\Rep G H W e y N:=by
 obtain⟨x,ys,M,M',rfl,rfl,h1,h2⟩:=r.inv;obtain⟨y,rfl,F⟩:=h2.inv1;exact⟨x,y,M,M',rfl,rfl,h1,F⟩
def cQ:List D->Option D
 |[.lst _ ds]=>some (.int ds.length)
 |[.tup ds]=>some (.int ds.length)
 |[.str z]=>if z.length<=X3 then some (.int z.length)else none
 |[.dct m _ ds]=>if m= .scr then none else some (.int ds.length)
 |_=>none
theorem fP(F:∀c,(X c).K=G.K:=by intro _;rfl):CaB X G (.builtin "len") cQ:=⟨λxs H Q=>((∃p ys,xs=[.ref p]/\(SqL G.K H p ys∨SqT G.K H p ys)/\Q (.int ys.length) H)∨∃z,xs=[.str z]/\z.length<=X3/\Q (.int z.length) H)∨∃a kvs,xs=[V.ref a]/\H a=some (.dK kvs)/\Q (.int kvs.length) H,λc=>by rw[←F c];exact dq.or (dq.or yz yD) Ir,λds d e xs H W Z r nd hn w Q q=>by
 unfold cQ at e;split at e
 .cases e
  obtain⟨x,rfl,rx⟩:=r.inv1;rw[Rep]at rx;obtain⟨a,ys,M,rfl,O,hs⟩:=rx;exact .inl (.inl ⟨a,ys,rfl,.inl hs.sq,by rw[←O.length];exact q.scal λ_=>cU⟩)
 .cases e
  obtain⟨x,rfl,rx⟩:=r.inv1;rw[Rep]at rx;obtain⟨a,ys,rfl,U,O⟩:=rx;exact .inl (.inl ⟨a,ys,rfl,.inr (SqT.of U),by rw[←O.length];exact q.scal λ_=>cU⟩)
 .split at e
  .cases e
   obtain⟨x,rfl,rx⟩:=r.inv1;obtain⟨rfl,rfl⟩:=bM rx;exact .inl (.inr ⟨_,rfl,‹_›,q.scal λ_=>cU⟩)
  .cases e
 .split at e
  .cases e
  .cases e
   obtain⟨x,rfl,rx⟩:=r.inv1;rw[Rep]at rx;obtain⟨a,kvs,M,rfl,J,O,hs⟩:=rx;exact .inr ⟨a,kvs,rfl,hs.at ‹_›,by have:=O.length;simp at this;rw[←this];exact q.scal λ_=>cU⟩
 .cases e⟩
def oH:List D->Option D
 |[.int i]=>some (.int (if i<0 then -i else i))
 |_=>none
theorem GD:CaB X G (.builtin "abs") oH:=⟨_,λc=>N7,λds d e xs H W Z r nd hn w Q q=>by
 unfold oH at e;split at e
 .cases e
  obtain⟨x,rfl,rx⟩:=r.inv1;obtain⟨rfl,rfl⟩:=aP rx;exact⟨_,rfl,q.scal λ_=>cU⟩
 .cases e⟩
def sY:List D->Option D
 |[.int i]=>some (.int i)
 |[.bl k]=>some (.int (if k then 1 else 0))
 |_=>none
theorem QX:CaB X G (.type "int") sY:=⟨_,λc=>Jm,λds d e xs H W Z r nd hn w Q q=>by
 unfold sY at e;split at e
 .cases e
  obtain⟨x,rfl,rx⟩:=r.inv1;obtain⟨rfl,rfl⟩:=aP rx;exact .inl ⟨_,rfl,q.scal λ_=>cU⟩
 .cases e
  obtain⟨x,rfl,rx⟩:=r.inv1;obtain⟨rfl,rfl⟩:=jm rx;exact .inr ⟨_,rfl,q.scal λ_=>cU⟩
 .cases e⟩
def jr:List D->Option D
 |[.int i,.int j]=>some (.int (if j<i then j else i))
 |_=>none
def A_:List D->Option D
 |[.int i,.int j]=>some (.int (if j>i then j else i))
 |_=>none
theorem Cm(Z:∀c,(X c).calm=true):CaB X G (.builtin "min") jr:=⟨_,λc=>Je (Z c),λds d e xs H W F r nd hn w Q q=>by
 unfold jr at e;split at e
 .cases e
  obtain⟨x,y,M,N,rfl,rfl,rx,J⟩:=r.inv2;obtain⟨rfl,rfl⟩:=aP rx;obtain⟨rfl,rfl⟩:=aP J;exact⟨_,_,rfl,q.scal λ_=>cU⟩
 .cases e⟩
theorem Bq(Z:∀c,(X c).calm=true):CaB X G (.builtin "max") A_:=⟨_,λc=>Hf (Z c),λds d e xs H W F r nd hn w Q q=>by
 unfold A_ at e;split at e
 .cases e
  obtain⟨x,y,M,N,rfl,rfl,rx,J⟩:=r.inv2;obtain⟨rfl,rfl⟩:=aP rx;obtain⟨rfl,rfl⟩:=aP J;exact⟨_,_,rfl,q.scal λ_=>cU⟩
 .cases e⟩
variable{p:Addr}
theorem Jh(O:aH G H W ds xs M)(s:ZZ M Z)(nd:Z.Nodup)(hn:∀a∈Z,W.tmp a)(F:H p=none)(q:Done G H W Z (.lst .own ds) Q):Q (.ref p) (upd H p (.lst xs)):=by
 have J:Same H (upd H p (.lst xs)):=Same.new F;have np:p∉M:=λz=>by obtain⟨o,N,_⟩:=O.dom p z;rw[F]at N;cases N
 refine q (.ref p) _ (p::M) J ?_ (λa Y=>(XJ.mp Y).elim (λz=>.inr (by rw[z];exact F)) λz=>.inl (s.subset z)) (Yn.mpr ⟨np,s.nodup nd⟩);rw[Rep];exact⟨p,xs,M,rfl,O.up ⟨J,λb u U f=>⟨λz=>z.elim (λz=>(XJ.mp z).elim (λz=>by rw[z,F]at U;cases U) λz=>f.1 (hn b (s.subset z)).1) λz=>f.1 z.1,f.2⟩,λ_ _ _ f=>f⟩,aU,rfl⟩
theorem wZ(O:aH G H W ds xs M)(s:ZZ M Z)(nd:Z.Nodup)(hn:∀a∈Z,W.tmp a)(F:H p=none)(q:Done G H W Z (.tup ds) Q):Q (.ref p) (upd H p (.tup xs)):=by
 have J:Same H (upd H p (.tup xs)):=Same.new F;refine q (.ref p) _ M J ?_ (λa Y=>.inl (s.subset Y)) (s.nodup nd);rw[Rep];exact⟨p,xs,rfl,aU,O.up ⟨J,λb u U f=>⟨λz=>z.elim (λz=>f.1 (hn b (s.subset z)).1) λz=>f.1 z.1,f.2⟩,λ_ _ _ f=>f⟩⟩
theorem oR(O:Rep G H W d x M)(s:ZZ M Z)(nd:Z.Nodup)(hn:∀a∈Z,W.tmp a)(q:Done G H W Z d Q):Q x H:=by
 refine q x H M (Same.refl H) (O.up ⟨Same.refl H,λb u U f=>⟨λz=>z.elim (λz=>f.1 (hn b (s.subset z)).1) λz=>f.1 z.1,f.2⟩,λ_ _ _ f=>f⟩) (λa Y=>.inl (s.subset Y)) (s.nodup nd)
def g8:List D->Option D
 |[.lst _ ds]=>some (.tup ds)
 |[.tup ds]=>some (.tup ds)
 |_=>none
theorem xf(V:∀c,(X c).K=G.K:=by intro _;rfl):CaB X G (.type "tuple") g8:=⟨λxs H Q=>∃p ys,xs=[.ref p]/\((SqL G.K H p ys/\∀l,H l=none->Q (.ref l) (upd H l (.tup ys)))∨(SqT G.K H p ys/\Q (.ref p) H)),λc=>by rw[←V c];exact wH,λds d e xs H W Z r nd hn w Q q=>by
 unfold g8 at e;split at e
 .cases e
  obtain⟨x,rfl,rx⟩:=r.inv1;rw[Rep]at rx;obtain⟨a,ys,M,rfl,O,hs⟩:=rx;exact⟨a,ys,rfl,.inl ⟨hs.sq,λp F=>wZ O hs.sub nd hn F q⟩⟩
 .cases e
  obtain⟨x,rfl,rx⟩:=r.inv1;have Y:=rx;rw[Rep]at rx;obtain⟨a,ys,rfl,U,O⟩:=rx;exact⟨a,ys,rfl,.inr ⟨SqT.of U,oR Y (aaU _) nd hn q⟩⟩
 .cases e⟩
def tyN:D->Option String
 |.non=>some "NoneType"
 |.bl _=>some "bool"
 |.int _=>some "int"
 |.str _=>some "str"
 |.tup _=>some "tuple"
 |.lst m _=>if m= .scr then none else some "list"
 |.dct m _ _=>if m= .scr then none else some "dict"
 |_=>none
def okT(n:String):Bool:=n=="int"||n=="bool"||n=="str"||n=="list"||n=="tuple"
def isT(t n:String):Bool:=t==n||(t=="bool"&&n=="int")
variable{t:String}
theorem Fd{K:XS}{n:String}(h1:tyN d=some t)(h2:okT n=true):acU K (.type t) (.type n)=some (isT t n):=by
 have U:t="NoneType"∨t="bool"∨t="int"∨t="str"∨t="tuple"∨t="list"∨t="dict":=by
  cases d<;>simp[tyN]at h1<;>(try split at h1)<;>simp_all
 have hn:n="int"∨n="bool"∨n="str"∨n="list"∨n="tuple":=by simpa[okT,or_assoc]using h2
 rcases U with rfl|rfl|rfl|rfl|rfl|rfl|rfl<;>rcases hn with rfl|rfl|rfl|rfl|rfl<;>with_unfolding_all rfl
theorem CG(r:Rep G H W d v L)(h:tyN d=some t):lU G.K H v (.type t):=by
 cases d with
 |non=>rw[Rep]at r;obtain⟨rfl,_⟩:=r;cases h;exact .non
 |bl b=>rw[Rep]at r;obtain⟨rfl,_⟩:=r;cases h;exact .bl _
 |int b=>rw[Rep]at r;obtain⟨rfl,_⟩:=r;cases h;exact .int _
 |str b=>rw[Rep]at r;obtain⟨rfl,_⟩:=r;cases h;exact .str _
 |ty n=>cases h
 |tup ds=>rw[Rep]at r;obtain⟨a,xs,rfl,U,O⟩:=r;cases h;exact .tup U
 |lst m ds=>
  rw[Rep]at r;obtain⟨a,xs,M,rfl,O,hs⟩:=r;simp![tyN]at h;split at h
  .cases h
  .cases h;exact .lst (hs.at ‹_›)
 |dct m ks ds=>
  rw[Rep]at r;obtain⟨a,xs,M,rfl,J,O,hs⟩:=r;simp![tyN]at h;split at h
  .cases h
  .cases h;exact .dK (hs.at ‹_›)
 |ins m c fs ds=>cases h
def Bo:List D->Option (List String)
 |[]=>some []
 |.ty n::r=>(Bo r).map λt=>n::t
 |_::_=>none
theorem xR:∀{ds:List D}{vs:List V}{L:List Addr}{ns:List String},aH G H W ds vs L->Bo ds=some ns->vs=ns.map V.ty
 |[],vs,L,ns,r,h=>by cases h;rw[r.inv0.1];rfl
 |d::t,vs,L,ns,r,h=>by
  obtain⟨x,ys,M,M',rfl,rfl,h1,h2⟩:=r.inv;cases d<;>simp[Bo]at h;obtain⟨w,F,rfl⟩:=h;rw[Rep]at h1;rw[h1.1,xR h2 F];rfl
theorem uX{K:XS}(h1:tyN d=some t):∀{ns:List String},ns.all okT=true->acZ K (.type t) (ns.map Z_)=some (ns.any (isT t))
 |[],_=>rfl
 |n::r,h=>by
  rw[abI,Ys]at h;rw[XH,acZ,Fd h1 h.1];cases e:isT t n with
  |true=>simp[e]
  |false=>simp![e];rw[uX h1 h.2];simp[e]
def dN:List D->Option D
 |[x,.ty n]=>(tyN x).bind λt=>if okT n=true then some (.bl (isT t n))else none
 |[x,.tup ts]=>(tyN x).bind λt=>(Bo ts).bind λns=>if ns.all okT=true then some (.bl (ns.any (isT t)))else none
 |_=>none
theorem d9(Y:∀c,(X c).K=G.K:=by intro _;rfl):CaB X G (.builtin "isinstance") dN:=⟨λxs H Q=>(∃x n t b,xs=[x,.ty n]/\lU G.K H x t/\acU G.K t (.type n)=some b/\Q (.bl b) H)∨∃x tp F t b,xs=[x,.ref tp]/\H tp=some (.tup (List.map V.ty F))/\lU G.K H x t/\acZ G.K t (F.map Z_)=some b/\Q (.bl b) H,λc=>by rw[←Y c];exact dq.or Ci y_,λds d e xs H W Z r nd hn w Q q=>by
 unfold dN at e;split at e
 .rename_i x n
  cases e1:tyN x with
  |none=>simp[e1]at e
  |some t=>
   rw[e1]at e;simp![Xz]at e;split at e
   .cases e
    obtain⟨u,v,M,N,rfl,rfl,rx,J⟩:=r.inv2;rw[Rep]at J;obtain⟨rfl,_⟩:=J;exact .inl ⟨u,n,_,_,rfl,CG rx e1,Fd e1 ‹_›,q.scal λ_=>fU⟩
   .cases e
 .rename_i x ts
  cases e1:tyN x with
  |none=>simp[e1]at e
  |some t=>
   cases e2:Bo ts with
   |none=>simp[e1,e2]at e
   |some ns=>
    rw[e1,e2]at e;simp![Xz]at e;split at e
    .cases e
     obtain⟨u,v,M,N,rfl,rfl,rx,J⟩:=r.inv2;rw[Rep]at J;obtain⟨a,ys,rfl,U,O⟩:=J;have:=xR O e2;subst this;exact .inr ⟨u,a,ns,_,_,rfl,U,CG rx e1,uX e1 ‹_›,q.scal λ_=>fU⟩
    .cases e
 .cases e⟩
theorem Lh{a1:List V}{a0:List D}{M0 N M1 R:List Addr}(O:aH G H W a0 a1 M1)(rr:Rep G H W res x R)(F:aA a0=true)(k2:aB a0=true)(kr:clean res=true)
  (Y:a∉M1++R) (nd:(M1++R).Nodup) (sub:∀b∈M1++R,b∈M0∨b∈N)
  (q:∀x H' M' R,(∀b u,H b=some u->b∉a::M0->H' b=some u)->(∀W',Evo H H' W W'->Rep G H' W' (.lst .own a0) (.ref a) M'/\Rep G H' W' res x R)->(M'++R).Nodup->(∀b∈M'++R,b∈a::M0∨b∈N∨H b=none)->clean (.lst .own a0)=true->clean res=true->Q x H'):Q x (upd H a (.lst a1)):=by
 have a2:=(by simpa[clean]using kr:az res=true/\au res=true);refine q x _ (a::M1) R (λb u U n=>by rw[aM (show b≠a from λz=>n (by rw[z];simp))];exact U) (λW' J=>⟨?_,?_⟩) ?_ (λb U=>?_) (qU F k2) kr
 .rw[Rep]
  exact⟨a,a1,M1,rfl,GZ O F k2 (λz=>Y (X6 _ z)) J,aU,rfl⟩
 .exact rr.mono J (.inl a2.1) (.inl a2.2) λc Z u hu=>by rw[aM (show c≠a from λz=>Y (XD _ (z▸Z)))];exact hu
 .rw[Yv]
  exact Yn.mpr ⟨Y,nd⟩
 .rw[Yv]at U
  rcases XJ.mp U with z|z
  .exact .inl (by simp[z])
  .exact(sub b z).imp (λz=>Yi _ z) .inl
theorem lr(h:aA ds=true):∀d∈ds,az d=true:=λd hd=>let⟨i,hi⟩:=aeF hd;iz h hi
theorem lC(h:aB ds=true):∀d∈ds,au d=true:=λd hd=>let⟨i,hi⟩:=aeF hd;iG h hi
theorem bu:∀{ds:List D},(∀d∈ds,az d=true)->aA ds=true
 |[],_=>rfl
 |d::r,h=>by rw[aA,h d (by simp),bu λe V=>h e (by simp[V])];rfl
theorem bf:∀{ds:List D},(∀d∈ds,au d=true)->aB ds=true
 |[],_=>rfl
 |d::r,h=>by rw[aB,h d (by simp),bf λe V=>h e (by simp[V])];rfl
theorem aH.revL:∀{ds:List D}{xs:List V}{L:List Addr},aH G H W ds xs L->∃M,aH G H W ds.reverse xs.reverse M/\Yu M L
 |[],xs,L,r=>by obtain⟨rfl,rfl⟩:=r.inv0;exact⟨[],.nil,.refl _⟩
 |d::t,xs,L,r=>by
  obtain⟨x,ys,M,M',rfl,rfl,h1,h2⟩:=r.inv;obtain⟨N,F,q⟩:=aH.revL h2;refine⟨N++M,?_,(q.append_right M).trans aaN⟩;rw[ab_,ab_];exact F.append (.one h1)
def jN:D->List D->Option (D×D)
 |.lst .own ds,[.int i]=>if ds.length<1000000 then(ixN ds.length i).bind λk=>(ds[k]?).map λe=>(.lst .own (ds.eraseIdx k),e)else none
 |_,_=>none
theorem aH.erase(h:aH G H W ds xs L)(e:ds[j]? =some d):∃x M N,xs[j]? =some x/\Rep G H W d x M/\aH G H W (ds.eraseIdx j) (xs.eraseIdx j) N/\Yu (N++M) L:=by
 obtain⟨A,B,x,ys,zs,J,M,U,rfl,Z,rfl,Y,rfl,h1,h2,F⟩:=h.at e;refine⟨x,M,J++U,by rw[Zv (by omega),Y,aa9];rfl,h2,?_,?_⟩
 .have e1:(A++d::B).eraseIdx j=A++B:=by rw[acq (by omega),Z,aa9];rfl
  have e2:(ys++x::zs).eraseIdx j=ys++zs:=by rw[acq (by omega),Y,aa9];rfl
  rw[e1,e2];exact h1.append F
 .rw[aat]
  exact List.Perm.append_left J aaN
theorem yf(h:d∈ds.eraseIdx k):d∈ds:=(List.eraseIdx_sublist ds k).subset h
theorem LK{e:D}{M0 N:List Addr}(O:aH G H W ds ys M0)(nd:((a::M0)++N).Nodup)(Z:clean (.lst .own ds)=true)(hk:ds[k]? =some e)
  (q:∀x H' M' R,(∀b u,H b=some u->b∉a::M0->H' b=some u)->(∀W',Evo H H' W W'->Rep G H' W' (.lst .own (ds.eraseIdx k)) (.ref a) M'/\Rep G H' W' e x R)->(M'++R).Nodup->(∀b∈M'++R,b∈a::M0∨b∈N∨H b=none)->clean (.lst .own (ds.eraseIdx k))=true->clean e=true->Q x H'):∃y,ys[k]? =some y/\Q y (upd H a (.lst (ys.eraseIdx k))):=by
 obtain⟨F,Y⟩:=nA Z;obtain⟨x,M,L,J,rx,rl,pm⟩:=O.erase hk;have a0:=Yb.mp nd;have hn:=Yn.mp a0.1;refine⟨x,J,Lh (M0:=M0) (N:=N) rl rx (bu λd hd=>lr F d (yf hd)) (bf λd hd=>lC Y d (yf hd)) (by simp[clean,iz F hk,iG Y hk]) (λz=>hn.1 (pm.mem_iff.mp z)) (pm.nodup_iff.mpr hn.2) (λb U=>.inl (pm.mem_iff.mp U)) q⟩
theorem HY:MuV G Ni jN:=λd es d' res h v xs H W M N r re nd F Z c1 c2 Q q=>by
 unfold jN at h;split at h
 .rename_i ds i
  split at h
  .rename_i hl
   cases h1:ixN ds.length i with
   |none=>simp[h1]at h
   |some k=>
    cases h2:ds[k]? with
    |none=>simp[h1,h2]at h
    |some e=>
     obtain⟨rfl,rfl⟩:D.lst .own (ds.eraseIdx k)=d'/\e=res:=by simpa[h1,h2]using h
     rw[Rep]at r;obtain⟨a,ys,M0,rfl,O,Y,rfl⟩:=r;obtain⟨x,rfl,J⟩:=re.inv1;obtain⟨rfl,rfl⟩:=aP J;obtain⟨U,g2,g3,g4⟩:=yw h1;obtain⟨y,V,q'⟩:=LK O nd Z h2 q;exact⟨a,ys,i,k,y,rfl,rfl,Y,by omega,by omega,by rw[←O.length];exact U,V,q'⟩
  .cases h
 .cases h
theorem Jc:MuB X G "list" "list.pop" jN:=⟨_,λc=>N8,HY,Ln rfl λd es q e=>by
 unfold jN at e;split at e
 .exact⟨_,_,rfl⟩
 .cases e⟩
theorem aH.takeDrop(h:aH G H W ds xs L)(k:Nat):∃A B,aH G H W (ds.take k) (xs.take k) A/\aH G H W (ds.drop k) (xs.drop k) B/\L=A++B:=by
 rw[←acG k ds]at h;obtain⟨ys,zs,A,B,rfl,rfl,h1,h2⟩:=h.split;have Y:=h1.length;by_cases J:k<=ds.length
 .have hk':ys.length=k:=by rw[←Y,aa6];omega
  refine⟨A,B,?_,?_,rfl⟩
  .rw[←hk',List.take_left,hk'];exact h1
  .rw[←hk',List.drop_left,hk'];exact h2
 .have e1:ds.take k=ds:=abq (by omega)
  have e2:ds.drop k=[]:=abr (by omega);rw[e1]at h1 Y;rw[e2]at h2;obtain⟨rfl,rfl⟩:=h2.inv0;refine⟨A,[],?_,?_,by simp⟩
  .rw[e1,Ym,abq (by omega)];exact h1
  .rw[e2,Ym,abr (by omega)];exact .nil
def bA:List Key->List D->List (Key×D)->List Key×List D
 |ks,ds,[]=>(ks,ds)
 |ks,ds,p::r=>bA (gR ks ds p.1 p.2).1 (gR ks ds p.1 p.2).2 r
variable{k:Key}
theorem Oo{N:List Addr}(O:aH G H W ds (List.map (·.2) kvs) M)(hn:(List.map (·.1) kvs).Nodup)(J:Rep G H W d x N)(nd:(M++N).Nodup) :
  (List.map (·.1) (putK kvs k x)=(gR (List.map (·.1) kvs) ds k d).1/\(List.map (·.1) (putK kvs k x)).Nodup)/\(putK kvs k x).length<=kvs.length+1/\∃M',aH G H W (gR (List.map (·.1) kvs) ds k d).2 (List.map (·.2) (putK kvs k x)) M'/\M'.Nodup/\∀a∈M',a∈M∨a∈N:=by
 have U:=Yb.mp nd;cases hj:gq (kvs.map (·.1)) k with
 |some j=>
  have Z:j<ds.length:=by rw[O.length];simpa using uG hj
  obtain⟨A,q,B,a2,a0⟩:=O.set (XX Z) J;obtain⟨p1,p2⟩:=Av (v:=x) hj hn;have F:ZZ (A++B) M:=by rw[a2];exact(aaU A).append (Z3 q B)
  have n3:=Yb.mp (F.nodup U.1);have a1:∀z∈N,z∉A++B:=λz h1 h2=>U.2.2 z (F.subset h2) z h1 rfl;simp![gR,hj];refine⟨⟨p1,by rw[p1];exact hn⟩,?_,A++(N++B),by rw[p2];exact a0,dO n3.1 (dO U.2.1 n3.2.1 λz h1 h2=>a1 z h1 (by simp[h2])) λz h1 h2=>?_,λa Y=>?_⟩
  .have:(putK kvs k x).length=kvs.length:=by have:=congrArg Z0 p1;simpa using this
   omega
  .rcases XC.mp h2 with y|y
   .exact a1 z y (by simp[h1])
   .exact n3.2.2 z h1 z y rfl
  .simp![XC]at Y
   rcases Y with z|z|z
   .exact .inl (F.subset (by simp[z]))
   .exact .inr z
   .exact .inl (F.subset (by simp[z]))
 |none=>
  simp![gR,hj];have e:putK kvs k x=kvs++[(k,x)]:=mK hj;rw[e];refine⟨⟨by simp,?_⟩,by simp,M++N,by rw[YB];exact O.append (.one J),nd,λa Y=>XC.mp Y⟩;rw[YB];exact Yb.mpr ⟨hn,by simp,λa h1 b h2 z=>by
   obtain rfl:b=k:=by simpa using h2
   exact vL hj (z▸h1)⟩
theorem oU{H:Hp}{W:Wn}:∀{es:List (Key×D)}{prs kvs:List (Key×V)}{ds:List D}{M N:List Addr},List.map (·.1) es=List.map (·.1) prs->aH G H W (List.map (·.2) es) (List.map (·.2) prs) N->aH G H W ds (List.map (·.2) kvs) M->(List.map (·.1) kvs).Nodup->(M++N).Nodup->
  (List.map (·.1) (putAll kvs prs)=(bA (List.map (·.1) kvs) ds es).1/\(List.map (·.1) (putAll kvs prs)).Nodup)/\∃M',aH G H W (bA (List.map (·.1) kvs) ds es).2 (List.map (·.2) (putAll kvs prs)) M'/\M'.Nodup/\∀a∈M',a∈M∨a∈N
 |[],prs,kvs,ds,M,N,hk,h1,h2,hn,nd=>by
  have:prs=[]:=by cases prs with
   |nil=>rfl
   |cons p r=>cases hk
  subst this;exact⟨⟨rfl,hn⟩,M,h2,(Yb.mp nd).1,λa Y=>.inl Y⟩
 |e::es,prs,kvs,ds,M,N,hk,h1,h2,hn,nd=>by
  cases prs with
  |nil=>cases hk
  |cons p prs=>
   obtain⟨x,ys,N1,N2,a2,rfl,J,a3⟩:=aH.inv h1;simp![XH,afL]at hk a2;obtain⟨rfl,rfl⟩:=a2;have a0:=Yb.mp nd;have a1:=Yb.mp a0.2.1;have nd1:(M++N1).Nodup:=dO a0.1 a1.1 λa z1 z2=>a0.2.2 a z1 a (by simp[z2]) rfl;obtain⟨⟨q1,q2⟩,q,M1,q4,q5,q6⟩:=Oo (k:=p.1) h2 hn J nd1;have a4:(M1++N2).Nodup:=dO q5 a1.2.1 λa z1 z2=>by
    rcases q6 a z1 with z|z
    .exact a0.2.2 a z a (by simp[z2]) rfl
    .exact a1.2.2 a z a z2 rfl
   rw[←hk.1]at q1 q2 q4;have Z:=oU (es:=es) (prs:=prs) (kvs:=putK kvs e.1 p.2) hk.2 a3 q4 q2 a4;rw[q1]at Z;obtain⟨⟨U,F⟩,M',O,r4,r5⟩:=Z;have a5:putAll kvs (p::prs)=putAll (putK kvs e.1 p.2) prs:=by rw[hk.1];rfl
   rw[a5];refine⟨⟨U,F⟩,M',O,r4,λa Y=>?_⟩;rcases r5 a Y with z|z
   .exact(q6 a z).imp id λz=>by simp[z]
   .exact .inr (by simp[z])
theorem jO(P:D->Prop):∀{es:List (Key×D)}{ks:List Key}{ds:List D},(∀d∈ds,P d)->(∀p∈es,P p.2)->∀d∈(bA ks ds es).2,P d
 |[],ks,ds,h1,h2=>h1
 |p::r,ks,ds,h1,h2=>by
  rw[bA];refine jO P (λd hd=>?_) λq N=>h2 q (by simp[N]);unfold gR at hd;split at hd
  .rcases List.mem_or_eq_of_mem_set hd with z|z
   .exact h1 d z
   .rw[z];exact h2 p (by simp)
  .rcases XC.mp hd with z|z
   .exact h1 d z
   .obtain rfl:d=p.2:=by simpa using z
    exact h2 p (by simp)
def rB:List D->Option (List (Key×D))
 |[]=>some []
 |.tup [k,v]::r=>(gH k).bind λk=>(rB r).map λt=>(k,v)::t
 |_::_=>none
theorem Cu:∀{ds:List D}{es:List (Key×D)},rB ds=some es->∀p∈es,∃k,gH k=some p.1/\D.tup [k,p.2]∈ds
 |[],es,h,p,hp=>by cases h;cases hp
 |d::r,es,h,p,hp=>by
  unfold rB at h;split at h
  .rename_i e;cases e
  .rename_i k v t e
   cases e;cases h1:gH k with
   |none=>simp[h1]at h
   |some F=>
    cases h2:rB r with
    |none=>simp[h1,h2]at h
    |some w=>
     obtain rfl:(F,v)::w=es:=by simpa[h1,h2]using h
     rcases XJ.mp hp with z|z
     .subst z;exact⟨k,h1,by simp⟩
     .obtain⟨k2,g1,g2⟩:=Cu h2 p z
      exact⟨k2,g1,by simp[g2]⟩
  .cases h
theorem Ny{k:D}{q:Key}(h:gH k=some q)(r:Rep G H W k x L):L=[]:=by
 cases k<;>simp[gH]at h<;>rw[Rep]at r<;>exact r.2
theorem wz{H:Hp}{W:Wn}:∀{ds:List D}{es:List (Key×D)}{ys:List V}{N:List Addr},rB ds=some es->aH G H W ds ys N->∃prs:List (Key×V),List.map (·.1) es=List.map (·.1) prs/\aH G H W (List.map (·.2) es) (List.map (·.2) prs) N/\prs.length=ys.length/\∀(j:Nat)(k:Key)(v:V),prs[j]? =some (k,v)->∃p:Addr,ys[j]? =some (V.ref p)/\H p=some (.tup [kV k,v])
 |[],es,ys,N,h,r=>by
  cases h;obtain⟨rfl,rfl⟩:=r.inv0;exact⟨[],rfl,.nil,rfl,λj k v e=>by simp at e⟩
 |d::r,es,ys,N,h,rr=>by
  unfold rB at h;split at h
  .rename_i e;cases e
  .rename_i k v t e
   cases e;cases h1:gH k with
   |none=>simp[h1]at h
   |some F=>
    cases h2:rB r with
    |none=>simp[h1,h2]at h
    |some w=>
     obtain rfl:(F,v)::w=es:=by simpa[h1,h2]using h
     obtain⟨x,zs,N1,N2,rfl,rfl,J,hz⟩:=rr.inv;obtain⟨prs,g1,Z,q,O⟩:=wz h2 hz;rw[Rep]at J;obtain⟨a,xs,rfl,U,a1⟩:=J;obtain⟨y1,y2,A,B,rfl,rfl,a0,a2⟩:=a1.inv2;have Y:=Ny h1 a0;subst Y;have:=mj a0 h1;subst this;refine⟨(F,y2)::prs,by simp[g1],.cons a2 Z,by simp[q],λj k v e=>?_⟩;cases j with
     |zero=>
      simp at e;obtain⟨rfl,rfl⟩:=e;exact⟨a,rfl,U⟩
     |succ j=>exact O j k v (by simpa using e)
  .cases h
theorem dJ.at2{F:Addr->HO->Prop}(h:dJ F H W a o m L M)(J:(m== .scr)=false):H a=some o:=h.at (by intro z;rw[z]at J;cases J)
def wj:List D->Option D
 |[.lst m ds]=>if(m== .scr)=false/\ds.length<=50000 then(rB ds).map λes=>.dct .own (bA [] [] es).1 (bA [] [] es).2 else none
 |_=>none
theorem NP(Z:∀c,(X c).calm=true):CaB X G (.type "dict") wj:=⟨_,λc=>uo (Z c),λds d e xs H W L0 r nd hn w Q q=>by
 unfold wj at e;split at e
 .rename_i m ds
  split at e
  .rename_i hm
   cases h1:rB ds with
   |none=>simp[h1]at e
   |some es=>
    obtain rfl:D.dct .own (bA [] [] es).1 (bA [] [] es).2=d:=by simpa[h1]using e
    obtain⟨x,rfl,rx⟩:=r.inv1;rw[Rep]at rx;obtain⟨a,ys,M,rfl,O,hs⟩:=rx;obtain⟨prs,g1,g2,g3,g4⟩:=wz h1 O;have V:M.Nodup:=hs.sub.nodup nd;obtain⟨⟨p1,p2⟩,M',p3,p4,p5⟩:=oU (kvs:=[]) (M:=[]) g1 g2 .nil (by simp) (by simpa using V);refine⟨a,ys,prs,rfl,hs.at2 hm.1,g3,by rw[g3,←O.length];exact hm.2,g4,λp F=>?_⟩;have J:Same H (upd H p (.dK (putAll [] prs))):=Same.new F;have np:p∉M':=λz=>by obtain⟨o,N,_⟩:=p3.dom p z;rw[F]at N;cases N
    have a0:∀a∈M',a∈L0:=λa Y=>(p5 a Y).elim (λz=>by cases z) λz=>hs.sub.subset z;refine q (.ref p) _ (p::M') J ?_ (λa Y=>(XJ.mp Y).elim (λz=>.inr (by rw[z];exact F)) λz=>.inl (a0 a z)) (Yn.mpr ⟨np,p4⟩);rw[Rep];exact⟨p,putAll [] prs,M',rfl,⟨p1,p1▸p2⟩,p3.up ⟨J,λb u U f=>⟨λz=>z.elim (λz=>(XJ.mp z).elim (λz=>by rw[z,F]at U;cases U) λz=>f.1 (hn b (a0 b z)).1) λz=>f.1 z.1,f.2⟩,λ_ _ _ f=>f⟩,aU,rfl⟩
  .cases e
 .cases e⟩
def jl:D->List D->Option (D×D)
 |.dct .own ks ds,[.lst m es]=>if(m== .scr)=false/\ks.length+es.length<=50000 then(rB es).map λps=>(.dct .own (bA ks ds ps).1 (bA ks ds ps).2,.non)else none
 |.dct .own ks ds,[.dct m ks2 es]=>if(m== .scr)=false/\ks.length+ks2.length<=50000 then some (.dct .own (bA ks ds (ks2.zip es)).1 (bA ks ds (ks2.zip es)).2,.non)else none
 |_,_=>none
theorem xZ(h1:aA ds=true)(h2:aB ds=true):clean (.dct .own ks ds)=true:=by simp[clean,az,au,h1,h2]
theorem Bm{prs:List (Key×V)}{es:List (Key×D)}{M0 N N0:List Addr}(J:List.map (·.1) es=List.map (·.1) prs)(h1:aH G H W (List.map (·.2) es) (List.map (·.2) prs) N)(hs:∀b∈N,b∈N0)(O:aH G H W ds (List.map (·.2) kvs) M0)(hn:(List.map (·.1) kvs).Nodup)(a4:N.Nodup)(nd:((a::M0)++N0).Nodup)
  (Z:aA ds=true/\aB ds=true) (ce:∀p∈es,az p.2=true/\au p.2=true)
  (q:∀x H' M' R,(∀b u,H b=some u->b∉a::M0->H' b=some u)->(∀W',Evo H H' W W'->Rep G H' W' (.dct .own (bA (List.map (·.1) kvs) ds es).1 (bA (List.map (·.1) kvs) ds es).2) (.ref a) M'/\Rep G H' W' .non x R)->(M'++R).Nodup->(∀b∈M'++R,b∈a::M0∨b∈N0∨H b=none)->clean (.dct .own (bA (List.map (·.1) kvs) ds es).1 (bA (List.map (·.1) kvs) ds es).2)=true->clean .non=true->Q x H'):Q .non (upd H a (.dK (putAll kvs prs))):=by
 have a0:=Yb.mp nd;have a1:=Yn.mp a0.1;have a3:(M0++N).Nodup:=dO a1.2 a4 λb z1 z2=>a0.2.2 b (Yi _ z1) b (hs b z2) rfl;obtain⟨⟨p1,p2⟩,M',p3,p4,p5⟩:=oU J h1 O hn a3;have a2:a∉M':=λz=>(p5 a z).elim a1.1 λz=>a0.2.2 a (by simp) a (hs a z) rfl;have k1:aA (bA (List.map (·.1) kvs) ds es).2=true:=bu (jO (λd=>az d=true) (lr Z.1) λp F=>(ce p F).1);have Y:aB (bA (List.map (·.1) kvs) ds es).2=true:=bf (jO (λd=>au d=true) (lC Z.2) λp F=>(ce p F).2);refine q .non _ (a::M') [] (λb u U n=>by rw[aM (show b≠a from λz=>n (by rw[z];simp))];exact U) (λW' ev=>⟨?_,qQ⟩) (by rw[Ym];exact Yn.mpr ⟨a2,p4⟩) (λb U=>?_) (xZ k1 Y) rfl
 .rw[Rep]
  refine⟨a,putAll kvs prs,M',rfl,⟨p1,p1▸p2⟩,p3.mono ev (.inl k1) (.inl Y) λc Z u hu=>?_,aU,rfl⟩;rw[aM (show c≠a from λz=>a2 (z▸Z))];exact hu
 .rw[Ym]at U
  rcases XJ.mp U with z|z
  .exact .inl (by simp[z])
  .exact(p5 b z).imp (λz=>Yi _ z) λz=>.inl (hs b z)
theorem Pn(h:ks.length=ds.length):List.map (·.1) (ks.zip ds)=ks:=afG (by omega)
theorem O_(h:ks.length=ds.length):List.map (·.2) (ks.zip ds)=ds:=afH (by omega)
theorem DN:MuV G Ff jl:=λd es d' res h v xs H W M N r re nd hM Z c1 c2 Q q=>by
 unfold jl at h;split at h
 .rename_i ks ds m es
  split at h
  .rename_i hm
   cases h1:rB es with
   |none=>simp[h1]at h
   |some ps=>
    obtain⟨rfl,rfl⟩:D.dct .own (bA ks ds ps).1 (bA ks ds ps).2=d'/\D.non=res:=by simpa[h1]using h
    rw[Rep]at r;obtain⟨a,kvs,M0,rfl,⟨rfl,a1⟩,O,Y,rfl⟩:=r;obtain⟨x,rfl,rx⟩:=re.inv1;rw[Rep]at rx;obtain⟨b,ys,N1,rfl,V,hs⟩:=rx;obtain⟨prs,g1,g2,g3,g4⟩:=wz h1 V;have kc:aA ds=true/\aB ds=true:=by simp[clean,az,au]at Z;exact Z
    have ke:aA es=true/\aB es=true:=by simp[aA,aB,az,au]at c1 c2;exact⟨c1.2,c2.2⟩
    have a0:=Yb.mp nd;refine⟨a,kvs,rfl,Y,.inl ⟨b,ys,prs,rfl,hs.at2 hm.1,g3,by rw[g3,←V.length];simpa using hm.2,g4,Bm g1 g2 (λc Z=>hs.sub.subset Z) O a1 (hs.sub.nodup a0.2.1) nd kc (λp F=>?_) q⟩⟩;obtain⟨k,_,J⟩:=Cu h1 p F;have z1:=lr ke.1 _ J;have z2:=lC ke.2 _ J;simp[az,au,aA,aB]at z1 z2;exact⟨z1.2,z2.2⟩
  .cases h
 .rename_i ks ds m ks2 es
  split at h
  .rename_i hm
   cases h;rw[Rep]at r;obtain⟨a,kvs,M0,rfl,⟨rfl,a1⟩,O,Y,rfl⟩:=r;obtain⟨x,rfl,rx⟩:=re.inv1;rw[Rep]at rx;obtain⟨b,more,N1,rfl,⟨rfl,a4⟩,V,hs⟩:=rx;have kc:aA ds=true/\aB ds=true:=by simp[clean,az,au]at Z;exact Z
   have ke:aA es=true/\aB es=true:=by simp[aA,aB,az,au]at c1 c2;exact⟨c1.2,c2.2⟩
   have a2:(List.map (·.1) more).length=es.length:=by rw[V.length];simp
   have U:H b=some (.dK more):=hs.at2 hm.1;have a0:=Yb.mp nd;have a3:b≠a:=by
    cases m with
    |own=>exact λz=>a0.2.2 a (by simp) a (by rw[hs.2,z];simp) rfl
    |frz=>exact λz=>hM a (by simp) (z▸hs.2.1)
    |brw=>simp[aA,az]at c1
    |bro=>simp[aB,au]at c2
    |scr=>exact absurd hm.1 (by decide)
   refine⟨a,kvs,rfl,Y,.inr ⟨b,more,rfl,a3,U,by simpa using hm.2,Bm (es:=(List.map (·.1) more).zip es) (Pn a2) (by rw[O_ a2];exact V) (λc Z=>hs.sub.subset Z) O a1 (hs.sub.nodup a0.2.1) nd kc (λp F=>?_) q⟩⟩;have J:=(acL F).2;exact⟨lr ke.1 _ J,lC ke.2 _ J⟩
  .cases h
 .cases h
theorem S7{op:D->List D->Option (D×D)}(V:T="dict")(h:∀d es q,op d es=some q->∃ks ds,d= .dct .own ks ds):IK G T op:=λd es q e v H W L r=>by
 obtain⟨ks,ds,rfl⟩:=h d es q e;rw[Rep]at r;obtain⟨a,xs,M,rfl,J,O,hs⟩:=r;exact .inr (.inr (.inl ⟨V,.inl ⟨_,hs.1⟩⟩))
theorem Df(Z:∀c,(X c).calm=true):MuB X G "dict" "dict.update" jl:=⟨_,λc=>Jf (Z c),DN,S7 rfl λd es q e=>by
 unfold jl at e;split at e
 .exact⟨_,_,rfl⟩
 .exact⟨_,_,rfl⟩
 .cases e⟩
def eMt(g:D->List D->Option D)(q:En->Option D)(f:En->Option (List D)):En->Option D:=λρ=>(q ρ).bind λx=>(f ρ).bind λds=>g x ds
theorem Wf{id:String}{g:D->List D->Option D}{o:Expr}{f:En->Option (List D)}(m:MtB X G T id g)(O:aex T)(slot:Slot T nm id)(Z:typeOf (.builtin id)=pure (.type "method_descriptor"))(N:PV X G ob o fo)(Y:PVA X G ob (e::es) f)(F:∀c,adf o nm (X c).env (eval o (X c).env)=eval o (X c).env:=by intro _;rfl)(U:∀c,((aah cpos (X_ (e::es) (X c).env)).all (λx=>!x.1)&&(backToKw cpos (ad9 [] (X c).env)).all (λx=>x.1.isSome)
  &&decide ((e::es).length+([]:List acX).length+(if([]:List acX).isEmpty then 0 else 1)<30))=true:=by intro _;rfl) (J:(apos.endLine==cpos.line)=true:=by rfl) (hs:∀c,X_ (e::es) (X c).env=(false,eval e (X c).env)::X_ es (X c).env:=by intro _;rfl) (q:∀c,(aah cpos (X_ es (X c).env)).any (·.1)=false:=by intro _;rfl) (V:∀c,(X c).K=G.K:=by intro _;rfl) :
 PV X G ob (.Call (.Attribute o nm apos) (e::es) [] cpos) (eMt g fo f):=let⟨r,m1,m2,m3⟩:=m.ex;let⟨t,a1,a2⟩:=N.ex;let⟨u,b1,b2⟩:=Y.ex;⟨_,λc=>(by rw[←V c];exact Nx O slot Z (m1 c) (a1 c) (b1 c) (F c) (U c) J (hs c) (q c)),VD m2 m3 a2 b2⟩
def zz(a b:Str):Option (List Str):=
 if(decide (a.length<b.length)||decide (abN a<abN b))=false/\(b.length==0)=false/\(Za a b 0 a.length (a.length+1)).isEmpty=false/\a.length<=X3/\(abZ a (Za a b 0 a.length (a.length+1)) b.length).length<=X3
 then some (abZ a (Za a b 0 a.length (a.length+1)) b.length)else none
def vP:D->List D->Option D
 |.str a,[.str b]=>(zz a b).map λl=>.lst .own (l.map D.str)
 |_,_=>none
theorem Bl:∀l:List Str,aH G H W (l.map D.str) (l.map V.str) []
 |[]=>.nil
 |x::r=>aH.cons (M:=[]) (M':=[]) (by rw[Rep];exact⟨rfl,rfl⟩) (Bl r)
theorem Hm:MtB X G "str" "str.split" vP:=⟨_,λc=>JM,λdx ds d e x xs H W N Z rx r nd hn w Q q=>(by
 unfold vP at e;split at e
 .rename_i a b
  cases h1:zz a b with
  |none=>simp[h1]at e
  |some l=>
   obtain rfl:D.lst .own (l.map D.str)=d:=by simpa[h1]using e
   obtain⟨y,rfl,J⟩:=r.inv1;obtain⟨rfl,rfl⟩:=bM rx;obtain⟨rfl,rfl⟩:=bM J;unfold zz at h1;split at h1
   .rename_i hh
    cases h1;refine⟨a,b,_,rfl,rfl,hh.1,hh.2.1,hh.2.2.1,hh.2.2.2.1,rfl,hh.2.2.2.2,λp F=>?_⟩;refine q (.ref p) _ [p] (Same.new F) ?_ (λa Y=>.inr (by rw[show a=p by simpa using Y];exact F)) (by simp);rw[Rep];exact⟨p,_,[],rfl,Bl _,aU,rfl⟩
   .cases h1
 .cases e),λdx ds d e x H W N rx=>by
 unfold vP at e;split at e
 .obtain⟨rfl,rfl⟩:=bM rx
  exact rfl
 .cases e⟩
def RfO(G:Gc)(ob:Nat->Bool)(t:TO)(f:En->Option (Option Int)):Prop:=∀(ρ:En)(o:Option Int),f ρ=some o->∀(σ:L2.St)(H:Hp)(W:Wn),Rel G H W ob ρ σ->WOk H W->∀Q:Option Int->Hp->Prop,(∀H',Same H H'->Q o H')->t σ H Q
structure PVO{ι:Type}(X:ι->Cx)(G:Gc)(ob:Nat->Bool)(e:Option Expr)(f:En->Option (Option Int)):Prop where
 mk::(ex:∃t,(∀c,PO (X c) e t)/\RfO G ob t f)
def qp:En->Option (Option Int):=λ_=>some none
def oF(f:En->Option D):En->Option (Option Int):=λρ=>(f ρ).bind λd=>match d with
 |.int i=>some (some i)
 |_=>none
theorem pX:PVO X G ob none qp:=⟨_,λc=>Px,λρ o e σ H W V w Q q=>by cases e;exact q H (Same.refl H)⟩
variable{f:En->Option D}
theorem pI(h:PV X G ob e f):PVO X G ob (some e) (oF f):=let⟨t,a1,a2⟩:=h.ex;⟨_,λc=>Qj (a1 c),λρ o e σ H W V w Q q=>by
 unfold oF at e;cases h1:f ρ with
 |none=>simp[h1]at e
 |some d=>
  rw[h1]at e;simp![Xz]at e;split at e
  .cases e
   refine a2 ρ _ h1 σ H W V w _ λv H' L s r fr nd=>?_;obtain⟨rfl,rfl⟩:=aP r;exact⟨_,rfl,q H' s⟩
  .cases e⟩
def SlV(G:Gc)(r:V->Option Int->Option Int->Hp->VK->Prop)(g:D->Option Int->Option Int->Option D):Prop:=∀(dx:D)(lo hi:Option Int)(d:D),g dx lo hi=some d->∀(x:V)(H:Hp)(W:Wn)(N:List Addr),Rep G H W dx x N->N.Nodup->(∀a∈N,W.tmp a)->WOk H W->∀Q:VK,Done G H W N d Q->r x lo hi H Q
structure SlB{ι:Type}(X:ι->Cx)(G:Gc)(g:D->Option Int->Option Int->Option D):Prop where
 ex:∃r,(∀c,SlR (X c) r)/\SlV G r g
def La(g:D->Option Int->Option Int->Option D)(f:En->Option D)(q F:En->Option (Option Int)):En->Option D:=λρ=>(f ρ).bind λx=>(q ρ).bind λl=>(F ρ).bind λh=>g x l h
def Fy(g:D->Option Int->Option Int->Option D)(f:En->Option (D×En))(q F:En->Option (Option Int)):En->Option (D×En):=λρ=>(f ρ).bind λp=>(q p.2).bind λl=>(F p.2).bind λh=>(g p.1 l h).map λd=>(d,p.2)
variable{r:V->Option Int->Option Int->Hp->VK->Prop}{g:D->Option Int->Option Int->Option D}
theorem V_{tl th:TO}{fl fh:En->Option (Option Int)}(N:SlV G r g)(h:RfE G ob te f)(hl:RfO G ob tl fl)(hh:RfO G ob th fh):RfE G ob (tSl r te tl th) (La g f fl fh):=λρ d e σ H W rl w Q q=>by
 unfold La at e;cases h1:f ρ with
 |none=>simp[h1]at e
 |some x=>
  cases h2:fl ρ with
  |none=>simp[h1,h2]at e
  |some l=>
   cases F:fh ρ with
   |none=>simp[h1,h2,F]at e
   |some u=>
    have e:g x l u=some d:=by simpa[h1,h2,F]using e
    refine h ρ x h1 σ H W rl w _ λv H1 L O r1 fr nd=>?_;have u1:Up H H1 W (W.add L):=.add O fr;have w1:WOk H1 (W.add L):=w.add O r1.dom;refine hl ρ l h2 σ H1 _ (rl.up u1) w1 _ λH2 Z=>?_;have u2:Up H1 H2 (W.add L) (W.add L):=.same Z;have w2:WOk H2 (W.add L):=λa Y=>let⟨o,N,hm⟩:=w1 a Y;⟨o,Z a o N,hm⟩;refine hh ρ u F σ H2 _ ((rl.up u1).up u2) w2 _ λJ s3=>?_;have u3:Up H2 J (W.add L) (W.add L):=.same s3;have w3:WOk J (W.add L):=λa Y=>let⟨o,N,hm⟩:=w2 a Y;⟨o,s3 a o N,hm⟩;have ss:=(O.trans Z).trans s3;refine N x l u d e v J _ L ((r1.up u2).up u3) nd (w.tmp fr) w3 Q λv' H4 L4 s4 r4 f4 n4=>?_;refine q v' H4 L4 (ss.trans s4) ?_ (λa Y=>(f4 a Y).elim (fr a) λz=>ss.none' z) n4;exact r4.up ⟨Same.refl _,λb u U f=>⟨λz=>z.elim (λz=>f.1 (.inl z)) λz=>f.1 (.inr ⟨.inr z,WOk.new w fr z⟩),f.2⟩,λ_ _ _ f=>f⟩
variable{f:En->Option (D×En)}
theorem R4{tl th:TO}{fl fh:En->Option (Option Int)}(N:SlV G r g)(h:jQ G ob te f)(hl:RfO G ob tl fl)(hh:RfO G ob th fh):jQ G ob (tSl r te tl th) (Fy g f fl fh):=λρ d Z e σ H S Fr s Q q=>by
 unfold Fy at e;cases h1:f ρ with
 |none=>simp[h1]at e
 |some p=>
  obtain⟨x,ρ1⟩:=p;cases h2:fl ρ1 with
  |none=>simp[h1,h2]at e
  |some l=>
   cases F:fh ρ1 with
   |none=>simp[h1,h2,F]at e
   |some u=>
    cases h4:g x l u with
    |none=>simp[h1,h2,F,h4]at e
    |some d'=>
     obtain⟨rfl,rfl⟩:d'=d/\ρ1=Z:=by simpa[h1,h2,F,h4]using e
     refine h ρ x _ h1 σ H S Fr s _ λv H1 L S1 O rx nd ef=>?_;refine hl _ l h2 σ H1 _ O.rel O.wok _ λH2 k2=>?_;have s2:=O.grow k2 λa z=>.inl z;refine hh _ u F σ H2 _ s2.rel s2.wok _ λJ k3=>?_;have s3:=s2.grow k3 λa z=>.inl z;have a0:Eff ob H J S S1 L:=⟨λb u U n=>k3 b u (k2 b u (ef.kp b u U n)),ef.sn,ef.gr,ef.fm⟩;refine N x l u _ h4 v J _ L ((rx.up (.same k2)).up (.same k3)) nd (λa Y=>s3.tmp (.inl Y)) s3.wok Q λv' H4 L4 s4 r4 f4 n4=>?_;obtain⟨q1,q2,q3⟩:=MT s3 a0 s4 r4 f4 s;exact q v' H4 L4 S1 q1 q2 n4 q3
def cutD(ds:List D)(lo hi:Option Int):List D:=(ds.drop (HT.sIx ds.length 0 lo)).take (HT.sIx ds.length ds.length hi-HT.sIx ds.length 0 lo)
def gSl:D->Option Int->Option Int->Option D
 |.lst _ ds,lo,hi=>some (.lst .own (cutD ds lo hi))
 |.tup ds,lo,hi=>some (.tup (cutD ds lo hi))
 |_,_,_=>none
theorem aH.cut(h:aH G H W ds xs L)(lo hi:Option Int):∃M,aH G H W (cutD ds lo hi) (vX xs lo hi) M/\ZZ M L:=by
 unfold cutD vX;rw[h.length];obtain⟨A,B,_,h2,rfl⟩:=h.takeDrop (HT.sIx xs.length 0 lo);obtain⟨Y,q,F,_,rfl⟩:=h2.takeDrop (HT.sIx xs.length xs.length hi-HT.sIx xs.length 0 lo);exact⟨Y,F,(aa_ Y q).trans (Z3 A _)⟩
theorem slb(V:∀c,(X c).K=G.K:=by intro _;rfl):SlB X G gSl:=⟨λx lo hi H Q=>WK G.K x lo hi H Q∨Vq G.K x lo hi H Q,λc=>by rw[←V c];exact SlR.or Qn R7,λdx lo hi d e x H W N rx nd hn w Q q=>by
 unfold gSl at e;split at e
 .cases e
  rw[Rep]at rx;obtain⟨a,xs,M,rfl,O,hs⟩:=rx;obtain⟨M',h1,h2⟩:=O.cut lo hi;exact .inl ⟨a,xs,rfl,hs.sq,λp F=>Jh h1 (h2.trans hs.sub) nd hn F q⟩
 .rename_i ds
  cases e;have Y:=rx;rw[Rep]at rx;obtain⟨a,xs,rfl,U,O⟩:=rx;obtain⟨M',h1,h2⟩:=O.cut lo hi;refine .inr ⟨a,xs,rfl,SqT.of U,λJ=>?_,λp F=>wZ h1 h2 nd hn F q⟩;rw[J]at h1;refine oR (d:=.tup (cutD ds lo hi)) (x:=.ref a) (M:=M') ?_ h2 nd hn q;rw[Rep];exact⟨a,xs,rfl,U,h1⟩
 .cases e⟩
def eSl:=La gSl
def Jy:=Fy gSl
theorem Cp{lo hi:Option Expr}{p2:Pos}{f:En->Option D}{q F:En->Option (Option Int)}(o:SlB X G gSl)(h:PV X G ob e f)(Y:PVO X G ob lo q)(O:PVO X G ob hi F):PV X G ob (.Subscript e (.Slice lo hi none p2) pos) (eSl f q F):=let⟨r,o1,o2⟩:=o.ex;let⟨t,a1,a2⟩:=h.ex;let⟨u,b1,b2⟩:=Y.ex;let⟨v,c1,c2⟩:=O.ex;⟨_,λc=>Aj (o1 c) (a1 c) (b1 c) (c1 c),V_ o2 a2 b2 c2⟩
theorem xN{lo hi:Option Expr}{p2:Pos}{q F:En->Option (Option Int)}(o:SlB X G gSl)(h:PVe X G ob e f)(Y:PVO X G ob lo q)(O:PVO X G ob hi F):PVe X G ob (.Subscript e (.Slice lo hi none p2) pos) (Jy f q F):=let⟨r,o1,o2⟩:=o.ex;let⟨t,a1,a2⟩:=h.ex;let⟨u,b1,b2⟩:=Y.ex;let⟨v,c1,c2⟩:=O.ex;⟨_,λc=>Aj (o1 c) (a1 c) (b1 c) (c1 c),R4 o2 a2 b2 c2⟩
def inK(S:List Key)(k:Key):Bool:=S.any λx=>decide (x=k)
def rH(S:List Key)(k:Key):List Key:=if inK S k then S else S++[k]
def Ue(ks:List Key):List Key:=ks.foldl rH []
variable{S:List Key}
theorem kO:inK S k=true↔k∈S:=by
 unfold inK;rw[acz];constructor
 .rintro⟨x,h1,h2⟩
  rw[←of_decide_eq_true h2];exact h1
 .exact λh=>⟨k,h,by simp⟩
theorem QH{x:Key}:inK (rH S k) x=(inK S x||decide (x=k)):=by
 rw[abQ,acN,kO,kO,decide_eq_true_iff];unfold rH;split
 .rename_i h
  rw[kO]at h;exact⟨.inl,λz=>z.elim id λz=>by rw[z];exact h⟩
 .simp
theorem BW:(rH S k).length=if inK S k then S.length else S.length+1:=by
 unfold rH;split<;>simp
theorem M4{P:YG}{w:World}(r:RelV (kV k) u):u.scannable=true:=by
 cases k with
 |inl i=>obtain⟨t,rfl⟩:=r;rfl
 |inr x=>obtain⟨t,rfl⟩:=r;rfl
noncomputable abbrev nR(q:Bool):Obj:={cls:=.type "set",dict:=none,data:=.set #[] 0 (.fresh 0 0 q)}
variable{bs:List Bool}
theorem range_all:((Yp bs.length).all λi=>bs.getD i true)=bs.all id:=by
 induction bs with
 |nil=>rfl
 |cons b r Z=>
  rw[Yj,aco,abI,ae7,abI,←Z];rfl
theorem Wg(J:Vals (bs.map V.bl) its){i:Nat}{v:Value}(h:its.toArray[i]? =some v):v= .bool (bs.getD i true):=by
 have h:its[i]? =some v:=by simpa using h
 have Y:=J.length;rw[X5]at Y;have hi:i<bs.length:=by rw[Y];exact(XF.mp h).1
 obtain⟨u,h1,h2⟩:=J.get (show(bs.map V.bl)[i]? =some (V.bl bs[i])by rw[List.getElem?_map,XX hi];rfl);rw[h]at h1;cases h1;cases h2;simp[List.getD,hi]
variable{X:Cx}
theorem Iz{s:Mx}{xs:List V}(I:Inv X pins σ H s)(F:s.heap.IsList a its.toArray) :
  a≠s.heap.objs.size:=by
 obtain⟨o,h,_⟩:=F;exact X8 (XR h)
theorem Jv(Z:X.calm=true):dq X (.builtin "all") (λxs H Q=>∃a bs,xs=[.ref a]/\SqL X.K H a (List.map V.bl bs)/\Q (.bl (List.all bs id)) H):=by
 intro pins s σ H xs us Q I r h;obtain⟨a,bs,rfl,N,q⟩:=h;obtain⟨u,rfl,ru⟩:=vals1 r;cases ru;obtain⟨its,J,F,hz⟩:=I.list N;have O:X.A.handled=none:=I.ok.hd Z;have ne:a≠s.heap.objs.size:=Iz (xs:=[]) I F.isList;have Y:=J.length;rw[X5]at Y;refine call_all_walk (aaT F.isList ⟨s.heap.objs.size,[s.heap.objs.size,a],[s.heap.objs.size],its.toArray.size,_,_,λi=>bs.getD i true,rfl,afM (show X.A.in1.handled=none from O) s.heap.objs.size a ne its.toArray,⟨⟨_,X4 _ rfl,rfl,rfl⟩,F.isList.push _⟩,λi v s2 Q2 E2 U hQ=>?_,λh' tk kp=>?_⟩)
 .rw[Wg J U]
  exact aab hQ
 .rw[List.size_toArray,←Y,range_all]
  exact⟨.bl _,H,I.kept (t':=tk) λb o e=>kp b o (by simp;exact X8 (XR e)) (qb _ e),rfl,q⟩
section
variable{X:Cx}{e es:Expr}{te ts:TE}{p2 pos:Pos}
def K1(K:XS):R2:=λx y H Q=>Vs K x y H Q∨∃a xs,x= .ref a/\SqL K H a xs/\y= .int (-1)/\∀p,H p=none->Q (.ref p) (upd H p (.lst xs.reverse))
theorem K_(V:PE X e te)(hs:PE X es ts):PE X (.Subscript e (.Slice none none (some es) p2) pos) (tOp (K1 X.K) te ts):=by
 intro pins s σ H Q I h;refine Subscript_ (thn (V pins s σ H _ I h) λv O ⟨x,H1,F,r1,q1⟩=>?_);refine wpAny_Slice ?_;rw[aeM];refine yr (yr (wpAny_evalPart_some (thn (hs pins O σ H1 _ F q1) λvs Y ⟨y,H2,I2,r2,q2⟩=>?_)));rcases q2 with q2|⟨a,xs,rfl,J,rfl,q⟩
 .have I4:Inv X pins σ H2 {Y with heap:=Y.heap.push {cls:=.type "slice",data:=.fields #[.none,.none,vs]}}:=I2.kept (t':=Y.toks) λb ob q=>qb _ q
  have N:afX (Y.heap.push {cls:=.type "slice",data:=.fields #[.none,.none,vs]}) Y.heap.objs.size .none .none vs:=ac5 ..;obtain⟨a,xs,rfl,J,q⟩:=q2;cases r1;obtain⟨its,r,ht,hz⟩:=I4.tuple J;have U:=r.length;show wpAny (model X.prog X.w) X.A (ade e (.Slice none none (some es) p2) (.ref a) (.ref Y.heap.objs.size)) (EP X pins σ Q) X.xe {Y with heap:=Y.heap.push {cls:=.type "slice",data:=.fields #[.none,.none,vs]}};refine aew (ops:=[.ref a,.ref Y.heap.objs.size]) ht.typeIs Zf.lookup ?_ (by with_unfolding_all rfl);rcases q with⟨rfl,q⟩|⟨rfl,q⟩
  .obtain⟨t,rfl⟩:=r2
   have e1:Y6 none none ((some (1:Int)).getD 1) (its.length:Int)=(0,(its.length:Int)):=rfl;have e2:YX 0 (its.length:Int) ((some (1:Int)).getD 1)=its.length:=by
    show YX ((0:Nat):Int) (its.length:Int) 1=its.length;rw[HT.places_gen];omega
   refine iC (items:=its) (st:=some 1) ht N .none .none (.int 1 t) (by decide) e1 e2 (λ_=>⟨.ref a,H2,I4,rfl,q⟩) (λZ=>absurd ⟨rfl,rfl,rfl⟩ Z) ?_;exact Zq (uW _ _ _ _) (by omega)
  .obtain⟨t,rfl⟩:=r2
   have e1:Y6 none none ((some (-1:Int)).getD 1) (its.length:Int)=((its.length:Int)-1,-1):=rfl;have e2:YX ((its.length:Int)-1) (-1) ((some (-1:Int)).getD 1)=its.length:=by
    show(if(-1:Int)>0 then _ else(if(its.length:Int)-1> -1 then((its.length:Int)-1-(-1)-1) / (- (-1))+1 else 0)).toNat=its.length;rw[Yc (by decide),show(- (-1:Int))=1 by decide,Int.ediv_one];split<;>omega
   refine iC (items:=its) (st:=some (-1)) ht N .none .none (.int (-1) t) (by decide) e1 e2 (λZ=>absurd Z.2.1 (by decide)) (λ_=>?_) ?_
   .show EP X pins σ Q (.ref _) {Y with heap:=Heap.push _ {cls:=.type "tuple",data:=.seq (m5 its ((its.length:Int)-1) (-1) its.length).toArray}}
    rw[Lw];refine⟨.ref _,_,I4.laid (t':=Y.toks) (o:=.tup xs.reverse) (λb ob q=>qb _ q) (XQ _) ?_,rfl,q _ (I4.hok.fresh (XQ _))⟩;exact⟨by rw[aeW];exact hz,_,r.reverse,kW.new _ _⟩
   .exact Zq (uW _ _ _ _) (by omega)
 .have I4:Inv X pins σ H2 {Y with heap:=Y.heap.push {cls:=.type "slice",data:=.fields #[.none,.none,vs]}}:=I2.kept (t':=Y.toks) λb ob q=>qb _ q
  have N:afX (Y.heap.push {cls:=.type "slice",data:=.fields #[.none,.none,vs]}) Y.heap.objs.size .none .none vs:=ac5 ..;cases r1;obtain⟨t,rfl⟩:=r2;obtain⟨its,r,ht,hz⟩:=I4.list J;have U:=r.length;show wpAny (model X.prog X.w) X.A (ade e (.Slice none none (some es) p2) (.ref a) (.ref Y.heap.objs.size)) (EP X pins σ Q) X.xe {Y with heap:=Y.heap.push {cls:=.type "slice",data:=.fields #[.none,.none,.int (-1) t]}};refine aew (ops:=[.ref a,.ref Y.heap.objs.size]) ht.isList.typeIs adm.lookup ?_ (by with_unfolding_all rfl);refine adK ht.isList N .none .none (.int (-1) t) (by decide) ?_ (by rw[List.size_toArray];omega);rw[PySem.W.krv_pick];refine⟨.ref _,_,I4.laid (t':=Y.toks) (o:=.lst xs.reverse) (λb ob q=>qb _ q) (XQ _) ?_,rfl,q _ (I4.hok.fresh (XQ _))⟩;exact⟨by rw[aeW];exact hz,_,0,r.reverse,X4 _ rfl⟩
end
def iV:D->D->Option D
 |.lst _ ds,.int i=>if i= -1 then some (.lst .own ds.reverse)else none
 |.tup ds,.int i=>if i= -1 then some (.tup ds.reverse)else if i=1 then some (.tup ds)else none
 |_,_=>none
theorem JN:OpV G (K1 G.K) iV:=λdx dy d e x y H W Lx Z rx J nd hn w Q q=>by
 unfold iV at e;split at e
 .split at e
  .rename_i hi
   subst hi;cases e;obtain⟨rfl,rfl⟩:=aP J;rw[Rep]at rx;obtain⟨a,xs,M,rfl,O,hs⟩:=rx;obtain⟨M',h1,V⟩:=O.revL;refine .inr ⟨a,xs,rfl,hs.sq,rfl,λp F=>?_⟩;have sm:Same H (upd H p (.lst xs.reverse)):=Same.new F;have hM:∀a∈M',a∈Lx++[]:=λa Y=>by rw[Ym];exact hs.sub.subset (V.mem_iff.mp Y)
   have np:p∉M':=λz=>by obtain⟨o,N,_⟩:=h1.dom p z;rw[F]at N;cases N
   have a0:M'.Nodup:=V.nodup_iff.mpr (hs.sub.nodup (Yb.mp nd).1);refine q (.ref p) _ (p::M') sm ?_ (λa Y=>(XJ.mp Y).elim (λz=>.inr (by rw[z];exact F)) λz=>.inl (hM a z)) (Yn.mpr ⟨np,a0⟩);rw[Rep];exact⟨p,_,M',rfl,h1.up ⟨sm,λb u U f=>⟨λz=>z.elim (λz=>(XJ.mp z).elim (λz=>by rw[z,F]at U;cases U) λz=>f.1 (hn b (hM b z)).1) λz=>f.1 z.1,f.2⟩,λ_ _ _ f=>f⟩,aU,rfl⟩
  .cases e
 .obtain⟨rfl,rfl⟩:=aP J
  have a1:=rx;rw[Rep]at rx;obtain⟨a,xs,rfl,ht,O⟩:=rx;split at e
  .rename_i hi
   subst hi;cases e;obtain⟨M',h1,V⟩:=O.revL;refine .inl ⟨a,xs,rfl,SqT.of ht,.inr ⟨rfl,λp F=>?_⟩⟩;have sm:Same H (upd H p (.tup xs.reverse)):=Same.new F;have hM:∀a∈M',a∈Lx++[]:=λa Y=>by rw[Ym];exact V.mem_iff.mp Y
   have a0:M'.Nodup:=V.nodup_iff.mpr (Yb.mp nd).1;refine q (.ref p) _ M' sm ?_ (λa Y=>.inl (hM a Y)) a0;rw[Rep];exact⟨p,_,rfl,aU,h1.up ⟨sm,λb u U f=>⟨λz=>z.elim (λz=>f.1 (hn b (hM b z)).1) λz=>f.1 z.1,f.2⟩,λ_ _ _ f=>f⟩⟩
  .split at e
   .rename_i hi
    subst hi;cases e;exact .inl ⟨a,xs,rfl,SqT.of ht,.inl ⟨rfl,oR a1 (aa_ _ _) nd hn q⟩⟩
   .cases e
 .cases e
variable{X:ι->Cx}
theorem Ge{es:Expr}{p2:Pos}{f g:En->Option D}(Y:PV X G ob e f)(U:PV X G ob es g)(V:∀c,(X c).K=G.K:=by intro _;rfl):PV X G ob (.Subscript e (.Slice none none (some es) p2) pos) (e2 iV f g):=let⟨t,a1,a2⟩:=Y.ex;let⟨u,b1,b2⟩:=U.ex;⟨_,λc=>(by rw[←V c];exact K_ (a1 c) (b1 c)),Cz JN a2 b2⟩
def Es:List D->Option (List Bool)
 |[]=>some []
 |.bl b::r=>(Es r).map λt=>b::t
 |_::_=>none
theorem BV:∀{ds:List D}{bs:List Bool}{xs:List V}{L:List Addr},Es ds=some bs->aH G H W ds xs L->xs=bs.map V.bl
 |[],ks,xs,L,h,r=>by cases h;exact r.inv0.1
 |d::t,ks,xs,L,h,r=>by
  obtain⟨x,ys,M,M',rfl,rfl,h1,h2⟩:=r.inv;cases d<;>simp[Es]at h;obtain⟨w,F,rfl⟩:=h;rw[Rep]at h1;rw[BV F h2,h1.1];rfl
def Ml:List D->Option D
 |[.lst _ ds]=>(Es ds).map λbs=>.bl (bs.all id)
 |_=>none
theorem Q7(Z:∀c,(X c).calm=true)(F:∀c,(X c).K=G.K:=by intro _;rfl):CaB X G (.builtin "all") Ml:=⟨λxs H Q=>∃a bs,xs=[.ref a]/\SqL G.K H a (List.map V.bl bs)/\Q (.bl (List.all bs id)) H,λc=>by rw[←F c];exact Jv (Z c),λds d e xs H W J r nd hn w Q q=>by
 unfold Ml at e;split at e
 .rename_i m ds
  cases h1:Es ds with
  |none=>simp[h1]at e
  |some ks=>
   obtain rfl:D.bl (ks.all id)=d:=by simpa[h1]using e
   obtain⟨x,rfl,rx⟩:=r.inv1;rw[Rep]at rx;obtain⟨a,ys,M,rfl,O,hs⟩:=rx;have:=BV h1 O;subst this;exact⟨a,ks,rfl,hs.sq,q.scal λ_=>fU⟩
 .cases e⟩
def zY:List D->Option D
 |[.non]=>some (.str "None")
 |[.bl b]=>some (.str (if b then "True" else "False"))
 |[.int i]=>if i.natAbs.log2<1920 then some (.str (toString i))else none
 |[.str x]=>some (.str x)
 |[d]=>if gJ d=true/\(pyD (dt d)).depth<=50/\(pyD (dt d)).showable=true/\(pyD (dt d)).shown.length<=X3 then some (.str (pyD (dt d)).shown)else none
 |_=>none
theorem Ip:dq Y (.type "str") (λxs H Q=>(xs=[.non]/\Q (.str "None") H)∨(∃b:Bool,xs=[.bl b]/\Q (.str (if b then "True" else "False")) H)∨∃x,xs=[.str x]/\Q (.str x) H):=by
 intro pins s σ H xs us Q I r h;rcases h with⟨rfl,q⟩|⟨b,rfl,q⟩|⟨x,rfl,q⟩
 .obtain⟨u,rfl,ru⟩:=vals1 r
  cases ru;exact P.str_of_none ⟨.str _,H,I.tok _,⟨_,rfl⟩,q⟩
 .obtain⟨u,rfl,ru⟩:=vals1 r
  cases ru;exact P.str_of_bool ⟨.str _,H,I.tok _,⟨_,rfl⟩,q⟩
 .obtain⟨u,rfl,ru⟩:=vals1 r
  obtain⟨t,rfl⟩:=ru;exact P.str_of_str ⟨.str _,H,I,⟨_,rfl⟩,q⟩
def Wt(K:XS)(A:Zc):List V->Hp->VK->Prop:=λxs H Q=>(((xs=[.non]/\Q (.str "None") H)∨(∃b:Bool,xs=[.bl b]/\Q (.str (if b then "True" else "False")) H)∨∃x,xs=[.str x]/\Q (.str x) H)∨∃i,xs=[.int i]/\i.natAbs.log2<1920/\Q (.str (toString i)) H)∨Rr K A xs H Q
theorem mY{x:Str}:Rep G H W (.str x) (.str x) []:=by rw[Rep];exact⟨rfl,rfl⟩
theorem Gq(A:Zc)(Y:∀c,(X c).A=A)(F:A.guards=some [])(O:A.units+64<cLine)(V:∀c,(X c).K=G.K:=by intro _;rfl):CaB X G (.type "str") zY:=⟨Wt G.K A,λc=>by rw[←V c,←Y c];exact dq.or (dq.or Ip zO) Hl,λds d e xs H W Z r nd hn w Q q=>by
 unfold zY at e;split at e
 .cases e
  obtain⟨x,rfl,rx⟩:=r.inv1;rw[Rep]at rx;obtain⟨rfl,rfl⟩:=rx;exact .inl (.inl (.inl ⟨rfl,q.scal λ_=>mY⟩))
 .cases e
  obtain⟨x,rfl,rx⟩:=r.inv1;obtain⟨rfl,rfl⟩:=jm rx;exact .inl (.inl (.inr (.inl ⟨_,rfl,q.scal λ_=>mY⟩)))
 .split at e
  .cases e
   obtain⟨x,rfl,rx⟩:=r.inv1;obtain⟨rfl,rfl⟩:=aP rx;exact .inl (.inr ⟨_,rfl,‹_›,q.scal λ_=>mY⟩)
  .cases e
 .cases e
  obtain⟨x,rfl,rx⟩:=r.inv1;obtain⟨rfl,rfl⟩:=bM rx;exact .inl (.inl (.inr (.inr ⟨_,rfl,q.scal λ_=>mY⟩)))
 .rename_i d0 n1 n2 n3 n4
  split at e
  .rename_i hd
   cases e;obtain⟨x,rfl,rx⟩:=r.inv1;have U:=rx.brs hd.1;have J:∃a,x= .ref a:=by
    cases d0 with
    |non=>exact absurd rfl n1
    |bl b=>exact absurd rfl (n2 b)
    |int b=>exact absurd rfl (n3 b)
    |str b=>exact absurd rfl (n4 b)
    |tup ds=>rw[Rep]at rx;obtain⟨a,_,rfl,_⟩:=rx;exact⟨a,rfl⟩
    |lst m ds=>rw[Rep]at rx;obtain⟨a,_,_,rfl,_⟩:=rx;exact⟨a,rfl⟩
    |ty n=>simp[gJ]at hd
    |dct m ks ds=>simp[gJ]at hd
    |ins m c fs ds=>simp[gJ]at hd
   obtain⟨a,rfl⟩:=J;exact .inr ⟨a,dt d0,rfl,U,F,by omega,hd.2.2.1,hd.2.2.2,q.scal λ_=>mY⟩
  .cases e
 .cases e⟩
def Ik:D->Bool
 |.non=>true
 |.bl _=>true
 |.int _=>true
 |.str _=>true
 |_=>false
theorem Te(h:Ik d=true)(r:Rep G H W d v L):L=[]/\∀H' W',Rep G H' W' d v []:=by
 cases d<;>simp[Ik]at h<;>rw[Rep]at r<;>obtain⟨rfl,rfl⟩:=r<;>exact⟨rfl,λ_ _=>by rw[Rep];exact⟨rfl,rfl⟩⟩
def mZ(g g':D->D->Option D)(fa fb fc:En->Option D):En->Option D:=λρ=>(fa ρ).bind λx=>(fb ρ).bind λy=>if Ik y then(g x y).bind λr=>match r with
 |.bl true=>(fc ρ).bind λz=>g' y z
 |.bl false=>some (.bl false)
 |_=>none else none
theorem M3{r r':R2}{g g':D->D->Option D}{tb tc:TE}{fa fb fc:En->Option D}(N:OpV G r g)(a0:OpV G r' g')(Y:RfE G ob ta fa)(U:RfE G ob tb fb)(Z:RfE G ob tc fc):RfE G ob (Ng r r' ta tb tc) (mZ g g' fa fb fc):=λρ d e σ H W rl w Q q=>by
 unfold mZ at e;cases h1:fa ρ with
 |none=>simp[h1]at e
 |some dx=>
  cases h2:fb ρ with
  |none=>simp[h1,h2]at e
  |some dy=>
   rw[h1,h2]at e;simp![Xz]at e;split at e
   .rename_i hsc
    cases F:g dx dy with
    |none=>simp[F]at e
    |some dr=>
     rw[F]at e;simp![Xz]at e;refine RfE.two Y U h1 h2 rl w λx y H' L M s rx J fr nd w'=>?_;obtain⟨rfl,V⟩:=Te hsc J;refine N dx dy dr F x y H' _ L [] rx J nd (w.tmp fr) w' _ λv H2 L2 s2 r2 f2 n2=>?_;split at e
     .obtain⟨rfl,rfl⟩:=jm r2
      refine⟨true,rfl,pB ?_⟩;cases O:fc ρ with
      |none=>simp[O]at e
      |some dz=>
       have e:g' dy dz=some d:=by simpa[O]using e
       have u2:Up H H2 W W:=.same (s.trans s2);have w2:WOk H2 W:=λa Y=>let⟨o,N,hm⟩:=w a Y;⟨o,(s.trans s2) a o N,hm⟩;refine Z ρ dz O σ H2 W (rl.up u2) w2 _ λz H3 L3 s3 r3 f3 n3=>?_;refine a0 dy dz d e y z H3 (W.add L3) [] L3 (V _ _) r3 (by simpa using n3) (w2.tmp f3) (w2.add s3 r3.dom) Q λv' H4 L4 s4 r4 f4 n4=>?_;refine q v' H4 L4 (((s.trans s2).trans s3).trans s4) ?_ (λa Y=>(f4 a Y).elim (λz=>(s.trans s2).none' (f3 a z)) λz=>((s.trans s2).trans s3).none' z) n4;exact r4.up ⟨Same.refl _,λb u U f=>⟨λz=>z.elim (λz=>f.1 (.inl z)) λz=>f.1 (.inr ⟨.inr z,WOk.new w2 f3 z⟩),f.2⟩,λ_ _ _ f=>f⟩
     .cases e
      obtain⟨rfl,rfl⟩:=jm r2;exact⟨false,rfl,vQ (q (.bl false) H2 [] (s.trans s2) fU (by simp) List.nodup_nil)⟩
     .cases e
   .cases e
variable{a b c:Expr}
theorem Hj{q:CmpOp}{g g':D->D->Option D}{fa fb fc:En->Option D}(o:OpB X G (YK op) g)(o':OpB X G (YK q) g')(Y:PV X G ob a fa)(U:PV X G ob b fb)(Z:PV X G ob c fc)(J:lastMarks [op,q] [b,c]=false:=by with_unfolding_all rfl):PVT X G ob (.Compare a [op,q] [b,c] pos) (eB (mZ g g' fa fb fc)):=
 let⟨r,o1,o2⟩:=o.ex;let⟨r',p1,p2⟩:=o'.ex;let⟨t,a1,a2⟩:=Y.ex;let⟨u,b1,b2⟩:=U.ex;let⟨v,c1,c2⟩:=Z.ex;⟨_,λc=>K8 (o1 c) (p1 c) (a1 c) (b1 c) (c1 c) J,Wo (M3 o2 p2 a2 b2 c2)⟩
def Xa(g:Int->Int->Int)(i:Nat)(f:En->Option D):En->Option Fl:=λρ=>match ρ[i]? with
 |some (some (.int m))=>(f ρ).bind λd=>match d with
  |.int n=>some (.nx (ρ.set i (some (.int (g m n)))))
  |_=>none
 |_=>none
def OD(G:Gc)(ob:Nat->Bool)(wi:TI)(f:En->Option (List D×En)):Prop:=∀(ρ:En)(items:List D)(Z:En),f ρ=some (items,Z)->∀(σ:L2.St)(H:Hp)(S:Ad)(Fr:Addr->Prop),Sta G H ob ρ σ S Fr->∀R:It->Hp->Prop,
 (∀J H' S',Sta G H' ob Z σ S' Fr->Eff ob H H' S S' []->Wk G J (LtB true H' (wn ob S' Fr)) items->R J H')->wi σ H R
structure U7{ι:Type}(X:ι->Cx)(G:Gc)(ob:Nat->Bool)(tg it:Expr)(f:En->Option (List D×En)):Prop where
 mk::(ex:∃t,(∀c,PI (X c) tg it t)/\OD G ob t f)
def CP(f:En->Option (List D×En)):En->Option (List D×En):=λρ=>(f ρ).bind λp=>match p.1 with
 |[.int j]=>if -(2 ^ 62)<=j/\j<2 ^ 62 then some (gQ 0 j.toNat,p.2)else none
 |_=>none
theorem Ou{t:TA}{f:En->Option (List D×En)}(h:Di G ob t f):OD G ob (NT t) (CP f):=λρ items Z e σ H S Fr s R q=>by
 unfold CP at e;cases h1:f ρ with
 |none=>simp[h1]at e
 |some p=>
  obtain⟨ds,ρ1⟩:=p;rw[h1]at e;simp![Xz]at e;split at e
  .rename_i j
   split at e
   .rename_i hj
    obtain⟨rfl,rfl⟩:gQ 0 j.toNat=items/\ρ1=Z:=by simpa using e
    refine h ρ _ _ h1 σ H S Fr s _ λxs H' L S' s' rx nd O=>?_;obtain⟨x,rfl,Y⟩:=rx.inv1;obtain⟨rfl,rfl⟩:=aP Y;rw[ju]at s';exact⟨j,rfl,by omega,by omega,q _ H' S' s' O J7⟩
   .cases e
  .cases e
def Jr(f:En->Option (D×En)):En->Option (List D×En):=λρ=>(f ρ).bind λp=>(bC p.1).bind λr=>if r.1=true then some (r.2,p.2)else none
variable{es:List D}
theorem M9(r:Rep G H' (W.add L) d v L)(free:∀a∈L,W.free a)(e:bC d=some (true,es)) :
  ∃a xs,v= .ref a/\Parts G H' W true es xs/\((∀H2 N,LtB true H' W H2 N->SqL G.K H2 a xs)∨(∀H2 N,LtB true H' W H2 N->SqT G.K H2 a xs)):=by
 have F:Les H' (W.add L) W L:=⟨λa f=>⟨λz=>f.1 (.inr z),f.2⟩,free⟩;cases d with
 |lst m ds=>
  simp![bC,aac,abJ]at e;obtain⟨q,rfl⟩:=e;rw[Rep]at r;obtain⟨a,xs,M,rfl,O,hs⟩:=r;have z:=q;simp[clean,az,au]at z;exact⟨a,xs,rfl,⟨aH.fzo (W:=W.add L) (W':=W) (λ_ z=>z) O (F.sub λc Z=>hs.sub.subset Z),λ_=>⟨dI z.1.2,dG z.2.2⟩⟩,.inl λH2 N l=>Lj (sO hs F (λz=>z) (λ_=>⟨z.1.1,z.2.1⟩) l)⟩
 |tup ds=>
  simp![bC,aac,abJ]at e;obtain⟨q,rfl⟩:=e;rw[Rep]at r;obtain⟨a,xs,rfl,U,O⟩:=r;have z:=q;simp[clean,az,au]at z;exact⟨a,xs,rfl,⟨aH.fzo (W:=W.add L) (W':=W) (λ_ z=>z) O F,λ_=>⟨dI z.1,dG z.2⟩⟩,.inr λH2 N l=>l.tup U⟩
 |_=>simp[bC]at e
theorem Kh(h:jQ G ob te f):OD G ob (Tj G.K te) (Jr f):=λρ items Z e σ H S Fr s R q=>by
 unfold Jr at e;cases h1:f ρ with
 |none=>simp[h1]at e
 |some p=>
  obtain⟨d,ρ1⟩:=p;cases h2:bC d with
  |none=>simp[h1,h2]at e
  |some r=>
   obtain⟨b,es⟩:=r;cases b with
   |false=>simp[h1,h2]at e
   |true=>
    obtain⟨rfl,rfl⟩:es=items/\ρ1=Z:=by simpa[h1,h2]using e
    refine h ρ d _ h1 σ H S Fr s _ λv H' M S' s' r nd O=>?_;have V:Sta G H' ob ρ1 σ S' Fr:=s'.lessF λa z=>.inr z;have free:∀a∈M,(wn ob S' Fr).free a:=λa Y=>⟨λz=>?_,λ⟨i,_,z⟩=>s'.fdj i a (.inl Y) z,λ⟨i,_,z⟩=>s'.fdj i a (.inl Y) z⟩
    .obtain⟨a,xs,rfl,p,hs⟩:=M9 (W:=wn ob S' Fr) r free h2
     have F:Eff ob H H' S S' []:=⟨O.kp,O.sn,O.gr,by simp⟩;refine⟨a,rfl,?_⟩;have U:LtB true H' (wn ob S' Fr) H' (wn ob S' Fr):=LtB.up Up.refl;rcases hs with hs|hs
     .refine .inl ⟨⟨xs,hs H' _ U⟩,q _ H' S' V F ⟨λi d e H2 N l=>?_,λi d e H2 N l x J y=>?_,λH2 N l=>?_⟩⟩
      .obtain⟨x,hx⟩:=p.r.getV e
       exact⟨xs,x,hs H2 N l,hx⟩
      .obtain⟨rfl,y⟩:=y
       exact⟨Same.refl _,p.at l e (y xs (hs _ N l))⟩
      .exact⟨xs,hs H2 N l,by rw[p.r.length];exact XQ _⟩
     .refine .inr ⟨⟨xs,hs H' _ U⟩,q _ H' S' V F ⟨λi d e H2 N l=>?_,λi d e H2 N l x J y=>?_,λH2 N l=>?_⟩⟩
      .obtain⟨x,hx⟩:=p.r.getV e
       exact⟨xs,x,hs H2 N l,hx⟩
      .obtain⟨rfl,y⟩:=y
       exact⟨Same.refl _,p.at l e (y xs (hs _ N l))⟩
      .exact⟨xs,hs H2 N l,by rw[p.r.length];exact XQ _⟩
    .rcases O.fm a Y with⟨i,_,y⟩|y
     .exact s.fdj i a z y
     .obtain⟨o,ho,_⟩:=s.fdm a z
      rw[y]at ho;cases ho
def xr(it:En->Option (List D×En))(tg:D->En->Option En)(V:En->Option Fl):En->Option Fl:=λρ=>(it ρ).bind λp=>forL tg V p.1 p.2
variable{it:En->Option (List D×En)}
theorem Od{g:TG}{V:En->Option Fl}(hi:OD G ob wi it)(hg:RfG G ob P g tg)(U:RfS G ob P tb V):RfS G ob P (T3 wi g tb) (xr it tg V):=λρ0 r e σ H0 S0 Fr s0 E q=>by
 unfold xr at e;cases h1:it ρ0 with
 |none=>simp[h1]at e
 |some p=>
  obtain⟨items,ρ⟩:=p;have e:forL tg V items ρ=some r:=by simpa[h1]using e
  refine hi ρ0 items ρ h1 σ H0 S0 Fr s0 _ λJ H1 S O ef wk=>?_;have m1:Mv P H0 H1 σ σ S0 S []:=ef.mv;have q1:=q.from m1;have a0:∀{ρ2:En}{σ2:L2.St}{H2:Hp}{S2:Ad},Mv P H1 H2 σ σ2 S S2 []->LtB true H1 (wn ob S Fr) H2 (wn ob S2 Fr):=λm=>pB (El O m);refine⟨λi m σ2 H2=>i+m=items.length/\∃ρ2 S2,Sta G H2 ob ρ2 σ2 S2 Fr/\Mv P H1 H2 σ σ2 S S2 []/\forL tg V (items.drop i) ρ2=some r,⟨items.length,by omega,ρ,S,O,.refl,e⟩,?_⟩;rintro i m σ2 H2 ⟨a7,ρ2,S2,Z,m2,e2⟩;by_cases a4:i<items.length
  .refine .inr ⟨wk.go i items[i] (by simp[a4]) H2 _ (a0 (ρ2:=ρ2) m2),λF H'=>(i+1)+(m-1)=items.length/\∃ρ2 S2,Sta G H' ob ρ2 F S2 Fr/\Mv P H1 H' σ F S S2 []/\forL tg V (items.drop (i+1)) ρ2=some r,λF H' h=>⟨m-1,by omega,h⟩,λx H3 hy=>?_⟩
   obtain⟨N,rx⟩:=wk.yld i items[i] (by simp[a4]) H2 _ (a0 (ρ2:=ρ2) m2) x H3 hy;rw[←aak a4,forL]at e2;cases h3:tg items[i] ρ2 with
   |none=>simp[h3]at e2
   |some a3=>
    rw[h3]at e2;simp![Xz]at e2;have a6:Sta G H3 ob ρ2 σ2 S2 Fr:=Z.grow N λa z=>.inl z;refine hg items[i] ρ2 a3 h3 x σ2 H3 S2 [] Fr (by rw[ju];exact a6) (by rw[ju];exact rx) List.nodup_nil (by simp) _ λa5 H4 S4 s4 m4=>?_;have a2:Mv P H1 H4 σ a5 S S4 []:=(m2.trans (S2:=S2) ⟨λb u h _ _=>N b u h,λi a z=>.inl ⟨i,z⟩,.refl⟩).trans m4;cases Y:V a3 with
    |none=>rw[Y]at e2;cases e2
    |some fl=>
     rw[Y]at e2;refine U a3 fl Y a5 H4 S4 Fr s4 _ ?_;cases fl with
     |nx a1=>exact λF H' S' s' m'=>⟨by omega,a1,S',s',a2.trans m',e2⟩
     |cnt a1=>exact λF H' S' s' m'=>⟨by omega,a1,S',s',a2.trans m',e2⟩
     |brk a1=>cases e2;exact λF H' S' s' m'=>q1 F H' S' s' (a2.trans m')
     |ret d a1=>cases e2;exact q1.from a2
  .have hl:i=items.length:=by omega
   rw[hl,aaC,forL]at e2;cases e2;subst hl;exact .inl ⟨wk.stop H2 _ (a0 (ρ2:=ρ2) m2),q1 σ2 H2 S2 Z m2⟩
theorem Bd{tg iter:Expr}{V:List Stmt}{g:D->En->Option En}{f:En->Option Fl}(F:∀c,ad0 (model (X c).prog (X c).w) (X c).A (X c).env (X c).xe)(Z:∀c,(X c).calm=true)(hi:U7 X G ob tg iter it)(q:PVG X G ob P tg g)(U:tE X G ob P V f)(hs:∀c,∀x,ZF iter (X c).env x=pure x:=by intro _;intro _;rfl):PVS X G ob P (.For tg iter V [] pos) (xr it g f):=let⟨v,c1,c2⟩:=hi.ex;let⟨t,a1,a2⟩:=q.ex;let⟨u,b1,b2⟩:=U.ex;⟨_,λc=>NZ (F c) (Z c) (c1 c) (a1 c) (b1 c) (hs c),Od c2 a2 b2⟩
theorem Qv{tg:Expr}{p:Pos}{f:En->Option (List D×En)}(q:∀c,Gl (X c) "range")(J:∀c,(X c).mg "range"=none)(Y:wJ X G ob [a] f)(hs:∀c,X_ [a] (X c).env=[(false,eval a (X c).env)]:=by intro _;rfl):U7 X G ob tg (.Call (.Name "range" p) [a] [] pos) (CP f):=let⟨t,a1,a2⟩:=Y.ex;⟨_,λc=>xH (q c) (J c) (a1 c) (hs c),Ou a2⟩
theorem M_{tg:Expr}(Y:PVe X G ob a f)(V:∀c,(X c).K=G.K:=by intro _;rfl):U7 X G ob tg a (Jr f):=let⟨t,a1,a2⟩:=Y.ex;⟨_,λc=>(by rw[←V c];exact Ke (a1 c)),Kh a2⟩
def WQ(own:Nat->Bool)(cap:List (Option Nat)):Bool:=(Yp cap.length).all λi=>!own i||(match cap[i]? with
 |some none=>true
 |_=>false)
theorem cJ{own:Nat->Bool}{cap:List (Option Nat)}(h:WQ own cap=true):∀i:Nat,own i=true->cap[i]?≠none->cap[i]? =some none:=λi N hn=>by
 have hi:i<cap.length:=by
  by_cases z:i<cap.length
  .exact z
  .exact absurd (abC (by omega)) hn
 have:=acA.mp h i (ZJ.mpr hi);rw[N]at this;simp![acw,Bool.false_or]at this;split at this
 .assumption
 .cases this
def Qz(cap:List (Option Nat)):Bool:=(Yp cap.length).all λi=>(Yp cap.length).all λk=>match cap[i]?,cap[k]? with
 |some (some a),some (some b)=>!(a==b)||i==k
 |_,_=>true
theorem Rf{cap:List (Option Nat)}(h:Qz cap=true):oG cap:=λi k j h1 h2=>by
 have hi:i<cap.length:=(XF.mp h1).1;have J:k<cap.length:=(XF.mp h2).1;have:=acA.mp (acA.mp h i (ZJ.mpr hi)) k (ZJ.mpr J);rw[h1,h2]at this;simpa using this
def Wp(o:Option α)(Q:α->Prop):Prop:=∃a,o=some a/\Q a
variable{a:α}{Q:α->Prop}
theorem aJ:Wp (some a) Q↔Q a:=⟨λ⟨b,e,q⟩=>by cases e;exact q,λq=>⟨a,rfl,q⟩⟩
theorem zA:Wp (none:Option α) Q↔False:=⟨λ⟨b,e,q⟩=>(by cases e),λz=>z.elim⟩
variable{o:Option α}{R:β->Prop}
theorem aR{f:α->Option β}:Wp (o.bind f) R↔Wp o λa=>Wp (f a) R:=by
 cases o with
 |none=>simp[zA]
 |some a=>simp[aJ]
variable{f:α->β}
theorem cV:Wp (o.map f) R↔Wp o λa=>R (f a):=by
 cases o with
 |none=>simp[zA]
 |some a=>simp[aJ]
theorem w_ite{c:Prop}[Decidable c]{a b:Option α}:Wp (if c then a else b) Q↔(if c then Wp a Q else Wp b Q):=by
 split<;>exact Iff.rfl
theorem Wp.mono{O:α->Prop}(h:Wp o Q)(k:∀a,Q a->O a):Wp o O:=let⟨a,e,q⟩:=h;⟨a,e,k a q⟩
theorem Wp.eq(h:Wp o λx=>x=a):o=some a:=let⟨b,e,q⟩:=h;by rw[e,q]
theorem ww(h:o=some a)(q:Q a):Wp o Q:=⟨a,h,q⟩
variable{Q:Fl->Prop}
theorem Rt{f g:En->Option Fl}:Wp (bF f g ρ) Q↔Wp (f ρ) λr=>match r with
 |.nx Z=>Wp (g Z) Q
 |.ret d Z=>Q (.ret d Z)
 |.brk Z=>Q (.brk Z)
 |.cnt Z=>Q (.cnt Z):=by
 unfold bF;cases f ρ with
 |none=>simp[zA]
 |some r=>cases r<;>simp[aJ]
theorem RT{V:En->Option Fl}(I:Nat->En->Prop):∀{items:List D}{ρ:En}{k:Nat},I k ρ->
  (∀(i:Nat)(d:D)(ρ:En),items[i]? =some d->I (k+i) ρ->Wp (tg d ρ) λρ1=>Wp (V ρ1) λr=>match r with
   |.nx ρ2=>I (k+i+1) ρ2
   |.cnt ρ2=>I (k+i+1) ρ2
   |.brk ρ2=>Q (.nx ρ2)
   |.ret d ρ2=>Q (.ret d ρ2))->
  (∀ρ,I (k+items.length) ρ->Q (.nx ρ))->Wp (forL tg V items ρ) Q
 |[],ρ,k,h0,_,h=>by rw[forL];exact aJ.mpr (h ρ h0)
 |d::r,ρ,k,h0,hs,h=>by
  rw[forL];obtain⟨ρ1,e1,w⟩:=hs 0 d ρ rfl h0;obtain⟨q,e2,w⟩:=w;rw[e1,Xz,e2];have Z:∀{ρ2:En},I (k+1) ρ2->Wp (forL tg V r ρ2) Q:=λN=>RT I N (λi d ρ hi N=>by
   have:=hs (i+1) d ρ (by simpa using hi) (by rw[show k+(i+1)=k+1+i by omega];exact N);rw[show k+(i+1)+1=k+1+i+1 by omega]at this;exact this) λρ N=>h ρ (by rw[Yj,show k+(r.length+1)=k+1+r.length by omega];exact N)
  cases q with
  |nx ρ2=>exact Z w
  |cnt ρ2=>exact Z w
  |brk ρ2=>exact aJ.mpr w
  |ret d ρ2=>exact aJ.mpr w
variable{c:En->Option Bool}
theorem kh{tg:D->En->Option En}{c:En->Option Bool}{e:En->Option D}{ρ0:En}{p:D->Bool}{f:D->D}:∀{items:List D},(∀d∈items,Wp (tg d ρ0) λρ1=>c ρ1=some (p d)/\(p d=true->e ρ1=some (f d)))->cC tg c e ρ0 items=some ((items.filter p).map f)
 |[],_=>rfl
 |d::r,h=>by
  obtain⟨ρ1,e1,h1,h2⟩:=h d (by simp);have Z:=kh (tg:=tg) (c:=c) (e:=e) (ρ0:=ρ0) (p:=p) (f:=f) (items:=r) λx J=>h x (by simp[J]);rw[cC];cases F:p d with
  |false=>simp[e1,h1,F,Z]
  |true=>simp[e1,h1,F,h2 F,Z]
variable{e:En->Option (D×En)}{Q:List D×En->Prop}
theorem GP{cap:List (Option Nat)}(I:Nat->List D->En->Prop):∀{items:List D}{ρ:En}{k:Nat}{acc:List D},I k acc ρ->
  (∀(i:Nat)(d:D)(acc:List D)(ρ:En),items[i]? =some d->I (k+i) acc ρ->Wp (tg d (fZ cap ρ)) λρ1=>Wp (c ρ1) λb=>if b=true then Wp (e ρ1) λp=>clean p.1=true/\I (k+i+1) (acc++[p.1]) (ir cap p.2 ρ)else I (k+i+1) acc ρ)->
  (∀ys ρ,I (k+items.length) ys ρ->Q (ys,ρ))->Wp (jF cap tg c e items ρ) λt=>Q (acc++t.1,t.2)
 |[],ρ,k,acc,h0,_,h=>by rw[jF];exact aJ.mpr (by rw[Ym];exact h acc ρ h0)
 |d::r,ρ,k,acc,h0,hs,h=>by
  rw[jF];obtain⟨ρ1,e1,b,e2,w⟩:=hs 0 d acc ρ rfl h0;rw[e1,Xz,e2,Xz];have q:∀{ρ2:En}{acc:List D},I (k+1) acc ρ2->Wp (jF cap tg c e r ρ2) λt=>Q (acc++t.1,t.2):=λN=>GP I N (λi d acc ρ hi N=>by
   have:=hs (i+1) d acc ρ (by simpa using hi) (by rw[show k+(i+1)=k+1+i by omega];exact N);rw[show k+(i+1)+1=k+1+i+1 by omega]at this;exact this) λys ρ N=>h ys ρ (by rw[Yj,show k+(r.length+1)=k+1+r.length by omega];exact N)
  cases b with
  |false=>
   simp![Yz,Zi]at w⊢;exact q w
  |true=>
   simp![Yd]at w⊢;obtain⟨p,O,Z,N⟩:=w;rw[O,Xz,X7 Z];rw[cV];refine(q N).mono λt U=>?_;simpa using U
theorem cg(l:List Str):aA (l.map D.str)=true:=bu λd hd=>by obtain⟨x,_,rfl⟩:=XM.mp hd;rfl
theorem bR(l:List Str):aB (l.map D.str)=true:=bf λd hd=>by obtain⟨x,_,rfl⟩:=XM.mp hd;rfl
theorem dm(b:Bool)(l:List Str):e_ b (l.map D.str)=l.map D.str:=by rw[bN,XN];rfl
theorem gm(l:List Str):fzL (l.map D.str)=l.map D.str:=by rw[fV,XN];rfl
theorem fW(l:List Str):gh (l.map D.str)=l.map D.str:=by rw[bW,XN];rfl
variable{l:List α}
theorem iY{α β:Type}{f:α->β}{l:List α}(U:0<=i)(h1:i<l.length):∃x,x∈l/\l[i.toNat]? =some x/\atI (l.map f) i=some (f x):=by
 have:i.toNat<l.length:=by omega
 refine⟨l[i.toNat],Z7 _,by simp[this],?_⟩;unfold atI ixN;rw[X7 U,X7 (by simpa using h1)];simp[this]
theorem P_{f:D->D}:(gQ 0 n).map f=(Yp n).map λ(k:Nat)=>f (.int (k:Int)):=by
 unfold gQ;rw[XN];apply Yr;intro k _;simp
theorem Rb(h:d∈gQ 0 n):∃k:Nat,k<n/\d= .int (k:Int):=by
 unfold gQ at h;obtain⟨k,J,rfl⟩:=XM.mp h;exact⟨k,ZJ.mp J,by simp⟩
theorem uv{lo:Int}:(gQ lo n).length=n:=by simp[gQ]
theorem filter_tt(l:List α):l.filter (λ_=>true)=l:=by simp
theorem GX{i:Nat}(h:(gQ 0 n)[i]? =some d):i<n/\d= .int (i:Int):=by
 have hi:i<n:=by have:=(XF.mp h).1;simpa[gQ]using this
 refine⟨hi,?_⟩;unfold gQ at h;rw[List.getElem?_map,aeV hi]at h;simpa using h.symm
theorem PQ(h:k∈ks):∃j,gq ks k=some j/\j<ks.length:=by
 cases e:gq ks k with
 |none=>exact absurd h (vL e)
 |some j=>exact⟨j,rfl,uG e⟩
theorem K6(h:ks.length=ds.length):(gR ks ds k d).1.length=(gR ks ds k d).2.length/\∀x,x∈(gR ks ds k d).1↔x∈ks∨x=k:=by
 unfold gR;cases e:gq ks k with
 |none=>exact⟨by simp[h],λx=>by simp⟩
 |some j=>
  refine⟨by simpa using h,λx=>⟨.inl,λz=>z.elim id λz=>?_⟩⟩;obtain⟨Y,J,_⟩:=YM.mp e;have:ks[j]=k:=by simpa using J
  rw[z,←this];exact Z7 _
theorem vf:∀{es:List (Key×D)}{ks:List Key}{ds:List D},ks.length=ds.length->(bA ks ds es).1.length=(bA ks ds es).2.length/\∀x,x∈(bA ks ds es).1↔x∈ks∨∃p∈es,p.1=x
 |[],ks,ds,h=>⟨h,λx=>by simp[bA]⟩
 |p::r,ks,ds,h=>by
  obtain⟨h1,h2⟩:=K6 (k:=p.1) (d:=p.2) h;obtain⟨F,O⟩:=vf (es:=r) h1;rw[bA];refine⟨F,λx=>?_⟩;rw[O,h2];constructor
  .rintro((z|z)|⟨q,hq,z⟩)
   .exact .inl z
   .exact .inr ⟨p,by simp,z.symm⟩
   .exact .inr ⟨q,by simp[hq],z⟩
  .rintro(z|⟨q,hq,z⟩)
   .exact .inl (.inl z)
   .rcases XJ.mp hq with y|y
    .subst y;exact .inl (.inr z.symm)
    .exact .inr ⟨q,y,z⟩
def pD(p:Str×Int):D:=.tup [.str p.1,.int p.2]
theorem Fe:∀ps:List (Str×Int),rB (ps.map pD)=some (ps.map λp=>(YF p.1,.int p.2))
 |[]=>rfl
 |p::r=>by simp[rB,pD,gH,Fe r]
abbrev Jt:=Str×Str×Int
def jD(j:Jt):D:=.tup [.str j.1,.str j.2.1,.int j.2.2]
theorem lG(l:List Jt):aA (l.map jD)=true:=bu λd hd=>by obtain⟨x,_,rfl⟩:=XM.mp hd;rfl
theorem lQ(l:List Jt):aB (l.map jD)=true:=bf λd hd=>by obtain⟨x,_,rfl⟩:=XM.mp hd;rfl
theorem wu(b:Bool)(l:List Jt):e_ b (l.map jD)=l.map jD:=by rw[bN,XN];rfl
theorem qD(l:List Jt):fzL (l.map jD)=l.map jD:=by rw[fV,XN];rfl
theorem qP(l:List Jt):gh (l.map jD)=l.map jD:=by rw[bW,XN];rfl
theorem F_:∀l:List Jt,il (l.map jD)=true
 |[]=>rfl
 |j::r=>by simp[il,jD,gJ,F_ r]
theorem m8:∀l:List Str,il (l.map D.str)=true
 |[]=>rfl
 |j::r=>by simp[il,gJ,m8 r]
theorem qX{l:List Jt}:gNe (.lst m (l.map jD)) (.lst .own [])=some (.bl (!l.isEmpty)):=by
 unfold gNe;have h1:=F_ l;rw[X7 ⟨by simpa[gJ]using h1,rfl,.lst (by simp[dtL])⟩];cases l with
 |nil=>rfl
 |cons j r=>rfl
theorem eq_int{j:Int}:gEq (.int i) (.int j)=some (.bl (decide (i=j))):=by
 unfold gEq;rw[X7 ⟨rfl,rfl,.sc (.int i j)⟩];simp[dt,eqD];exact abQ.mpr (by simp)
variable{items:List D}
theorem Ms{cap:List (Option Nat)}(I:Nat->List D->En->Prop)(U:I 0 [] ρ)
  (hs:∀(i:Nat)(d:D)(acc:List D)(ρ:En),items[i]? =some d->I i acc ρ->Wp (tg d (fZ cap ρ)) λρ1=>Wp (c ρ1) λb=>if b=true then Wp (e ρ1) λp=>clean p.1=true/\I (i+1) (acc++[p.1]) (ir cap p.2 ρ)else I (i+1) acc ρ)
  (h:∀ys ρ,I items.length ys ρ->Q (ys,ρ)):Wp (jF cap tg c e items ρ) Q:=by
 have:=GP (cap:=cap) (tg:=tg) (c:=c) (e:=e) (Q:=Q) I (items:=items) (ρ:=ρ) (k:=0) (acc:=[]) U (λi d acc ρ hi N=>by
  rw[aba]at N⊢;exact hs i d acc ρ hi N) λys ρ N=>h ys ρ (by rw[aba]at N;exact N)
 simpa using this
variable{Q:Fl->Prop}
theorem kJ{V:En->Option Fl}(I:Nat->En->Prop)(U:I 0 ρ)
  (hs:∀(i:Nat)(d:D)(ρ:En),items[i]? =some d->I i ρ->Wp (tg d ρ) λρ1=>Wp (V ρ1) λr=>match r with
   |.nx ρ2=>I (i+1) ρ2
   |.cnt ρ2=>I (i+1) ρ2
   |.brk ρ2=>Q (.nx ρ2)
   |.ret d ρ2=>Q (.ret d ρ2))
  (h:∀ρ,I items.length ρ->Q (.nx ρ)):Wp (forL tg V items ρ) Q:=
 RT (k:=0) I U (λi d ρ hi N=>by
  rw[aba]at N⊢;exact hs i d ρ hi N) λρ N=>h ρ (by rw[aba]at N;exact N)
theorem bj{f g:En->Option Fl}(P:En->Prop)(h1:∀O:Fl->Prop,(∀Z,P Z->O (.nx Z))->Wp (f ρ) O)(h2:∀Z,P Z->Wp (g Z) Q):Wp (bF f g ρ) Q:=by
 rw[Rt];exact h1 _ λZ h=>h2 Z h
theorem Ew(j:Jt):az (jD j)=true:=rfl
theorem Hu(j:Jt):au (jD j)=true:=rfl
theorem Ji(b:Bool)(j:Jt):view b (jD j)=jD j:=rfl
theorem Hn(j:Jt):fz (jD j)=jD j:=rfl
theorem HS(j:Jt):fzo (jD j)=jD j:=rfl
theorem wW(j:Jt):gSl (jD j) none (some 2)=some (.tup [.str j.1,.str j.2.1]):=rfl
theorem rY(m:Mk)(l:List Jt):cQ [.lst m (l.map jD)]=some (.int l.length):=by simp[cQ]
theorem len_strs(m:Mk)(l:List Str):cQ [.lst m (l.map D.str)]=some (.int l.length):=by simp[cQ]
theorem nM(l:List Jt):cQ [.tup (l.map jD)]=some (.int l.length):=by simp[cQ]
theorem je(l:List Str):cQ [.tup (l.map D.str)]=some (.int l.length):=by simp[cQ]
theorem Do{l:List D}:gIx (.lst m l) (.int i)=atI l i:=rfl
theorem Hx{l:List D}:gIx (.tup l) (.int i)=atI l i:=rfl
open PySem PySem.W PyProof.Rows
def Tr(b:Nat->Nat->Bool)(n:Nat):KasT α->(α->Prop)->Prop
 |.ret a,Q=>Q a
 |.ask i j k,Q=>i<n/\j<n/\Tr b n (k (b i j)) Q
variable{b:Nat->Nat->Bool}
theorem Tr.bind{f:α->KasT β}{Q:β->Prop}:∀{t:KasT α},Tr b n t (λa=>Tr b n (f a) Q)->Tr b n (t.bind f) Q
 |.ret _,h=>h
 |.ask _ _ _,⟨h1,h2,h3⟩=>⟨h1,h2,Tr.bind h3⟩
theorem Tr.mono{Q O:α->Prop}(N:∀a,Q a->O a):∀{t:KasT α},Tr b n t Q->Tr b n t O
 |.ret _,h=>N _ h
 |.ask _ _ _,⟨h1,h2,h3⟩=>⟨h1,h2,Tr.mono N h3⟩
theorem Tr.wp{q:Nat->Nat->(Bool->Mx->Prop)->Mx->Prop}{s:Mx}{Q:α->Prop}(Z:∀i j C,i<n->j<n->C (b i j) s->q i j C s):∀{t:KasT α},Tr b n t Q->t.kasWp q (λa s'=>s'=s/\Q a) s
 |.ret _,h=>⟨rfl,h⟩
 |.ask _ _ _,⟨h1,h2,h3⟩=>Z _ _ _ h1 h2 (Tr.wp Z h3)
def iQ(n:Nat)(p:Array Nat):Prop:=Yu p.toList (Yp n)
variable{p:Array Nat}
theorem iQ.size(h:iQ n p):p.size=n:=by
 have:=List.Perm.length_eq h;simpa using this
theorem iQ.lt(h:iQ n p)(hn:0<n)(i:Nat):p.getD i 0<n:=by
 by_cases hi:i<p.size
 .have hm:p[i]∈p.toList:=by simp
  have:=ZJ.mp (adu h |>.mp hm);simpa[Array.getD,hi]using this
 .simpa[Array.getD,hi]using hn
theorem iQ.of{q:Array Nat}(h:iQ n p)(F:Array.Perm q p):iQ n q:=(Array.perm_iff_toList_perm.mp F).trans h
section
variable(ρ:Nat->Int)
def rk(p:Array Nat)(i:Nat):Int:=ρ (p.getD i 0)
def Up1(p:Array Nat)(k:Nat):Prop:=∀i j,i<=j->j<k->rk ρ p i<=rk ρ p j
def Dn1(p:Array Nat)(k:Nat):Prop:=∀i j,i<=j->j<k->rk ρ p j<=rk ρ p i
abbrev bk:Nat->Nat->Bool:=λi j=>decide (ρ i<ρ j)
end
section
variable{ρ:Nat->Int}{n:Nat}(hn:0<n)
theorem Cv{p q:Array Nat}{i j:Nat}(h:p[i]? =q[j]?):rk ρ p i=rk ρ q j:=by
 unfold rk;rw[Yl,Yl,h]
theorem Eu{p:Array Nat}{i j:Nat}(V:j<=p.size)(k:Nat):rk ρ (kas_rev p i j) k=if i<=k/\k<j then rk ρ p (i+j-1-k)else rk ρ p k:=by
 have e:=getElem?_mirror_all (xs:=p) (i:=i) V k;unfold kas_rev;split
 .rename_i h;rw[X7 h]at e;exact Cv e
 .rename_i h;rw[Yc h]at e;exact Cv e
theorem iR{p:Array Nat}{i j:Nat}(V:j<=p.size)(h:∀k,i<=k->k<j->rk ρ p k=rk ρ p (j-1))(k:Nat):rk ρ (kas_rev p i j) k=rk ρ p k:=by
 rw[Eu V];split
 .rw[h _ (by omega) (by omega),h k (by omega) (by omega)]
 .rfl
include hn
theorem Ks{p:Array Nat}(F:iQ n p):∀(f a:Nat),1<=a->Up1 ρ p a->Tr (bk ρ) n (kas_asc p f a) λm=>a<=m/\m<=a+f/\Up1 ρ p m
 |0,a,_,h=>⟨XQ _,XQ _,h⟩
 |f+1,a,ha,h=>by
  refine⟨F.lt hn _,F.lt hn _,?_⟩;by_cases c:rk ρ p a<rk ρ p (a-1)
  .have e:bk ρ (p.getD a 0) (p.getD (a-1) 0)=true:=Zw c
   rw[e];exact⟨XQ _,by omega,h⟩
  .have e:bk ρ (p.getD a 0) (p.getD (a-1) 0)=false:=YH c
   rw[e];refine Tr.mono (λm J=>⟨by omega,by omega,J.2.2⟩) (Ks F f (a+1) (by omega) λi j N V=>?_);by_cases Y:j<a
   .exact h i j N Y
   .obtain rfl:j=a:=by omega
    by_cases hi:i=j
    .subst hi;exact Z9 _
    .exact acO (h i (j-1) (by omega) (by omega)) (by omega)
def DsQ(ρ:Nat->Int)(n a f:Nat)(t:Array Nat×Nat×Nat):Prop:=iQ n t.1/\a<=t.2.1/\t.2.1<=a+f/\Dn1 ρ t.1 t.2.1/\t.2.2+1<=t.2.1/\∀i,t.2.1-(t.2.2+1)<=i->i<t.2.1->rk ρ t.1 i=rk ρ t.1 (t.2.1-1)
theorem yu:∀(f:Nat)(p:Array Nat)(a q:Nat),iQ n p->1<=a->a+f<=n->Dn1 ρ p a->q+1<=a->(∀i,a-(q+1)<=i->i<a->rk ρ p i=rk ρ p (a-1))->Tr (bk ρ) n (kas_desc f p a q) (DsQ ρ n a f)
 |0,p,a,q,hp,ha,_,h,hq,he=>⟨hp,XQ _,XQ _,h,hq,he⟩
 |f+1,p,a,q,hp,ha,hf,h,hq,he=>by
  have hz:=hp.size;refine⟨hp.lt hn _,hp.lt hn _,?_⟩;by_cases c:rk ρ p a<rk ρ p (a-1)
  .have e:bk ρ (p.getD a 0) (p.getD (a-1) 0)=true:=Zw c
   have a0:∀O:Array Nat,iQ n O->(∀k,rk ρ O k=rk ρ p k)->Tr (bk ρ) n (kas_desc f O (a+1) 0) (DsQ ρ n a (f+1)):=λO Z J=>by
    refine Tr.mono (λt U=>⟨U.1,by have:=U.2.1;omega,by have:=U.2.2.1;omega,U.2.2.2⟩) (yu f O (a+1) 0 Z (by omega) (by omega) (λi j N V=>?_) (by omega) λi h1 h2=>by rw[show i=a+1-1 by omega]);rw[J,J];by_cases Y:j<a
    .exact h i j N Y
    .obtain rfl:j=a:=by omega
     by_cases hi:i=j
     .subst hi;exact Z9 _
     .exact acO (by omega) (h i (j-1) (by omega) (by omega))
   rw[e];simp![Yd];by_cases a1:q>0
   .rw[X7 a1]
    exact a0 _ (hp.of (aea _ _ _ _)) (iR (by omega) he)
   .rw[Yc a1]
    exact a0 _ hp λ_=>rfl
  .have e:bk ρ (p.getD a 0) (p.getD (a-1) 0)=false:=YH c
   rw[e];simp![Yz,Zi];refine⟨hp.lt hn _,hp.lt hn _,?_⟩;by_cases c2:rk ρ p (a-1)<rk ρ p a
   .have e:bk ρ (p.getD (a-1) 0) (p.getD a 0)=true:=Zw c2
    rw[e];exact⟨hp,XQ _,by show a<=a+(f+1);omega,h,hq,he⟩
   .have e:bk ρ (p.getD (a-1) 0) (p.getD a 0)=false:=YH c2
    have F:rk ρ p a=rk ρ p (a-1):=by omega
    rw[e];simp![Yz,Zi];refine Tr.mono (λt U=>⟨U.1,by have:=U.2.1;omega,by have:=U.2.2.1;omega,U.2.2.2⟩) (yu f p (a+1) (q+1) hp (by omega) (by omega) (λi j N V=>?_) (by omega) λi h1 h2=>?_)
    .by_cases Y:j<a
     .exact h i j N Y
     .obtain rfl:j=a:=by omega
      by_cases hi:i=j
      .subst hi;exact Z9 _
      .rw[F];exact h i (j-1) (by omega) (by omega)
    .rw[show a+1-1=a by omega]
     by_cases hi:i=a
     .rw[hi]
     .rw[F];exact he i (by omega) (by omega)
def CtQ(ρ:Nat->Int)(n q:Nat)(t:Nat×Array Nat):Prop:=iQ n t.2/\1<=t.1/\t.1<=q/\Up1 ρ t.2 t.1
theorem FW{p:Array Nat}{a q:Nat}(F:iQ n p)(Y:1<=a)(O:a<=q)(U:q<=n)(h:Dn1 ρ p a):Tr (bk ρ) n (kas_tail3 a q p) (CtQ ρ n q):=by
 have hz:=F.size;have Z:iQ n (kas_rev p 0 a):=F.of (aea _ _ _ _);refine Tr.bind (Tr.mono (λm J=>?_) (Ks hn Z (q-a) a Y λi j N V=>?_))
 .exact⟨Z,by show 1<=m;omega,by show m<=q;omega,J.2.2⟩
 .rw[Eu (by omega),Eu (by omega),X7 (by omega),X7 (by omega)]
  exact h _ _ (by omega) (by omega)
theorem G7{p:Array Nat}{a q:Nat}(F:iQ n p)(a0:a+1<=q)(Z:q<=n)(h:Dn1 ρ p (a+1)):Tr (bk ρ) n (kas_descPart a q p) (CtQ ρ n q):=by
 refine Tr.bind (Tr.mono (λt U=>?_) (yu hn (q-(a+1)) p (a+1) 0 F (by omega) (by omega) h (by omega) λi h1 h2=>by rw[show i=a+1-1 by omega]));obtain⟨t1,t2,t3⟩:=t;obtain⟨h1,h2,h3,O,Y,J⟩:=U;have hz:=h1.size;simp only at h1 h2 h3 O Y J hz⊢;split
 .refine FW hn (h1.of (aea _ _ _ _)) (by omega) (by omega) Z λi j N V=>?_
  rw[iR (by omega) J,iR (by omega) J];exact O i j N V
 .exact FW hn h1 (by omega) (by omega) Z O
theorem JL{p:Array Nat}{nr:Nat}(F:iQ n p)(h1:1<=nr)(a4:nr<=n):Tr (bk ρ) n (kas_count nr p) (CtQ ρ n nr):=by
 have hz:=F.size;have U:Up1 ρ p 1:=λi j N V=>by rw[show i=j by omega];exact Z9 _
 have go:Tr (bk ρ) n (kas_asc p (nr-1) 1) λm=>1<=m/\m<=nr/\Up1 ρ p m/\(m=nr∨rk ρ p m<rk ρ p (m-1)):=by
  have:∀(f a:Nat),1<=a->a+f=nr->Up1 ρ p a->Tr (bk ρ) n (kas_asc p f a) λm=>1<=m/\m<=nr/\Up1 ρ p m/\(m=nr∨rk ρ p m<rk ρ p (m-1)):=by
   intro f
   induction f with
   |zero=>intro a Y hf h;exact⟨Y,by omega,h,.inl (by omega)⟩
   |succ f Z=>
    intro a Y hf h;refine⟨F.lt hn _,F.lt hn _,?_⟩;by_cases c:rk ρ p a<rk ρ p (a-1)
    .have e:bk ρ (p.getD a 0) (p.getD (a-1) 0)=true:=Zw c
     rw[e];exact⟨Y,by omega,h,.inr c⟩
    .have e:bk ρ (p.getD a 0) (p.getD (a-1) 0)=false:=YH c
     rw[e];refine Z (a+1) (by omega) (by omega) λi j N V=>?_;by_cases a5:j<a
     .exact h i j N a5
     .obtain rfl:j=a:=by omega
      by_cases hi:i=j
      .subst hi;exact Z9 _
      .exact acO (h i (j-1) (by omega) (by omega)) (by omega)
  exact this (nr-1) 1 (XQ _) (by omega) U
 refine Tr.bind (Tr.mono (λm hm=>?_) go);obtain⟨m1,m2,m3,m4⟩:=hm;by_cases a0:m=nr
 .rw[X7 (by simpa using a0)]
  exact⟨F,m1,m2,m3⟩
 .rw[Yc (by simpa using a0)]
  have q:=m4.resolve_left a0;by_cases a3:m>1
  .rw[X7 a3]
   refine⟨F.lt hn _,F.lt hn _,?_⟩;by_cases c:rk ρ p 0<rk ρ p (m-1)
   .have e:bk ρ (p.getD 0 0) (p.getD (m-1) 0)=true:=Zw c
    rw[e];exact⟨F,m1,m2,m3⟩
   .have e:bk ρ (p.getD 0 0) (p.getD (m-1) 0)=false:=YH c
    rw[e];simp![Yz,Zi];have O:∀k,0<=k->k<m->rk ρ p k=rk ρ p (m-1):=λk _ J=>by
     have a1:=m3 0 k (by omega) J;have a2:=m3 k (m-1) (by omega) (by omega);omega
    refine G7 hn (F.of (aea _ _ _ _)) (by omega) a4 λi j N V=>?_;rw[iR (by omega) O,iR (by omega) O];by_cases a6:j<m
    .rw[O i (by omega) (by omega),O j (by omega) a6];exact Z9 _
    .obtain rfl:j=m:=by omega
     by_cases hi:i=j
     .subst hi;exact Z9 _
     .rw[O i (by omega) (by omega)];omega
  .rw[Yc a3]
   obtain rfl:m=1:=by omega
   refine G7 hn F (by omega) a4 λi j N V=>?_;by_cases hi:i=j
   .subst hi;exact Z9 _
   .obtain rfl:i=0:=by omega
    obtain rfl:j=1:=by omega
    exact afa q
theorem v8{p:Array Nat}{k:Nat}(F:iQ n p)(h:Up1 ρ p k):∀(f l r:Nat),l<=r->r<=k->r-l<=f->(∀i,i<l->rk ρ p i<=rk ρ p k)->(∀i,r<=i->i<k->rk ρ p k<rk ρ p i)->
  Tr (bk ρ) n (kas_place p k f l r) λm=>m<=k/\(∀i,i<m->rk ρ p i<=rk ρ p k)/\∀i,m<=i->i<k->rk ρ p k<rk ρ p i
 |0,l,r,hlr,hrk,hf,h1,h2=>⟨by omega,h1,λi hi J=>h2 i (by omega) J⟩
 |f+1,l,r,hlr,hrk,hf,h1,h2=>by
  unfold kas_place;by_cases q:l>=r
  .rw[X7 q]
   exact⟨by omega,h1,λi hi J=>h2 i (by omega) J⟩
  .rw[Yc q]
   refine⟨F.lt hn _,F.lt hn _,?_⟩;by_cases c:rk ρ p k<rk ρ p ((l+r) / 2)
   .have e:bk ρ (p.getD k 0) (p.getD ((l+r) / 2) 0)=true:=Zw c
    rw[e];exact v8 F h f l _ (by omega) (by omega) (by omega) h1 λi hi J=>Int.lt_of_lt_of_le c (h _ i hi J)
   .have e:bk ρ (p.getD k 0) (p.getD ((l+r) / 2) 0)=false:=YH c
    rw[e];exact v8 F h f _ r (by omega) hrk (by omega) (λi hi=>acO (h i ((l+r) / 2) (by omega) (by omega)) (by omega)) h2
theorem Jw:∀(f:Nat)(p:Array Nat)(k:Nat),iQ n p->k+f<=n->Up1 ρ p k->Tr (bk ρ) n (kas_bin f p k) λq=>iQ n q/\Up1 ρ q (k+f)
 |0,p,k,hp,_,h=>⟨hp,h⟩
 |f+1,p,k,hp,hf,h=>by
  have hz:=hp.size;refine Tr.bind (Tr.mono (λl Y=>?_) (v8 hn hp h k 0 k (by omega) (by omega) (by omega) (λi hi=>by omega) λi h1 h2=>by omega));obtain⟨l1,l2,F⟩:=Y;have U:∀i,rk ρ (bubble p k (k-l)) i=if i=l then rk ρ p k else if l<i/\i<=k then rk ρ p (i-1)else rk ρ p i:=λi=>by
   have e:=getElem?_bubble (xs:=p) (src:=k) (by omega) (k-l) (by omega) i;rw[show k-(k-l)=l by omega]at e;split
   .rename_i hi;rw[X7 hi]at e;exact Cv e
   .rename_i hi
    rw[Yc hi]at e;split
    .rename_i hi2;rw[X7 hi2]at e;exact Cv e
    .rename_i hi2;rw[Yc hi2]at e;exact Cv e
  refine Tr.mono (λq N=>⟨N.1,by rw[show k+(f+1)=k+1+f by omega];exact N.2⟩) (Jw f (bubble p k (k-l)) (k+1) (hp.of (bubble_perm _ _ _)) (by omega) λi j J V=>?_);rw[U,U]
  repeat' split
  all_goals first
   |exact Z9 _
   |(exfalso;omega)
   |exact afa (F _ (by omega) (by omega))
   |exact l2 _ (by omega)
   |exact h _ _ (by omega) (by omega)
theorem Q0:Tr (bk ρ) n (kas_sort n) λp=>iQ n p/\Up1 ρ p n:=by
 have F:iQ n (afb (Yp n)):=by unfold iQ;exact ab5 _
 refine Tr.bind (Tr.mono (λt U=>?_) (JL hn F (by omega) (XQ n)));obtain⟨h1,h2,J,O⟩:=U;split
 .refine Tr.mono (λq N=>⟨N.1,?_⟩) (Jw hn (n-max t.1 1) t.2 (max t.1 1) h1 (by omega) (by rw[show max t.1 1=t.1 by omega];exact O))
  have:=N.2;rwa[show max t.1 1+(n-max t.1 1)=n by omega]at this
 .rename_i hlt
  exact⟨h1,by rw[show t.1=n by omega]at O;exact O⟩
end
open PySem PySem.W PyProof.Rows PySem.SeqAt
theorem jP:plainId "list.__eq__.loop"=true:=by decide +kernel
theorem tY:aeD table "list.__eq__.loop"=some Builtin.«list.__eq__.loop»:=entryFor_of_fast (by kernel_rfl)
def ltS:List Str->List Str->Bool
 |[],[]=>false
 |[],_::_=>true
 |_::_,[]=>false
 |a::r,b::q=>if a=b then ltS r q else decide (a.cps.toList<b.cps.toList)
def StA(its:Array Value)(xs:List Str):Prop:=∀i:Nat,its[i]? =none/\xs[i]? =none∨∃x t,its[i]? =some (.str x t)/\xs[i]? =some x
variable{i:Nat}
theorem Kd{xs ys:List Str}:ltS (xs.drop i) (ys.drop i)=match xs[i]?,ys[i]? with
  |none,none=>false
  |none,some _=>true
  |some _,none=>false
  |some a,some b=>if a=b then ltS (xs.drop (i+1)) (ys.drop (i+1))else decide (a.cps.toList<b.cps.toList):=by
 have d:∀zs:List Str,zs.drop i=match zs[i]? with|none=>[]|some a=>a::zs.drop (i+1):=λzs=>by
  by_cases h:i<zs.length
  .rw[aaY h,XX h]
  .rw[abr (by omega),abC (by omega)]
 rw[d xs,d ys];cases xs[i]?<;>cases ys[i]?<;>rfl
theorem JD(l b:Addr)(its N:Array Value)(n n2:Nat)(dd a2:Option Addr)(sl a1:Array (Option Value))(xs ys:List Str)(h1:StA its xs)(h2:StA N ys)(J:its.size=xs.length)(V:N.size=ys.length)(k:Nat) :
  ∀i:Nat,xs.length-i=k->Meets (Builtin.«list.__eq__.loop» ⟨[.ref l,.ref b,Zk i,Zk 0],[]⟩)
   (λA R s=>s.heap.get? l=some {cls:=.type "list",dict:=dd,data:=.seq its n,slots:=sl}/\s.heap.get? b=some {cls:=.type "list",dict:=a2,data:=.seq N n2,slots:=a1}/\(i<=xs.length/\i<=ys.length)/\
    R (.ok (.ret (.bool (ltS (xs.drop i) (ys.drop i))))) s):=by
 induction k with
 |zero=>
  intro i hk prog w A R s h;obtain⟨F,g,d,tk,os⟩:=s;obtain⟨Y,U,hi,h⟩:=h
  wp_walk using wpAny_loadPart' Y,wpAny_loadPart' U
  have e1:xs[i]? =none:=by simp;omega
  have e2:its[((i:Nat):Int).toNat]? =none:=by simp;omega
  rw[Kd,e1]at h;rw[e2]
  wp_walk using wpAny_loadPart' Y,wpAny_loadPart' U
  show R (.ok (.ret (.bool (decide (its.size<N.size))))) _;rw[J,V];cases O:ys[i]? with
  |none=>
   rw[O]at h;have:ys.length<=i:=by simpa using O
   rw[show decide (xs.length<ys.length)=false by simp;omega];exact h
  |some y=>
   rw[O]at h;have:=(XF.mp O).1;rw[show decide (xs.length<ys.length)=true by simp;omega];exact h
 |succ k ih=>
  intro i hk prog w A R s h;obtain⟨F,g,d,tk,os⟩:=s;obtain⟨Y,U,hi,h⟩:=h
  wp_walk using wpAny_loadPart' Y,wpAny_loadPart' U
  have q:i<xs.length:=by omega
  obtain⟨z,_⟩|⟨x,t,e1,e2⟩:=h1 i
  .simp at z;omega
  rw[Kd,e2]at h;have f1:its[((i:Nat):Int).toNat]? =some (.str x t):=by simpa using e1
  obtain⟨O,e4⟩|⟨y,u,O,e4⟩:=h2 i
  .have f2:N[((i:Nat):Int).toNat]? =none:=by simpa using O
   rw[e4]at h;rw[f1,f2]
   wp_walk using wpAny_loadPart' Y,wpAny_loadPart' U
   show R (.ok (.ret (.bool (decide (its.size<N.size))))) _;have:ys.length<=i:=by simpa using e4
   rw[show decide (its.size<N.size)=false by simp;omega];exact h
  .have f2:N[((i:Nat):Int).toNat]? =some (.str y u):=by simpa using O
   have Z:((i:Int)+1)=((i+1:Nat):Int):=by push_cast;rfl
   have a3:=(XF.mp e4).1;rw[e4]at h;rw[f1,f2];refine gD (wpAny_eqBool_str ?_);by_cases a0:x=y
   .simp![a0,Yd]at h
    rw[show decide (x=y)=true from Zw a0]
    wp_walk
    rw[Z];exact⟨Zo jP _,Zd tY (by
     rw[YW jP _];exact ih (i+1) (by omega) prog w A R _ ⟨Y,U,⟨by omega,by omega⟩,h⟩)⟩
   .simp![Yc a0]at h
    rw[show decide (x=y)=false from YH a0]
    wp_walk using wpAny_loadPart' Y,wpAny_loadPart' U
    rw[f1,f2];refine gD (lt_str ?_);exact yr h
theorem M6(l b:Addr)(its N:Array Value)(n q:Nat)(Z a1:Option Addr)(sl a0:Array (Option Value))(xs ys:List Str)(h1:StA its xs)(h2:StA N ys)(J:its.size=xs.length)(V:N.size=ys.length) :
  Meets (Builtin.«list.__lt__» ⟨[.ref l,.ref b],[]⟩)
   (λA R s=>s.heap.get? l=some {cls:=.type "list",dict:=Z,data:=.seq its n,slots:=sl}/\s.heap.get? b=some {cls:=.type "list",dict:=a1,data:=.seq N q,slots:=a0}/\R (.ok (.ret (.bool (ltS xs ys)))) s):=by
 intro prog w A R s h;obtain⟨F,g,d,tk,os⟩:=s;obtain⟨Y,U,h⟩:=h;have O:=AutoSeq1.sub_list_list
 wp_walk using wpAny_loadPart' Y,wpAny_loadPart' U
 exact⟨Zo jP _,Zd tY (by
  rw[YW jP _];exact JD l b its N n q Z a1 sl a0 xs ys h1 h2 J V _ 0 rfl prog w A R _ ⟨Y,U,⟨aai _,aai _⟩,by simpa using h⟩)⟩
theorem Eb{l b:Addr}{its a0:Array Value}{xs ys:List Str}{Q:Bool->Mx->Prop}(Y:s.heap.IsList l its)(U:s.heap.IsList b a0)(h1:StA its xs)(h2:StA a0 ys)(J:its.size=xs.length)(V:a0.size=ys.length)(O:A.units<cLine)
  (h:Q (ltS xs ys) s):wpAny (model prog w) A (oneLt' true (.ref l) (.ref b)) Q E s:=by
 obtain⟨⟨cls,dd,data,sl⟩,N,Z,n,hd⟩:=id Y;obtain⟨⟨a7,a4,a6,a5⟩,a3,a2,q,a1⟩:=id U;simp only at Z hd a2 a1;subst Z hd a2 a1;rw[oneLt'_eq];simp![Yd];refine gD (wpAny_cRoomFor O ?_);refine gD (wpAny_callSpecialIfBound?_slot (T:="list") ⟨_,N,rfl⟩ F.slot_list_lt (adA F.slot_list_lt ⟨_,N,rfl⟩ F.entry_list_lt (F.args_list_lt_2 _ _) (M6 l b its a0 n q dd a4 sl a5 xs ys h1 h2 J V) ⟨N,a3,?_⟩));exact aab h
variable{Q:Value->Mx->Prop}{κ:SortKind}
theorem yg{vs:List Value}{ρ:Nat->Int}(b8:vs.length<64)
  (J:2<=vs.length->∀h':Heap,(∀b o,s.heap.get? b=some o->h'.get? b=some o)->∀(E':Value->Mx->Prop)(Q':SortKind->Mx->Prop),Q' κ {s with heap:=h'}->wpAny (model prog w) A.in1.in1 (keyKind' vs.toArray) Q' E' {s with heap:=h'})
  (b7:∀h':Heap,(∀b o,s.heap.get? b=some o->h'.get? b=some o)->∀i j,i<vs.length->j<vs.length->∀Q':Bool->Mx->Prop,Q' (decide (ρ i<ρ j)) {s with heap:=h'}->wpAny (model prog w) A.in1.in1 (keyLt' κ (vs.getD i YT) (vs.getD j YT)) Q' (λ_ _=>False) {s with heap:=h'})
  (h:∀p:Array Nat,iQ vs.length p->Up1 ρ p vs.length->∀(h':Heap)(c:Nat),(∀b o,s.heap.get? b=some o->h'.get? b=some o)->h'.get? s.heap.objs.size=some (ab1 "list" (afb (p.toList.map λi=>vs.getD i YT)) c)->Q (.ref s.heap.objs.size) {s with heap:=h'}) :
  wpAny (model prog w) A.in1 (acY vs >>=λl=>aa2 [l] (call (.builtin "list.sort") [l] []) >>=λ_=>ret l) (λfin s'=>∃v,fin= .done (.ret v)/\Q v s') E s:=by
 have b4:vs.length<=X3:=by rw[ach];omega
 refine gD (aeO ?_ (by rw[ach];omega))
 let a:=s.heap.objs.size
 let G2:Heap:=s.heap.push (ab1 "list" vs.toArray 0)
 have Z:G2.objs.size=s.heap.objs.size+1:=size_push' _ _;have a8:G2.get? a=some (ab1 "list" vs.toArray 0):=X4 _ rfl;show wpAny _ _ (aa2 _ _ >>=_) _ _ {s with heap:=G2};refine gD (Y_ (abG slot_list_sort ⟨_,a8,rfl⟩ entry_list_sort ?_ (args_list_sort _)));have b3:∀b o,s.heap.get? b=some o->G2.get? b=some o:=λb o q=>qb _ q
 let G3:Heap:=G2.update a (ZS λ_=>#[])
 obtain⟨e1,b5⟩:∃e1,G3.get? a=some (ab1 "list" #[] e1):=⟨_,acP a8 λ_=>#[]⟩;have z3:G3.objs.size=s.heap.objs.size+1:=by show(G2.update _ _).objs.size=_;rw[afE,Z]
 let G5:Heap:=(G3.push (ab1 "tuple" vs.toArray 0)).push (ab1 "list" #[] 0)
 have b6:∀b o,G3.get? b=some o->G5.get? b=some o:=λb o q=>qb _ (qb _ q);have a5:∀b o,s.heap.get? b=some o->G5.get? b=some o:=λb o q=>by
  have U:b<s.heap.objs.size:=XR q;refine b6 b o ?_;show(G2.update _ _).get? b=_;rw[aeX _ _ _ _ (X8 U)];exact b3 b o q
 have b1:G5.get? a=some (ab1 "list" #[] e1):=b6 a _ b5;rw[list_sort_plain];refine gD (listItems_at a8 rfl ?_);refine gD (listUpdate_at a8 rfl ?_ (by rw[List.size_toArray];exact b4) (aai _));refine gD (seqEpoch_at b5 rfl ?_);refine gD (aem ?_ (by show vs.length<=_;exact b4));refine gD (aeO ?_ (aai _));refine Y_ ?_;show wpAny (model prog w) A.in1.in1 _ _ _ {s with heap:=G5};dsimp only;have fin:∀(a0:SortSt)(p:Array Nat),arrOf a0=p.map (kas_item (vs.toArray.zip vs.toArray))->failedOf a0=none->iQ vs.length p->Up1 ρ p vs.length->
   wpAny (model prog w) A.in1.in1 (do
    let a9:=(arrOf a0).map (·.2)
    let a7:=(←seqEpoch a)!=e1
    Builtin.List.listUpdate (.ref a) λ_=>a9
    if let some e:=failedOf a0 then rule "list.sort.comparison-raised";throw e
    if a7 then rule "list.sort.modified";raiseError "ValueError" "list modified during sort"
    ret .none) (λfin s'=>∃v,fin= .done (.ret v)/\wpAny (model prog w) A.in1 (ret (.ref a)) (λfin s'=>∃v,fin= .done (.ret v)/\Q v s') E s') E {s with heap:=G5}:=λa0 p b2 hf F O=>by
  have b0:=kat_snds (vs:=vs) (ks:=vs) rfl b2;dsimp only;refine gD (seqEpoch_at b1 rfl ?_);have c0:p.size=vs.length:=F.size;refine gD (listUpdate_at b1 rfl ?_ (aai _) (by rw[b0];simp![List.size_toArray,X5,Y0];omega));rw[hf];simp![bne_self_eq_false,Yz,Zi];refine yr ⟨_,rfl,yr ⟨_,rfl,?_⟩⟩;rw[b0];refine h p F O _ _ (λb o q=>?_) (acP b1 _);rw[aeX _ _ _ _ (X8 (XR q))];exact a5 b o q
 by_cases a6:vs.toArray.size<2
 .rw[X7 a6,X7 a6]
  rw[List.size_toArray]at a6;refine gD (yr ?_);rw[StateT.run_pure];refine gD (yr ?_);refine fin _ (afb (Yp vs.length)) ?_ rfl (ab5 _) (λi j N V=>by rw[show i=j by omega];exact Z9 _);have e:=kas_range (vs.toArray.zip vs.toArray);rw[show(vs.toArray.zip vs.toArray).size=vs.length by simp]at e;exact e.symm
 .rw[Yc a6,Yc a6]
  rw[List.size_toArray]at a6;refine gD (J (by omega) G5 a5 _ _ ?_);have b9:(kas_sort vs.length).kasWp (kas_ask prog w A.in1.in1 κ vs) (λp s'=>s'={s with heap:=G5}/\iQ vs.length p/\Up1 ρ p vs.length) {s with heap:=G5}:=
   Tr.wp (λi j C hi V hC=>b7 G5 a5 i j hi V C hC) (Q0 (ρ:=ρ) (by omega))
  refine gD (Zr (kat_run (Q:=λa0 s'=>∃p:Array Nat,arrOf a0=p.map (kas_item (vs.toArray.zip vs.toArray))/\failedOf a0=none/\s'={s with heap:=G5}/\iQ vs.length p/\Up1 ρ p vs.length) (E:=E)
   rfl (by omega) b8 (λp' a0 s' a1 Y a3 a4=>⟨p',Y,a3,a4⟩) b9) ?_ λ_ _ e=>e)
  rintro⟨⟨⟩,a0⟩ s' ⟨p,b2,hf,rfl,F,O⟩;exact fin a0 p b2 hf F O
theorem rF{x:Value}(Z:∀J (q:List Value->Mx->Prop),(∀vs O,wpAny (model prog w) A.in1 (acY vs >>=λl=>aa2 [l] (call (.builtin "list.sort") [l] []) >>=λ_=>ret l) (λfin s'=>∃v,fin= .done (.ret v)/\Q v s') J O->q vs O)->wpAny (model prog w) A.in1 (afl x) q J s) :
  wpAny (model prog w) A (call (.builtin "sorted") [x]) Q E s:=by
 refine Calls.call_function_entry kind_sorted plain_sorted entry_sorted (args_sorted1 _) ?_;unfold Builtin.«sorted»;refine gD (m:=checkCount "sorted" 1 1 _) (yr ?_);exact gD (Z _ _ λvs O h=>h)
theorem OJ{a b:Str}(h1:¬a.cps.toList<b.cps.toList)(h2:¬b.cps.toList<a.cps.toList):a=b:=by
 have:=strKind.total a.cps.toList b.cps.toList (by simpa using h1) (by simpa using h2);cases a;cases b;congr;exact Array.toList_inj.mp this
theorem Gx(a:Str):¬a.cps.toList<a.cps.toList:=List.lt_irrefl _
theorem jq:∀a:List Str,ltS a a=false
 |[]=>rfl
 |x::r=>by simp[ltS,jq r]
theorem nP:∀a b:List Str,ltS a b=false->ltS b a=false->a=b
 |[],[],_,_=>rfl
 |[],_::_,h,_=>by simp[ltS]at h
 |_::_,[],_,h=>by simp[ltS]at h
 |x::r,y::q,h1,h2=>by
  by_cases e:x=y
  .subst e
   simp![ltS,Yd]at h1 h2;rw[nP r q h1 h2]
  .simp![ltS,Yc e,Yc (YC e),decide_eq_false_iff_not]at h1 h2
   exact absurd (OJ h1 h2) e
theorem m9:∀a b c:List Str,ltS a b=true->ltS b c=true->ltS a c=true
 |[],[],_,h,_=>by simp[ltS]at h
 |_::_,[],_,h,_=>by simp[ltS]at h
 |[],_::_,[],_,h=>by simp[ltS]at h
 |[],_::_,_::_,_,_=>rfl
 |_::_,_::_,[],_,h=>by simp[ltS]at h
 |x::r,y::q,z::p,h1,h2=>by
  by_cases e:x=y
  .subst e
   simp![ltS,Yd]at h1;by_cases e2:x=z
   .subst e2
    simp![ltS,Yd]at h2⊢;exact m9 r q p h1 h2
   .simp![ltS,Yc e2]at h2⊢
    exact h2
  .simp![ltS,Yc e,aau]at h1
   by_cases e2:y=z
   .subst e2
    simp![ltS,Yc e,aau];exact h1
   .simp![ltS,Yc e2,aau]at h2
    have F:=List.lt_trans h1 h2;have O:x≠z:=λV=>by subst V;exact Gx _ F
    simp![ltS,Yc O,aau];exact F
theorem FP{a b c:List Str}(h:ltS a c=true)(h2:ltS b c=false):ltS a b=true:=by
 cases e:ltS a b with
 |true=>rfl
 |false=>
  cases e2:ltS b a with
  |true=>rw[m9 b a c e2 h]at h2;cases h2
  |false=>rw[nP a b e e2,h2]at h;cases h
def below(ks:List (List Str))(a:List Str):Nat:=ks.countP λy=>ltS y a
theorem rR{p q:α->Bool}:∀{l:List α},(∀x∈l,p x=true->q x=true)->l.countP p<=l.countP q
 |[],_=>by simp
 |x::r,h=>by
  have Z:=rR (l:=r) λy V=>h y (by simp[V]);rw[acB,acB];cases e:p x with
  |false=>simp;omega
  |true=>simp[h x (by simp) e,Z]
variable{z:α}
theorem xU{p q:α->Bool}:∀{l:List α},(∀x∈l,p x=true->q x=true)->z∈l->q z=true->p z=false->l.countP p<l.countP q
 |[],_,h,_,_=>by cases h
 |x::r,h,hz,hq,hp=>by
  rw[acB,acB];have F:=rR (l:=r) λy V=>h y (by simp[V]);rcases XJ.mp hz with rfl|hz
  .simp[hq,hp];omega
  .have ih:=xU (l:=r) (λy V=>h y (by simp[V])) hz hq hp
   cases e:p x with
   |false=>simp;omega
   |true=>simp[h x (by simp) e];omega
variable{ks:List (List Str)}
theorem Ah{a b:List Str}(Y:a∈ks):ltS a b=decide ((below ks a:Int)<below ks b):=by
 cases e:ltS a b with
 |true=>
  have:=xU (l:=ks) (p:=λy=>ltS y a) (q:=λy=>ltS y b) (λy _ V=>m9 y a b V e) Y e (jq a);exact(Zw (by unfold below;omega)).symm
 |false=>
  have:=rR (l:=ks) (p:=λy=>ltS y b) (q:=λy=>ltS y a) λy _ V=>FP V e;exact(YH (by unfold below;omega)).symm
def Ot(K:XS)(H:Hp)(ys:List V)(ks:List (List Str)):Prop:=ks.length=ys.length/\((∀(i:Nat)(k:List Str),ks[i]? =some k->∃x,k=[x]/\ys[i]? =some (.str x))∨∀(i:Nat)(k:List Str),ks[i]? =some k->∃b,ys[i]? =some (.ref b)/\SqL K H b (k.map V.str))
def Dw(K:XS)(A:Zc):List V->Hp->VK->Prop:=λxs H Q=>∃a ys ks,xs=[.ref a]/\(SqL K H a ys∨SqT K H a ys)/\ys.length<64/\A.units+2<cLine/\Ot K H ys ks/\
 ∀p:List Nat,Yu p (Yp ys.length)->abm (λi j=>ltS (ks.getD j []) (ks.getD i [])=false) p->∀l,H l=none->Q (.ref l) (upd H l (.lst (p.map λi=>ys.getD i .non)))
theorem Ay(r:Vals ys us)(i:Nat):(ys[i]? =none/\us[i]? =none)∨∃y u,ys[i]? =some y/\us[i]? =some u/\RelV y u:=by
 cases e:ys[i]? with
 |none=>
  have:=r.length;exact .inl ⟨rfl,by rw[aan]at e⊢;omega⟩
 |some y=>
  obtain⟨u,h1,h2⟩:=r.get e;exact .inr ⟨y,u,rfl,h1,h2⟩
theorem Lq{xs:List Str}(r:Vals (xs.map V.str) us):StA us.toArray xs:=λi=>by
 rcases Ay r i with⟨h1,h2⟩|⟨y,u,h1,h2,F⟩
 .exact .inl ⟨by simpa using h2,by simpa using h1⟩
 .rw[List.getElem?_map]at h1
  cases e:xs[i]? with
  |none=>rw[e]at h1;cases h1
  |some x=>
   rw[e]at h1;cases h1;obtain⟨t,rfl⟩:=F;exact .inr ⟨x,t,by simpa using h2,rfl⟩
theorem oW(r:Vals ys us):∀p:List Nat,(∀i∈p,i<ys.length)->Vals (p.map λi=>ys.getD i .non) (p.map λi=>us.getD i YT)
 |[],_=>.nil
 |i::p,h=>by
  refine .cons ?_ (oW r p λj q=>h j (by simp[q]));rcases Ay r i with⟨h1,h2⟩|⟨y,u,h1,h2,F⟩
  .have:=h i (by simp)
   rw[aan]at h1;omega
  .show RelV (ys.getD i .non) (us.getD i YT)
   rw[Zj,Zj,h1,h2];exact F
theorem Rc(x y:Str):ltS [x] [y]=decide (x.cps.toList<y.cps.toList):=by
 by_cases z:x=y
 .subst z;simp[ltS,Gx]
 .simp[ltS,z]
variable{X:Cx}{Q:VK}{E:Value->Mx->Prop}{s:Mx}
theorem sort_keys(I:Inv X pins σ H s)(rv:Vals xs its)(Y:xs.length<64)(Z:ks.length=xs.length)
  (J:2<=its.length->∀h':Heap,(∀b o,s.heap.get? b=some o->h'.get? b=some o)->∀(E':Value->Mx->Prop)(O:SortKind->Mx->Prop),O κ {s with heap:=h'}->wpAny (model X.prog X.w) X.A.in1.in1 (keyKind' its.toArray) O E' {s with heap:=h'})
  (a4:∀h':Heap,(∀b o,s.heap.get? b=some o->h'.get? b=some o)->∀i j,i<its.length->j<its.length->∀O:Bool->Mx->Prop,O (ltS (ks.getD i []) (ks.getD j [])) {s with heap:=h'}->wpAny (model X.prog X.w) X.A.in1.in1 (keyLt' κ (its.getD i YT) (its.getD j YT)) O (λ_ _=>False) {s with heap:=h'})
  (q:∀p:List Nat,Yu p (Yp xs.length)->abm (λi j=>ltS (ks.getD j []) (ks.getD i [])=false) p->∀l,H l=none->Q (.ref l) (upd H l (.lst (p.map λi=>xs.getD i .non)))) :
  wpAny (model X.prog X.w) X.A.in1 (acY its >>=λl=>aeP [l] (call (.builtin "list.sort") [l] []) >>=λ_=>ret l) (λfin s'=>∃v,fin= .done (.ret v)/\EP X pins σ Q v s') E s:=by
 have U:=rv.length;have b0:64<=X3:=by decide
 have a1:∀i,i<its.length->ks.getD i []∈ks:=λi hi=>by
  have:i<ks.length:=by omega
  rw[show ks.getD i []=ks[i]by simp[this]];exact Z7 _
 refine yg (κ:=κ) (ρ:=λi=>(below ks (ks.getD i []):Int)) (by omega) J (λh' ext i j hi hj O a6=>a4 h' ext i j hi hj O (by rw[Ah (a1 i hi)];exact a6)) λp F a7 h' c a2 N=>?_;have a0:∀i∈p.toList,i<its.length:=λi hi=>ZJ.mp (adu F |>.mp hi);have a8:=F.size;refine⟨.ref s.heap.objs.size,upd H s.heap.objs.size (.lst (p.toList.map λi=>xs.getD i V.non)),I.laid (t':=s.toks) a2 (XQ _) ?_,rfl,q p.toList (by rw[U];exact F) ?_ _ (I.hok.fresh (XQ _))⟩
 .exact⟨by rw[X5];simp![Y0];omega,p.toList.map λi=>its.getD i YT,c,oW rv p.toList λi hi=>by have:=a0 i hi;omega,N⟩
 .rw[aao]
  intro i j hi hj a9;have a3:j<p.size:=by simpa using hj
  have a5:i<p.size:=by simpa using hi
  have:=a7 i j (by omega) (by omega);unfold rk at this;rw[Yl,Yl,ZL p i a5,ZL p j a3,aaD,aaD]at this;rw[ZV,ZV,Ah (a1 p[j] (a0 _ (by simp)))];exact YH (by simp only at this;omega)
theorem BK(I:Inv X pins σ H s)(J:Vals ys its)(Y:ys.length<64)(O:X.A.units+2<cLine)(hK:Ot X.K H ys ks)
  (q:∀p:List Nat,Yu p (Yp ys.length)->abm (λi j=>ltS (ks.getD j []) (ks.getD i [])=false) p->∀l,H l=none->Q (.ref l) (upd H l (.lst (p.map λi=>ys.getD i .non)))) :
  wpAny (model X.prog X.w) X.A.in1 (acY its >>=λl=>aeP [l] (call (.builtin "list.sort") [l] []) >>=λ_=>ret l) (λfin s'=>∃v,fin= .done (.ret v)/\EP X pins σ Q v s') E s:=by
 obtain⟨a5,a0⟩:=hK;have a8:=J.length;have a4:∀i,i<its.length->∃k,ks[i]? =some k/\ks.getD i []=k:=λi hi=>by
  have:i<ks.length:=by omega
  exact⟨ks[i],by simp[this],by simp[this]⟩
 rcases a0 with a0|a0
 .refine sort_keys (κ:=oneType') I J Y a5 (λh2 h' ext E' Q' a3=>adO (T:=.type "str") (by omega) (λv hv=>?_) rfl rfl a3) (λh' ext i j hi hj Q' a3=>?_) q
  .obtain⟨i,hi,rfl⟩:=Y7 hv
   obtain⟨k,e1,_⟩:=a4 i hi;obtain⟨x,_,e3⟩:=a0 i k e1;obtain⟨u,h1,t,h2⟩:=J.get e3;rw[XX hi]at h1;rw[Y4 h1,h2];exact aen rfl
  .obtain⟨k1,e1,g1⟩:=a4 i hi
   obtain⟨k2,e2,g2⟩:=a4 j hj;obtain⟨x,rfl,x3⟩:=a0 i k1 e1;obtain⟨y,rfl,y3⟩:=a0 j k2 e2;obtain⟨u1,a1,t1,rfl⟩:=J.get x3;obtain⟨u2,a2,t2,rfl⟩:=J.get y3;rw[Zj,Zj,a1,a2];refine oneLt_str ?_;rwa[g1,g2,Rc]at a3
 .refine sort_keys (κ:=oneType') I J Y a5 (λh2 h' ext E' Q' a3=>adO (T:=.type "list") (by omega) (λv hv=>?_) rfl rfl a3) (λh' ext i j hi hj Q' a3=>?_) q
  .obtain⟨i,hi,rfl⟩:=Y7 hv
   obtain⟨k,e1,_⟩:=a4 i hi;obtain⟨b,e3,U⟩:=a0 i k e1;obtain⟨u,h1,h2⟩:=J.get e3;rw[XX hi]at h1;cases h1;obtain⟨a9,_,pb,_⟩:=I.list U;obtain⟨o,N,Z,_⟩:=pb.isList;rw[show its[i]=YD b from h2,←Z];exact(PySem.W.Looks.ld (ext _ _ N)).andThen .now
  .obtain⟨k1,e1,g1⟩:=a4 i hi
   obtain⟨k2,e2,g2⟩:=a4 j hj;obtain⟨b1,x3,x4⟩:=a0 i k1 e1;obtain⟨b2,y3,y4⟩:=a0 j k2 e2;obtain⟨u1,a1,t1⟩:=J.get x3;obtain⟨u2,a2,t2⟩:=J.get y3;obtain⟨a6,r1,p1,_⟩:=I.list x4;obtain⟨a7,F,p2,_⟩:=I.list y4;rw[Zj,Zj,a1,a2];rw[show u1=YD b1 from t1,show u2=YD b2 from t2];have x1:Heap.IsList h' b1 a6.toArray:=by obtain⟨o,N,z⟩:=p1.isList;exact⟨o,ext _ _ N,z⟩
   have x2:Heap.IsList h' b2 a7.toArray:=by obtain⟨o,N,z⟩:=p2.isList;exact⟨o,ext _ _ N,z⟩
   have l1:=r1.length;have l2:=F.length;rw[X5]at l1 l2;refine Eb (xs:=k1) (ys:=k2) x1 x2 (Lq r1) (Lq F) (by rw[List.size_toArray];omega) (by rw[List.size_toArray];omega) (by show X.A.units+1+1<cLine;omega) ?_;rwa[g1,g2]at a3
theorem zy:dq X (.builtin "sorted") (Dw X.K X.A):=by
 intro pins s σ H xs us Q I r h;obtain⟨a,ys,ks,rfl,hq,Y,O,V,q⟩:=h;obtain⟨u,rfl,ru⟩:=vals1 r;cases ru;have a0:∀{c:String}{its:List Value},c="list"∨c="tuple"->Vals ys its->(∃o:Obj,s.heap.get? a=some o/\o.cls= .type c/\∃n,o.data= .seq its.toArray n)->wpAny (model X.prog X.w) X.A (call (.builtin "sorted") [.ref a]) (EP X pins σ Q) X.xe s:=λ{c its} Z rv ⟨o,N,F,n,hd⟩=>by
  have a1:its.toArray.size<=X3:=by
   have h1:=rv.length;have h2:64<=X3:=by decide
   simp;omega
  refine rF λE' Q' U=>wpAny_collect_seq a Z N F hd (λh' J=>?_) a1;rw[List.toList_toArray];exact U _ _ (BK (I.kept (t':=s.toks) J) rv Y O V q)
 rcases hq with hq|hq
 .obtain⟨its,rv,pl,hz⟩:=I.list hq
  exact a0 (.inl rfl) rv pl.isList
 .obtain⟨its,rv,pt,hz⟩:=I.tuple hq
  exact a0 (.inr rfl) rv pt
def inL(k:List Str):List (List Str)->List (List Str)
 |[]=>[k]
 |a::r=>if ltS a k=true then a::inL k r else k::a::r
def lw(l:List (List Str)):List (List Str):=l.foldr inL []
abbrev RiL(l:List (List Str)):Prop:=abm (λa b=>ltS b a=false) l
theorem vy(k:List Str):∀l,Yu (inL k l) (k::l)
 |[]=>.refl _
 |a::r=>by
  unfold inL;split
  .exact((vy k r).cons a).trans (.swap k a r)
  .exact .refl _
theorem eV:∀l,Yu (lw l) l
 |[]=>.refl _
 |a::r=>(vy a _).trans ((eV r).cons a)
theorem JV{k:List Str}:∀{l},RiL l->RiL (inL k l)
 |[],_=>by simp[inL]
 |a::r,h=>by
  obtain⟨h1,h2⟩:=Zz.mp h;unfold inL;split
  .rename_i c
   refine Zz.mpr ⟨λb U=>?_,JV h2⟩;rcases XJ.mp ((vy k r).mem_iff.mp U)with rfl|U
   .cases e:ltS b a with
    |false=>rfl
    |true=>have:=m9 _ _ _ c e;rw[jq]at this;cases this
   .exact h1 b U
  .rename_i c
   have c:ltS a k=false:=by simpa using c
   refine Zz.mpr ⟨λb U=>?_,h⟩;rcases XJ.mp U with rfl|U
   .exact c
   .cases e:ltS b k with
    |false=>rfl
    |true=>
     have:=FP e c;rw[h1 b U]at this;cases this
theorem jH:∀l,RiL (lw l)
 |[]=>.nil
 |a::r=>JV (jH r)
theorem pJ:∀{l m:List (List Str)},Yu l m->RiL l->RiL m->l=m
 |[],m,h,_,_=>h.nil_eq
 |a::r,[],h,_,_=>by have:=h.length_eq;simp at this
 |a::r,b::q,h,h1,h2=>by
  obtain⟨x1,J⟩:=Zz.mp h1;obtain⟨N,F⟩:=Zz.mp h2;have e:a=b:=by
   rcases XJ.mp (h.mem_iff.mp (Yw (a:=a) (l:=r)))with z|z
   .exact z
   .rcases XJ.mp (h.mem_iff.mpr (Yw (a:=b) (l:=q)))with w|w
    .exact w.symm
    .exact nP a b (N a z) (x1 b w)
  subst e;rw[pJ (List.Perm.cons_inv h) J F]
def strsOf:List D->Option (List Str)
 |[]=>some []
 |.str x::r=>(strsOf r).map λt=>x::t
 |_=>none
def Bx:List D->Option (List (List Str))
 |[]=>some []
 |.str x::r=>(Bx r).map λt=>[x]::t
 |_=>none
def lstK(m:Mk):List D->Option (List (List Str))
 |[]=>some []
 |.lst m' es::r=>if m'=m then(strsOf es).bind λk=>(lstK m r).map λt=>k::t else none
 |_=>none
def fS(k:List Str):D:=.str (k.headD "")
def fL(m:Mk)(k:List Str):D:=.lst m (k.map D.str)
theorem q_:∀{ds:List D}{k:List Str},strsOf ds=some k->ds=k.map D.str
 |[],k,h=>by cases h;rfl
 |d::r,k,h=>by
  cases d<;>simp![strsOf]at h<;>try cases h
  cases e:strsOf r with
  |none=>rw[e]at h;cases h
  |some t=>rw[e]at h;cases h;rw[q_ e];rfl
theorem Gi:∀{ds:List D}{ks:List (List Str)},Bx ds=some ks->ds=ks.map fS/\∀k∈ks,∃x,k=[x]
 |[],k,h=>by cases h;exact⟨rfl,by simp⟩
 |d::r,k,h=>by
  cases d<;>simp![Bx]at h<;>try cases h
  cases e:Bx r with
  |none=>rw[e]at h;cases h
  |some t=>
   rw[e]at h;cases h;obtain⟨h1,h2⟩:=Gi e;exact⟨by rw[h1];rfl,λk J=>(XJ.mp J).elim (λz=>⟨_,z⟩) (h2 k)⟩
theorem Fv{m:Mk}:∀{ds:List D}{ks:List (List Str)},lstK m ds=some ks->ds=ks.map (fL m)
 |[],k,h=>by cases h;rfl
 |d::r,k,h=>by
  cases d<;>simp![lstK]at h<;>try cases h
  split at h
  .rename_i hm
   subst hm;rename_i es;cases e1:strsOf es with
   |none=>rw[e1]at h;cases h
   |some F=>
    rw[e1]at h;cases e:lstK ‹_› r with
    |none=>simp[e]at h
    |some t=>
     have h:F::t=k:=by simpa[e]using h
     subst h;rw[Fv e,q_ e1];rfl
  .cases h
def jG:List D->Option D
 |[.lst _ ds]=>if ds.length<64 then(match Bx ds with
  |some ks=>some (.lst .own ((lw ks).map fS))
  |none=>match ds with
   |.lst m _::_=>(lstK m ds).map λks=>.lst .own ((lw ks).map (fL m))
   |_=>none)else none
 |_=>none
theorem aH.perm{zs Y:List (D×V)}(h:Yu zs Y):∀{M:List Addr},aH G H W (zs.map (·.1)) (zs.map (·.2)) M->∃M',Yu M' M/\aH G H W (Y.map (·.1)) (Y.map (·.2)) M':=by
 induction h with
 |nil=>exact λ{M} r=>⟨M,.refl _,r⟩
 |cons x _ Z=>
  intro M r;rw[XH,XH]at r;obtain⟨y,ys,A,B,e,rfl,U,F⟩:=r.inv;cases e;obtain⟨B',p,O⟩:=Z F;exact⟨A++B',p.append_left A,.cons U O⟩
 |swap x y l=>
  intro M r;simp![XH]at r;obtain⟨v,vs,A,B,e,rfl,U,F⟩:=r.inv;cases e;obtain⟨v,vs,C,E,e,rfl,O,J⟩:=F.inv;cases e;refine⟨C++(A++E),?_,.cons O (.cons U J)⟩;rw[←aat,←aat];exact aaN.append_right E
 |trans _ _ a0 a1=>
  intro M r;obtain⟨q,p1,U⟩:=a0 r;obtain⟨N,p2,F⟩:=a1 U;exact⟨N,p2.trans p1,F⟩
theorem pq(l:List α)(z:α):(Yp l.length).map (λi=>l.getD i z)=l:=by
 apply adP
 .simp
 .intro i h1 h2
  simp[h2]
variable{p:List Nat}
theorem Nf{α:Type}{f:α->β}{l:List α}{z:α}{y:β}(h:∀i∈p,i<l.length):p.map (λi=>(l.map f).getD i y)=(p.map λi=>l.getD i z).map f:=by
 rw[XN];refine Yr λi hi=>?_;have:=h i hi;simp[this]
theorem qF{f:List Str->D}(r:aH G H W (ks.map f) ys M)(F:Yu p (Yp ys.length))(N:abm (λi j=>ltS (ks.getD j []) (ks.getD i [])=false) p):∃M',Yu M' M/\aH G H W ((lw ks).map f) (p.map λi=>ys.getD i .non) M':=by
 have Y:=r.length;rw[X5]at Y;have J:∀i∈p,i<ks.length:=λi hi=>by rw[Y];exact ZJ.mp (F.mem_iff.mp hi)
 have e1:p.map (λi=>ks.getD i [])=lw ks:=by
  refine pJ ?_ (aaV.mpr N) (jH ks);have:Yu (p.map λi=>ks.getD i []) ((Yp ks.length).map λi=>ks.getD i []):=by rw[Y];exact F.map _
  rw[pq]at this;exact this.trans (eV ks).symm
 let g:Nat->D×V:=λi=>((ks.map f).getD i .non,ys.getD i .non)
 have q:((Yp ys.length).map g).map (·.1)=ks.map f:=by
  rw[XN,←Y];have:=pq (ks.map f) D.non;rwa[X5]at this
 have O:((Yp ys.length).map g).map (·.2)=ys:=by rw[XN];exact pq ys V.non
 obtain⟨M',p1,U⟩:=aH.perm (F.map g).symm (M:=M) (by rw[q,O];exact r);refine⟨M',p1,?_⟩;rw[XN,XN]at U;rw[←e1,←Nf (y:=D.non) J];exact U
theorem jg{p:Addr}(O:aH G H W ds xs M)(s:∀a∈M,a∈Z)(nd:M.Nodup)(hn:∀a∈Z,W.tmp a)(F:H p=none)(q:Done G H W Z (.lst .own ds) Q):Q (.ref p) (upd H p (.lst xs)):=by
 have J:Same H (upd H p (.lst xs)):=Same.new F;have np:p∉M:=λz=>by obtain⟨o,N,_⟩:=O.dom p z;rw[F]at N;cases N
 refine q (.ref p) _ (p::M) J ?_ (λa Y=>(XJ.mp Y).elim (λz=>.inr (by rw[z];exact F)) λz=>.inl (s a z)) (Yn.mpr ⟨np,nd⟩);rw[Rep];exact⟨p,xs,M,rfl,O.up ⟨J,λb u U f=>⟨λz=>z.elim (λz=>(XJ.mp z).elim (λz=>by rw[z,F]at U;cases U) λz=>f.1 (hn b (s b z)).1) λz=>f.1 z.1,f.2⟩,λ_ _ _ f=>f⟩,aU,rfl⟩
theorem Bf(r:aH G H W (ks.map fS) ys M)(J:∀k∈ks,∃x,k=[x]):Ot G.K H ys ks:=by
 refine⟨by have:=r.length;rwa[X5]at this,.inl λi k e=>?_⟩;obtain⟨x,rfl⟩:=J k (Yt e);obtain⟨y,N,h1,h2,_⟩:=r.get (j:=i) (d:=fS [x]) (by rw[List.getElem?_map,e];rfl);exact⟨x,rfl,by rw[h1,(bM h2).1];rfl⟩
theorem vI:∀{k:List Str}{xs:List V}{M:List Addr},aH G H W (k.map D.str) xs M->xs=k.map V.str
 |[],xs,M,r=>r.inv0.1
 |x::k,xs,M,r=>by
  obtain⟨y,ys,A,B,rfl,_,U,F⟩:=r.inv;rw[(bM U).1,vI F];rfl
theorem JG(r:aH G H W (ks.map (fL m)) ys M):Ot G.K H ys ks:=by
 refine⟨by have:=r.length;rwa[X5]at this,.inr λi k e=>?_⟩;obtain⟨y,N,h1,h2,_⟩:=r.get (j:=i) (d:=fL m k) (by rw[List.getElem?_map,e];rfl);unfold fL at h2;rw[Rep]at h2;obtain⟨b,xs,q,rfl,F,O⟩:=h2;rw[vI F]at O;exact⟨b,h1,O.sq⟩
theorem Dl{A:Zc}(Y:A.units+2<cLine):CaV G (Dw G.K A) jG:=λds d e xs H W Z r nd hn w Q q=>by
 unfold jG at e;split at e
 .split at e
  .rename_i hl
   obtain⟨x,rfl,rx⟩:=r.inv1;rw[Rep]at rx;obtain⟨a,ys,M,rfl,O,hs⟩:=rx;have a0:=O.length;split at e
   .rename_i ks hks
    cases e;obtain⟨h1,h2⟩:=Gi hks;rw[h1]at O;refine⟨a,ys,ks,rfl,.inl hs.sq,by omega,Y,Bf O h2,λp F N l J=>?_⟩;obtain⟨M',p1,V⟩:=qF O F N;exact jg V (λb U=>hs.sub.subset (p1.mem_iff.mp U)) (p1.nodup_iff.mpr (hs.sub.nodup nd)) hn J q
   .split at e
    .rename_i m es rr hks
     cases e2:lstK m (D.lst m es::rr)with
     |none=>rw[e2]at e;cases e
     |some ks=>
      rw[e2]at e;cases e;rw[Fv e2]at O;refine⟨a,ys,ks,rfl,.inl hs.sq,by omega,Y,JG O,λp F N l J=>?_⟩;obtain⟨M',p1,V⟩:=qF O F N;exact jg V (λb U=>hs.sub.subset (p1.mem_iff.mp U)) (p1.nodup_iff.mpr (hs.sub.nodup nd)) hn J q
    .cases e
  .cases e
 .cases e
def K3:List D->Option D
 |[]=>some (.dct .own [] [])
 |_=>none
theorem Om:CaV G (λxs H Q=>∀p,H p=none->Q (.ref p) (upd H p (.dK []))) K3:=λds d e xs H W Z r nd hn w Q q=>by
 unfold K3 at e;split at e
 .cases e
  intro p F;have J:Same H (upd H p (.dK [])):=Same.new F;refine q (.ref p) _ [p] J ?_ (λa Y=>.inr (by rw[Yh.mp Y];exact F)) (Yn.mpr ⟨by simp,List.nodup_nil⟩);rw[Rep];exact⟨p,[],[],rfl,⟨rfl,List.nodup_nil⟩,.nil,aU,rfl⟩
 .cases e
variable{X:ι->Cx}
theorem O6:PV X G ob (.Dict [] [] pos) (eAp K3 aF):=⟨_,λc=>Ld,tO Om Km⟩
def t8:List Key->Option (List Str)
 |[]=>some []
 |.inr x::r=>(t8 r).map (x::·)
 |_=>none
theorem Ax:∀{ks:List Key}{ys:List Str},t8 ks=some ys->ks=ys.map YF
 |[],ys,h=>by cases h;rfl
 |.inr x::r,ys,h=>by
  simp![t8,acn]at h;obtain⟨t,h1,rfl⟩:=h;rw[Ax h1];rfl
 |.inl _::r,ys,h=>by simp[t8]at h
def Iw(ys:List Str):List Str:=(lw (ys.map λy=>[y])).map λk=>k.headD ""
def fJ:List D->Option D
 |[.tup ds]=>if ds.length<64 then(strsOf ds).map λys=>.lst .own ((Iw ys).map D.str)else none
 |ds=>jG ds
theorem vU:∀ys:List Str,aH G H W (ys.map D.str) (ys.map V.str) []
 |[]=>.nil
 |x::r=>aH.cons (M:=[]) (M':=[]) yj (vU r)
theorem jC(A:Zc)(hA:∀c,(X c).A=A)(hu:A.units+2<cLine)(Z:∀c,(X c).calm=true)(hK:∀c,(X c).K=G.K:=by intro _;rfl):CaB X G (.builtin "sorted") fJ:=by
 refine⟨Dw G.K A,λc=>by rw[←hK c,←hA c];exact zy,λds d e xs H W L0 r nd hn w Q q=>?_⟩;unfold fJ at e;split at e
 .split at e
  .rename_i ds hl
   cases hs:strsOf ds with
   |none=>rw[hs]at e;cases e
   |some ys=>
    rw[hs]at e;cases e;rw[q_ hs]at r hl;obtain⟨x,rfl,rx⟩:=r.inv1;rw[Rep]at rx;obtain⟨a,vs,rfl,U,O⟩:=rx;have hv:=vI O;subst hv;have J:aH G H W ((ys.map λy=>[y]).map fS) (ys.map V.str) []:=by
     rw[XN];exact vU ys
    refine⟨a,ys.map V.str,ys.map λy=>[y],rfl,.inr (SqT.of U),by simpa using hl,hu,Bf J (by simp),λp F N l a0=>?_⟩;obtain⟨M',p1,r1⟩:=qF J F N;have e1:(lw (ys.map λy=>[y])).map fS=(Iw ys).map D.str:=by rw[Iw,XN];rfl
    rw[e1]at r1;have e3:M'=[]:=p1.eq_nil;subst e3;exact jg r1 (λa Y=>by cases Y) List.nodup_nil hn a0 q
  .cases e
 .exact Dl hu _ d e xs H W L0 r nd hn w Q q
def ji(tg:D->En->Option En)(c:En->Option Bool)(fk q:En->Option D)(ρ0:En):List D->Option (List (Key×D))
 |[]=>some []
 |d::r=>(tg d ρ0).bind λρ1=>(c ρ1).bind λb=>if b=true then((fk ρ1).bind gH).bind λk=>(q ρ1).bind λx=>(ji tg c fk q ρ0 r).map λt=>(k,x)::t else ji tg c fk q ρ0 r
def uY(es:List (Key×D)):Option D:=if(es.map (·.1)).Nodup then some (.dct .own (es.map (·.1)) (es.map (·.2)))else none
def vY(cap:List (Option Nat))(it:En->Option (Bool×List D))(tg:D->En->Option En)(c:En->Option Bool)(fk q:En->Option D):En->Option D:=λρ=>(it ρ).bind λp=>if p.2.length<=1000000 then(ji tg c fk q (fZ cap ρ) p.2).bind uY else none
theorem zW{ks:List Key}(h:k∉ks):gq ks k=none:=ZD.mpr λx J=>by
 have:x≠k:=λz=>h (z▸J);simpa using this
theorem Fp(e:gH d=some k)(r:Rep G H W d x L):x=kV k/\L=[]:=by
 cases d with
 |int i=>cases e;rw[Rep]at r;exact r
 |str i=>cases e;rw[Rep]at r;exact r
 |_=>cases e
section
variable{G:Gc}{ob own:Nat->Bool}
theorem Lz{cap:List (Option Nat)}{wi:TI}{g:TG}{tt:TT}{tk te:TE}{it:En->Option (Bool×List D)}{tg:D->En->Option En}{c:En->Option Bool}{fk e:En->Option D}(b1:∀i:Nat,own i=true->cap[i]?≠none->cap[i]? =some none)(hi:RfI G ob wi it)(hg:Hv G (obC cap ob) own g tg)(ht:RfT G (obC cap ob) tt c)(hk:RfE G (obC cap ob) tk fk)(V:RfE G (obC cap ob) te e):RfE G ob (Lf cap wi g tt tk te) (vY cap it tg c fk e):=λρ d ee σ H W rl w Q q=>by
 unfold vY at ee;cases h1:it ρ with
 |none=>simp[h1]at ee
 |some p=>
  obtain⟨b,items⟩:=p;rw[h1]at ee;simp![Xz]at ee;split at ee
  .rename_i hlen
   cases h2:ji tg c fk e (fZ cap ρ) items with
   |none=>simp[h2]at ee
   |some tot=>
    rw[h2]at ee;simp![Xz,uY]at ee;split at ee
    .rename_i hnd
     cases ee;refine hi ρ b items h1 σ H W rl w _ λJ H1 O wk=>?_;refine⟨λi m ys H2=>i+m=items.length/\ys.length<=i/\∃acc L rest,Same H1 H2/\List.map (·.1) ys=List.map (·.1) acc/\aH G H2 (W.add L) (List.map (·.2) acc) (List.map (·.2) ys) L/\(∀a∈L,H1 a=none)/\L.Nodup/\WOk H2 (W.add L)/\ji tg c fk e (fZ cap ρ) (items.drop i)=some rest/\acc++rest=tot,⟨items.length,by omega,by simp,[],[],tot,Same.refl _,rfl,.nil,by simp,List.nodup_nil,?_,h2,rfl⟩,?_⟩
     .rw[rK];exact w.up O
     rintro i m ys H2 ⟨c3,c1,acc,L,rest,s2,a2,ra,fa,na,wa,Z,a0⟩;have a5:Up H1 H2 W (W.add L):=Up.add s2 fa
     .by_cases hil:i<items.length
      .have hdr:=(aak hil).symm
       rw[hdr,ji]at Z;refine .inr ⟨wk.go i items[i] (by simp[hil]) H2 _ (LtB.up a5),by have:=six hlen;omega,λa4 H'=>(i+1)+(m-1)=items.length/\a4.length<=i+1/\∃acc L rest,Same H1 H'/\List.map (·.1) a4=List.map (·.1) acc/\aH G H' (W.add L) (List.map (·.2) acc) (List.map (·.2) a4) L/\(∀a∈L,H1 a=none)/\L.Nodup/\WOk H' (W.add L)/\ji tg c fk e (fZ cap ρ) (items.drop (i+1))=some rest/\acc++rest=tot,λa4 H' h=>⟨m-1,by omega,h⟩,λx H3 hy=>?_⟩;obtain⟨s3,rx⟩:=wk.yld i items[i] (by simp[hil]) H2 _ (LtB.up a5) x H3 hy;cases h3:tg items[i] (fZ cap ρ)with
       |none=>simp[h3]at Z
       |some ρ1=>
        rw[h3]at Z;simp![Xz]at Z;have c0:Rel G H3 (W.add L) (obC cap ob) (fZ cap ρ) (fX cap σ):=(rl.cap).up ((Up.same O).trans (a5.trans (Up.same s3)));have b3:=ra.up (Up.same s3 (W:=W.add L));have b0:WOk H3 (W.add L):=wa.up s3;refine hg items[i] _ ρ1 h3 x _ H3 (W.add L) rx c0 (by simp[fZ,fX]) _ λσ2 b2 c2 k4=>⟨DQ b1 k4,?_⟩;cases h4:c ρ1 with
        |none=>simp[h4]at Z
        |some bb=>
         rw[h4]at Z;simp![Xz]at Z;refine ht ρ1 bb h4 σ2 H3 (W.add L) b2 b0 _ λH4 s4=>?_;have b4:=b2.up (Up.same s4);have a6:=b0.up s4;cases bb with
         |false=>
          simp![Yz,Zi]at Z;exact vQ ⟨by omega,by omega,acc,L,rest,((s2.trans s3).trans s4),a2,b3.up (Up.same s4),fa,na,a6,Z,a0⟩
         |true=>
          simp![Yd]at Z;cases h7:fk ρ1 with
          |none=>simp[h7]at Z
          |some dk=>
          cases h8:gH dk with
          |none=>simp[h7,h8]at Z
          |some k=>
          cases h5:e ρ1 with
          |none=>simp[h5,h7,h8]at Z
          |some y=>
           cases h6:ji tg c fk e (fZ cap ρ) (items.drop (i+1))with
           |none=>simp[h5,h6,h7,h8]at Z
           |some a1=>
            obtain rfl:(k,y)::a1=rest:=by simpa[h5,h6,h7,h8]using Z
            refine pB (hk ρ1 dk h7 σ2 H4 (W.add L) b4 a6 _ λxk a7 c6 a3 b8 c5 c4=>?_);obtain⟨rfl,rfl⟩:=Fp h8 b8;refine⟨k,rfl,?_⟩;have b7:=b4.up (Up.same a3);have b9:=a6.up a3;have a8:Same H1 a7:=((s2.trans s3).trans s4).trans a3;have a9:=(b3.up (Up.same s4 (W:=W.add L))).up (Up.same a3 (W:=W.add L));refine V ρ1 y h5 σ2 a7 (W.add L) b7 b9 _ λv H5 M s5 ry fy ny=>?_;have fM:∀a∈M,H1 a=none:=λa Y=>a8.none' (fy a Y);have b6:∀a∈L,a∉M:=λa h1 h2=>by
             obtain⟨o,N,_⟩:=a9.dom a h1;rw[fy a h2]at N;cases N
            have u5:Up a7 H5 (W.add L) (W.add (L++M)):=⟨s5,λb u U f=>⟨λz=>z.elim (λz=>(XC.mp z).elim (λz=>f.1 (.inl z)) λz=>by rw[fy b z]at U;cases U) λz=>f.1 (.inr z),f.2⟩,λ_ _ _ f=>f⟩;have u6:Up H5 H5 ((W.add L).add M) (W.add (L++M)):=⟨Same.refl _,λb u U f=>⟨λz=>by
             rcases z with z|z
             .exact(XC.mp z).elim (λz=>f.1 (.inr (.inl z))) λz=>f.1 (.inl z)
             .exact f.1 (.inr (.inr z)),f.2⟩,λ_ _ _ f=>f⟩
            have b5:gq (ys.map (·.1)) k=none:=zW λz=>by
             rw[a2]at z;rw[←a0,YB]at hnd;exact(Yb.mp hnd).2.2 k z k (by simp) rfl
            rw[mK b5];refine⟨by omega,by simp;omega,acc++[(k,y)],L++M,a1,a8.trans s5,by simp[a2],?_,λa Y=>(XC.mp Y).elim (fa a) (fM a),dO na ny b6,?_,rfl,by rw[←a0];simp⟩
            .rw[YB,YB];exact(a9.up u5).append (.one (ry.up u6))
            exact w.add (O.trans (a8.trans s5)) λa Y=>(XC.mp Y).elim (λz=>let⟨o,h,m⟩:=a9.dom a z;⟨o,s5 a o h,m⟩) (ry.dom a)
      .have hl:i=items.length:=by omega
       subst hl;rw[aaC,ji]at Z;cases Z;refine .inl ⟨wk.stop H2 _ (LtB.up a5),aa5 (six (by omega)),λp F=>?_⟩;have sm:Same H2 (upd H2 p (.dK ys)):=Same.new F;rw[Ym]at a0;subst a0;refine q (.ref p) _ (p::L) ((O.trans s2).trans sm) ?_ (λa Y=>(XJ.mp Y).elim (λz=>by rw[z];exact(O.trans s2).none' F) λz=>O.none' (fa a z)) (Yn.mpr ⟨λz=>?_,na⟩)
       .rw[Rep]
        exact⟨p,ys,L,rfl,⟨a2,hnd⟩,ra.up ⟨sm,λb u U f=>⟨λz=>z.elim (λz=>(XJ.mp z).elim (λz=>by rw[z,F]at U;cases U) λz=>f.1 (.inl z)) λz=>f.1 (.inr z),f.2⟩,λ_ _ _ f=>f⟩,aU,rfl⟩
       .obtain⟨o,N,_⟩:=ra.dom p z
        rw[F]at N;cases N
    .cases ee
  .cases ee
end
section
variable{ι:Type}{X:ι->Cx}{G:Gc}{ob:Nat->Bool}{kx vx target iter:Expr}{ifs:List Expr}{scope:Scope}{pos pos' pos2:Pos}{N':List Str}{it:En->Option (Bool×List D)}{tg:D->En->Option En}{fc:En->Option Bool}{fk fe:En->Option D}
variable{P:Nat->Bool}{x:Str}
theorem Jz(i:Nat)(cap:List (Option Nat))(own:Nat->Bool)(hN:∀c,(X c).N.Nodup)(J:∀c,(X c).xe=NoX)(Z:∀c,(X c).calm=true)(O:∀c,bH (X c).env.scope (X c).N N' scope cap)(a0:∀i:Nat,own i=true->cap[i]?≠none->cap[i]? =some none)(hi:PVI X G ob target iter it)(q:Ij (InX X N' scope) G (obC cap ob) own target tg)(U:Jj (InX X N' scope) G (obC cap ob) ifs fc)(hk:PV (InX X N' scope) G (obC cap ob) kx fk)(V:PV (InX X N' scope) G (obC cap ob) vx fe)
  (hP:P i=false:=by rfl) (a1:∀c,(X c).N[i]? =some x:=by intro _;rfl) (Y:∀c,Loc (X c).env.scope x:=by intro _;first|exact aaS rfl|exact aaj rfl) (hw:∀c,abD (.DictComp kx vx [⟨target,iter,ifs,0⟩] scope pos) (some (.Name x pos')) pos2.line (X c).env=pure true:=by intro _;rfl) (hs:∀c,∀x,ZF iter (X c).env x=pure x:=by intro _ _;rfl)
  (F:∀c,(X c).fn x=true∨(X c).env.scope.names.lookup x=some .local:=by intro _;first|exact .inl rfl|exact .inr rfl):PVS X G ob P (.Assign [.Name x pos'] (.DictComp kx vx [⟨target,iter,ifs,0⟩] scope pos) pos2) (cT (vY cap it tg fc fk fe) (tgN i)):=
 let⟨_,i1,i2⟩:=hi.ex;let⟨_,g1,g2⟩:=q.ex;let⟨_,t1,t2⟩:=U.ex;let⟨_,k1,k2⟩:=hk.ex;let⟨_,e1,e2⟩:=V.ex
 ⟨_,λc=>Qd (J c) (Z c) (hN c) (a1 c) (Y c) (O c) (i1 c) (λC s H fp=>g1 (c,C,s,H,fp)) (λC s H fp=>t1 (c,C,s,H,fp)) (λC s H fp=>k1 (c,C,s,H,fp)) (λC s H fp=>e1 (c,C,s,H,fp)) (hw c) (hs c) (F c),by rw[←yL];exact j4 (wY (Lz a0 i2 g2 t2 k2 e2)) (jk hP)⟩
end
def Gd:En->Option (List (Key×D)):=λ_=>some []
def vV(fk q:En->Option D)(fr:En->Option (List (Key×D))):En->Option (List (Key×D)):=λρ=>((fk ρ).bind gH).bind λk=>(q ρ).bind λx=>(fr ρ).map λr=>(k,x)::r
def Ce(f:En->Option (List (Key×D))):En->Option D:=λρ=>(f ρ).bind λes=>if es.length<=15/\aA (es.map (·.2))=true/\aB (es.map (·.2))=true then uY es else none
def Ma(G:Gc)(ob:Nat->Bool)(t:List (TE×TE))(f:En->Option (List (Key×D))):Prop:=∀(ρ:En)(es:List (Key×D)),f ρ=some es->∀(σ:L2.St)(H:Hp)(W:Wn),Rel G H W ob ρ σ->WOk H W->∀Q:List (V×V)->Hp->Prop,
 (∀(vs:List V) H' L,vs.length=es.length->Same H H'->aH G H' (W.add L) (es.map (·.2)) vs L->(∀a∈L,H a=none)->L.Nodup->Q ((adQ (es.map (·.1)) vs).map λO=>(kV O.1,O.2)) H')->yh t σ H Q
structure Pu{ι:Type}(X:ι->Cx)(G:Gc)(ob:Nat->Bool)(pos:Pos)(ks:List (Option Expr))(vs:List Expr)(f:En->Option (List (Key×D))):Prop where
 mk::(ex:∃t,(∀c,PPs (X c) pos ks vs t)/\Ma G ob t f)
theorem Py:Ma G ob [] Gd:=λρ es e σ H W V w Q q=>by
 cases e;exact q [] H [] rfl (Same.refl H) .nil (by simp) List.nodup_nil
variable{t:List (TE×TE)}
theorem JH{tk tv:TE}{fv:En->Option D}{fr:En->Option (List (Key×D))}(J:RfE G ob tk fk)(hv:RfE G ob tv fv)(O:Ma G ob t fr):Ma G ob ((tk,tv)::t) (vV fk fv fr):=λρ es e σ H W V w Q q=>by
 unfold vV at e;cases h1:fk ρ with
 |none=>simp[h1]at e
 |some dk=>
 cases h2:gH dk with
 |none=>simp[h1,h2]at e
 |some k=>
 cases F:fv ρ with
 |none=>simp[h1,h2,F]at e
 |some dv=>
 cases h4:fr ρ with
 |none=>simp[h1,h2,F,h4]at e
 |some rs=>
  obtain rfl:(k,dv)::rs=es:=by simpa[h1,h2,F,h4]using e
  refine J ρ dk h1 σ H W V w _ λxk H0 L0 s0 rk a1 nk=>?_;obtain⟨rfl,rfl⟩:=Fp h2 rk;refine hv ρ dv F σ H0 W (V.up (Up.same s0)) (w.up s0) _ λx H1 L s1 rx fx nx=>?_;have u1:Up H0 H1 W (W.add L):=.add s1 fx;have w1:WOk H1 (W.add L):=(w.up s0).add s1 rx.dom;refine O ρ rs h4 σ H1 (W.add L) ((V.up (Up.same s0)).up u1) w1 _ λys H2 M hl Z ry fy ny=>?_;have a0:∀a∈L,a∉M:=λa h1 h2=>by
   obtain⟨o,N,_⟩:=rx.dom a h1;rw[fy a h2]at N;cases N
  have u2:Up H1 H2 (W.add L) (W.add (L++M)):=⟨Z,λb u U f=>⟨λz=>z.elim (λz=>(XC.mp z).elim (λz=>f.1 (.inl z)) λz=>by rw[fy b z]at U;cases U) λz=>f.1 (.inr z),f.2⟩,λ_ _ _ f=>f⟩;refine q (x::ys) H2 (L++M) (by simp[hl]) ((s0.trans s1).trans Z) (.cons (rx.up u2) (ry.up ⟨Same.refl _,λb u U f=>⟨λz=>?_,f.2⟩,λ_ _ _ f=>f⟩)) (λa Y=>?_) (dO nx ny a0)
  .rcases z with z|z
   .exact(XC.mp z).elim (λz=>f.1 (.inr (.inl z))) λz=>f.1 (.inl z)
   .exact f.1 (.inr (.inr z))
  .rcases XC.mp Y with z|z
   .exact s0.none' (fx a z)
   .exact(s0.trans s1).none' (fy a z)
theorem vh:∀{more kvs:List (Key×V)},(List.map (·.1) (kvs++more)).Nodup->l_ kvs more=kvs++more
 |[],kvs,h=>by simp[l_]
 |p::r,kvs,h=>by
  have h1:putK kvs p.1 p.2=kvs++[p]:=mK (zW λz=>by
   rw[YB]at h;exact(Yb.mp h).2.2 p.1 z p.1 (by simp) rfl)
  have:=vh (more:=r) (kvs:=kvs++[p]) (by simpa using h);show l_ (putK kvs p.1 p.2) r=_;rw[h1,this];simp
variable{f:En->Option (List (Key×D))}
theorem Pz(h:Ma G ob t f):RfE G ob (RL t) (Ce f):=λρ d e σ H W V w Q q=>by
 unfold Ce at e;cases h1:f ρ with
 |none=>simp[h1]at e
 |some es=>
  rw[h1]at e;simp![Xz]at e;split at e
  .rename_i hc
   unfold uY at e;split at e
   .rename_i hnd
    cases e;intro p F;have J:Same H (upd H p (.dK [])):=Same.new F;have u0:Up H (upd H p (.dK [])) W (W.add [p]):=.add J (by simpa using F);have w0:WOk (upd H p (.dK [])) (W.add [p]):=w.add J λa Y=>by
     obtain rfl:a=p:=by simpa using Y
     exact⟨_,aU,rfl⟩
    refine h ρ es h1 σ _ _ (V.up u0) w0 _ λvs H2 L hl Z r2 N n2=>?_;have a0:H2 p=some (.dK []):=Z p _ aU;have a1:List.map (·.1) (adQ (es.map (·.1)) vs)=es.map (·.1):=afG (by simp[hl]);have a7:List.map (·.2) (adQ (es.map (·.1)) vs)=vs:=afH (by simp[hl]);refine⟨a0,adQ (es.map (·.1)) vs,rfl,by simp[hl];exact hc.1,?_⟩;rw[vh (by simpa[a1]using hnd),List.nil_append];have a2:p∉L:=λz=>by have:=N p z;rw[aU]at this;cases this
    have a4:Same H (upd H2 p (.dK (adQ (es.map (·.1)) vs))):=λb u U=>by
     have a3:b≠p:=λz=>by rw[z,F]at U;cases U
     rw[aM a3];exact Z b u (by rw[aM a3];exact U)
    refine q (.ref p) _ (p::L) a4 ?_ (λa Y=>?_) (Yn.mpr ⟨a2,n2⟩)
    .rw[Rep]
     refine⟨p,_,L,rfl,⟨a1,hnd⟩,?_,aU,rfl⟩;rw[a7];have ev:Evo H2 (upd H2 p (.dK (adQ (es.map (·.1)) vs))) ((W.add [p]).add L) (W.add (p::L)):=⟨λb u U fr=>⟨by rw[aM λz=>fr.1 (.inr (.inl (by simp[z])))];exact U,λz=>by
      rcases z with z|z
      .rcases XJ.mp z with z|z
       .exact fr.1 (.inr (.inl (by simp[z])))
       .exact fr.1 (.inl z)
      .exact fr.1 (.inr (.inr z)),fr.2⟩,λb xs U=>by rw[aM λz=>by rw[z,a0]at U;cases U];exact U⟩
     exact r2.mono ev (.inl hc.2.1) (.inl hc.2.2) λc a6 u O=>by
      have a5:c≠p:=λz=>a2 (by rw[←z];exact a6);rw[aM a5];exact O
    .rcases XJ.mp Y with z|z
     .rw[z];exact F
     .have:=N a z
      by_cases U:a=p
      .rw[U];exact F
      .rwa[aM U]at this
   .cases e
  .cases e
theorem Nh:Pu X G ob pos [] [] Gd:=⟨_,λc=>Oz,Py⟩
theorem Iv{k v:Expr}{ks:List (Option Expr)}{vs:List Expr}{q:En->Option D}{fr:En->Option (List (Key×D))}(J:PV X G ob k fk)(Z:PV X G ob v q)(O:Pu X G ob pos ks vs fr):Pu X G ob pos (some k::ks) (v::vs) (vV fk q fr):=
 let⟨_,a1,a2⟩:=J.ex;let⟨_,b1,b2⟩:=Z.ex;let⟨_,c1,c2⟩:=O.ex;⟨_,λc=>K9 (a1 c) (b1 c) (c1 c),JH a2 b2 c2⟩
theorem Qk{N:List (Option Expr)}(h:Pu X G ob pos N J f)(O:N.all (·.isSome)=true:=by rfl)(Y:N.length=J.length:=by rfl)(U:N≠[]:=by simp)(q:N.length<=15:=by decide):PV X G ob (.Dict N J pos) (Ce f):=
 let⟨_,a1,a2⟩:=h.ex;⟨_,λc=>Qc (a1 c) O Y U q,Pz a2⟩
def Itz(K:XS)(a b:Addr):It:=
 ⟨λi H=>∃xs ys x y,SqL K H a xs/\SqL K H b ys/\xs[i]? =some x/\ys[i]? =some y,λi H x H'=>∃p u v,H p=none/\x= .ref p/\(∀xs,SqL K H a xs->xs[i]? =some u)/\(∀xs,SqL K H b xs->xs[i]? =some v)/\H'=upd H p (.tup [u,v]),λi H=>∃xs ys,SqL K H a xs/\SqL K H b ys/\(xs.length<=i∨ys.length<=i)⟩
theorem J5{P:YG}{K:XS}{x1}(a b z TI TO i1 i2:Addr)(ap:ZipApart z TI TO i1 i2 a b) :
  Turn P w K (.Tuple elts x1 pos) (Itz K a b) [z,TI,TO,i1,i2] z (λi h=>IsZip h z TI TO .none/\aaz h TI (.ref i1) (.ref i2)/\(∃u v,aaz h TO u v)/\h.IsListIter i1 a i/\h.IsListIter i2 b i)where
 mem:=by simp
 obj:=λi h st c Z=>by
  obtain⟨h1,h2,⟨u,v,F⟩,⟨o1,q1,_,d1⟩,⟨o2,q2,_,d2⟩⟩:=st;simp![XJ,ZC,abt]at Z;rcases Z with e|e|e|e|e<;>subst e
  .exact⟨_,h1,λv z=>by cases z⟩
  .exact⟨_,h2,λv z=>by cases z⟩
  .exact⟨_,F,λv z=>by cases z⟩
  .exact⟨o1,q1,λv z=>by rw[d1]at z;cases z⟩
  .exact⟨o2,q2,λv z=>by rw[d2]at z;cases z⟩
 keep:=λi h h' st k=>by
  obtain⟨h1,h2,⟨u,v,F⟩,h4,h5⟩:=st;exact⟨k z (by simp) _ h1,k TI (by simp) _ h2,⟨u,v,k TO (by simp) _ F⟩,h4.at λo q=>k i1 (by simp) o q,h5.at λo q=>k i2 (by simp) o q⟩
 item:=by
  intro X hP hw hK Z i pins s σ H E I hf st hg;subst hP hw hK;obtain⟨xs,ys,x,y,N,a0,J,V⟩:=hg;obtain⟨its,rv,p,hz⟩:=I.list N;obtain⟨its',a2,p',a9⟩:=I.list a0;obtain⟨u,O,ru⟩:=rv.get J;obtain⟨v,hv,a4⟩:=a2.get V;obtain⟨h1,h2,⟨u0,v0,F⟩,h4,h5⟩:=st;have a3:∀c∈[z,TI,TO,i1,i2],c<s.heap.objs.size:=λc Z=>by
   simp![XJ,ZC,abt]at Z;obtain⟨o1,q1,_⟩:=h4;obtain⟨o2,q2,_⟩:=h5;rcases Z with e|e|e|e|e<;>subst e
   .exact XR h1
   .exact XR h2
   .exact XR F
   .exact XR q1
   .exact XR q2
  refine wpAny_pyNext_zip_item ap h1 h2 F h4 h5 p.isList p'.isList (x:=u) (y:=v) (by simpa using O) (by simpa using hv) λh' g1 g3 g4 g5 g6 hsz k1=>?_;refine⟨.ref s.heap.objs.size,rfl,adB g1 λa1 a7 sb=>?_⟩;have a6:z<s.heap.objs.size:=a3 z (by simp);have a8:s.heap.objs.size≠z:=Zx a6;have a5:a1.get? s.heap.objs.size=some {cls:=.type "tuple",data:=.seq #[u,v]}:=sb.extBut _ _ a8 g6;have kk:∀c o,c∉[z,TI,TO,i1,i2]->s.heap.get? c=some o->a1.get? c=some o:=λc o Z q=>by
   have n1:c≠z:=λe=>Z (by simp[e]);exact sb.extBut c o n1 (k1 c o n1 (λe=>Z (by simp[e])) (λe=>Z (by simp[e])) (λe=>Z (by simp[e])) q)
  have I2:Inv X pins σ (upd H s.heap.objs.size (.tup [x,y])) {s with heap:=a1,toks:=s.toks}:=by
   refine p_ (fp:=[z,TI,TO,i1,i2]) (t':=s.toks) I hf (λb o U q=>kk b o U q) (XQ _) ?_;exact⟨by show 2<=X3;decide,[u,v],.cons ru (.cons a4 .nil),_,a5,rfl,_,rfl,rfl⟩
  refine⟨.ref s.heap.objs.size,upd H s.heap.objs.size (.tup [x,y]),I2,rfl,⟨_,x,y,I.hok.fresh (XQ _),rfl,λys V=>by rw[I.list_inj V N];exact J,λys b0=>by rw[I.list_inj b0 a0];exact V,rfl⟩,?_,λc Z=>?_⟩
  .refine⟨a7,sb.extBut _ _ ap.TIz (k1 _ _ ap.TIz ap.TITO ap.TIi1 ap.TIi2 h2),⟨u,v,sb.extBut _ _ ap.TOz g3⟩,g4.extBut sb.extBut ap.i1z,g5.extBut sb.extBut ap.i2z⟩
  .rw[aM λe=>Zn _ (e▸a3 c Z)]
   exact(hf c Z).1
 done:=by
  intro X hP hw hK Z i pins s σ H E I hf st hg;subst hP hw hK;obtain⟨xs,ys,N,a0,J⟩:=hg;obtain⟨its,rv,p,hz⟩:=I.list N;obtain⟨its',a2,p',a9⟩:=I.list a0;obtain⟨h1,h2,⟨u0,v0,F⟩,h4,h5⟩:=st;have Y:=rv.length;have b1:=a2.length;refine wpAny_pyNext_zip_end (I.ok.hd Z) ap h1 h2 F h4 h5 p.isList p'.isList (J.imp (λe=>by simp;omega) λe=>by simp;omega) λh' k1=>⟨rfl,?_⟩;exact jd (fp:=[z,TI,TO,i1,i2]) (t':=s.toks) I hf λc o Z q=>k1 c o (λe=>Z (by simp[e])) (λe=>Z (by simp[e])) (λe=>Z (by simp[e])) (λe=>Z (by simp[e])) q
 self:=λA i s Q E st h=>acC st.1 h
def K7:D->Bool
 |.lst _ _=>true
 |_=>false
def yS(a b:List D):List D:=List.zipWith (λx y=>.tup [x,y]) a b
def itZ(f:En->Option (List D)):En->Option (Bool×List D):=λρ=>(f ρ).bind λds=>match ds with
 |[d,d']=>if K7 d=true/\K7 d'=true then(bC d).bind λp=>(bC d').map λU=>(p.1&&U.1,yS p.2 U.2)else none
 |_=>none
theorem qK{a b:List D}(h:(yS a b)[i]? =some d):∃x y,a[i]? =some x/\b[i]? =some y/\d= .tup [x,y]:=by
 unfold yS at h;rw[List.getElem?_zipWith]at h;cases h1:a[i]? with
 |none=>simp[h1]at h
 |some x=>
  cases h2:b[i]? with
  |none=>simp[h1,h2]at h
  |some y=>exact⟨x,y,rfl,rfl,by simpa[h1,h2]using h.symm⟩
variable{b:Bool}
theorem LtB.and1{Z:Bool}{N:Wn}(l:LtB (b&&Z) H W H2 N):LtB b H W H2 N:=by
 cases b with
 |false=>exact l
 |true=>
  cases Z with
  |true=>exact l
  |false=>exact LtB.up ((Yc YS).mp l)
theorem LtB.and2{Z:Bool}{N:Wn}(l:LtB (b&&Z) H W H2 N):LtB Z H W H2 N:=by
 cases Z with
 |false=>rw[afW]at l;exact l
 |true=>
  cases b with
  |true=>exact l
  |false=>exact LtB.up ((Yc YS).mp l)
theorem CJ(w:WOk H W)(s:Same H H')(r:Rep G H' (W.add L) d v M)(F:∀a∈M,a∈L)(fr:∀a∈L,H a=none)(e:bC d=some (b,es))(q:K7 d=true) :
  ∃a xs,v= .ref a/\Parts G H' W b es xs/\∀H2 N,LtB b H' W H2 N->SqL G.K H2 a xs:=by
 have free:∀a∈M,W.free a:=λa Y=>⟨λz=>?_,λz=>?_,λz=>?_⟩
 .have les:Les H' (W.add L) W M:=⟨λa f=>⟨λz=>f.1 (.inr z),f.2⟩,free⟩
  cases d with
  |lst m ds=>
   simp![bC,aac,abJ]at e;obtain⟨rfl,rfl⟩:=e;rw[Rep]at r;obtain⟨a,xs,M,rfl,O,hs⟩:=r;refine⟨a,xs,rfl,⟨aH.fzo (W:=W.add L) (W':=W) (λ_ z=>z) O (les.sub λc Z=>hs.sub.subset Z),λz=>?_⟩,λH2 N l=>Lj (sO hs les (λz=>z) (λz=>?_) l)⟩
   .simp[clean,az,au]at z
    exact⟨dI z.1.2,dG z.2.2⟩
   .simp[clean,az,au]at z
    exact⟨z.1.1,z.2.1⟩
  |_=>cases q
 .obtain⟨o,ho,_⟩:=w a (.inl z);rw[fr a (F a Y)]at ho;cases ho
 .obtain⟨o,ho,_⟩:=w a (.inr (.inl z));rw[fr a (F a Y)]at ho;cases ho
 .obtain⟨o,ho,_⟩:=w a (.inr (.inr z));rw[fr a (F a Y)]at ho;cases ho
end Jb
namespace PySem
open PySem.Builtin PySem.Builtin.List PySem.Builtin.SmallTypes
section
variable{prog:Program}{w:World}{A:Around}{E:Value->Shared->Prop}{z TI TO i1 i2 l1 l2 p:Addr}{k:Nat}{xs ys:Array Value}{x y u v:Value}{b:Bool}{h:Heap}{g:Array GenState}{d:Drawn}{tk:Nat}{os:OsState}
theorem F.jb_sub_stop:isSubtype (.type "StopIteration") (.type "StopIteration")=pure true:=by rw[ab4];kernel_rfl
end
end PySem
namespace Jb
open PySem PySem.Spec PyProof.Rows L2
variable{G:Gc}
theorem Mq{K:XS}{k:Nat}:gn P w K mg base CX0 k f fd ps (spP G λ_=>none):=
 ⟨λvs H Q E ⟨ds,Fr,r,_,_,_,d,e,_⟩=>(by cases e),λA outer s H args us vs Q E O V U Z ⟨ds,Fr,r,_,_,_,d,e,_⟩=>(by cases e)⟩
theorem pO{H:Hp}{W:Wn}:∀{ns:List Int}{vs:List V}{M:List Addr},aH G H W (ns.map D.int) vs M->vs=ns.map V.int
 |[],vs,M,r=>r.inv0.1
 |n::t,vs,M,r=>by
  obtain⟨x,F,q,N,rfl,rfl,q1,q2⟩:=aH.inv (r:=t.map D.int) r;rw[Rep]at q1;rw[q1.1,pO q2];rfl
def mz:List D->Option (List Int)
 |[]=>some []
 |.int i::r=>(mz r).map (i::·)
 |_=>none
theorem qI:∀{ds:List D}{ns:List Int},mz ds=some ns->ds=ns.map D.int
 |[],ns,h=>by cases h;rfl
 |d::r,ns,h=>by
  cases d<;>simp![mz]at h<;>try cases h
  simp![acn]at h;obtain⟨t,h1,rfl⟩:=h;rw[qI h1];rfl
end Jb
namespace PySem
open PySem.Builtin PySem.Builtin.List PySem.Builtin.SmallTypes
section
variable{prog:Program}{w:World}{A:Around}{E:Value->Shared->Prop}{z TI TO i1 i2 l1 l2 p:Addr}{k:Nat}{xs ys:Array Value}{x y u v:Value}{b:Bool}{h:Heap}{g:Array GenState}{d:Drawn}{tk:Nat}{os:OsState}
theorem Hi{Q:Option Value->Mx->Prop}(hh:A.handled=none)(ap:ZipApart z TI TO i1 i2 l1 l2)(hz:IsZip h z TI TO .none)(hT:aaz h TI (.ref i1) (.ref i2))(hO:aaz h TO u v)(O:h.IsTupleIter i1 l1 k)(Z:h.IsTupleIter i2 l2 k)(p1:h.IsTuple l1 xs)(p2:h.IsTuple l2 ys)(J:xs[k]? =some x)(V:ys[k]? =some y)
  (N:∀h' b5,IsZip h' z TI TO (Zk h.objs.size)->aaz h' TI (.ref i1) (.ref i2)->aaz h' TO x y->h'.IsTupleIter i1 l1 (k+1)->h'.IsTupleIter i2 l2 (k+1)->aaz h' h.objs.size x y->(∀c o,c≠z->c≠TO->c≠i1->c≠i2->h.get? c=some o->h'.get? c=some o)->Q (some (.ref h.objs.size)) ⟨h',g,d,b5,os⟩) :
  wpAny (model prog w) A (aax (.ref z)) Q E ⟨h,g,d,tk,os⟩:=by
 have a8:(⟨h,g,d,tk,os⟩:Mx).TypeIs (.ref z) "zip":=⟨_,hz,rfl⟩;unfold aax;refine gD (abk ?_);refine Zb a8 abn ?_
 repeat(any_goals(first|assumption|wp_step))
 refine Zm abn.plain F.entry_zip_next (abn.check _ _ _ _ _ _ _ _ a8 (afs _) ?_);unfold Builtin.«zip.__next__»
 iterate 56 (first|assumption|wp_step)
 refine Zh hz (by simp) λh1 a6 a5=>?_;have a6:IsZip h1 z TI TO .ellipsis:=a6;have k1:∀c o,c≠z->h.get? c=some o->h1.get? c=some o:=λc o n e=>a5.extBut c o n e;refine gD ?_;simp![afI,afN,ad3,afY];have U:h1.IsTupleIter i1 l1 k:=O.at λo e=>k1 _ o ap.i1z e;have a2:h1.IsTuple l1 xs:=p1.extBut a5.extBut ap.l1z;refine gD (gD (adk (gD (m:=nextOf (.ref i1)) (fQ U a2 J λh2 b3 a7=>yr ?_))));have k2:∀c o,c≠z->c≠i1->h.get? c=some o->h2.get? c=some o:=λc o n n' e=>a7.extBut c o n' (k1 c o n e);have o2:aaz h2 TO u v:=k2 _ _ ap.TOz ap.TOi1 hO;refine gD (aaa o2 rfl ?_);refine gD (acQ o2 λh3 o3 a4=>?_);have o3:aaz h3 TO x v:=o3;have k3:∀c o,c≠z->c≠i1->c≠TO->h.get? c=some o->h3.get? c=some o:=λc o n n' m e=>a4.extBut c o m (k2 c o n n' e);refine gD (abM (yr ?_));have b1:h3.IsTupleIter i2 l2 k:=Z.at λo e=>k3 _ o ap.i2z (YC ap.i12) (YC ap.TOi2) e;have b2:h3.IsTuple l2 ys:=let⟨o,e,r⟩:=p2;⟨o,k3 _ o ap.l2z ap.l2i1 ap.l2TO e,r⟩;refine gD (gD (adk (gD (m:=nextOf (.ref i2)) (fQ b1 b2 V λh4 b4 a3=>yr ?_))));have o4:aaz h4 TO x v:=a3.extBut _ _ ap.TOi2 o3;refine gD (aaa o4 rfl ?_);refine gD (acQ o4 λY o5 a0=>?_);have o5:aaz Y TO x y:=o5;refine gD (abM (yr (yr ?_)));refine gD (aaa o5 rfl ?_);refine gD (aem ?_ (by show 2<=X3;decide));have e5:Y.objs.size=h.objs.size:=by rw[a0.1,a3.1,a4.1,a7.1,a5.1]
 have k5:∀c o,c≠z->c≠TO->c≠i1->c≠i2->h.get? c=some o->Y.get? c=some o:=λc o n1 q n3 n4 e=>a0.extBut c o q (a3.extBut c o n4 (k3 c o n1 n3 q e));have z5:IsZip Y z TI TO .ellipsis:=a0.extBut _ _ (YC ap.TOz) (a3.extBut _ _ (YC ap.i2z) (a4.extBut _ _ (YC ap.TOz) (a7.extBut _ _ (YC ap.i1z) a6)));have zl:z<Y.objs.size:=XR z5;refine gD ?_;unfold ownedTupleHandOut;have z6:IsZip (Y.push {cls:=.type "tuple",data:=.seq #[x,y]}) z TI TO .ellipsis:=qb _ z5;refine gD (Zh z6 (by simp) λh7 z7 b0=>?_);have z7:IsZip h7 z TI TO (Zk Y.objs.size):=z7;refine Zh z7 (by simp) λh8 z8 a9=>?_;have z8:IsZip h8 z TI TO (Zk Y.objs.size):=z8;have k8:∀c o,c≠z->Y.get? c=some o->h8.get? c=some o:=λc o n e=>a9.extBut c o n (b0.extBut c o n (qb _ e));have n8:aaz h8 Y.objs.size x y:=a9.extBut _ _ (Zx zl) (b0.extBut _ _ (Zx zl) (X4 _ rfl));have t1:Y.IsTupleIter i1 l1 (k+1):=b3.at λo e=>a0.extBut _ o (YC ap.TOi1) (a3.extBut _ o ap.i12 (a4.extBut _ o (YC ap.TOi1) e));have t2:Y.IsTupleIter i2 l2 (k+1):=b4.at λo e=>a0.extBut _ o (YC ap.TOi2) e;refine yr ?_;refine yr ?_;show Q (some (.ref Y.objs.size)) ⟨h8,g,d,tk,os⟩;rw[e5]at z8 n8⊢;exact N h8 tk z8 (k8 _ _ ap.TIz (k5 _ _ ap.TIz ap.TITO ap.TIi1 ap.TIi2 hT)) (k8 _ _ ap.TOz o5) (t1.at λo e=>k8 _ o ap.i1z e) (t2.at λo e=>k8 _ o ap.i2z e) n8 λc o n1 q n3 n4 e=>k8 c o n1 (k5 c o n1 q n3 n4 e)
theorem Kr{Q:Option Value->Mx->Prop}(hh:A.handled=none)(ap:ZipApart z TI TO i1 i2 l1 l2)(hz:IsZip h z TI TO .none)(hT:aaz h TI (.ref i1) (.ref i2))(hO:aaz h TO u v)(O:h.IsTupleIter i1 l1 k)(s2:h.IsTupleIter i2 l2 k)(p1:h.IsTuple l1 xs)(p2:h.IsTuple l2 ys)(hn:xs.size<=k∨ys.size<=k)
  (N:∀h',(∀c o,c≠z->c≠TO->c≠i1->c≠i2->h.get? c=some o->h'.get? c=some o)->Q none ⟨h',g,d,tk,os⟩) :
  wpAny (model prog w) A (aax (.ref z)) Q E ⟨h,g,d,tk,os⟩:=by
 have a6:(⟨h,g,d,tk,os⟩:Mx).TypeIs (.ref z) "zip":=⟨_,hz,rfl⟩;have a7:A.in1.handled=none:=hh;unfold aax;refine gD (abk ?_);refine Zb a6 abn ?_
 repeat(any_goals(first|assumption|wp_step))
 refine Zm abn.plain F.entry_zip_next (abn.check _ _ _ _ _ _ _ _ a6 (afs _) ?_);unfold Builtin.«zip.__next__»
 iterate 56 (first|assumption|wp_step)
 refine Zh hz (by simp) λh1 a4 a5=>?_;have a4:IsZip h1 z TI TO .ellipsis:=a4;have k1:∀c o,c≠z->h.get? c=some o->h1.get? c=some o:=λc o n e=>a5.extBut c o n e;refine gD ?_;simp![afI,afN,ad3,afY];have U:h1.IsTupleIter i1 l1 k:=O.at λo e=>k1 _ o ap.i1z e;have a2:h1.IsTuple l1 xs:=p1.extBut a5.extBut ap.l1z;refine gD (gD (adk ?_));by_cases J:k<xs.size
 .refine gD (m:=nextOf (.ref i1)) (fQ U a2 (x:=xs[k]) (by simp[J]) λh2 b0 a9=>yr ?_)
  have hy:ys.size<=k:=hn.resolve_left (Nat.not_le.mpr J);have k2:∀c o,c≠z->c≠i1->h.get? c=some o->h2.get? c=some o:=λc o n n' e=>a9.extBut c o n' (k1 c o n e);have o2:aaz h2 TO u v:=k2 _ _ ap.TOz ap.TOi1 hO;refine gD (aaa o2 rfl ?_);refine gD (acQ o2 λh3 o3 a8=>?_);have k3:∀c o,c≠z->c≠i1->c≠TO->h.get? c=some o->h3.get? c=some o:=λc o n n' m e=>a8.extBut c o m (k2 c o n n' e);refine gD (abM (yr ?_));have b1:h3.IsTupleIter i2 l2 k:=s2.at λo e=>k3 _ o ap.i2z (YC ap.i12) (YC ap.TOi2) e;have b2:h3.IsTuple l2 ys:=let⟨o,e,r⟩:=p2;⟨o,k3 _ o ap.l2z ap.l2i1 ap.l2TO e,r⟩;refine gD (gD (adk (gD (m:=nextOf (.ref i2)) ((Draws.tupleEnd a7 i2 l2 k ys (abu hy)).done _ _ _ ⟨rfl,b1,b2⟩ λh4 ee a3 hE=>?_))));obtain⟨oe,V,Z⟩:=hE;have z4:IsZip h4 z TI TO .ellipsis:=a3 _ _ (YC ap.i2z) (a8.extBut _ _ (YC ap.TOz) (a9.extBut _ _ (YC ap.i1z) a4));have ne:ee≠z:=λq=>by subst q;rw[z4]at V;cases V;simp at Z
  refine Zh z4 (by simp) λY z5 a0=>?_;refine gD (aam (T:="StopIteration") (b:=true) ⟨oe,a0.extBut _ _ ne V,Z⟩ F.jb_sub_stop ?_);exact yr (N _ λc o n1 n2 n3 n4 e=>a0.extBut c o n1 (a3 c o n4 (k3 c o n1 n3 n2 e)))
 .refine gD (m:=nextOf (.ref i1)) ((Draws.tupleEnd a7 i1 l1 k xs (abu (afO.mp J))).done _ _ _ ⟨rfl,U,a2⟩ λh4 ee a3 hE=>?_)
  obtain⟨oe,V,Z⟩:=hE;have z4:IsZip h4 z TI TO .ellipsis:=a3 _ _ (YC ap.i1z) a4;have ne:ee≠z:=λq=>by subst q;rw[z4]at V;cases V;simp at Z
  refine Zh z4 (by simp) λY z5 a0=>?_;refine gD (aam (T:="StopIteration") (b:=true) ⟨oe,a0.extBut _ _ ne V,Z⟩ F.jb_sub_stop ?_);exact yr (N _ λc o n1 n2 n3 n4 e=>a0.extBut c o n1 (a3 c o n3 (k1 c o n1 e)))
def tI(l:Addr):Obj:={cls:=.type "tuple_iterator",data:=.fields #[.ref l,.int 0 0]}
def tZa(h:Heap)(l1:Addr):Heap:=h.push (tI l1)
def tZb(h:Heap)(l1 l2:Addr):Heap:=(tZa h l1).push (tI l2)
def tZc(h:Heap)(l1 l2:Addr):Heap:=(tZb h l1 l2).push {cls:=.type "tuple",data:=.seq #[.ref h.objs.size,.ref (tZa h l1).objs.size]}
def tZd(h:Heap)(l1 l2:Addr):Heap:=(tZc h l1 l2).push {cls:=.type "tuple",data:=.seq #[.none,.none]}
def tZ(h:Heap)(l1 l2:Addr):Heap:=(tZd h l1 l2).push {cls:=.type "zip",data:=.fields #[.none,.bool false,.bool false,.ref (tZb h l1 l2).objs.size,.ref (tZc h l1 l2).objs.size]}
theorem wQ{Q:ae9->Mx->Prop}(p1:h.IsTuple l1 xs)(p2:h.IsTuple l2 ys)(N:Q (.done (.ret (.ref (tZd h l1 l2).objs.size))) ⟨tZ h l1 l2,g,d,tk,os⟩) :
  wpAny (model prog w) A (Builtin.«zip.__new__» ⟨[.type "zip",.ref l1,.ref l2],[]⟩) Q E ⟨h,g,d,tk,os⟩:=by
 have J:=sub_zip;have q1:(⟨h,g,d,tk,os⟩:Mx).heap.IsTuple l1 xs:=p1;have q2:Heap.IsTuple (Shared.heap ⟨h.push {cls:=.type "tuple_iterator",data:=.fields #[.ref l1,.int 0 0]},g,d,tk,os⟩) l2 ys:=p2.push _
 wp_walk using wpAny_pyIter_tuple q1,wpAny_pyIter_tuple q2
 exact N
theorem H_{Q:Value->Mx->Prop}(p1:h.IsTuple l1 xs)(p2:h.IsTuple l2 ys)
  (N:∀h',IsZip h' (h.objs.size+4) (h.objs.size+2) (h.objs.size+3) .none->aaz h' (h.objs.size+2) (.ref h.objs.size) (.ref (h.objs.size+1))->aaz h' (h.objs.size+3) .none .none->h'.IsTupleIter h.objs.size l1 0->h'.IsTupleIter (h.objs.size+1) l2 0->(∀c o,h.get? c=some o->h'.get? c=some o)->Q (.ref (h.objs.size+4)) ⟨h',g,d,tk,os⟩) :
  wpAny (model prog w) A (call (.type "zip") [.ref l1,.ref l2]) Q E ⟨h,g,d,tk,os⟩:=by
 have za:(tZa h l1).objs.size=h.objs.size+1:=Ze ..;have zb:(tZb h l1 l2).objs.size=h.objs.size+2:=by rw[tZb,Ze,za]
 have zc:(tZc h l1 l2).objs.size=h.objs.size+3:=by rw[tZc,Ze,zb]
 have zd:(tZd h l1 l2).objs.size=h.objs.size+4:=by rw[tZd,Ze,zc]
 have up:∀c o,(tZb h l1 l2).get? c=some o->(tZ h l1 l2).get? c=some o:=λc o e=>qb _ (qb _ (qb _ e));have V:(tZ h l1 l2).get? (tZd h l1 l2).objs.size=some _:=X4 _ rfl;have O:(tZ h l1 l2).get? (tZc h l1 l2).objs.size=some _:=qb _ (X4 _ rfl);have q:(tZ h l1 l2).get? (tZb h l1 l2).objs.size=some _:=qb _ (qb _ (X4 _ rfl));have Z:(tZ h l1 l2).get? (tZa h l1).objs.size=some (tI l2):=up _ _ (X4 _ rfl);have U:(tZ h l1 l2).get? h.objs.size=some (tI l1):=up _ _ (qb _ (X4 _ rfl));rw[zd,zb,zc]at V;rw[zc]at O;rw[zb,za]at q;rw[za]at Z;refine callType_newIn F.called_zip (by decide) (F.typeCall_zip_2 _ _) (F.newCall_zip_2 _ _) (λobj=>F.args_object_init_3 _ _ _) F.entry_zip_new (S:=λY R s'=>s'=⟨h,g,d,tk,os⟩/\R (.ok (.ret (.ref (h.objs.size+4)))) ⟨tZ h l1 l2,g,d,tk,os⟩) ?_ ⟨rfl,⟨⟨_,V,rfl⟩,N _ V q O ⟨_,U,rfl,rfl⟩ ⟨_,Z,rfl,rfl⟩ λc o e=>up c o (qb _ (qb _ e))⟩⟩;rintro Y R s' ⟨rfl,J⟩;rw[←zd]at J;exact wQ p1 p2 J
end
end PySem
namespace Jb
open PySem PySem.Spec PyProof.Rows L2
def VB(K:XS)(a b:Addr):It:=
 ⟨λi H=>∃xs ys x y,SqT K H a xs/\SqT K H b ys/\xs[i]? =some x/\ys[i]? =some y,λi H x H'=>∃p u v,H p=none/\x= .ref p/\(∀xs,SqT K H a xs->xs[i]? =some u)/\(∀xs,SqT K H b xs->xs[i]? =some v)/\H'=upd H p (.tup [u,v]),λi H=>∃xs ys,SqT K H a xs/\SqT K H b ys/\(xs.length<=i∨ys.length<=i)⟩
theorem Hs{K:XS}{x1}(a b z TI TO i1 i2:Addr)(ap:ZipApart z TI TO i1 i2 a b) :
  Turn P w K (.Tuple elts x1 pos) (VB K a b) [z,TI,TO,i1,i2] z (λi h=>IsZip h z TI TO .none/\aaz h TI (.ref i1) (.ref i2)/\(∃u v,aaz h TO u v)/\h.IsTupleIter i1 a i/\h.IsTupleIter i2 b i)where
 mem:=by simp
 obj:=λi h st c Z=>by
  obtain⟨h1,h2,⟨u,v,F⟩,⟨o1,q1,_,d1⟩,⟨o2,q2,_,d2⟩⟩:=st;simp![XJ,ZC,abt]at Z;rcases Z with e|e|e|e|e<;>subst e
  .exact⟨_,h1,λv z=>by cases z⟩
  .exact⟨_,h2,λv z=>by cases z⟩
  .exact⟨_,F,λv z=>by cases z⟩
  .exact⟨o1,q1,λv z=>by rw[d1]at z;cases z⟩
  .exact⟨o2,q2,λv z=>by rw[d2]at z;cases z⟩
 keep:=λi h h' st k=>by
  obtain⟨h1,h2,⟨u,v,F⟩,h4,h5⟩:=st;exact⟨k z (by simp) _ h1,k TI (by simp) _ h2,⟨u,v,k TO (by simp) _ F⟩,h4.at λo q=>k i1 (by simp) o q,h5.at λo q=>k i2 (by simp) o q⟩
 item:=by
  intro X hP hw hK Z i pins s σ H E I hf st hg;subst hP hw hK;obtain⟨xs,ys,x,y,N,a0,J,V⟩:=hg;obtain⟨its,rv,p,hz⟩:=I.tuple N;obtain⟨its',a2,p',a9⟩:=I.tuple a0;obtain⟨u,O,ru⟩:=rv.get J;obtain⟨v,hv,a5⟩:=a2.get V;obtain⟨h1,h2,⟨u0,v0,F⟩,h4,h5⟩:=st;obtain⟨h0,g,d,tk,os⟩:=s;have a3:∀c∈[z,TI,TO,i1,i2],c<h0.objs.size:=λc Z=>by
   simp![XJ,ZC,abt]at Z;obtain⟨o1,q1,_⟩:=h4;obtain⟨o2,q2,_⟩:=h5;rcases Z with e|e|e|e|e<;>subst e
   .exact XR h1
   .exact XR h2
   .exact XR F
   .exact XR q1
   .exact XR q2
  refine Hi (xs:=its.toArray) (ys:=its'.toArray) (x:=u) (y:=v) (I.ok.hd Z) ap h1 h2 F h4 h5 p p' (by simpa using O) (by simpa using hv) λh' a4 g1 g2 g3 g4 g5 g6 k1=>?_;refine⟨.ref h0.objs.size,rfl,adB g1 λa1 a7 sb=>?_⟩;have a8:h0.objs.size≠z:=Zx (a3 z (by simp));have a6:a1.get? h0.objs.size=some {cls:=.type "tuple",data:=.seq #[u,v]}:=sb.extBut _ _ a8 g6;have kk:∀c o,c∉[z,TI,TO,i1,i2]->h0.get? c=some o->a1.get? c=some o:=λc o Z q=>by
   have n1:c≠z:=λe=>Z (by simp[e]);exact sb.extBut c o n1 (k1 c o n1 (λe=>Z (by simp[e])) (λe=>Z (by simp[e])) (λe=>Z (by simp[e])) q)
  have I2:Inv X pins σ (upd H h0.objs.size (.tup [x,y])) ⟨a1,g,d,a4,os⟩:=by
   refine p_ (fp:=[z,TI,TO,i1,i2]) (t':=a4) I hf (λb o U q=>kk b o U q) (XQ _) ?_;exact⟨by show 2<=X3;decide,[u,v],.cons ru (.cons a5 .nil),_,a6,rfl,_,rfl,rfl⟩
  refine⟨.ref h0.objs.size,upd H h0.objs.size (.tup [x,y]),I2,rfl,⟨_,x,y,I.hok.fresh (XQ _),rfl,λys V=>by rw[I.tuple_inj V N];exact J,λys b0=>by rw[I.tuple_inj b0 a0];exact V,rfl⟩,?_,λc Z=>?_⟩
  .exact⟨a7,sb.extBut _ _ ap.TIz g2,⟨u,v,sb.extBut _ _ ap.TOz g3⟩,g4.at λo e=>sb.extBut _ o ap.i1z e,g5.at λo e=>sb.extBut _ o ap.i2z e⟩
  .rw[aM λe=>Zn _ (e▸a3 c Z)]
   exact(hf c Z).1
 done:=by
  intro X hP hw hK Z i pins s σ H E I hf st hg;subst hP hw hK;obtain⟨xs,ys,N,a0,J⟩:=hg;obtain⟨its,rv,p,hz⟩:=I.tuple N;obtain⟨its',a2,p',a9⟩:=I.tuple a0;obtain⟨h1,h2,⟨u0,v0,F⟩,h4,h5⟩:=st;obtain⟨h0,g,d,tk,os⟩:=s;have Y:=rv.length;have b1:=a2.length;refine Kr (xs:=its.toArray) (ys:=its'.toArray) (I.ok.hd Z) ap h1 h2 F h4 h5 p p' (J.imp (λe=>by simp;omega) λe=>by simp;omega) λh' k1=>⟨rfl,?_⟩;exact jd (fp:=[z,TI,TO,i1,i2]) (t':=tk) I hf λc o Z q=>k1 c o (λe=>Z (by simp[e])) (λe=>Z (by simp[e])) (λe=>Z (by simp[e])) (λe=>Z (by simp[e])) q
 self:=λA i s Q E st h=>acC st.1 h
def R1(K:XS)(ta:TA):TI:=λσ H R=>ta σ H λvs H1=>∃a b,vs=[.ref a,.ref b]/\(((∃xs,SqL K H1 a xs)/\(∃xs,SqL K H1 b xs)/\R (Itz K a b) H1)∨((∃xs,SqT K H1 a xs)/\(∃xs,SqT K H1 b xs)/\R (VB K a b) H1))
variable{X:Cx}
theorem Qt{a b:Expr}{ta:TA}{p:Pos}{x1}(hg:Gl X "zip")(J:X.mg "zip"=none)(Y:PA X [a,b] ta)(hs:X_ [a,b] X.env=(false,eval a X.env)::X_ [b] X.env:=by rfl)(a8:X_ [b] X.env=[(false,eval b X.env)]:=by rfl):PI X (.Tuple elts x1 tpos) (.Call (.Name "zip" p) [a,b] [] pos) (R1 X.K ta):=by
 intro pins s σ H R I h;refine Call_ (kY I hg J boot_zip (aaf (thn (Y pos pins s σ H _ I h) λus O ⟨vs,H1,F,U,q1⟩=>?_) hs (by rw[a8];rfl)));obtain⟨l,l',e,q⟩:=q1;subst e;obtain⟨u,v,rfl,ru,a5⟩:∃u v,us=[u,v]/\RelV (.ref l) u/\RelV (.ref l') v:=by
  cases U with
  |cons h1 t=>
   cases t with
   |cons h2 t=>cases t;exact⟨_,_,rfl,h1,h2⟩
 cases ru;cases a5;rcases q with⟨⟨xs,N⟩,⟨ys,a4⟩,q⟩|⟨⟨xs,N⟩,⟨ys,a4⟩,q⟩
 .obtain⟨its,rv,pl,hz⟩:=F.list N
  obtain⟨its',a7,a3,a6⟩:=F.list a4;have a1:l<O.heap.objs.size:=let⟨_,h1,_⟩:=pl.isList;XR h1;have a2:l'<O.heap.objs.size:=let⟨_,h1,_⟩:=a3.isList;XR h1;refine call_zip_2 pl.isList a3.isList λh1 g1 g2 g3 g4 g5 hsz k1=>?_;have V:Inv X pins σ H1 {O with heap:=h1}:=F.kept (t':=O.toks) k1;refine acC g1 ?_;refine⟨O.heap.objs.size+4,[O.heap.objs.size+4,O.heap.objs.size+2,O.heap.objs.size+3,O.heap.objs.size,O.heap.objs.size+1],_,_,H1,rfl,V,J5 l l' _ _ _ _ _ (zipApart_new a1 a2),⟨g1,g2,⟨_,_,g3⟩,g4,g5⟩,λc Z=>?_,q⟩;have a0:O.heap.objs.size<=c:=by
   simp![XJ,ZC,abt]at Z;rcases Z with e|e|e|e|e<;>rw[e]<;>omega
  exact F.fpOk a0 (F.hok.fresh a0)
 .obtain⟨its,rv,pl,hz⟩:=F.tuple N
  obtain⟨its',a7,a3,a6⟩:=F.tuple a4;obtain⟨h0,g,d,tk,os⟩:=O;have a1:l<h0.objs.size:=let⟨_,h1,_⟩:=pl;XR h1;have a2:l'<h0.objs.size:=let⟨_,h1,_⟩:=a3;XR h1;refine H_ (xs:=its.toArray) (ys:=its'.toArray) pl a3 λh1 g1 g2 g3 g4 g5 k1=>?_;have V:Inv X pins σ H1 ⟨h1,g,d,tk,os⟩:=F.kept (t':=tk) k1;refine acC g1 ?_;refine⟨h0.objs.size+4,[h0.objs.size+4,h0.objs.size+2,h0.objs.size+3,h0.objs.size,h0.objs.size+1],_,_,H1,rfl,V,Hs l l' _ _ _ _ _ (zipApart_new a1 a2),⟨g1,g2,⟨_,_,g3⟩,g4,g5⟩,λc Z=>?_,q⟩;have a0:h0.objs.size<=c:=by
   simp![XJ,ZC,abt]at Z;rcases Z with e|e|e|e|e<;>rw[e]<;>omega
  exact F.fpOk a0 (F.hok.fresh a0)
variable{G:Gc}
theorem BX{H H':Hp}{W:Wn}{v:V}{ds:List D}(w:WOk H W)(s:Same H H')(r:Rep G H' (W.add L) (.tup ds) v M)(F:∀a∈M,a∈L)(fr:∀a∈L,H a=none) :
  ∃a xs,v= .ref a/\Parts G H' W (clean (.tup ds)) (gh ds) xs/\∀H2 N,LtB (clean (.tup ds)) H' W H2 N->SqT G.K H2 a xs:=by
 have free:∀a∈M,W.free a:=λa Y=>⟨λz=>?_,λz=>?_,λz=>?_⟩
 .have les:Les H' (W.add L) W M:=⟨λa f=>⟨λz=>f.1 (.inr z),f.2⟩,free⟩
  rw[Rep]at r;obtain⟨a,xs,rfl,U,O⟩:=r;refine⟨a,xs,rfl,⟨aH.fzo (W:=W.add L) (W':=W) (λ_ z=>z) O les,λz=>?_⟩,λH2 N l=>l.tup U⟩;simp[clean,az,au]at z;exact⟨dI z.1,dG z.2⟩
 .obtain⟨o,ho,_⟩:=w a (.inl z);rw[fr a (F a Y)]at ho;cases ho
 .obtain⟨o,ho,_⟩:=w a (.inr (.inl z));rw[fr a (F a Y)]at ho;cases ho
 .obtain⟨o,ho,_⟩:=w a (.inr (.inr z));rw[fr a (F a Y)]at ho;cases ho
def Kg(f:En->Option (List D)):En->Option (Bool×List D):=λρ=>(f ρ).bind λds=>match ds with
 |[.tup es,.tup es']=>some (clean (.tup es)&&clean (.tup es'),yS (gh es) (gh es'))
 |ds=>itZ (λ_=>some ds) ρ
variable{f:En->Option (List D)}
theorem Le{t:TA}(h:RfA G ob t f):RfI G ob (R1 G.K t) (Kg f):=λρ b items e σ H W rl w R q=>by
 unfold Kg at e;cases h1:f ρ with
 |none=>simp[h1]at e
 |some ds=>
  rw[h1]at e;simp![Xz]at e;split at e
  .rename_i es a5
   cases e;refine h ρ _ h1 σ H W rl w _ λvs H' L s r fr nd=>?_;obtain⟨v,ys,M,M',rfl,rfl,Z,V⟩:=r.inv;obtain⟨v',a6,N,N',rfl,hN,a4,a3⟩:=V.inv;obtain⟨rfl,rfl⟩:=a3.inv0;obtain⟨a,xs,rfl,p,hs⟩:=BX w s Z (λa Y=>by simp[Y]) fr;obtain⟨U,a1,rfl,p',a0⟩:=BX w s a4 (λa Y=>by simp[hN,Y]) fr;refine⟨a,U,rfl,.inr ⟨⟨xs,hs H' W (LtB.up Up.refl)⟩,⟨a1,a0 H' W (LtB.up Up.refl)⟩,q _ H' s ⟨λi d e H2 W2 l=>?_,λi d e H2 W2 l x J y=>?_,λH2 W2 l=>?_⟩⟩⟩
   .obtain⟨x,y,hx,V,_⟩:=qK e
    obtain⟨u,O⟩:=p.r.getV hx;obtain⟨u',a2⟩:=p'.r.getV V;exact⟨xs,a1,u,u',hs H2 W2 l.and1,a0 H2 W2 l.and2,O,a2⟩
   .obtain⟨x0,y0,hx,V,rfl⟩:=qK e
    obtain⟨pa,u,u',F,rfl,O,a2,rfl⟩:=y;have sm:Same H2 (upd H2 pa (.tup [u,u'])):=Same.new F;refine⟨sm,?_⟩;rw[Rep];exact⟨pa,_,rfl,aU,.cons (M:=[]) (M':=[]) ((p.at l.and1 hx (O xs (hs _ W2 l.and1))).up (Up.same sm)) (.one ((p'.at l.and2 V (a2 a1 (a0 _ W2 l.and2))).up (Up.same sm)))⟩
   .refine⟨xs,a1,hs H2 W2 l.and1,a0 H2 W2 l.and2,?_⟩
    rw[←p.r.length,←p'.r.length];unfold yS;rw[aeY];omega
  .unfold itZ at e
   simp![Xz]at e;split at e
   .rename_i d d' _
    split at e
    .rename_i hl
     cases h2:bC d with
     |none=>simp[h2]at e
     |some p=>
      cases h3:bC d' with
      |none=>simp[h2,h3]at e
      |some p'=>
       obtain⟨b1,es⟩:=p;obtain⟨b2,a5⟩:=p';obtain⟨rfl,rfl⟩:(b1&&b2)=b/\yS es a5=items:=by simpa[h2,h3]using e
       refine h ρ _ h1 σ H W rl w _ λvs H' L s r fr nd=>?_;obtain⟨v,ys,M,M',rfl,rfl,Z,V⟩:=r.inv;obtain⟨v',a6,N,N',rfl,hN,a4,a3⟩:=V.inv;obtain⟨rfl,rfl⟩:=a3.inv0;obtain⟨a,xs,rfl,p,hs⟩:=CJ w s Z (λa Y=>by simp[Y]) fr h2 hl.1;obtain⟨U,a1,rfl,p',a0⟩:=CJ w s a4 (λa Y=>by simp[hN,Y]) fr h3 hl.2;refine⟨a,U,rfl,.inl ⟨⟨xs,hs H' W (LtB.up Up.refl)⟩,⟨a1,a0 H' W (LtB.up Up.refl)⟩,q _ H' s ⟨λi d e H2 W2 l=>?_,λi d e H2 W2 l x J y=>?_,λH2 W2 l=>?_⟩⟩⟩
       .obtain⟨x,y,hx,V,_⟩:=qK e
        obtain⟨u,O⟩:=p.r.getV hx;obtain⟨u',a2⟩:=p'.r.getV V;exact⟨xs,a1,u,u',hs H2 W2 l.and1,a0 H2 W2 l.and2,O,a2⟩
       .obtain⟨x0,y0,hx,V,rfl⟩:=qK e
        obtain⟨pa,u,u',F,rfl,O,a2,rfl⟩:=y;have sm:Same H2 (upd H2 pa (.tup [u,u'])):=Same.new F;refine⟨sm,?_⟩;rw[Rep];exact⟨pa,_,rfl,aU,.cons (M:=[]) (M':=[]) ((p.at l.and1 hx (O xs (hs _ W2 l.and1))).up (Up.same sm)) (.one ((p'.at l.and2 V (a2 a1 (a0 _ W2 l.and2))).up (Up.same sm)))⟩
       .refine⟨xs,a1,hs H2 W2 l.and1,a0 H2 W2 l.and2,?_⟩
        rw[←p.r.length,←p'.r.length];unfold yS;rw[aeY];omega
    .cases e
   .cases e
variable{X:ι->Cx}
theorem M8{a b:Expr}{p:Pos}(q:∀c,Gl (X c) "zip")(J:∀c,(X c).mg "zip"=none)(Y:PVA X G ob [a,b] f)(hs:∀c,X_ [a,b] (X c).env=(false,eval a (X c).env)::X_ [b] (X c).env:=by intro _;rfl)(F:∀c,X_ [b] (X c).env=[(false,eval b (X c).env)]:=by intro _;rfl)(V:∀c,(X c).K=G.K:=by intro _;rfl) :
  PVI X G ob (.Tuple elts x1 tpos) (.Call (.Name "zip" p) [a,b] [] pos) (Kg f):=
 let⟨t,a1,a2⟩:=Y.ex;⟨_,λc=>(by rw[←V c];exact Qt (q c) (J c) (a1 c) (hs c) (F c)),Le a2⟩
open PySem
def Ris(xs:Array Nat):Prop:=xs.toList.Pairwise (· < ·)
theorem Ris.lt(h:Ris xs)(N:i<j)(V:j<xs.size):xs.getD i 0<xs.getD j 0:=by
 have:=aao.mp h i j (by simpa using Nat.lt_trans N V) (by simpa using V) N;rw[ZV,ZV]at this;rw[Yl,Yl,ZL xs i (Nat.lt_trans N V),ZL xs j V];exact this
theorem getD_in{a b:Nat}(h:i<xs.size):xs.getD i a=xs.getD i b:=by
 rw[Yl,Yl,ZL xs i h];rfl
theorem vH{xs:Array Nat}(O:Ris xs)(j:Nat):∀(f lo hi:Nat),hi-lo<=f->lo<=hi->hi<=xs.size->(∀i,i<lo->xs.getD i 0<j)->(∀i,hi<=i->i<xs.size->j<=xs.getD i 0)->
  acd xs j f lo hi<=xs.size/\(∀i,i<acd xs j f lo hi->xs.getD i 0<j)/\∀i,acd xs j f lo hi<=i->i<xs.size->j<=xs.getD i 0
 |0,lo,hi,hf,h1,h2,ha,hb=>by
  have e:lo=hi:=by omega
  subst e;exact⟨h2,ha,hb⟩
 |f+1,lo,hi,hf,h1,h2,ha,hb=>by
  rw[acd];split
  .rename_i hlt
   dsimp only;have J:(lo+hi) / 2<hi:=by omega
   have N:lo<=(lo+hi) / 2:=by omega
   split
   .rename_i hc
    rw[getD_in (b:=0) (by omega)]at hc;refine vH O j f _ hi (by omega) (by omega) h2 (λi q=>?_) hb;by_cases e:i=(lo+hi) / 2
    .subst e;exact hc
    .exact Nat.lt_trans (O.lt (by omega) (by omega)) hc
   .rename_i hc
    rw[getD_in (b:=0) (by omega)]at hc;refine vH O j f lo _ (by omega) (by omega) (by omega) ha λi q hs=>?_;by_cases e:i=(lo+hi) / 2
    .subst e;omega
    .have:=O.lt (i:=(lo+hi) / 2) (j:=i) (by omega) hs
     omega
  .have e:lo=hi:=by omega
   subst e;exact⟨h2,ha,hb⟩
theorem v4(O:Ris xs)(j:Nat):SetTable.below xs j<=xs.size/\(∀i,i<SetTable.below xs j->xs.getD i 0<j)/\∀i,SetTable.below xs j<=i->i<xs.size->j<=xs.getD i 0:=
 vH O j xs.size 0 xs.size (by omega) (by omega) (XQ _) (λi h=>absurd h (acR i)) λi h1 h2=>by omega
theorem below_zero(O:Ris xs):SetTable.below xs 0=0:=by
 obtain⟨h1,h2,_⟩:=v4 O 0;rcases afc (SetTable.below xs 0)with e|e
 .exact e
 .exact absurd (h2 0 e) (acR _)
theorem below_next(O:Ris xs)(hi:i<xs.size):SetTable.below xs (xs.getD i 0+1)=i+1:=by
 obtain⟨h1,h2,F⟩:=v4 O (xs.getD i 0+1);rcases adv (SetTable.below xs (xs.getD i 0+1)) (i+1)with e|e|e
 .have:=F i (by omega) hi;omega
 .exact e
 .have:=h2 (i+1) e
  have:=O.lt (i:=i) (j:=i+1) (by omega) (by omega);omega
theorem Ek(O:Ris xs)(V:xs[SetTable.below xs j]?≠some j):Ris (aft xs (SetTable.below xs j) j):=by
 obtain⟨h1,h2,q⟩:=v4 O j;generalize SetTable.below xs j=p at h1 h2 q V;unfold Ris aft;have e1:(xs.extract 0 p).toList=xs.toList.take p:=by simp
 have e2:(xs.extract p xs.size).toList=xs.toList.drop p:=by simp;exact abq (by simp)
 rw[Array.toList_append,adw,e1,e2];have hs:=acG p xs.toList;have F:(xs.toList.take p++xs.toList.drop p).Pairwise (· < ·):=by rw[hs];exact O
 obtain⟨p1,p2,p3⟩:=abH.mp F;have lo:∀a∈xs.toList.take p,a<j:=λa Y=>by
  obtain⟨i,hi,rfl⟩:=Y7 Y;rw[aa6]at hi;have:=h2 i (by omega);rw[List.getElem_take,ZV];rwa[Yl,ZL xs i (by omega),aaD]at this
 have hi:∀a∈xs.toList.drop p,j<a:=λa Y=>by
  obtain⟨i,hi,rfl⟩:=Y7 Y;rw[aa7,Y0]at hi;have J:=q (p+i) (by omega) (by omega);rw[List.getElem_drop,ZV];rw[Yl,ZL xs (p+i) (by omega),aaD]at J;rcases Nat.lt_or_eq_of_le J with z|z
  .exact z
  .exfalso
   rcases afc i with e|e
   .subst e;apply V;rw[ZL xs p (by omega)];simp![Nat.add_zero]at z;rw[z]
   .have:=O.lt (i:=p) (j:=p+i) (by omega) (by omega)
    have N:=q p (XQ _) (by omega);rw[Yl,Yl,ZL xs (p+i) (by omega),aaD]at this;rw[Yl]at N;omega
 refine abH.mpr ⟨abH.mpr ⟨p1,by simp,λa Y b U=>?_⟩,p2,λa Y b U=>?_⟩
 .rw[Yh.mp U];exact lo a Y
 .rcases XC.mp Y with z|z
  .exact p3 a z b U
  .rw[Yh.mp z];exact hi b U
theorem HB(n:Nat):Ris (Array.range n):=by
 unfold Ris;rw[Array.toList_range];exact aeb
def RisT(t:abb)(b:Bool):Prop:=Ris t.place/\t.led=b
variable{t:abb}
theorem vW{t:abb}{f:Nat->Int}{h:Int}{j:Nat}{d:Option Nat}:∀{k:Nat}{p:afZ},(∀x,p.dummy=some x->t.slot x= .dummy)->adx t f h k p=some (.empty j d)->t.slot j= .empty/\∀x,d=some x->t.slot x= .dummy
 |0,p,_,e=>by simp[adx]at e
 |k+1,p,hd,e=>by
  rw[adx]at e;have F:∀q:afZ,(t.advance q).dummy=q.dummy:=λq=>by
   unfold SetTable.advance;split<;>rfl
  split at e
  .rename_i hs
   injection e with e;injection e with e1 e2;subst e1 e2;exact⟨hs,hd⟩
  .rename_i hs
   refine vW (λx J=>?_) e;rw[F]at J;injection J with J;subst J;exact hs
  .split at e
   .cases e
   .refine vW (λx J=>?_) e
    rw[F]at J;exact hd x J
theorem ye(h:t.slot j= .empty∨t.slot j= .dummy):t.place[SetTable.below t.place j]?≠some j:=λe=>by
 unfold SetTable.slot at h;dsimp only at h;rw[e]at h;simp at h
theorem jJ(h:t.led=b):RisT (t.standIn n) b:=⟨HB n,h⟩
variable{es:Array (Int×Value)}{x:Value}
theorem Ed{h:Int}(U:RisT t b):RisT (layNew t es h x).2.1 b:=by
 unfold layNew;cases F:t.freeSlot h with
 |none=>exact jJ U.2
 |some O=>
  obtain⟨slot,V⟩:=O;dsimp only;have q:t.place[SetTable.below t.place slot]?≠some slot:=by
   unfold SetTable.freeSlot at F;split at F
   .rename_i j d hp
    have N:=vW (t:=t) (by simp[SetTable.probeStart]) hp;injection F with F;injection F with h1 h2;subst h1;cases d with
    |none=>exact ye (.inl N.1)
    |some y=>exact ye (.inr (N.2 y rfl))
   .cases F
  have J:RisT (t.put slot).1 b:=⟨Ek U.1 q,U.2⟩;unfold SetTable.orStandIn;split
  .exact J
  .exact jJ J.2
theorem zq(U:t.led=b):RisT (adR t es n).2.1 b:=by
 unfold adR;cases F:t.relaid (es.map (·.1)) n with
 |none=>exact jJ U
 |some O=>
  obtain⟨t',a1⟩:=O;dsimp only;split
  .unfold SetTable.relaid SetTable.laid at F
   cases N:SetTable.layClean (SetTable.sizeAbove n-1) (es.map (·.1))with
   |none=>simp[N]at F
   |some owner=>
    simp![N,Option.bind_eq_bind,Xz,Option.pure_def,aac,abJ]at F;obtain⟨rfl,_⟩:=F;refine⟨?_,U⟩;unfold Ris;dsimp only;have V:∀l:List Nat,l.Pairwise (· < ·)->((l.filterMap λj=>(owner.getD j none).map (j,·)).map (·.1)).Pairwise (· < ·)/\∀x∈(l.filterMap λj=>(owner.getD j none).map (j,·)).map (·.1),x∈l:=by
     intro l
     induction l with
     |nil=>intro _;simp
     |cons a r Z=>
      intro hl;obtain⟨a0,q⟩:=Zz.mp hl;obtain⟨i1,i2⟩:=Z q;rw[abh];cases Y:owner.getD a none with
      |none=>simp![Option.map_none];exact⟨i1,λx J=>Yi _ (i2 x J)⟩
      |some y=>
       simp![Yq,XH];refine⟨Zz.mpr ⟨λx J=>a0 x (i2 x J),i1⟩,λx J=>?_⟩;rcases XJ.mp J with z|z
       .rw[z];exact Yw ..
       .exact Yi _ (i2 x z)
    exact(V _ aeb).1
  .exact jJ U
abbrev ledW(w:World):Bool:=!w.params.followText "set-order"
def wF(knd:KeyKind prog w Key)(h:Heap)(a:Addr)(S:Key->Bool)(n:Nat):Prop:=∃o es ep t,h.get? a=some o/\o.ExactSet/\o.data= .set es ep t/\ElemsOf knd es.toList/\(∀k,S k=true↔∃e∈es.toList,knd.is k e.2=true)/\es.size<abE/\t.fits es.size=true/\es.size=n/\RisT t (ledW w)
variable{knd:KeyKind prog w Key}{S':Key->Bool}
theorem uH(N:h.get? a=some o)(Y:o.ExactSet)(hd:o.data= .set es ep t)
  {Z:Array (Int×Value)} {t':abb}  (J:ElemsOf knd Z.toList) (V:∀k,S' k=true↔∃e∈Z.toList,knd.is k e.2=true) (U:Z.size<abE) (F:t'.fits Z.size=true) (O:RisT t' (ledW w)) :
  (h.update a (afP Z t')).get? a=some {o with data:=.set Z (ep+1) t'}/\wF knd (h.update a (afP Z t')) a S' Z.size:=by
 obtain⟨q,_⟩:=SetOf_store (knd:=knd) N Y hd J V U F;exact⟨q,_,Z,ep+1,t',q,Y,rfl,J,V,U,F,rfl,O⟩
theorem Aa{g:Bool->Sem Unit}(hg:∀(b:Bool)(a2:Mx)(O:Unit->Mx->Prop),O () a2->wpAny (model prog w) A (g b) O E a2)
       (N:s.heap.get? a=some o) (Y:o.ExactSet) (hd:o.data= .set es ep t)
  {F:Array (Int×Value)} {U:abb}  (a1:ElemsOf knd F.toList) (a0:∀k',S' k'=true↔∃e∈F.toList,knd.is k' e.2=true)
  (a3:F.size<abE) (b0:U.fits F.size=true) (a5:RisT U (ledW w)) {wd:Bool} {R:Option Bool->Mx->Prop}
  (h:∀h',aaF a s.heap h'->wF knd h' a S' F.size->R (some true) {s with heap:=h'}) :
  wpAny (model prog w) A (do
   storeSet a F U
   if(!wd&&U.tooFull)=true then do
     g (adR U F (aa4 F.size)).2.2
     storeSet a (adR U F (aa4 F.size)).1 (adR U F (aa4 F.size)).2.1
     pure (some true)
    else pure (some true)) R E s:=by
 refine gD (wpAny_storeSet_of N hd ?_ (fits_of_scanBound a3));obtain⟨a6,a9⟩:=uH (knd:=knd) N Y hd a1 a0 a3 b0 a5;have J:=abO s.heap a (afP F U);split
 .have p:=relayAll_perm U F (aa4 F.size)
  have f:=relayAll_fits U F (aa4 F.size);have r:=zq (t:=U) (es:=F) (n:=aa4 F.size) a5.2;generalize adR U F (aa4 F.size)=Z at p f r⊢;obtain⟨a4,t3,g2⟩:=Z;dsimp only at p f r⊢;have z:a4.size=F.size:=by rw[←Y0,p.length_eq,Y0]
  have a7:a4.size<abE:=by rw[z];exact a3
  refine gD (hg _ _ _ ?_);refine gD (wpAny_storeSet_of a6 rfl ?_ (fits_of_scanBound a7));obtain⟨_,a8⟩:=uH (knd:=knd) a6 Y rfl (a1.perm p) (S':=S') (λk'=>(a0 k').trans ⟨λ⟨e,V,q⟩=>⟨e,p.mem_iff.mpr V,q⟩,λ⟨e,V,q⟩=>⟨e,p.mem_iff.mp V,q⟩⟩) a7 f r;rw[z]at a8;exact yr (h _ (J.trans (abO _ a _)) a8)
 .exact yr (h _ J a9)
theorem Ph{S:Key->Bool}{k:Key}{Q:Bool->Mx->Prop}(a0:knd.is k x=true)(a5:x.scannable=true)(hS:wF knd s.heap a S n)(a7:n+1<abE)
  (h:∀h',aaF a s.heap h'->wF knd h' a (λk'=>S k'||decide (k'=k)) (if S k then n else n+1)->Q (!S k) {s with heap:=h'}) :
  wpAny (model prog w) A (setAddHashed a x (knd.hash k)) Q E s:=by
 obtain⟨o,es,ep,t,N,Y,hd,a4,q,U,hf,hn,O⟩:=hS;unfold setAddHashed setAddHashedIn;refine Y_ (gD (aav N hd hf ?_));dsimp only;rw[byScan_of a5 U a4];simp![↓reduceIte];unfold setAddByScan;refine gD (gD (aap (gD (wpAny_setScan_of a0 N hd hf a4 ?_))));cases a9:List.findIdx? (λe=>knd.is k e.2) es.toList with
 |some j=>
  dsimp only;obtain⟨V,b1,_⟩:=YM.mp a9;have a3:S k=true:=(q k).mpr ⟨es.toList[j],Z7 V,b1⟩;refine yr (yr ?_);have:=h s.heap (Heap.SameBut.refl a s.heap) ⟨o,es,ep,t,N,Y,hd,a4,λk'=>by
   rw[acN,aau,←q k'];exact⟨λz=>z.elim id (λe=>e▸a3),.inl⟩,U,hf,by rw[a3];exact hn,O⟩
  rw[a3]at this;obtain⟨F,g,d,tk,os⟩:=s;exact this
 |none=>
  dsimp only;have a3:S k=false:=by
   cases J:S k with
   |false=>rfl
   |true=>obtain⟨e,he,F⟩:=(q k).mp J;have:=ZD.mp a9 e he;rw[F]at this;exact Bool.noConfusion this
  have b2:∀(b:Bool){a1:Mx}{Q':Unit->Mx->Prop},Q' () a1->wpAny (model prog w) A (match b with|true=>rule "set.scan.the-table-gave-way"|false=>pure ()) Q' E a1:=λb a1 Q' hq=>by
   cases b<;>first|exact yr hq|exact aap hq
  have p:=layNew_perm t es (knd.hash k) x;have f:=layNew_fits t es (knd.hash k) x;have r:=Ed (es:=es) (h:=knd.hash k) (x:=x) O;generalize layNew t es (knd.hash k) x=Z at p f r⊢;obtain⟨a8,t1,wd,gv⟩:=Z;dsimp only at p f r⊢;rw[adw]at p;have z:a8.size=n+1:=by rw[←Y0,p.length_eq,Zg,Y0,hn];rfl
  have b0:a8.size<abE:=by rw[z];exact a7
  refine gD (b2 _ ?_);have a6:∀h',aaF a s.heap h'->wF knd h' a (λk'=>S k'||decide (k'=k)) a8.size->Q true {s with heap:=h'}:=λh' sb a2=>by
   have:=h h' sb;rw[a3]at this;rw[z]at a2;exact this a2
  split
  .refine gD ?_
   rw[hashByValue_scannable 8 a5];refine yr ?_;refine Aa ?_ N Y hd ((a4.push a0 a5).perm p) (mem_push_iff a0 q p) b0 ?_ ?_ ?_
   .intro b a1 Q' hq;cases b<;>first|exact yr hq|exact aap hq
   .split
    .exact f
    .exact SetTable.fits_plain_off f
   .split
    .exact r
    .exact r
   .intro h' sb a2;dsimp only;exact yr (a6 h' sb a2)
  .refine gD (yr ?_)
   simp![↓reduceIte];refine Aa ?_ N Y hd ((a4.push a0 a5).perm p) (mem_push_iff a0 q p) b0 f r ?_
   .intro b a1 Q' hq;cases b<;>first|exact yr hq|exact aap hq
   .intro h' sb a2;dsimp only;exact yr (a6 h' sb a2)
theorem Qx(a:Value){Q₁:Value->Mx->Prop}(h:Q₁ (.ref s.heap.objs.size) {s with heap:=s.heap.push (nR (ledW w))}) :
  aag (model prog w) A (.call (.builtin "set.__new__") ⟨[.type "set",a],[]⟩) (wants Q₁ E) s:=by
 refine codeAny_of_tree ?_;show wpAny _ A.in1 (do checkBuiltinCall "set.__new__" ⟨[.type "set",a],[]⟩;again (.builtin "set.__new__" ⟨[.type "set",a],[]⟩)) _ _ s;refine gD (aa0 (F.newCall_set_1 a) (yr ⟨Zo F.plain_set_new _,Zd F.entry_set_new ?_⟩));rw[YW F.plain_set_new _];unfold Builtin.«set.__new__» af3;have q:=sub_set_self;obtain⟨J,g,d,tk,os⟩:=s;dsimp only
 wp_walk
 refine abd (yr ?_);dsimp only;simp![newObj];refine gD (wpAny_alloc (yr ?_));exact yr h
variable{A:Zc}{ks:List Key}
theorem HH{R:aeg->Mx->Prop}(O:A.handled=none)(hl:ks.length=its.length)(J:∀(j:Nat)(k:Key)(v:Value),ks[j]? =some k->its[j]? =some v->RelV (kV k) v)(U:its.length+1<abE)(nS:S≠it)(nl:l≠it)(a8:l≠S):∀(m i:Nat)(acc:List Key)(s:Mx),its.length-i=m->i<=its.length->s.heap.IsList l its.toArray->s.heap.IsListIter it l i->wF (bz prog w) s.heap S (inK acc) acc.length->acc.length<=i->
  (∀h' tk,(∀b o,b≠S->b≠it->s.heap.get? b=some o->h'.get? b=some o)->wF (bz prog w) h' S (inK ((ks.drop i).foldl rH acc)) ((ks.drop i).foldl rH acc).length->R (.ok (.ret .none)) {s with heap:=h',toks:=tk})->
  aag (model prog w) A (.builtin "set.update.loop" ⟨[.ref S,.ref it],[]⟩) R s:=by
 intro m
 induction m with
 |zero=>
  intro i acc s hm hi pl V hS Y k;have e:i=its.length:=by omega
  subst e;refine Zd adW ?_;rw[YW ab7 _];unfold Builtin.«set.update.loop»;dsimp only;refine gD (acE (show A.in1.handled=none from O) V pl (by simp) λh' eb=>?_);dsimp only;refine yr (k h' _ (λb o _ b2 e=>eb b o b2 e) ?_);rw[←hl,aaC];obtain⟨o,es,ep,t,N,rest⟩:=hS;exact⟨o,es,ep,t,eb S _ nS N,rest⟩
 |succ m Z=>
  intro i acc s hm hi pl V hS Y k;have q:i<its.length:=by omega
  have a2:i<ks.length:=by omega
  refine Zd adW ?_;rw[YW ab7 _];unfold Builtin.«set.update.loop»;dsimp only;refine gD (acg V pl (x:=its[i]) (by simp[q]) λh1 a3 a1=>?_);dsimp only;have a6:wF (bz prog w) h1 S (inK acc) acc.length:=by
   obtain⟨o,es,ep,t,N,rest⟩:=hS;exact⟨o,es,ep,t,(a1.2 S nS).trans N,rest⟩
  have rk:=J i ks[i] its[i] (XX a2) (XX q);refine gD (Y_ ?_);unfold setAdd;refine Y_ ?_;refine gD ((bz prog w).pyHash (k:=ks[i]) (oE rk) ?_);refine Ph (knd:=bz prog w) (oE rk) (M4 (P:=prog) (w:=w) rk) a6 (by omega) λh2 a0 a7=>?_;refine yr ⟨Zo ab7 _,?_⟩;have a5:wF (bz prog w) h2 S (inK (rH acc ks[i])) (rH acc ks[i]).length:=by
   have e1:(λk'=>inK acc k'||decide (k'=ks[i]))=inK (rH acc ks[i]):=funext λk'=>QH.symm;rw[←e1,BW];exact a7
  refine Z (i+1) (rH acc ks[i]) _ (by omega) q ?_ ?_ a5 ?_ λh' tk kp a4=>k h' tk (λb o b1 b2 e=>kp b o b1 b2 ((a0.2 b b1).trans ((a1.2 b b2).trans e))) ?_
  .obtain⟨o,h1',h2'⟩:=pl
   exact⟨o,(a0.2 l a8).trans ((a1.2 l nl).trans h1'),h2'⟩
  .exact a3.extBut a0.extBut (YC nS)
  .rw[BW]
   split<;>omega
  .rw[aaY a2]
   exact a4
def zH(prog:YG)(w:World)(s:Mx)(ks:List Key)(Z:Mx):Prop:=∃h' tk,Z={s with heap:=h',toks:=tk}/\wF (bz prog w) h' s.heap.objs.size (inK (Ue ks)) (Ue ks).length/\∀b o,s.heap.get? b=some o->h'.get? b=some o
variable{E:Value->Mx->Prop}{s:Mx}
theorem Hd(O:A.handled=none)(Y:ks.length=its.length)(J:∀(j:Nat)(k:Key)(v:Value),ks[j]? =some k->its[j]? =some v->RelV (kV k) v)(U:its.length+1<abE)(pl:s.heap.IsList l its.toArray){R:ae9->Mx->Prop}
  (hR:∀Z,zH prog w s ks Z->R (.done (.ret .none)) Z):wpAny (model prog w) A (Builtin.«set.__init__» ⟨[.ref s.heap.objs.size,.ref l],[]⟩) R E {s with heap:=s.heap.push (nR (ledW w))}:=by
 obtain⟨ol,a8,a3,nl,a6⟩:=pl;obtain⟨b3,a1,b0,a0⟩:=ol;simp only at a3 a6;subst a3 a6;have N:(s.heap.push (nR (ledW w))).get? s.heap.objs.size=some (nR (ledW w)):=X4 _ rfl;have hT:af4 {s with heap:=s.heap.push (nR (ledW w))} (.ref s.heap.objs.size) "set":=⟨_,N,rfl⟩;have a7:(s.heap.push (nR (ledW w))).get? l=some {cls:=.type "list",dict:=a1,data:=.seq its.toArray nl,slots:=a0}:=qb _ a8;have b1:=F.sub_list_set;have b2:=F.sub_list_frozenset;have b4:(Z_ "list"==Z_ "dict")=false:=by decide
 have q:(s.heap.push (nR (ledW w))).IsList l its.toArray:=⟨_,a7,rfl,nl,rfl⟩;unfold Builtin.«set.__init__» noKeywords af0;generalize a9:aee=PI
 wp_walk
 subst a9;refine aaT q ?_;refine gD (aeo ?_);have a2:l<s.heap.objs.size:=XR a8;refine HH (prog:=prog) (w:=w) (its:=its) (ks:=ks) (A:=A) (S:=s.heap.objs.size) (l:=l) O Y J U ?_ ?_ (X8 a2) (its.length-0) 0 [] _ rfl (aai _) ?_ ?_ ?_ (XQ _) λh' tk kp a4=>?_
 .show s.heap.objs.size≠(s.heap.push (nR (ledW w))).objs.size
  rw[Ze];exact X8 (aaB _)
 .show l≠(s.heap.push (nR (ledW w))).objs.size
  rw[Ze];exact X8 (Z2 a2)
 .exact q.push _
 .exact⟨_,X4 _ rfl,rfl,rfl⟩
 .have hget:((s.heap.push (nR (ledW w))).push {cls:=.type "list_iterator",data:=.fields #[.ref l,.int 0 0]}).get? s.heap.objs.size=some (nR (ledW w)):=qb _ N
  letI:BEq Key:=instBEqOfDecidableEq
  haveI:LawfulBEq Key:=inferInstance
  have e0:(λ_:Key=>false)=inK []:=funext λ_=>rfl;rw[←e0];exact⟨_,#[],0,_,hget,⟨rfl,rfl,rfl⟩,rfl,λe V=>by simp at V,λk=>by simp,by decide,by rfl,rfl,by simp[RisT,Ris,SetTable.fresh]⟩
 .refine yr ?_
  show wpAny _ _ (ret YT) _ _ _;refine yr (hR _ ⟨h',tk,rfl,by rw[ael]at a4;exact a4,λb o e=>?_⟩);have a5:b<s.heap.objs.size:=XR e;refine kp b o (X8 a5) ?_ (qb _ (qb _ e));show b≠(s.heap.push (nR (ledW w))).objs.size;rw[Ze];exact X8 (Z2 a5)
theorem Ju(hh:A.handled=none)(a4:ks.length=its.length)(J:∀(j:Nat)(k:Key)(v:Value),ks[j]? =some k->its[j]? =some v->RelV (kV k) v)(U:its.length+1<abE)(pl:s.heap.IsList l its.toArray)
  (h:∀Z,zH prog w s ks Z->Q (.ref s.heap.objs.size) Z):wpAny (model prog w) A (call (.type "set") [.ref l]) Q E s:=by
 obtain⟨c,tl,a7⟩:=abe.mro;have a5:=abe.made;have a6:=abe.sub;refine wpAny_call (codeAny_of_tree ?_);show wpAny _ _ (callAny (.type "set") _) _ _ _;refine yr ⟨Code.quiet_builtin _ (by decide +kernel),Zd F.entry_type_call ?_⟩;rw[Around.under_plain (weight_type_call_type "set" [.ref l] []) rfl];have h1:=abe.notType;have h2:=abe.canCreate;have a9:=F.typeCall_set_1 (.ref l)
 repeat(any_goals(first|assumption|wp_step))
 refine abx (Qx (.ref l) (E:=E) (Q₁:=λobj a1=>obj= .ref s.heap.objs.size/\a1={s with heap:=s.heap.push (nR (ledW w))}) ⟨rfl,rfl⟩) λr a1 O=>?_;cases r with
 |error e=>exact O
 |ok q=>
  cases q with
  |ret obj=>
   obtain⟨rfl,rfl⟩:=O;have N:(s.heap.push (nR (ledW w))).get? s.heap.objs.size=some (nR (ledW w)):=X4 _ rfl;have V:af4 {s with heap:=s.heap.push (nR (ledW w))} (.ref s.heap.objs.size) "set":=⟨_,N,rfl⟩;have b0:=abe.init.lookup;have a8:=abe.init.bind (.ref s.heap.objs.size)
   repeat(any_goals(first|assumption|wp_step))
   refine abx (Zm (R:=wants (λr Y=>r= .none/\zH prog w s ks Y) E) abe.init.plain F.entry_set_init (check_set_init_1 V ?_)) λa3 Y a0=>?_
   .exact Hd (by simp[hh]) a4 J U pl λZ hs=>⟨rfl,hs⟩
   .cases a3 with
    |error e=>exact a0
    |ok a2=>
     cases a2 with
     |ret r=>
      obtain⟨rfl,hs⟩:=a0
      repeat(any_goals(first|assumption|wp_step))
      exact h _ hs
     |_=>exact a0.elim
  |_=>exact O.elim
end Jb
namespace PySem
theorem F.jb_owner_seti:Manifest.owners.lookup (String.ofList ['r','o','t','a','r','e','t','i','_','t','e','s'].reverse)=some Manifest.sig_set_iterator:=by kernel_rfl
theorem F.jb_slot_seti:Slot "set_iterator" "__next__" "set_iterator.__next__" :=
 .of (owner:="set_iterator") (n:="__next__") (by rw[acM,abA];kernel_rfl) (by decide +kernel) (by decide +kernel) (by decide +kernel)
  (by first|exact .inl (by decide +kernel)|exact .inr (by decide +kernel)) (by rw[ab4];kernel_rfl)
theorem F.jb_entry_seti:aeD table "set_iterator.__next__"=some Builtin.«set_iterator.__next__»:=entryFor_of_tree (by kernel_rfl)
theorem F.jb_args_seti(a:Value):argsOk "set_iterator.__next__" ⟨[a],[]⟩:=by
 unfold argsOk;rw[signature?_of (id:="set_iterator.__next__") (n:=['_','_','t','x','e','n','_','_']) (o:=['r','o','t','a','r','e','t','i','_','t','e','s']) (by kernel_rfl) F.jb_owner_seti];kernel_rfl
theorem F.jb_entry_set_iter:aeD table "set.__iter__"=some Builtin.«frozenset.__iter__»:=entryFor_alias (id':="frozenset.__iter__") (by kernel_rfl) rfl (by decide +kernel) (by kernel_rfl)
theorem wG{src:Source}{Q:Nat->Mx->Prop}(hn:n≠0)(h:∀i,i<n->Q i {s with drawn:=s.drawn.bump src}):wpAny (model prog w) A (choose src n) Q E s:=λ_ _ _=>⟨hn,h _ (Nat.mod_lt _ (Nat.pos_of_ne_zero hn))⟩
theorem oO:∀{l:List α}{i:Nat}(h:i<l.length),Yu (l[i]::l.eraseIdx i) l
 |x::r,0,_=>ab5 _
 |x::r,i+1,h=>by
  have:=oO (l:=r) (i:=i) (by simpa using h);exact(List.Perm.swap ..).trans (this.cons x)
theorem lE{α:Type}:∀(n:Nat){xs:List α}{s:Mx}{Q:List α->Mx->Prop},xs.length=n->(∀ys d,Yu ys xs->Q ys {s with drawn:=d})->wpAny (model prog w) A (drawOrder n xs) Q E s
 |0,xs,s,Q,hl,h=>by
  have e:xs=[]:=abv hl;subst e;unfold drawOrder;exact yr (h [] s.drawn (ab5 _))
 |n+1,[],s,Q,hl,h=>by simp at hl
 |n+1,x::r,s,Q,hl,h=>by
  unfold drawOrder;refine gD (wG (by simp) λi hi=>?_);have q:(x::r)[i]? =some (x::r)[i]:=XX hi;rw[q];dsimp only;refine gD (lE n (by rw[aeG,X7 hi];omega) λys d F=>yr (h _ d ?_));exact(List.Perm.cons _ F).trans (oO hi)
def lV(first:Value)(i:Nat)(S:Addr)(n ep:Nat):Obj:={cls:=.type "set_iterator",data:=.fields #[first,Zk i,.ref S,Zk n,Zk ep]}
def eQ(ps:List Nat):Obj:={cls:=.type "tuple",data:=.seq (ps.map λ(i:Nat)=>Zk i).toArray}
variable{es:Array (Int×Value)}
theorem rA{t:abb}(N:s.heap.get? S=some o)(Y:o.ExactSet)(hd:o.data= .set es ep t)(U:t.fits es.size=true)(hz:es.size<=X3)
  (h1:w.params.followText "set-order"=true∨(!t.plain&&decide (es.size>1))=false->Q (.ref s.heap.objs.size) {s with heap:=s.heap.push (lV (Zk 0) 0 S es.size ep)})
  (h2:w.params.followText "set-order"=false->∀ps d,Yu ps (Yp es.size)->Q (.ref (s.heap.push (eQ ps)).objs.size) {s with heap:=(s.heap.push (eQ ps)).push (lV (.ref s.heap.objs.size) 0 S es.size ep),drawn:=d}) :
  wpAny (model prog w) A (aee (.ref S)) Q E s:=by
 have V:s.TypeIs (.ref S) "set":=⟨o,N,Y.1⟩;refine wpAny_pyIter_slot V F.slot_set_iter (abG F.slot_set_iter V F.jb_entry_set_iter ?_ (F.args_set_iter_1 _));unfold Builtin.«frozenset.__iter__» af8 slotArgs;simp![List.isEmpty_nil,acw,Yz,↓reduceIte,bind_assoc,Yx,bne_self_eq_false];unfold af6 af7 setDrawn setsByText;refine gD (yr ?_)
 try dsimp only
 refine gD (yr ?_);refine gD (gD (wpAny_setEntries_of N hd U (yr ?_)));refine gD (gD (aav N hd U ?_));refine gD (gD (abd (yr ?_)));refine yr ?_;have fin:∀{first:Value}{O:Mx},O.heap.get? S=some o->Q (.ref O.heap.objs.size) {O with heap:=O.heap.push (lV first 0 S es.size ep)}->wpAny (model prog w) A.in1 (do
   let e ←setEpoch S
   let v ←newFields "set_iterator" [first,Zk 0,YD S,Zk (es.size:Int),Zk (e:Int)]
   ret v) (λfin s'=>∃v,fin=Fin.done (Flow.ret v)/\∃J r,s'.TypeIs v J/\aev (Z_ J) (ZK "__next__")=pure (some r)/\Q v s') E O:=λ{first O} q hq=>by
  unfold setEpoch newFields;refine gD (gD (aav q hd U (yr ?_)));exact gD (YQ (yr ⟨_,rfl,"set_iterator",_,⟨_,X4 _ rfl,rfl⟩,F.jb_slot_seti.lookup,hq⟩))
 split
 .rename_i hc0
  have Z:(!w.params.followText "set-order"&&(!t.plain&&decide (es.size>1)))=true:=hc0;rw[Ys]at Z;refine gD (lE es.size (by simp) λps d hp=>?_);refine gD (aem ?_ (by rw[X5,hp.length_eq,ado];exact hz));exact fin (qb _ N) (h2 (by simpa using Z.1) ps d hp)
 .rename_i hc0
  have Z:¬(!w.params.followText "set-order"&&(!t.plain&&decide (es.size>1)))=true:=hc0;refine gD (yr ?_);refine fin N (h1 ?_);cases e:w.params.followText "set-order" with
  |true=>exact .inl rfl
  |false=>
   rw[e]at Z;exact .inr (by simpa using Z)
open PySem.Builtin
section
variable{prog:Program}{w:World}{A:Around}{E:Value->Shared->Prop}{it S:Addr}{o:Obj}{es:Array (Int×Value)}{ep i slot:Nat}{t:SetTable}{h:Heap}{g:Array GenState}{d:Drawn}{tk:Nat}{os:OsState}
theorem qg(F:t.fits es.size=true):¬(t.place.size !=es.size||decide (t.fill>t.mask))=true:=by
 unfold af5 at F;simp![Ys,beq_iff_eq,aau]at F;simp![acN,bne_iff_ne,ne_eq,aau,not_or,Decidable.not_not];exact⟨F.1,afO.mpr F.2⟩
theorem xO{Q:Option Value->Mx->Prop}{x:Value}{next:Nat}(hz:h.get? it=some (lV (Zk slot) i S es.size ep))(N:h.get? S=some o)(Y:o.ExactSet)(hd:o.data= .set es ep t)(hf:t.fits es.size=true)
  (hs:∀(A':Zc)(E':Value->Mx->Prop)(O:Option (Value×Nat)->Mx->Prop),O (some (x,next)) ⟨h,g,d,tk,os⟩->wpAny (model prog w) A' (aep S slot i ep) O E' ⟨h,g,d,tk,os⟩)
  (hq:∀h' U,h'.get? it=some (lV (Zk next) (i+1) S es.size ep)->(∀c o,c≠it->h.get? c=some o->h'.get? c=some o)->Q (some x) ⟨h',g,d,U,os⟩) :
  wpAny (model prog w) A (aax (.ref it)) Q E ⟨h,g,d,tk,os⟩:=by
 have a0:(⟨h,g,d,tk,os⟩:Mx).TypeIs (.ref it) "set_iterator":=⟨_,hz,rfl⟩;unfold aax;refine gD (abk ?_);refine Zb a0 F.jb_slot_seti ?_
 repeat(any_goals(first|assumption|wp_step))
 refine Zm F.jb_slot_seti.plain F.jb_entry_seti (F.jb_slot_seti.check _ _ _ _ _ _ _ _ a0 (F.jb_args_seti _) ?_);unfold Builtin.«set_iterator.__next__» lV at *
 repeat(any_goals(first|assumption|wp_step))
 rw[hd];dsimp only;rw[Yc (qg hf)];refine yr (yr ?_);dsimp only;rw[Yc (by simp)];simp![Zk,ZG]at *
 refine gD (hs _ _ _ ?_);dsimp only;refine gD (Zh hz (by simp) λh1 q Z=>?_);refine gD (Zh q (by simp) λh2 V J=>?_);refine yr ?_;refine yr ?_;exact hq h2 tk (by rw[V];simp) λc o n e=>J.extBut c o n (Z.extBut c o n e)
theorem BL{Q:Option Value->Mx->Prop}(O:A.handled=none)(hz:h.get? it=some (lV (Zk slot) i S es.size ep))(N:h.get? S=some o)(Y:o.ExactSet)(hd:o.data= .set es ep t)(hf:t.fits es.size=true)
  (hs:∀(A':Zc)(J:Value->Mx->Prop)(V:Option (Value×Nat)->Mx->Prop),V none ⟨h,g,d,tk,os⟩->wpAny (model prog w) A' (aep S slot i ep) V J ⟨h,g,d,tk,os⟩)
  (hq:∀h',(∀c o,c≠it->h.get? c=some o->h'.get? c=some o)->Q none ⟨h',g,d,tk,os⟩) :
  wpAny (model prog w) A (aax (.ref it)) Q E ⟨h,g,d,tk,os⟩:=by
 have U:(⟨h,g,d,tk,os⟩:Mx).TypeIs (.ref it) "set_iterator":=⟨_,hz,rfl⟩;unfold aax;refine gD (abk ?_);refine Zb U F.jb_slot_seti ?_
 repeat(any_goals(first|assumption|wp_step))
 refine Zm F.jb_slot_seti.plain F.jb_entry_seti (F.jb_slot_seti.check _ _ _ _ _ _ _ _ U (F.jb_args_seti _) ?_);unfold Builtin.«set_iterator.__next__» lV at *
 repeat(any_goals(first|assumption|wp_step))
 rw[hd];dsimp only;rw[Yc (qg hf)];refine yr (yr ?_);dsimp only;rw[Yc (by simp)];simp![Zk,ZG]at *
 refine gD (hs _ _ _ ?_);dsimp only;refine gD (Zh hz (by simp) λh1 q Z=>?_);refine gD ?_;simp![newExc,newTuple];refine gD (YQ ?_ (by size_fits));refine gD (m:=abz _ _) (aa0 (a:=YT) (by first|rfl|(simp![abz];rfl)) ?_);refine YQ ?_ (by size_fits);simp![raiseNew];refine gD (adh ?_);rw[show A.in1.handled=none from O];refine gD (yr (acp ?_));refine gD (aam (T:="StopIteration") (b:=true) ⟨_,X4 _ rfl,rfl⟩ isSubtype_stop ?_);exact yr (hq _ λc o n e=>qb _ (qb _ (Z.extBut c o n e)))
theorem Hr{Q:Option Value->Mx->Prop}{x:Value}{p:Addr}{ps:List Nat}{j:Nat}{c:Int}(hz:h.get? it=some (lV (.ref p) i S es.size ep))(hp:h.get? p=some (eQ ps))(N:h.get? S=some o)(Y:o.ExactSet)(hd:o.data= .set es ep t)(hf:t.fits es.size=true)(V:ps[i]? =some j)(J:es[j]? =some (c,x))
  (hq:∀h' U,h'.get? it=some (lV (.ref p) (i+1) S es.size ep)->(∀c o,c≠it->h.get? c=some o->h'.get? c=some o)->Q (some x) ⟨h',g,d,U,os⟩) :
  wpAny (model prog w) A (aax (.ref it)) Q E ⟨h,g,d,tk,os⟩:=by
 have O:(⟨h,g,d,tk,os⟩:Mx).TypeIs (.ref it) "set_iterator":=⟨_,hz,rfl⟩;unfold aax;refine gD (abk ?_);refine Zb O F.jb_slot_seti ?_
 repeat(any_goals(first|assumption|wp_step))
 refine Zm F.jb_slot_seti.plain F.jb_entry_seti (F.jb_slot_seti.check _ _ _ _ _ _ _ _ O (F.jb_args_seti _) ?_);unfold Builtin.«set_iterator.__next__» lV at *
 repeat(any_goals(first|assumption|wp_step))
 rw[hd];dsimp only;rw[Yc (qg hf)];refine yr (yr ?_);dsimp only;rw[Yc (by simp)];have q:(ps.map λ(i:Nat)=>Zk i).toArray[((i:Nat):Int).toNat]? =some (Zk j):=by
  rw[ZG,aeq,List.getElem?_map,V];rfl
 refine gD ?_;unfold ab0;refine gD (ab3 hp ?_);refine yr ?_;dsimp only;rw[q];dsimp only[Zk];refine gD ?_;unfold setNextDrawn;refine gD (aav N hd hf ?_);simp![ZG,bne_self_eq_false,Yz,Zi,J];refine yr ?_;refine gD (Zh hz (by simp) λh1 a0 Z=>?_);refine yr ?_;refine yr ?_;exact hq h1 tk (by rw[a0];simp[Zk]) λc o n e=>Z.extBut c o n e
theorem J0{Q:Option Value->Mx->Prop}{p:Addr}{ps:List Nat}(O:A.handled=none)(hz:h.get? it=some (lV (.ref p) i S es.size ep))(hp:h.get? p=some (eQ ps))(N:h.get? S=some o)(Y:o.ExactSet)(hd:o.data= .set es ep t)(hf:t.fits es.size=true)(V:ps[i]? =none)
  (hq:∀h',(∀c o,c≠it->h.get? c=some o->h'.get? c=some o)->Q none ⟨h',g,d,tk,os⟩) :
  wpAny (model prog w) A (aax (.ref it)) Q E ⟨h,g,d,tk,os⟩:=by
 have U:(⟨h,g,d,tk,os⟩:Mx).TypeIs (.ref it) "set_iterator":=⟨_,hz,rfl⟩;unfold aax;refine gD (abk ?_);refine Zb U F.jb_slot_seti ?_
 repeat(any_goals(first|assumption|wp_step))
 refine Zm F.jb_slot_seti.plain F.jb_entry_seti (F.jb_slot_seti.check _ _ _ _ _ _ _ _ U (F.jb_args_seti _) ?_);unfold Builtin.«set_iterator.__next__» lV at *
 repeat(any_goals(first|assumption|wp_step))
 rw[hd];dsimp only;rw[Yc (qg hf)];refine yr (yr ?_);dsimp only;rw[Yc (by simp)];have q:(ps.map λ(i:Nat)=>Zk i).toArray[((i:Nat):Int).toNat]? =none:=by
  rw[ZG,aeq,List.getElem?_map,V];rfl
 refine gD ?_;unfold ab0;refine gD (ab3 hp ?_);refine yr ?_;dsimp only;rw[q];refine gD (Zh hz (by simp) λh1 a0 Z=>?_);refine gD (Zh a0 (by simp) λh2 a1 J=>?_);refine gD ?_;simp![newExc,newTuple];refine gD (YQ ?_ (by size_fits));refine gD (m:=abz _ _) (aa0 (a:=YT) (by first|rfl|(simp![abz];rfl)) ?_);refine YQ ?_ (by size_fits);simp![raiseNew];refine gD (adh ?_);rw[show A.in1.handled=none from O];refine gD (yr (acp ?_));refine gD (aam (T:="StopIteration") (b:=true) ⟨_,X4 _ rfl,rfl⟩ isSubtype_stop ?_);exact yr (hq _ λc o n e=>qb _ (qb _ (J.extBut c o n (Z.extBut c o n e))))
theorem oh{s:Mx}{Q:Option (Value×Nat)->Mx->Prop}(N:s.heap.get? S=some o)(hd:o.data= .set es ep t)(F:t.fits es.size=true)(U:w.params.followText "set-order"=false)(J:(!t.plain&&decide (es.size>1))=false)(Y:t.led=true)
  (O:Q (match es[SetTable.below t.place slot]?,t.place[SetTable.below t.place slot]? with|some (_,x),some j=>some (x,j+1)|_,_=>none) s):wpAny (model prog w) A (aep S slot i ep) Q E s:=by
 unfold aep setsByText;refine gD (aav N hd F ?_);refine gD (gD (abd (yr ?_)));dsimp only;rw[Yc (by rw[show(model prog w).w.params.followText "set-order"=false from U];simp)];split
 .rename_i hc
  have q:(!t.plain&&decide (es.size>1))=true:=hc;rw[J]at q;cases q
 .refine gD ?_
  show wpAny _ _ (if(!t.led&& !es.isEmpty)=true then abL "set:maker-not-led" else pure PUnit.unit) _ _ _;rw[Yc (by simp[Y])];exact yr (yr O)
theorem qu{s:Mx}{Q:Option (Value×Nat)->Mx->Prop}(N:s.heap.get? S=some o)(hd:o.data= .set es ep t)(F:t.fits es.size=true)(U:w.params.followText "set-order"=true)
  (q:Q (((abo (w.params.setOrder S ep) es)[i]?).map λe=>(e.2,slot)) s):wpAny (model prog w) A (aep S slot i ep) Q E s:=by
 unfold aep setWalk setsByText;refine gD (aav N hd F ?_);refine gD (gD (abd (yr ?_)));dsimp only;rw[X7 (show(model prog w).w.params.followText "set-order"=true from U)];rw[Yc (by simp)];refine gD (gD (aav N hd F ?_));refine gD (gD (abd (yr ?_)));dsimp only;rw[X7 (show(model prog w).w.params.followText "set-order"=true from U)];refine gD (abd (yr ?_));exact yr q
end
theorem F.jb_slot_seti_iter:Slot "set_iterator" "__iter__" "set_iterator.__iter__" :=
 .of (owner:="set_iterator") (n:="__iter__") (by rw[acM,abA];kernel_rfl) (by decide +kernel) (by decide +kernel) (by decide +kernel)
  (by first|exact .inl (by decide +kernel)|exact .inr (by decide +kernel)) (by rw[ab4];kernel_rfl)
theorem F.jb_entry_seti_iter:aeD table "set_iterator.__iter__"=some Builtin.«dict_keyiterator.__iter__»:=entryFor_alias (id':="dict_keyiterator.__iter__") (by kernel_rfl) rfl (by decide +kernel) (by kernel_rfl)
theorem F.jb_args_seti_iter(a:Value):argsOk "set_iterator.__iter__" ⟨[a],[]⟩:=by
 unfold argsOk;rw[signature?_of (id:="set_iterator.__iter__") (n:=['_','_','r','e','t','i','_','_']) (o:=['r','o','t','a','r','e','t','i','_','t','e','s']) (by kernel_rfl) F.jb_owner_seti];kernel_rfl
theorem rz{s:Mx}{f:Value}(hz:s.heap.get? it=some (lV f i S n ep))(h:Q (.ref it) s):wpAny (model prog w) A (aee (.ref it)) Q E s:=by
 have V:s.TypeIs (.ref it) "set_iterator":=⟨_,hz,rfl⟩;refine wpAny_pyIter_slot V F.jb_slot_seti_iter (abG F.jb_slot_seti_iter V F.jb_entry_seti_iter ?_ (F.jb_args_seti_iter _));show wpAny _ _ (ret (.ref it)) _ _ s;exact yr ⟨_,rfl,"set_iterator",_,V,F.jb_slot_seti.lookup,h⟩
def atL(L:List (Int×Value))(i:Nat)(v:Value):Prop:=∃c,L[i]? =some (c,v)
def Ez(t:abb):Nat->Nat
 |0=>0
 |i+1=>t.place.getD i 0+1
variable{t:SetTable}
theorem Ar(hh:A.handled=none)(hn:S≠it)(a2:o.ExactSet)(hd:o.data= .set es ep t)(F:t.fits es.size=true)(U:w.params.followText "set-order"=false)(a1:(!t.plain&&decide (es.size>1))=false)(Y:t.led=true)(O:Jb.Ris t.place) :
  Walks prog w A it [it,S] [it] es.size (atL es.toList) (λi h=>h.get? it=some (lV (Zk (Ez t i)) i S es.size ep)/\h.get? S=some o):=by
 have a4:t.place.size=es.size:=by
  unfold af5 at F;simp![Ys,beq_iff_eq]at F;exact F.1
 have a0:∀i,i<=es.size->SetTable.below t.place (Ez t i)=i:=λi hi=>by
  cases i with
  |zero=>exact Jb.below_zero O
  |succ i=>exact Jb.below_next O (by omega)
 refine⟨λb U=>by simp at U;simp[U],λi h h' st J=>⟨J it (by simp) _ st.1,J S (by simp) _ st.2⟩,λi s Q E hi st q=>?_,λs Q E st q=>?_,λi s Q E st q=>rz st.1 q⟩
 .obtain⟨hp,g,d,tk,os⟩:=s
  obtain⟨e1,e2⟩:∃c v,es[i]? =some (c,v):=⟨es[i].1,es[i].2,by simp[hi]⟩;obtain⟨v,e2⟩:=e2;have N:t.place[i]? =some (t.place.getD i 0):=by
   rw[Yl,ZL t.place i (by omega)];rfl
  refine xO (next:=Ez t (i+1)) (x:=v) st.1 st.2 a2 hd F (λA' E' Q' V=>oh st.2 hd F U a1 Y ?_) λh' a3 z1 Z=>?_
  .rw[a0 i (by omega),e2,N];exact V
  .exact q v h' a3 ⟨e1,by simpa using e2⟩ ⟨z1,Z S _ hn st.2⟩ λb o U e=>Z b o (λz=>U (by simp[z])) e
 .obtain⟨hp,g,d,tk,os⟩:=s
  refine BL hh st.1 st.2 a2 hd F (λA' E' Q' V=>oh st.2 hd F U a1 Y ?_) λh' Z=>q h' tk λb o U e=>Z b o (λz=>U (by simp[z])) e;rw[a0 _ (XQ _),abu (XQ _)];exact V
theorem ql{α:Type}(next:Nat->Nat):∀(f k:Nat)(left:List α)(out:Array α),left.length=f->Yu (afd next f k left out).toList (out.toList++left)
 |0,k,left,out,h=>by
  have e:left=[]:=abv h;subst e;simp[afd]
 |f+1,k,left,out,h=>by
  have hi:next k % left.length<left.length:=Nat.mod_lt _ (by omega)
  rw[afd,XX hi];dsimp only;refine(ql next f (k+1) _ _ (by rw[aeG,X7 hi];omega)).trans ?_;rw[adw,aat];exact(oO hi).append_left _
theorem lY(next:Nat->Nat)(xs:Array α):Yu (abo next xs).toList xs.toList:=by
 have:=ql next xs.size 0 xs.toList #[] (by simp)
 simpa[abo]using this
theorem DR(O:A.handled=none)(hn:S≠it)(Y:o.ExactSet)(hd:o.data= .set es ep t)(F:t.fits es.size=true)(U:w.params.followText "set-order"=true) :
  Walks prog w A it [it,S] [it] es.size (atL (abo (w.params.setOrder S ep) es).toList) (λi h=>h.get? it=some (lV (Zk 0) i S es.size ep)/\h.get? S=some o):=by
 have hsz:(abo (w.params.setOrder S ep) es).size=es.size:=by
  have:=(lY (w.params.setOrder S ep) es).length_eq;simpa using this
 refine⟨λb U=>by simp at U;simp[U],λi h h' st J=>⟨J it (by simp) _ st.1,J S (by simp) _ st.2⟩,λi s Q E hi st q=>?_,λs Q E st q=>?_,λi s Q E st q=>rz st.1 q⟩
 .obtain⟨hp,g,d,tk,os⟩:=s
  have a0:i<(abo (w.params.setOrder S ep) es).size:=by omega
  obtain⟨c,v,e1⟩:∃(c:Int)(v:Value),(abo (w.params.setOrder S ep) es)[i]? =some (c,v):=⟨((abo (w.params.setOrder S ep) es)[i]'a0).1,((abo (w.params.setOrder S ep) es)[i]'a0).2,ZL (abo (w.params.setOrder S ep) es) i a0⟩;refine xO (slot:=0) (next:=0) (x:=v) st.1 st.2 Y hd F (λA' E' Q' V=>qu st.2 hd F U ?_) λh' a1 N Z=>?_
  .rw[e1];exact V
  .exact q _ h' a1 ⟨c,by rw[aaL,e1]⟩ ⟨N,Z S _ hn st.2⟩ λb o U e=>Z b o (λz=>U (by simp[z])) e
 .obtain⟨hp,g,d,tk,os⟩:=s
  refine BL (slot:=0) O st.1 st.2 Y hd F (λA' E' Q' V=>qu st.2 hd F U ?_) λh' Z=>q h' tk λb o U e=>Z b o (λz=>U (by simp[z])) e;rw[abu (by omega)];exact V
variable{p:Addr}{ps:List Nat}
theorem CT(hh:A.handled=none)(hn:S≠it)(F:p≠it)(a1:o.ExactSet)(hd:o.data= .set es ep t)(hf:t.fits es.size=true)(O:Yu ps (Yp es.size)) :
  Walks prog w A it [it,S,p] [it] es.size (atL (ps.map λj=>es.getD j (0,.none))) (λi h=>h.get? it=some (lV (.ref p) i S es.size ep)/\h.get? S=some o/\h.get? p=some (eQ ps)):=by
 have Y:ps.length=es.size:=by rw[O.length_eq,ado]
 refine⟨λb U=>by simp at U;simp[U],λi h h' st J=>⟨J it (by simp) _ st.1,J S (by simp) _ st.2.1,J p (by simp) _ st.2.2⟩,λi s Q E hi st q=>?_,λs Q E st q=>?_,λi s Q E st q=>rz st.1 q⟩
 .obtain⟨h0,g,d,tk,os⟩:=s
  have a0:i<ps.length:=by omega
  have V:ps[i]<es.size:=ZJ.mp (O.mem_iff.mp (Z7 a0));refine Hr (j:=ps[i]) (c:=es[ps[i]].1) (x:=es[ps[i]].2) st.1 st.2.2 st.2.1 a1 hd hf (XX a0) (ZL es _ V) λh' a2 N Z=>?_;refine q _ h' a2 ⟨es[ps[i]].1,?_⟩ ⟨N,Z S _ hn st.2.1,Z p _ F st.2.2⟩ λb o U e=>Z b o (λz=>U (by simp[z])) e;rw[List.getElem?_map,XX a0];simp[Yl,V]
 .obtain⟨h0,g,d,tk,os⟩:=s
  exact J0 hh st.1 st.2.2 st.2.1 a1 hd hf (abC (by omega)) λh' Z=>q h' tk λb o U e=>Z b o (λz=>U (by simp[z])) e
theorem Dy(O:Yu ps (Yp es.size)):Yu (ps.map λj=>es.getD j (0,.none)) es.toList:=by
 refine(O.map _).trans ?_;have e:(Yp es.size).map (λj=>es.getD j (0,YT))=es.toList:=by
  refine adP (by simp) λi h1 h2=>?_;simp at h1;simp[Yl,h1]
 rw[e]
section
variable{prog:Program}{w:World}{A:Around}{E:Value->Shared->Prop}{S D:Addr}{o:Obj}{es:Array (Int×Value)}{ep:Nat}{t:SetTable}{s:Shared}
theorem J3{Q:Bool->Mx->Prop}(V:s.TypeIs (.ref S) "set")(h:Q false s):wpAny (model prog w) A (abF (.ref S)) Q E s:=by
 unfold abF;refine gD (wpAny_specialOf V PySem.F.slot_set_len.lookup ?_);generalize J:("set.__len__":String)=id0
 wp_delta
 rw[show splitId id0=some ("set","__len__")from by subst J;decide +kernel];subst J;refine gD (aam (T:="set") (b:=true) V (by rw[ab4];kernel_rfl) ?_);refine ad4 (λq=>absurd q (by decide)) (λ_=>?_);refine ad4 (λ_=>?_) (λq=>absurd (by decide +kernel) q);refine gD (aaH V ?_);exact yr h
theorem Oj{R:aeg->Mx->Prop}(hh:A.handled=none)(N:s.heap.get? S=some o)(Y:o.ExactSet)(hd:o.data= .set es ep t)(hf:t.fits es.size=true)(O:Jb.RisT t (Jb.ledW w))(hz:es.size<=X3)(a3:D≠S)(res:Value)(a1:Nat)(hD:s.heap.get? D=some {cls:=.type "list",data:=.seq #[] a1})
  (hR:∀h' tk d' L acc c,(∀b o,b≠D->s.heap.get? b=some o->h'.get? b=some o)->h'.get? D=some {cls:=.type "list",dict:=none,data:=.seq acc c,slots:=#[]}->Yu L es.toList->aer (atL L) acc es.size->R (.ok (.ret res)) {s with heap:=h',drawn:=d',toks:=tk}) :
  wpAny (model prog w) A.in1 (aaI (.ref D) (.ref S) res)
   (λfin s'=>match fin with|.done f=>R (.ok f) s'|.again c'=>c'.quiet=true/\aag (model prog w) A c' R s') (λe s'=>R (.error e) s') s:=by
 have hT:s.TypeIs (.ref S) "set":=⟨o,N,Y.1⟩;have a4:D<s.heap.objs.size:=XR hD;have a8:S<s.heap.objs.size:=XR N;unfold aaI;refine gD (aaH (T:="set") hT ?_);have h1:adS (.ref D) (.ref S)=false:=by simp[adS,a3]
 simp![h1,show(Z_ "set"==Z_ "list")=false by decide,show(Z_ "set"==Z_ "tuple")=false by decide,Bool.or_false,Yz,Zi];have after:∀{it:Addr}{fp:List Addr}{L:List (Int×Value)}{St:Nat->Heap->Prop}{h1:Heap}{d1:Drawn}{b0:Bool},Walks prog w A.in1 it fp [it] es.size (atL L) St->D∉fp->Yu L es.toList->St 0 h1->h1.get? D=some {cls:=.type "list",data:=.seq #[] a1}->h1.get? S=some o->s.heap.objs.size<=it->(∀b o,s.heap.get? b=some o->h1.get? b=some o)->
   wpAny (model prog w) A.in1 (do
    let room ←aa2 [.ref it] (abF (.ref S))
    if(room||b0)=true then do
     rule "list.extend.makes-room"
     Builtin.List.listTouch (.ref D)
     again (.builtin "list.extend.loop" ⟨[.ref D,.ref it,res],[]⟩)
    else again (.builtin "list.extend.loop" ⟨[.ref D,.ref it,res],[]⟩))
   (λfin s'=>match fin with|.done f=>R (.ok f) s'|.again c'=>c'.quiet=true/\aag (model prog w) A c' R s') (λe s'=>R (.error e) s') {s with heap:=h1,drawn:=d1}:=λ{it fp L St h1 d1 b0} W a9 hL st a7 b8 V kp=>by
  have b4:∀(h:Heap)(a2 tk:Nat),St 0 h->(∀b o,b≠D->h1.get? b=some o->h.get? b=some o)->
    h.get? D=some {cls:=.type "list",data:=.seq #[] a2}->aag (model prog w) A (.builtin "list.extend.loop" ⟨[.ref D,.ref it,res],[]⟩) R {s with heap:=h,drawn:=d1,toks:=tk}:=by
   intro h a2 tk b9 J b5;refine codeAny_extend_loopS W.toS hz D a9 res es.size 0 _ #[] a2 rfl (aai _) b9 b5 (ItemsOf.nil _) λs' b1 c' hm b7 b2=>?_;rw[Moved.eq_with hm];refine hR s'.heap s'.toks d1 L b1 c' (λb o U e=>hm.heap b o (λq=>?_) (J b o U (kp b o e))) b7 hL b2;rcases XJ.mp q with e'|q
   .exact U e'
   .have:=XR e
    rw[Yh.mp q]at this;exact absurd this (afO.mpr V)
  refine gD (Y_ (J3 ⟨o,b8,Y.1⟩ ?_));refine ad4 (λ_=>?_) (λ_=>yr ⟨Zo adC _,b4 _ a1 _ st (λb o _ e=>e) a7⟩);refine gD (aap ?_);refine gD ?_;show wpAny _ _ (afe D (·.push .none) >>=λ_=>afe D (·.pop)) _ _ _;refine gD (abR a7 rfl ?_);have a0:=aaK (ZS (·.push YT)) a7 rfl;refine abR (hz:=by seq_fits) a0 rfl ?_;have a6:=aaK (ZS (·.pop)) a0 rfl;refine yr ⟨Zo adC _,b4 _ _ _ ?_ (λb o U e=>?_) a6⟩
  .refine W.frame 0 _ _ st λb U o e=>?_
   have b3:b≠D:=λz=>a9 (z▸U);exact(Y8 _ _ (YC b3)).trans ((Y8 _ _ (YC b3)).trans e)
  .exact(Y8 _ _ (YC U)).trans ((Y8 _ _ (YC U)).trans e)
 have a5:∀(x:Obj),(s.heap.push x).objs.size=s.heap.objs.size+1:=λx=>Ze ..;refine gD (rA N Y hd hf hz (λZ=>?_) λU ps d hp=>?_)
 .cases U:w.params.followText "set-order" with
  |true=>
   refine after (d1:=s.drawn) (DR (it:=s.heap.objs.size) hh (X8 a8) Y hd hf U) ?_ (lY _ _) ⟨X4 _ rfl,qb _ N⟩ (qb _ hD) (qb _ N) (XQ _) λb o e=>qb _ e;simp![XJ,ZC,abt,not_or];exact⟨X8 a4,a3⟩
  |false=>
   have b6:(!t.plain&&decide (es.size>1))=false:=Z.resolve_left (by rw[U];simp);refine after (d1:=s.drawn) (Ar (it:=s.heap.objs.size) hh (X8 a8) Y hd hf U b6 (by rw[O.2];simp[Jb.ledW,U]) O.1) ?_ (ab5 _) ⟨X4 _ rfl,qb _ N⟩ (qb _ hD) (qb _ N) (XQ _) λb o e=>qb _ e;simp![XJ,ZC,abt,not_or];exact⟨X8 a4,a3⟩
 .have e2:∀b o,s.heap.get? b=some o->((s.heap.push (eQ ps)).push (lV (.ref s.heap.objs.size) 0 S es.size ep)).get? b=some o:=λb o e=>qb _ (qb _ e)
  refine after (CT (it:=(s.heap.push (eQ ps)).objs.size) (p:=s.heap.objs.size) hh (by rw[a5];exact X8 (Z2 a8)) (by rw[a5];exact X8 (aaB _)) Y hd hf hp) ?_ (Dy hp) ⟨X4 _ rfl,e2 _ _ N,qb _ (X4 _ rfl)⟩ (e2 _ _ hD) (e2 _ _ N) (by rw[a5];exact ac1 _) e2;simp![XJ,ZC,abt,not_or,a5];exact⟨X8 (Z2 a4),a3,X8 a4⟩
end
open PySem.W
theorem collect_set{Q:List Value->Mx->Prop}(hh:A.handled=none)(N:s.heap.get? S=some o)(a1:o.ExactSet)(hd:o.data= .set es ep t)(hf:t.fits es.size=true)(O:Jb.RisT t (Jb.ledW w))(hz:es.size<=X3)
  (q:∀h' tk d' L acc,(∀b o,s.heap.get? b=some o->h'.get? b=some o)->Yu L es.toList->aer (atL L) acc es.size->Q acc.toList {s with heap:=h',drawn:=d',toks:=tk}):wpAny (model prog w) A (afl (.ref S)) Q E s:=by
 unfold afl;refine gD (aeo (Zd aes ?_));rw[YW aet _];show wpAny _ A.in1 (acY [] >>=λl=>again (.builtin "list.__iadd__" ⟨[l,.ref S],[]⟩)) _ _ s;refine gD (YQ ?_);refine yr ⟨Zo ace _,Zd afu ?_⟩;rw[YW ace _];show wpAny _ A.in1 (aaI (.ref s.heap.objs.size) (.ref S) (.ref s.heap.objs.size)) _ _ _;have hD:(s.heap.push {cls:=.type "list",data:=.seq ([]:List Value).toArray}).get? s.heap.objs.size=some {cls:=.type "list",data:=.seq #[] 0}:=X4 _ rfl
 let Z (s':Mx):Prop:=∃h' tk d' L acc c,s'={s with heap:=h',drawn:=d',toks:=tk}/\(∀b o,s.heap.get? b=some o->h'.get? b=some o)/\h'.get? s.heap.objs.size=some {cls:=.type "list",dict:=none,data:=.seq acc c,slots:=#[]}/\Yu L es.toList/\aer (atL L) acc es.size
 have a0:∀s',Z s'->wpAny (model prog w) A (match YD s.heap.objs.size with
   |YD a=>do
    match(←load a).data with
     |Data.seq xs _=>pure xs.toList
     |_=>abL "internal:collect"
   |_=>abL "internal:collect") Q E s':=by
  rintro s' ⟨h',tk,d',L,acc,c,rfl,J,U,V,Y⟩;show wpAny _ A (load s.heap.objs.size >>=_) _ _ _;refine gD (ab3 U ?_);exact yr (q h' tk d' L acc J V Y)
 refine Zr (Oj (A:=A) (R:=λr s'=>r= .ok (.ret (.ref s.heap.objs.size))/\Z s')
  (s:={s with heap:=s.heap.push {cls:=.type "list",data:=.seq ([]:List Value).toArray}}) hh (qb _ N) a1 hd hf O hz (Zx (XR N)) _ 0 hD (λh' tk d' L acc c J U V Y=>⟨rfl,h',tk,d',L,acc,c,rfl,λb o e=>J b o (X8 (XR e)) (qb _ e),U,V,Y⟩)) (λfin s' h=>?_) (λe s' h=>?_)
 .cases fin with
  |done f=>
   obtain⟨e,h⟩:=h;cases e;exact a0 _ h
  |again c'=>exact⟨h.1,abx h.2 λr a2 O=>by obtain⟨rfl,h⟩:=O;exact a0 _ h⟩
 .exact absurd h.1 (by simp)
end PySem
namespace Jb
open PySem PySem.Spec PyProof.Rows L2
def oY(ns:List Int):List Int:=ns.foldl (λacc n=>if n∈acc then acc else acc++[n]) []
def eY(ns:List Int):List Int:=(oY ns).mergeSort (λa b=>decide (a<=b))
theorem uD:∀(ns acc:List Int),acc.Nodup->(ns.foldl (λacc n=>if n∈acc then acc else acc++[n]) acc).Nodup/\∀x,x∈ns.foldl (λacc n=>if n∈acc then acc else acc++[n]) acc↔x∈acc∨x∈ns
 |[],acc,h=>⟨h,λx=>by simp⟩
 |n::r,acc,h=>by
  rw[aaO];by_cases e:n∈acc
  .rw[X7 e]
   obtain⟨h1,h2⟩:=uD r acc h;refine⟨h1,λx=>(h2 x).trans ⟨λz=>z.imp id (Yi _),λz=>z.elim .inl λz=>(XJ.mp z).elim (λz=>.inl (z▸e)) .inr⟩⟩
  .rw[Yc e]
   obtain⟨h1,h2⟩:=uD r (acc++[n]) (by rw[Yb];exact⟨h,by simp,λa Y b U z=>e (by rw[Yh.mp U]at z;exact z▸Y)⟩);refine⟨h1,λx=>(h2 x).trans ?_⟩;simp![XC,XJ,ZC,abt,or_assoc]
theorem uC(ns:List Int):(oY ns).Nodup:=(uD ns [] List.nodup_nil).1
theorem qm{ns:List Int}{x:Int}:x∈oY ns↔x∈ns:=by
 have:=(uD ns [] List.nodup_nil).2 x;simpa[oY]using this
theorem Iu(ns:List Int):Ue (ns.map aaA)=(oY ns).map aaA:=by
 have:∀(ns acc:List Int),(ns.map aaA).foldl rH (acc.map (aaA:Int->Key))=(ns.foldl (λacc n=>if n∈acc then acc else acc++[n]) acc).map aaA:=by
  intro ns
  induction ns with
  |nil=>intro acc;rfl
  |cons n r Z=>
   intro acc;rw[XH,aaO,aaO,←Z];congr 1;unfold rH;by_cases e:n∈acc
   .rw[X7 e,X7 (kO.mpr (XM.mpr ⟨n,e,rfl⟩))]
   .rw[Yc e,Yc (λz=>e (by obtain⟨m,h1,h2⟩:=XM.mp (kO.mp z);cases h2;exact h1))]
    simp
 exact this ns []
theorem mL:∀{a b:List α},a.Nodup->(∀x∈a,x∈b)->b.length<=a.length->Yu a b
 |[],b,_,_,h=>by
  have e:b=[]:=abv (Nat.le_zero.mp h);rw[e]
 |x::r,b,hn,hs,hl=>by
  obtain⟨h1,h2⟩:=Yn.mp hn;obtain⟨p,q,rfl⟩:=List.append_of_mem (hs x (by simp));have Z:Yu r (p++q):=mL h2 (λy V=>by
   have:=hs y (by simp[V]);simp![XC,XJ]at this⊢;rcases this with z|z|z
   .exact .inl z
   .exact absurd (z▸V) h1
   .exact .inr z) (by simp at hl⊢;omega)
  exact(Z.cons x).trans List.perm_middle.symm
theorem sW:∀{a b:List Int},Yu a b->a.Pairwise (·<=·)->b.Pairwise (·<=·)->a=b
 |[],b,p,_,_=>by rw[p.nil_eq]
 |x::r,[],p,_,_=>absurd p.length_eq (by simp)
 |x::r,y::q,p,ha,hb=>by
  obtain⟨U,Y⟩:=Zz.mp ha;obtain⟨Z,N⟩:=Zz.mp hb;have e:x=y:=by
   rcases XJ.mp (p.mem_iff.mp (Yw ..))with z|z
   .exact z
   .rcases XJ.mp (p.mem_iff.mpr (Yw (a:=y)))with z2|z2
    .exact z2.symm
    .have:=Z x z;have:=U y z2;omega
  subst e;rw[sW (p.cons_inv) Y N]
theorem j6(ns:List Int):Yu (eY ns) (oY ns):=List.mergeSort_perm _ _
theorem yU(ns:List Int):(eY ns).Pairwise (·<=·):=by
 have:=List.pairwise_mergeSort (le:=λa b:Int=>decide (a<=b)) (λa b c h1 h2=>by simp at *;omega) (λa b=>by simp;omega) (oY ns);exact this.imp λh=>by simpa using h
theorem Gm{a b:List Int}(h:∀x,x∈a↔x∈b):eY a=eY b:=by
 refine sW ((j6 a).trans (((aaR (uC a) (uC b)).mpr λx=>by rw[qm,qm];exact h x).trans (j6 b).symm)) (yU a) (yU b)
section
variable{X:Cx}{e:Expr}{t:TA}{p1 p2 q1 q2:Pos}
theorem KR(ns:List Int):(oY ns).length<=ns.length:=by
 have:∀(ns acc:List Int),(ns.foldl (λacc n=>if n∈acc then acc else acc++[n]) acc).length<=acc.length+ns.length:=by
  intro ns
  induction ns with
  |nil=>intro acc;simp
  |cons n r Z=>
   intro acc;rw[aaO];refine Zq (Z _) ?_;split<;>simp<;>omega
 have:=this ns [];simpa[oY]using this
def toZ:Value->Int
 |.int n _=>n
 |_=>0
theorem Br:∀{us:List Value},(∀u∈us,∃n t,u= .int n t)->Vals ((us.map toZ).map V.int) us
 |[],_=>.nil
 |u::r,h=>by
  obtain⟨n,t,rfl⟩:=h u (by simp);exact .cons ⟨t,rfl⟩ (Br λv Z=>h v (by simp[Z]))
def Mt(K:XS)(t:TA):TE:=λσ H Q=>t σ H λvs H1=>∃a ns,vs=[.ref a]/\SqL K H1 a (List.map V.int ns)/\Z0 ns<64/\∀l,H1 l=none->Q (.ref l) (upd H1 l (.lst ((eY ns).map V.int)))
theorem Inv.drw{pins:List (Addr×Obj)}{σ:L2.St}{H:Hp}{s:Mx}{d:Drawn}(I:Inv X pins σ H s):Inv X pins σ H {s with drawn:=d}:=⟨I.ok,I.os,I.bare,I.base,I.loc,I.cell,I.free,I.freeC,I.pin,I.hok,I.len⟩
theorem HQ{pins:List (Addr×Obj)}{σ:L2.St}{H:Hp}{s:Mx}{zs:List Int}{its:List Value}{E:Value->Mx->Prop}{Q:VK}(I:Inv X pins σ H s)(rv:Vals (zs.map V.int) its)(Y:zs.length<64)
  (q:∀ys:List Int,Yu ys zs->ys.Pairwise (·<=·)->∀l,H l=none->Q (.ref l) (upd H l (.lst (ys.map V.int)))) :
  wpAny (model X.prog X.w) X.A.in1 (acY its >>=λl=>aeP [l] (call (.builtin "list.sort") [l] []) >>=λ_=>ret l) (λfin s'=>∃v,fin= .done (.ret v)/\EP X pins σ Q v s') E s:=by
 have U:zs.length=its.length:=by have:=rv.length;simpa using this
 have b0:64<=X3:=by decide
 have a0:∀i,i<its.length->∃t,its[i]? =some (.int (zs.getD i 0) t):=λi hi=>by
  have J:i<zs.length:=by omega
  obtain⟨u,h1,t,h2⟩:=rv.get (i:=i) (x:=V.int zs[i]) (by simp[J]);exact⟨t,by rw[h1,h2];simp[J]⟩
 refine yg (κ:=oneType') (ρ:=λi=>zs.getD i 0) (by omega) (λh2 h' ext E' Q' a3=>adO (T:=.type "int") (by omega) (λv Z=>?_) rfl rfl a3) (λh' ext i j hi hj Q' a3=>?_) λp F a7 h' c a4 N=>?_
 .obtain⟨i,hi,rfl⟩:=Y7 Z
  obtain⟨t,e⟩:=a0 i hi;rw[XX hi]at e;rw[Y4 e];exact aen rfl
 .obtain⟨t1,a1⟩:=a0 i hi
  obtain⟨t2,a2⟩:=a0 j hj;rw[Zj,Zj,a1,a2];exact oneLt_int a3
 .have hpl:∀i∈p.toList,i<its.length:=λi hi=>ZJ.mp (adu F |>.mp hi)
  have a8:=F.size;have e2:(p.toList.map λi=>(zs.map V.int).getD i V.non)=(p.toList.map λi=>zs.getD i 0).map V.int:=by
   rw[XN];refine Yr λi hi=>?_;have:i<zs.length:=by rw[U];exact hpl i hi
   simp[this]
  refine⟨.ref s.heap.objs.size,upd H s.heap.objs.size (.lst ((p.toList.map λi=>zs.getD i 0).map V.int)),I.laid (t':=s.toks) a4 (XQ _) ?_,rfl,q _ ?_ ?_ _ (I.hok.fresh (XQ _))⟩
  .refine⟨by rw[X5,X5];simp![Y0];omega,p.toList.map λi=>its.getD i YT,c,?_,N⟩
   have:=oW rv p.toList λi hi=>by rw[X5,U];exact hpl i hi
   rw[e2]at this;exact this
  .have h3:Yu p.toList (Yp zs.length):=by rw[U];exact F
   have O:(Yp zs.length).map (λi=>zs.getD i 0)=zs:=by
    refine adP (by simp) λi h1 h2=>?_;simp at h1;simp[h1]
   have:=h3.map λi=>zs.getD i 0;rwa[O]at this
  .rw[aaV,aao]
   intro i j hi hj a9;have a5:j<p.size:=by simpa using hj
   have a6:i<p.size:=by simpa using hi
   have:=a7 i j (by omega) (by omega);unfold rk at this;rw[Yl,Yl,ZL p i a6,ZL p j a5,aaD,aaD]at this;rw[ZV,ZV];exact this
theorem Em(hg:Gl X "sorted")(hm:X.mg "sorted"=none)(b8:X.mg "set"=none)(Y:PA X [e] t)(c3:Gl X "set":=by rfl)(hs:X_ [e] X.env=[(false,eval e X.env)]:=by rfl)(Z:X.calm=true:=by rfl) :
  PE X (.Call (.Name "sorted" p1) [.Call (.Name "set" p2) [e] [] q2] [] q1) (Mt X.K t):=by
 intro pins s σ H Q I h;refine aaG (kY I hg hm ac2 ?_);refine ad_ rfl (aey ?_);show wpAny _ _ (spliced ((false,eval (.Call (.Name "set" p2) [e] [] q2) X.env)::aah q1 (X_ [] X.env))) _ _ s;refine ae3 ?_;refine aaG (kY I c3 b8 boot_set ?_);refine aaf (thn (Y q2 pins s σ H _ I h) λus s1 ⟨vs,H1,I1,r1,b9⟩=>?_) hs rfl;obtain⟨a,ns,ev,hq,hz,q⟩:=b9;subst ev;obtain⟨u,rfl,ru⟩:=vals1 r1;cases ru;have hh:X.A.handled=none:=I1.ok.hd Z;obtain⟨its,rv,pl,c7⟩:=I1.list hq;have a1:=rv.length;rw[X5]at a1;refine Ju (its:=its) (ks:=ns.map aaA) hh (by rw[X5];exact a1) (λj k v e1 e2=>?_) (by show its.length+1<4096;omega) pl.isList λs2 b6=>?_
 .rw[List.getElem?_map]at e1
  cases hn:ns[j]? with
  |none=>rw[hn]at e1;cases e1
  |some n=>
   rw[hn]at e1;cases e1;obtain⟨w',h1,h2⟩:=rv.get (i:=j) (x:=V.int n) (by rw[List.getElem?_map,hn];rfl);rw[e2]at h1;cases h1;exact h2
 refine afo ?_;obtain⟨h',tk,rfl,hS,b4⟩:=b6;have I2:Inv X pins σ H1 {s1 with heap:=h',toks:=tk}:=I1.kept (t':=tk) b4;obtain⟨o,es,ep,tb,N,b1,hd,b5,a0,U,hf,hn,O⟩:=hS;rw[Iu]at a0 hn;rw[X5]at hn;have c6:=KR ns;have c5:64<=X3:=by decide
 refine rF λE' Q' b7=>PySem.collect_set (A:=X.A.in1) hh N b1 hd hf O (by omega) λh2 a7 d2 L acc kp hL Y=>?_;have I3:Inv X pins σ H1 {s1 with heap:=h2,drawn:=d2,toks:=a7}:=Inv.drw (d:=d2) (I2.kept (t':=a7) kp);have a5:∀(i:Nat)(v:Value),acc.toList[i]? =some v->∃n t,v= .int n t/\n∈oY ns:=λi v hv=>by
  obtain⟨c,a8⟩:=Y.2 i v (by rw[←aaL];exact hv);have a6:(c,v)∈es.toList:=hL.mem_iff.mp (Yt a8);obtain⟨⟨k,a4,_⟩,_⟩:=b5 _ a6;have c1:=(a0 k).mpr ⟨_,a6,a4⟩;obtain⟨n,c0,rfl⟩:=XM.mp (kO.mp c1);have a9:pF (aaA n) v=true:=a4;rcases cH a9 with⟨i',t,z,z2⟩|⟨x',t,z,_⟩
  .cases z;exact⟨n,t,z2,c0⟩
  .cases z
 have a2:acc.toList.length=(oY ns).length:=by rw[Y0,Y.1,hn]
 have hv:Vals ((acc.toList.map toZ).map V.int) acc.toList:=Br λu hu=>by
  obtain⟨i,hi,rfl⟩:=Y7 hu;obtain⟨n,t,e,_⟩:=a5 i _ (XX hi);exact⟨n,t,e⟩
 have b2:Yu (oY ns) (acc.toList.map toZ):=by
  refine mL (uC ns) (λx J=>?_) (by rw[X5,a2];exact XQ _);obtain⟨⟨c,v⟩,h1,h2⟩:=(a0 (aaA x)).mp (kO.mpr (XM.mpr ⟨x,J,rfl⟩));obtain⟨i,hi,c4⟩:=Y7 (hL.mem_iff.mpr h1);have b3:i<acc.toList.length:=by
   rw[a2,←hn,←Y0,←hL.length_eq];exact hi
  obtain⟨c2,a3⟩:=Y.2 i acc.toList[i] (by rw[←aaL];exact XX b3);rw[XX hi,c4]at a3;have b0:v=acc.toList[i]:=congrArg Prod.snd (Y4 a3);have h3:pF (aaA x) v=true:=h2;rcases cH h3 with⟨i',t,z,z2⟩|⟨x',t,z,_⟩
  .cases z
   refine XM.mpr ⟨acc.toList[i],Z7 _,?_⟩;rw[←b0,z2];rfl
  .cases z
 refine b7 _ _ (HQ I3 hv (by rw[X5,a2];omega) λys F hw l hl=>?_);have e:ys=eY ns:=sW (F.trans (b2.symm.trans (j6 ns).symm)) hw (yU ns);rw[e];exact q l hl
end
def fY:List D->Option D
 |[.lst _ ds]=>if ds.length<64 then(mz ds).map λns=>.lst .own ((eY ns).map D.int)else none
 |_=>none
variable{G:Gc}
theorem yd{H:Hp}{W:Wn}:∀ns:List Int,aH G H W (ns.map D.int) (ns.map V.int) []
 |[]=>.nil
 |x::r=>aH.cons (M:=[]) (M':=[]) cU (yd r)
theorem Cj:CaV G (λvs H Q=>∃a ns,vs=[.ref a]/\SqL G.K H a (List.map V.int ns)/\Z0 ns<64/\∀l,H l=none->Q (.ref l) (upd H l (.lst ((eY ns).map V.int)))) fY:=λds d e xs H W J r nd hn w Q q=>by
 unfold fY at e;split at e
 .split at e
  .rename_i m ds hl
   cases h1:mz ds with
   |none=>simp[h1]at e
   |some ns=>
    obtain rfl:D.lst .own ((eY ns).map D.int)=d:=by simpa[h1]using e
    obtain⟨x,rfl,rx⟩:=r.inv1;rw[Rep]at rx;obtain⟨a,ys,M,rfl,O,hs⟩:=rx;have hd:=qI h1;subst hd;have Z:=pO O;subst Z;exact⟨a,ns,rfl,hs.sq,by simpa using hl,λl F=>jg (yd _) (λa Y=>by cases Y) List.nodup_nil hn F q⟩
  .cases e
 .cases e
variable{X:ι->Cx}
theorem oV{p2 q2:Pos}{f:En->Option (List D)}(q:∀c,Gl (X c) "sorted")(J:∀c,(X c).mg "sorted"=none)(F:∀c,(X c).mg "set"=none)(Y:PVA X G ob [e] f)(O:∀c,Gl (X c) "set":=by intro _;rfl)(hs:∀c,X_ [e] (X c).env=[(false,eval e (X c).env)]:=by intro _;rfl)(Z:∀c,(X c).calm=true:=by intro _;rfl)(V:∀c,(X c).K=G.K:=by intro _;rfl) :
 PV X G ob (.Call (.Name "sorted" p1) [.Call (.Name "set" p2) [e] [] q2] [] q1) (eAp fY f):=let⟨t,a1,a2⟩:=Y.ex;⟨_,λc=>(by rw[←V c];exact Em (q c) (J c) (F c) (a1 c) (O c) (hs c) (Z c)),tO Cj a2⟩
end Jb
namespace PySem
open PySem.W
variable{r d:Addr}{P:Nat->Value->Prop}{OK:Heap->Prop}
theorem collect_src{Q:List Value->Mx->Prop}(K:KdlSrc prog w T r d n P OK)(hh:A.handled=none)(hok:OK s.heap)(hn:n<=X3)
  (q:∀h' tk acc,(∀b o,s.heap.get? b=some o->h'.get? b=some o)->aer P acc n->Q acc.toList {s with heap:=h',toks:=tk}):wpAny (model prog w) A (afl (.ref r)) Q E s:=by
 unfold afl;refine gD (aeo (Zd aes ?_));rw[YW aet _];show wpAny _ A.in1 (acY [] >>=λl=>again (.builtin "list.__iadd__" ⟨[l,.ref r],[]⟩)) _ _ s;refine gD (YQ ?_);refine yr ⟨Zo ace _,Zd afu ?_⟩;rw[YW ace _];show wpAny _ A.in1 (aaI (.ref s.heap.objs.size) (.ref r) (.ref s.heap.objs.size)) _ _ _;have N:(s.heap.push {cls:=.type "list",data:=.seq ([]:List Value).toArray}).get? s.heap.objs.size=some {cls:=.type "list",data:=.seq #[] 0}:=X4 _ rfl;have a0:=K.there _ hok;have Z:∀s',(∃h' tk acc c,s'={s with heap:=h',toks:=tk}/\(∀b o,s.heap.get? b=some o->h'.get? b=some o)/\h'.get? s.heap.objs.size=some {cls:=.type "list",dict:=none,data:=.seq acc c,slots:=#[]}/\aer P acc n)->wpAny (model prog w) A (match YD s.heap.objs.size with
   |YD a=>do
    match(←load a).data with
     |Data.seq xs _=>pure xs.toList
     |_=>abL "internal:collect"
   |_=>abL "internal:collect") Q E s':=by
  rintro s' ⟨h',tk,acc,c,rfl,J,U,Y⟩;show wpAny _ A (load s.heap.objs.size >>=_) _ _ _;refine gD (ab3 U ?_);exact yr (q h' tk acc J Y)
 refine Zr (kdl_extend (A:=A) (R:=λr s'=>r= .ok (.ret (.ref s.heap.objs.size))/\∃h' tk acc c,s'={s with heap:=h',toks:=tk}/\(∀b o,s.heap.get? b=some o->h'.get? b=some o)/\h'.get? s.heap.objs.size=some {cls:=.type "list",dict:=none,data:=.seq acc c,slots:=#[]}/\aer P acc n)
  (s:={s with heap:=s.heap.push {cls:=.type "list",data:=.seq ([]:List Value).toArray}}) K hh (K.keep _ _ hok λb _ o e=>qb _ e) s.heap.objs.size (Zx a0.1) (Zx a0.2) _ 0 N (λh' tk acc c J U Y=>⟨rfl,h',tk,acc,c,rfl,λb o e=>J b o (X8 (XR e)) (qb _ e),U,Y⟩) hn) (λfin s' h=>?_) (λe s' h=>?_)
 .cases fin with
  |done f=>
   obtain⟨e,h⟩:=h;cases e;exact Z _ h
  |again c'=>exact⟨h.1,abx h.2 λr V O=>by obtain⟨rfl,h⟩:=O;exact Z _ h⟩
 .exact absurd h.1 (by simp)
end PySem
namespace Jb
open PySem PySem.Spec PyProof.Rows L2
def Kl(A:Zc):List V->Hp->VK->Prop:=λxs H Q=>∃(a:Addr)(kvs:List (Key×V))(ys:List Str),xs=[.ref a]/\Rd H a (.dK kvs)/\kvs.map (·.1)=ys.map YF/\ys.length<64/\A.units+2<cLine/\
 ∀p:List Nat,Yu p (Yp (ys.map V.str).length)->abm (λi j=>ltS ((ys.map λy=>[y]).getD j []) ((ys.map λy=>[y]).getD i [])=false) p->∀l,H l=none->Q (.ref l) (upd H l (.lst (p.map λi=>(ys.map V.str).getD i .non)))
theorem G8:∀{xs:List V}{us:List Value},us.length=xs.length->(∀(i:Nat)(x:V)(u:Value),xs[i]? =some x->us[i]? =some u->RelV x u)->Vals xs us
 |[],[],_,_=>.nil
 |[],_::_,h,_=>by simp at h
 |_::_,[],h,_=>by simp at h
 |x::xs,u::us,h,hr=>.cons (hr 0 x u rfl rfl) (G8 (by simpa using h) λi y v h1 h2=>hr (i+1) y v (by simpa using h1) (by simpa using h2))
variable{X:Cx}
theorem zE(Z:X.calm=true):dq X (.builtin "sorted") (Kl X.A):=by
 intro pins s σ H xs us Q I r h;obtain⟨a,kvs,ys,rfl,N,V,hl,O,q⟩:=h;obtain⟨u,rfl,ru⟩:=vals1 r;cases ru;obtain⟨hz,hd,vs,rel,dd⟩:=v7 I.hok N;obtain⟨ep,ob,es,g,x,d,U,r2,r3⟩:=dd.dictAt;have a2:s.heap.DictAt (bz X.prog X.w) a vs ep:=⟨ob,es,g,x,d,U,r2,r3⟩;have a5:kvs.length=vs.length:=rel.length;have a4:kvs.length=ys.length:=by have:=congrArg Z0 V;simpa using this
 refine rF λE' Q' a3=>PySem.collect_src (PySem.W.kdl_dict (ep:=ep) (kvs:=vs) hd) (I.ok.hd Z) a2 (by omega) λh' tk acc J Y=>?_;refine a3 _ _ (BK (ks:=ys.map λy=>[y]) (I.kept (t':=tk) J) (G8 ?_ λi x u h1 h2=>?_) (by simpa using hl) O ⟨by simp,.inl λi k e=>?_⟩ q)
 rotate_left 2
 .rw[List.getElem?_map]at e⊢
  cases hi:ys[i]? with
  |none=>rw[hi]at e;cases e
  |some y=>rw[hi]at e;cases e;exact⟨y,rfl,rfl⟩
 .rw[Y0,X5,Y.1];omega
 .rw[List.getElem?_map]at h1
  cases hi:ys[i]? with
  |none=>rw[hi]at h1;cases h1
  |some y=>
   rw[hi]at h1;cases h1;obtain⟨k,v,e1,e2⟩:=Y.2 i u (by rw[←aaL];exact h2);have a0:(kvs.map (·.1))[i]? =some (YF y):=by rw[V,List.getElem?_map,hi];rfl
   rw[List.getElem?_map]at a0;cases a1:kvs[i]? with
   |none=>rw[a1]at a0;cases a0
   |some kv=>
    rw[a1]at a0;have ek:kv.1=YF y:=Y4 a0;have:=(yc rel a1 e1).1;obtain rfl:k=YF y:=by rw[←ek];exact this.symm
    have F:pF (YF y) u=true:=e2;rcases cH F with⟨j,t,z,_⟩|⟨x',t,z,rfl⟩
    .cases z
    .cases z;exact⟨t,rfl⟩
def jn:List D->Option D
 |[.dct m ks _]=>if(m== .scr)=false/\ks.length<64 then(t8 ks).map λys=>.lst .own ((Iw ys).map D.str)else none
 |ds=>fJ ds
variable{X:ι->Cx}{G:Gc}
theorem B_(A:Zc)(hA:∀c,(X c).A=A)(hu:A.units+2<cLine)(Z:∀c,(X c).calm=true)(hK:∀c,(X c).K=G.K:=by intro _;rfl):CaB X G (.builtin "sorted") jn:=by
 obtain⟨rL,c1,c2⟩:=(jC (X:=X) (G:=G) A hA hu Z hK).ex;refine⟨λxs H Q=>rL xs H Q∨Kl A xs H Q,λc=>dq.or (c1 c) (by rw[←hA c];exact zE (Z c)),λds d e xs H W L0 r nd hn w Q q=>?_⟩;unfold jn at e;split at e
 .split at e
  .rename_i m ks es hm
   cases hs:t8 ks with
   |none=>rw[hs]at e;cases e
   |some ys=>
    rw[hs]at e;cases e;obtain⟨x,rfl,rx⟩:=r.inv1;rw[Rep]at rx;obtain⟨a,kvs,M,rfl,⟨h1,h2⟩,O,a1⟩:=rx;have J:=Ax hs;have r0:aH G H W ((ys.map λy=>[y]).map fS) (ys.map V.str) []:=by
     rw[XN];exact vU ys
    refine .inr ⟨a,kvs,ys,rfl,.inl (a1.at2 hm.1),h1.trans J,by have:=hm.2;rw[J]at this;simpa using this,hu,λp F N l a0=>?_⟩;obtain⟨M',p1,U⟩:=qF r0 F N;have e1:(lw (ys.map λy=>[y])).map fS=(Iw ys).map D.str:=by rw[Iw,XN];rfl
    rw[e1]at U;have e3:M'=[]:=p1.eq_nil;subst e3;exact jg U (λa Y=>by cases Y) List.nodup_nil hn a0 q
  .cases e
 .exact .inl (c2 _ d e xs H W L0 r nd hn w Q q)
end Jb
namespace PySem
open PyProof.Rows
def mx(m:Int)(l:List Int):Int:=l.foldl (λa b=>if b>a then b else a) m
theorem F.jb_args_maxd(a v:Value):argsOk "max" ⟨[a],[(ZK "default",v)]⟩:=by unfold argsOk;kernel_rfl
variable{I B:Addr}{kw:List (Str×Value)}
theorem Sg(hh:A.handled=none)(b2:l≠I)(a6:B≠I)(a9:l≠B)(U:zs.length=its.length)(hv:∀i,i<its.length->∃t,its[i]? =some (.int (zs.getD i 0) t)) :
  ∀(r k:Nat)(s:Mx)(m:Int)(tm:Tok)(c:Nat),its.length-k=r->k<=its.length->s.heap.IsListIter I l k->s.heap.IsList l its.toArray->s.heap.get? B=some (ab1 "list" #[.int m tm,.int m tm] c)->
  (∀h' tk t',(∀b o,b≠I->b≠B->s.heap.get? b=some o->h'.get? b=some o)->R (.ok (.ret (.int (mx m (zs.drop k)) t'))) {s with heap:=h',toks:=tk})->
  aag (model prog w) A (.builtin "max.loop" ⟨[.ref I,.none,.ref B],kw⟩) R s:=by
 have a2:(toString "max"++toString ".loop":String)="max.loop":=by decide
 have W:=afM (prog:=prog) (w:=w) (A:=A.in1) hh I l b2 its.toArray;have hsz:its.toArray.size=its.length:=List.size_toArray ..;intro r
 induction r with
 |zero=>
  intro k s m tm c O J V Y hB hR;have e:k=its.length:=by omega
  refine Zd acr ?_;rw[YW Z1 _];show wpAny _ A.in1 (ab0 (.ref B) >>=_) _ _ _;refine gD (aaa hB rfl ?_);show wpAny _ A.in1 (tryCatch (aax (.ref I)) _ >>=_) _ _ _;refine gD (abB (W.done _ _ _ ⟨by rw[hsz,←e];exact V,Y⟩ λh' a8 a1=>?_));have a3:=a1 B _ (by simpa using a6) hB;show wpAny _ A.in1 (afe B (λ_=>#[]) >>=_) _ _ _;refine gD ?_;refine abR a3 rfl (gD (abM (yr ?_)));have:=hR (h'.update B (ZS λ_=>(#[]:Array Value))) a8 tm (λb o n1 n2 e=>(Y8 _ _ (YC n2)).trans (a1 b o (by simpa using n1) e));rw[abr (by omega)]at this;exact this
 |succ r Z=>
  intro k s m tm c O J V Y hB hR;have q:k<its.length:=by omega
  obtain⟨t2,b0⟩:=hv k q;have hz:zs.drop k=zs.getD k 0::zs.drop (k+1):=by
   rw[aaY (by omega)];simp[show k<zs.length by omega]
  refine Zd acr ?_;rw[YW Z1 _];show wpAny _ A.in1 (ab0 (.ref B) >>=_) _ _ _;refine gD (aaa hB rfl ?_);show wpAny _ A.in1 (tryCatch (aax (.ref I)) _ >>=_) _ _ _;refine gD (abB (W.item k _ _ _ (by rw[hsz];exact q) ⟨V,Y⟩ λv h' a8 hP a0 a1=>?_));have a7:its[k]? =some v:=by simpa using hP
  rw[b0]at a7;cases a7;have a3:=a1 B _ (by simpa using a6) hB;generalize zs.getD k 0=z at *
  show wpAny _ A.in1 (pure (aad z t2) >>=_) _ _ _;refine gD (yr ?_);show wpAny _ A.in1 (tryCatch (aa2 [.int z t2,.int z t2] (richCompare .Gt (.int z t2) (.int m tm) >>=_)) _ >>=_) _ _ _;refine gD (abB (Y_ (gD (CmpOf.ints_gt (prog:=prog) (w:=w) (A:=A.in1) (P:=λi v=>∃t,v= .int ((λi:Nat=>if i=0 then z else m) i) t) (λi:Nat=>if i=0 then z else m) (λi v h=>h) 0 1 _ _ _ _ _ ⟨t2,rfl⟩ ⟨tm,rfl⟩ ?_))));refine gD (Y_ (aab ?_));refine gD (abM (yr ?_));simp![Yd,show((1:Nat)=0)=False by simp,Zi];by_cases a4:z>m
  .have s1:=abO h' B (ZS λ_=>#[aad z t2,.int z t2])
   obtain⟨N,b1⟩:∃N,(h'.update B (ZS λ_=>#[aad z t2,.int z t2])).get? B=some (ab1 "list" #[.int z t2,.int z t2] N):=⟨_,acP a3 λ_=>#[aad z t2,.int z t2]⟩;simp![a4,decide_true,Yd];refine gD ?_;refine abR a3 rfl (gD (abM ?_));rw[a2];refine yr ⟨Zo Z1 _,Z (k+1) _ z t2 N (by omega) q (a0.1.at λo e=>(s1.2 I a6.symm).trans e) (a0.2.at λo e=>(s1.2 l a9).trans e) b1 λh2 a5 t3 kp=>?_⟩;have:=hR h2 a5 t3 λb o n1 n2 e=>kp b o n1 n2 ((s1.2 b n2).trans (a1 b o (by simpa using n1) e));rw[hz,mx,aaO,X7 a4]at this;exact this
  .simp![a4,decide_false,Yz,Zi]
   refine gD (abM ?_);rw[a2];refine yr ⟨Zo Z1 _,Z (k+1) _ m tm c (by omega) q a0.1 a0.2 a3 λh2 a5 t3 kp=>?_⟩;have:=hR h2 a5 t3 λb o n1 n2 e=>kp b o n1 n2 (a1 b o (by simpa using n1) e);rw[hz,mx,aaO,Yc a4]at this;exact this
variable{s:Mx}
theorem Hg(hh:A.handled=none)(a7:l≠I)(a4:B≠I)(a6:l≠B)(U:zs.length=its.length)(Z:∀i,i<its.length->∃t,its[i]? =some (.int (zs.getD i 0) t)){c:Nat}(V:s.heap.IsListIter I l 0)(Y:s.heap.IsList l its.toArray)(hB:s.heap.get? B=some (ab1 "list" #[] c))
  (b2:∀z r,zs=z::r->∀h' tk t',(∀b o,b≠I->b≠B->s.heap.get? b=some o->h'.get? b=some o)->R (.ok (.ret (.int (mx z r) t'))) {s with heap:=h',toks:=tk})
  (b4:zs=[]->∃x d,kw=[(x,d)]/\∀h' tk,(∀b o,b≠I->b≠B->s.heap.get? b=some o->h'.get? b=some o)->R (.ok (.ret d)) {s with heap:=h',toks:=tk}) :
  aag (model prog w) A (.builtin "max.loop" ⟨[.ref I,.none,.ref B],kw⟩) R s:=by
 have a3:(toString "max"++toString ".loop":String)="max.loop":=by decide
 have W:=afM (prog:=prog) (w:=w) (A:=A.in1) hh I l a7 its.toArray;have hsz:its.toArray.size=its.length:=List.size_toArray ..;refine Zd acr ?_;rw[YW Z1 _];show wpAny _ A.in1 (ab0 (.ref B) >>=_) _ _ _;refine gD (aaa hB rfl ?_);show wpAny _ A.in1 (tryCatch (aax (.ref I)) _ >>=_) _ _ _;cases zs with
 |nil=>
  have e0:its.length=0:=by simpa using U.symm
  obtain⟨x,d,rfl,J⟩:=b4 rfl;refine gD (abB (W.done _ _ _ ⟨by rw[hsz,e0];exact V,Y⟩ λh' a9 a1=>?_));show wpAny _ A.in1 (rule _ >>=_) _ _ _;refine gD (aap ?_);exact yr (J h' a9 λb o n1 q e=>a1 b o (by simpa using n1) e)
 |cons z r=>
  have a0:0<its.length:=by rw[←U];simp
  obtain⟨t2,b0⟩:=Z 0 a0;refine gD (abB (W.item 0 _ _ _ (by rw[hsz];exact a0) ⟨V,Y⟩ λv h' a9 hP a2 a1=>?_));have a5:its[0]? =some v:=by simpa using hP
  rw[b0]at a5;cases a5;have a8:=a1 B _ (by simpa using a4) hB;show wpAny _ A.in1 (pure (aad z t2) >>=_) _ _ _;refine gD (yr ?_);have O:=abO h' B (ZS λ_=>#[aad z t2,.int z t2]);obtain⟨N,b1⟩:∃N,(h'.update B (ZS λ_=>#[aad z t2,.int z t2])).get? B=some (ab1 "list" #[.int z t2,.int z t2] N):=⟨_,acP a8 λ_=>#[aad z t2,.int z t2]⟩;show wpAny _ A.in1 (afe B (λ_=>#[.int z t2,.int z t2]) >>=_) _ _ _;refine gD ?_;refine abR a8 rfl ?_;rw[a3];refine yr ⟨Zo Z1 _,Sg (zs:=z::r) hh a7 a4 a6 U Z _ 1 _ z t2 N rfl a0 (a2.1.at λo e=>(O.2 I a4.symm).trans e) (a2.2.at λo e=>(O.2 l a6).trans e) b1 λh2 b3 t3 kp=>?_⟩;exact b2 z r rfl h2 b3 t3 λb o n1 q e=>kp b o n1 q ((O.2 b q).trans (a1 b o (by simpa using n1) e))
theorem call_maxl{dv:Option Value}(O:A.handled=none)(a0:zs.length=its.length)(Z:∀i,i<its.length->∃t,its[i]? =some (.int (zs.getD i 0) t))(Y:s.heap.IsList l its.toArray)
  (h1:∀z r,zs=z::r->∀h' tk t',(∀b o,s.heap.get? b=some o->h'.get? b=some o)->Q (.int (mx z r) t') {s with heap:=h',toks:=tk})
  (h0:zs=[]->∃d,dv=some d/\∀h' tk,(∀b o,s.heap.get? b=some o->h'.get? b=some o)->Q d {s with heap:=h',toks:=tk}) :
  wpAny (model prog w) A (call (.builtin "max") [.ref l] (dv.toList.map λd=>(ZK "default",d))) Q E s:=by
 have q:(toString "max"++toString ".loop":String)="max.loop":=by decide
 obtain⟨ol,J,_⟩:=id Y;have V:l<s.heap.objs.size:=XR J;have N:(s.heap.push {cls:=.type "list_iterator",data:=.fields #[.ref l,.int 0 0]}).objs.size=s.heap.objs.size+1:=Ze ..;refine kmb_tree PySem.F.kind_max PySem.F.plain_max PySem.F.entry_max (by cases dv;exact F.args_max1 _;exact F.jb_args_maxd _ _) ?_;show wpAny _ A.in1 (ac8 "max" ["key","default"] 0 ⟨[],dv.toList.map λd=>(ZK "default",d)⟩ >>=_) _ _ s;refine gD (aa0 (show ac8 "max" ["key","default"] 0 ⟨[],dv.toList.map λd=>(ZK "default",d)⟩=pure [none,dv]from by cases dv<;>rfl) ?_);refine gD (yr ?_);refine gD (aaT Y ?_);refine gD (aeO ?_ (aai _));rw[q];refine yr ⟨Zo Z1 _,?_⟩;have keep:∀(h':Heap),(∀b o,b≠s.heap.objs.size->b≠(s.heap.push {cls:=.type "list_iterator",data:=.fields #[.ref l,.int 0 0]}).objs.size->((s.heap.push {cls:=.type "list_iterator",data:=.fields #[.ref l,.int 0 0]}).push (ab1 "list" #[] 0)).get? b=some o->h'.get? b=some o)->∀b o,s.heap.get? b=some o->h'.get? b=some o:=λh' k b o e=>by
  have U:=XR e;exact k b o (X8 U) (by rw[N];exact X8 (Z2 U)) (qb _ (qb _ e))
 refine Hg (zs:=zs) (its:=its) (B:=(s.heap.push {cls:=.type "list_iterator",data:=.fields #[.ref l,.int 0 0]}).objs.size) O (X8 V) (by rw[N];exact Zx (aaB _)) (by rw[N];exact X8 (Z2 V)) a0 Z
  ⟨_,qb _ (X4 _ rfl),rfl,rfl⟩ ((Y.push _).push _) (X4 _ rfl) (λz r e h' tk t' k=>h1 z r e h' tk t' (keep h' k)) λe=>?_
 obtain⟨d,rfl,h⟩:=h0 e;exact⟨_,d,rfl,λh' tk k=>h h' tk (keep h' k)⟩
end PySem
namespace Jb
open PySem PySem.Spec PyProof.Rows L2
def mxD(d:Int):List Int->Int
 |[]=>d
 |z::r=>PySem.mx z r
variable{t:TA}
theorem FQ{ns:List Int}(q:Vals (ns.map V.int) its):∀i,i<its.length->∃t,its[i]? =some (.int (ns.getD i 0) t):=λi hi=>by
 have J:i<ns.length:=by have:=q.length;simp at this;omega
 obtain⟨u,h1,t,h2⟩:=q.get (i:=i) (x:=V.int ns[i]) (by simp[J]);exact⟨t,by rw[h1,h2];simp[J]⟩
def R3(K:XS):List V->Hp->VK->Prop:=λxs H Q=>∃a z r,xs=[.ref a]/\SqL K H a ((z::r).map V.int)/\Q (.int (PySem.mx z r)) H
variable{X:Cx}
theorem Js(Z:X.calm=true):dq X (.builtin "max") (R3 X.K):=by
 intro pins s σ H xs us Q I r h;obtain⟨a,z,q,rfl,N,Y⟩:=h;obtain⟨u,rfl,O⟩:=vals1 r;cases O;obtain⟨its,J,F,hz⟩:=I.list N;have U:(z::q).length=its.length:=by have:=J.length;simpa using this
 refine PySem.call_maxl (dv:=none) (zs:=z::q) (I.ok.hd Z) U (FQ J) F.isList (λV r' e h' tk t' k=>?_) λe=>by cases e
 cases e;exact⟨.int (PySem.mx z q),H,I.kept k,⟨_,rfl⟩,Y⟩
def Wh(K:XS)(d:Int)(t:TA):TE:=λσ H Q=>t σ H λvs H1=>∃a ns,vs=[.ref a]/\SqL K H1 a (List.map V.int ns)/\Q (.int (mxD d ns)) H1
variable{p3 p4:Pos}{d:Int}
theorem PP{jj:Nat}(hg:Gl X "max")(J:X.mg "max"=none)(Y:PA X [e] t)(hs:X_ [e] X.env=[(false,eval e X.env)]:=by rfl)(Z:X.calm=true:=by rfl) :
  PE X (.Call (.Name "max" p1) [e] [⟨some "default",.Constant (.int d) jj p3,p4⟩] q1) (Wh X.K d t):=by
 intro pins s σ H Q I h;refine aaG (kY I hg J boot_max ?_);refine callWith_kw (thn (Y q1 pins s σ H _ I h) λus O ⟨vs,H1,F,r1,q'⟩=>?_) (by rw[hs];rfl) (by rw[hs];rfl);obtain⟨a,ns,ev,N,q⟩:=q';subst ev;obtain⟨u,rfl,ru⟩:=vals1 r1;cases ru;show wpAny _ _ (evalAll [(do let v ←eval (.Constant (.int d) jj p3) X.env;afi q1;pure v)]) _ _ O;unfold evalAll;refine gD (gD (wpAny_Constant_int (gD (aaP (yr ?_)))));refine gD (Y_ ?_);unfold evalAll;refine yr (yr ?_);have V:=F.tok (O.toks+1);obtain⟨its,rv,pl,hz⟩:=V.list N;have U:ns.length=its.length:=by have:=rv.length;simpa using this
 refine PySem.call_maxl (dv:=some (.int d O.toks)) (zs:=ns) (F.ok.hd Z) U (FQ rv) pl.isList (λz r e h' tk t' k=>?_) λe=>⟨_,rfl,λh' tk k=>?_⟩
 .subst e
  exact⟨.int (PySem.mx z r),H1,V.kept k,⟨_,rfl⟩,q⟩
 .subst e
  exact⟨.int d,H1,V.kept k,⟨_,rfl⟩,q⟩
def qz:List D->Option D
 |[.lst _ ds]=>(mz ds).bind λns=>match ns with
  |z::r=>some (.int (PySem.mx z r))
  |[]=>none
 |ds=>A_ ds
variable{X:ι->Cx}{G:Gc}
theorem Cg(Z:∀c,(X c).calm=true)(V:∀c,(X c).K=G.K:=by intro _;rfl):CaB X G (.builtin "max") qz:=by
 obtain⟨F,J,N⟩:=(Bq (X:=X) (G:=G) Z).ex;refine⟨λxs H Q=>F xs H Q∨R3 G.K xs H Q,λc=>dq.or (J c) (by rw[←V c];exact Js (Z c)),λds d e xs H W U r nd hn w Q q=>?_⟩;unfold qz at e;split at e
 .rename_i m ds
  cases h1:mz ds with
  |none=>simp[h1]at e
  |some ns=>
   cases ns with
   |nil=>simp[h1]at e
   |cons z t=>
    obtain rfl:D.int (PySem.mx z t)=d:=by simpa[h1]using e
    obtain⟨x,rfl,rx⟩:=r.inv1;rw[Rep]at rx;obtain⟨a,ys,M,rfl,O,hs⟩:=rx;have hd:=qI h1;subst hd;have Y:=pO (ns:=z::t) O;subst Y;exact .inr ⟨a,z,t,rfl,hs.sq,q.scal λ_=>cU⟩
 .exact .inl (N _ d e xs H W U r nd hn w Q q)
def xT(d:Int):List D->Option D
 |[.lst _ ds]=>(mz ds).map λns=>.int (mxD d ns)
 |_=>none
variable{k:Int}
theorem Ka:CaV G (λvs H Q=>∃a ns,vs=[.ref a]/\SqL G.K H a (List.map V.int ns)/\Q (.int (mxD k ns)) H) (xT k):=λds d e xs H W F r nd hn w Q q=>by
 unfold xT at e;split at e
 .rename_i m ds
  cases h1:mz ds with
  |none=>simp[h1]at e
  |some ns=>
   obtain rfl:D.int (mxD k ns)=d:=by simpa[h1]using e
   obtain⟨x,rfl,rx⟩:=r.inv1;rw[Rep]at rx;obtain⟨a,ys,M,rfl,O,hs⟩:=rx;have hd:=qI h1;subst hd;have Z:=pO O;subst Z;exact⟨a,ns,rfl,hs.sq,q.scal λ_=>cU⟩
 .cases e
variable{f:En->Option (List D)}
theorem Pg{F:Nat}(q:∀c,Gl (X c) "max")(J:∀c,(X c).mg "max"=none)(Y:PVA X G ob [e] f)(hs:∀c,X_ [e] (X c).env=[(false,eval e (X c).env)]:=by intro _;rfl)(Z:∀c,(X c).calm=true:=by intro _;rfl)(V:∀c,(X c).K=G.K:=by intro _;rfl) :
 PV X G ob (.Call (.Name "max" p1) [e] [⟨some "default",.Constant (.int k) F p3,p4⟩] q1) (eAp (xT k) f):=let⟨t,a1,a2⟩:=Y.ex;⟨_,λc=>(by rw[←V c];exact PP (q c) (J c) (a1 c) (hs c) (Z c)),tO Ka a2⟩
def dW:List D->Option D:=fnP 2 4 ((bF (cT (eC (.int 0)) (tgN 2))
 (bF (sIf (eB (e2 gLt (aq false 1) (eAp cQ (ak (aq false 0) aF)))) (cT (e2 gIx (aq false 0) (aq false 1)) (tgN 2)) iM)
 (bF (cT (e2 g_ (eAp oH (ak (aq false 2) aF)) (eAp sY (ak (e2 gGe (eAp oH (ak (aq false 2) aF)) (e2 lA (eC (.int 10)) (eC (.int 18)))) aF))) (tgN 3))
 (gY (eAp aZ (ak (aq false 3) (ak (e2 jz (e2 g_ (e2 bK (e2 bK (e2 jz (aq false 2) (eC (.int 2147483647))) (e2 g_ (eC (.int 7919)) (aq false 1))) (eC (.int 11))) (eC (.int 48271))) (eC (.int 2147483629))) aF))))))))
def aD:List D->Option (D×List D):=fnI (λi=>i==0) 2 4 ((bF (sIf (eB (e2 gGt (e2 gIx (aq true 0) (eC (.int 0))) (eC (.int 0)))) (bF (cT (e2 jz (e2 gIx (aq true 0) (eC (.int 0))) (aq false 1)) (tgN 2))
 (bF (cT (e2 lL (e2 gIx (aq true 0) (eC (.int 0))) (aq false 1)) (tU iW 0 (i_ 0) (eC (.int 0))))
 (iI 2))) iM)
 (bF (cT (e2 jz (e2 bK (e2 g_ (e2 gIx (aq true 0) (eC (.int 1))) (eC (.int 48271))) (eC (.int 39373))) (eC (.int 2147483647))) (tU iW 0 (i_ 0) (eC (.int 1))))
 (bF (cT (e2 jz (e2 g_ (e2 gIx (aq true 0) (eC (.int 1))) (e2 bK (e2 jz (e2 gIx (aq true 0) (eC (.int 1))) (eC (.int 40009))) (eC (.int 7)))) (eC (.int 2147483587))) (tgN 3))
 (gY (e2 jz (e2 lL (aq false 3) (eC (.int 64))) (aq false 1)))))))
def eZ:List D->Option (D×List D):=fnI (λi=>i==0) 1 4 ((bF (cT (eMt vP (eC (.str "b aa zebra c quartzes ab m knows d mm likes z a ba abcdefgh y")) (ak (eC (.str " ")) aF)) (tgN 1))
 (bF (fj (eIo aD [0] (eE (ak (eC (.int 16)) aF))) (tgN 2))
 (bF (fj (ee2 gIx (qZ aZ (fD (eIo aD [0] (eE (ak (eC (.int 3)) aF))) (fD (ee2 bK (eUp (eC (.int 10))) (eIo aD [0] (eE (ak (eC (.int 5)) aF)))) (fD (ee2 bK (eUp (eC (.int 4))) (eIo aD [0] (eE (ak (eC (.int 5)) aF)))) (eE aF))))) (qZ jr (fD (eUp (eC (.int 2))) (fD (eIo aD [0] (eE (ak (eC (.int 8)) aF))) (eE aF))))) (tgN 3))
 (gY (cR [none,some 1,some 2] (um (ak (aq false 3) aF)) (tpN 0) eTT (e2 gIx (aq false 1) (e2 jz (e2 bK (aq false 2) (e2 g_ (eC (.int 5)) (aq false 0))) (eC (.int 16))))))))))
def dg:List D->Option (D×List D):=fnI (λi=>i==0) 3 12 ((bF (cT (eAp aZ aF) (tgN 3))
 (bF (fj (ee2 gIx (eUp (eAp aZ (ak (eC (.int 3)) (ak (eC (.int 3)) (ak (eC (.int 12)) (ak (eC (.int 12)) (ak (eC (.int 12)) (ak (e2 g_ (eC (.int 4)) (e2 lA (eC (.int 10)) (eC (.int 11)))) aF)))))))) (eIo aD [0] (eE (ak (eC (.int 6)) aF)))) (tgN 4))
 (bF (fj (qZ wj (fD (vo [none,some 4,some 0] (itS (aq false 1)) (tgN 0) eTT (qZ bT (fD (eUp (aq false 0)) (fD (ee2 lu (eIo aD [2] (eE (ak (e2 g_ (eC (.int 2)) (aq false 1)) aF))) (eUp (aq false 1))) (eE aF))))) (eE aF))) (tgN 5))
 (bF (fj (ee2 gIx (eUp (eAp aZ (ak (eC (.int 0)) (ak (eC (.int 0)) (ak (eC (.int 3)) (ak (eC (.int 12)) aF)))))) (eIo aD [0] (eE (ak (eC (.int 4)) aF)))) (tgN 6))
 (bF (xr (CP (fD (eIo aD [0] (eE (ak (e2 bK (e2 g_ (eC (.int 2)) (eAp cQ (ak (aq false 1) aF))) (eC (.int 1))) aF))) (eE aF))) (tgN 7) (bF (vD (fD (ee2 gIx (eUp (aq false 1)) (eIo aD [0] (eE (ak (eAp cQ (ak (aq false 1) aF)) aF)))) (fD (ee2 gIx (eUp (aq false 1)) (eIo aD [0] (eE (ak (eAp cQ (ak (aq false 1) aF)) aF)))) (eE aF))) (aL (tgN 8) (aL (tgN 9) cz)))
 (bF (fj (eIo aD [0] (eE (ak (eC (.int 9)) aF))) (tgN 10))
 (bF (sIf (eB (e2 gEq (aq false 10) (eC (.int 0)))) (cT (aq false 8) (tgN 9)) iM)
 (bF (sIf (pA (eB (e2 gEq (aq false 10) (eC (.int 1)))) (eB (e2 gNe (aq false 3) (eAp aZ aF)))) (fj (Jy (ee2 gIx (eUp (aq false 3)) (eIo aD [0] (eE (ak (eAp cQ (ak (aq false 3) aF)) aF)))) qp (oF (eC (.int 2)))) (tgT 2 (aL (tgN 8) (aL (tgN 9) cz)))) iM)
 (bF (sIf (pA (eB (e2 gEq (aq false 10) (eC (.int 2)))) (eB (e2 gNe (aq false 3) (eAp aZ aF)))) (fj (Jy (ee2 gIx (eUp (aq false 3)) (eIo aD [0] (eE (ak (eAp cQ (ak (aq false 3) aF)) aF)))) qp (oF (eC (.int 2)))) (tgT 2 (aL (tgN 9) (aL (tgN 8) cz)))) iM)
 (bF (fj (ee2 bK (eUp (e2 lu (e2 gIx (aq false 5) (aq false 9)) (e2 gIx (aq false 5) (aq false 8)))) (ee2 g_ (eUp (aq false 2)) (ee2 lu (eIo aD [0] (eE (ak (eC (.int 5)) aF))) (eUp (eC (.int 2)))))) (tgN 11))
 (bF (yP (wC (ug (eB (e2 gGt (aq false 6) (eC (.int 0))))) (eeB (ee2 gEq (eIo aD [0] (eE (ak (aq false 6) aF))) (eUp (eC (.int 0)))))) (fj (ee2 bK (eUp (aq false 11)) (ee2 gIx (eUp (eAp aZ (ak (eC (.int 1)) (ak (e1 nU (eC (.int 1))) (ak (eC (.int 2)) (ak (e2 lA (eC (.int 10)) (eC (.int 11))) aF)))))) (eIo aD [0] (eE (ak (eC (.int 4)) aF))))) (tgN 11)) iM)
 (lR bc 3 (i_ 3) (ak (eAp bT (ak (aq false 8) (ak (aq false 9) (ak (aq false 11) aF)))) aF))))))))))
 (iI 3)))))))
def fH:List D->Option (D×List D):=fnI (λi=>i==0) 3 9 ((bF (cT (eAp aZ aF) (tgN 3))
 (bF (xr (Jr (eIo dg [0] (eE (ak (aq false 1) (ak (aq false 2) aF))))) (tgT 3 (aL (tgN 4) (aL (tgN 5) (aL (tgN 6) cz)))) (bF (fj (eIo aD [0] (eE (ak (eC (.int 10)) aF))) (tgN 7))
 (bF (yP (wC (ug (eB (e2 gNe (aq false 3) (eAp aZ aF)))) (eeB (ee2 gEq (eIo aD [0] (eE (ak (eC (.int 3)) aF))) (eUp (eC (.int 0)))))) (fj (ee2 gIx (ee2 gIx (eUp (aq false 3)) (eIo aD [0] (eE (ak (eAp cQ (ak (aq false 3) aF)) aF)))) (ee2 bK (eUp (eC (.int 3))) (eIo aD [0] (eE (ak (eC (.int 2)) aF))))) (tgN 7)) iM)
 (bF (fj (ee2 bK (eUp (aq false 7)) (ee2 gIx (qZ aZ (fD (ee2 bK (eUp (eC (.int 1))) (eIo aD [0] (eE (ak (eC (.int 6)) aF)))) (fD (ee2 bK (eUp (eC (.int 1))) (eIo aD [0] (eE (ak (eC (.int 6)) aF)))) (eE (ak (eC (.int 1)) (ak (e2 lA (eC (.int 10)) (eC (.int 7))) aF)))))) (eIo aD [0] (eE (ak (eC (.int 4)) aF))))) (tgN 8))
 (bF (yP (wC (ug (eB (e2 gNe (aq false 3) (eAp aZ aF)))) (eeB (ee2 gEq (eIo aD [0] (eE (ak (eC (.int 4)) aF))) (eUp (eC (.int 0)))))) (fj (qZ A_ (fD (eUp (e2 bK (aq false 7) (eC (.int 1)))) (fD (ee2 gIx (ee2 gIx (eUp (aq false 3)) (eIo aD [0] (eE (ak (eAp cQ (ak (aq false 3) aF)) aF)))) (eUp (eC (.int 4)))) (eE aF)))) (tgN 8)) iM)
 (lR bc 3 (i_ 3) (ak (eAp bT (ak (aq false 4) (ak (aq false 5) (ak (aq false 6) (ak (aq false 7) (ak (aq false 8) aF)))))) aF)))))))
 (iI 3))))
def aQ(Frec:List D->Option D):List D->Option D:=fnP 2 2 ((bF (sIf (pZ (eAp dN (ak (aq false 1) (ak (eAp bT (ak (eC (.ty "list")) (ak (eC (.ty "tuple")) aF))) aF)))) (bF (sIf (eOr (pG (pZ (eAp dN (ak (aq false 0) (ak (eAp bT (ak (eC (.ty "list")) (ak (eC (.ty "tuple")) aF))) aF))))) (eB (e2 gNe (eAp dN (ak (aq false 0) (ak (eC (.ty "list")) aF))) (eAp dN (ak (aq false 1) (ak (eC (.ty "list")) aF)))))) (gY (eC (.bl false))) iM)
 (gY (wI (e2 gEq (eAp cQ (ak (aq false 0) aF)) (eAp cQ (ak (aq false 1) aF))) (eAp Ml (ak (cR [none,none] (Kg (ak (aq false 0) (ak (aq false 1) aF))) (tpT 2 (aL (tpN 0) (aL (tpN 1) cz))) eTT (eAp (bG Frec) (ak (aq false 0) (ak (aq false 1) aF)))) aF))))) iM)
 (bF (sIf (eOr (eB (e2 gIs (aq false 1) (eC .non))) (pZ (eAp dN (ak (aq false 1) (ak (eC (.ty "str")) aF))))) (gY (wI (e2 gEq (aq false 0) (aq false 1)) (e2 gEq (eAp dN (ak (aq false 0) (ak (eC (.ty "str")) aF))) (eAp dN (ak (aq false 1) (ak (eC (.ty "str")) aF)))))) iM)
 (gY (wI (eAp dN (ak (aq false 0) (ak (eC (.ty "int")) aF))) (wI (e2 gEq (eAp dN (ak (aq false 0) (ak (eC (.ty "bool")) aF))) (eAp dN (ak (aq false 1) (ak (eC (.ty "bool")) aF)))) (e2 gEq (aq false 0) (aq false 1))))))))
def cW:List D->Option D:=(aQ (aQ (aQ (aQ (λ_=>none)))))
def bU:List D->Option D:=fnP 2 8 ((bF (cT (cR [none] (itS (aq false 0)) (tpN 0) eTT (eAp aZ (ak (aq false 0) aF))) (tgN 2))
 (bF (lX (itS (aq false 1)) (tgT 3 (aL (tgN 3) (aL (tgN 4) (aL (tgN 5) cz)))) (bF (sFz 2 (cT (e2 gIx (cR [none,some 3] (itS (aq false 2)) (tpN 0) (eB (e2 gIn (aq false 1) (aq false 0))) (aq false 0)) (eC (.int 0))) (tgN 6)))
 (bF (cT (e2 gIx (cR [none,some 4] (itS (aq false 2)) (tpN 0) (eB (e2 gIn (aq false 1) (aq false 0))) (aq false 0)) (eC (.int 0))) (tgN 7))
 (sIf (eB (e2 gNe (aq false 6) (aq false 7))) (cT (e2 bK (cR [none,some 6,some 7] (itS (aq false 2)) (tpN 0) (pA (eB (e2 gNe (aq false 0) (aq false 1))) (eB (e2 gNe (aq false 0) (aq false 2)))) (aq false 0)) (eAp aZ (ak (e2 bK (aq false 6) (aq false 7)) aF))) (tgN 2)) iM))))
 (gY (eAp fJ (ak (cR [none] (itS (aq false 2)) (tpN 0) eTT (eAp fJ (ak (aq false 0) aF))) aF))))))
def bV:List D->Option D:=fnP 1 1 ((gY (eAp fY (ak (e2 bK (e2 bK (eAp aZ (ak (eC (.int 0)) aF)) (cR [none] (itS (aq false 0)) (tpN 0) eTT (e2 gIx (aq false 0) (eC (.int 3))))) (cR [none] (itS (aq false 0)) (tpN 0) eTT (e2 gIx (aq false 0) (eC (.int 4))))) aF))))
def cZ:List D->Option D:=fnP 2 7 ((bF (cT (vY [none] (itS (aq false 0)) (tpN 0) eTT (aq false 0) (eAp aZ aF)) (tgN 2))
 (bF (lX (itE (ak (aq false 1) aF)) (tgT 2 (aL (tgN 3) (aL (tgT 3 (aL (tgN 4) (aL (tgN 5) (aL (tgN 6) cz)))) cz))) (bF (lR bc 2 (zR 2 (i_ 2) (aq false 4)) (ak (eAp bT (ak (aq false 3) (ak (eC (.int 1)) (ak (aq false 5) aF)))) aF))
 (lR bc 2 (zR 2 (i_ 2) (aq false 5)) (ak (eAp bT (ak (aq false 3) (ak (e1 nU (eC (.int 1))) (ak (aq false 4) aF)))) aF))))
 (iI 2))))
def eX:List D->Option D:=fnP 2 8 ((bF (cT (Ce (vV (aq false 1) (eAp bT aF) Gd)) (tgN 2))
 (bF (cT (eAp aZ (ak (aq false 1) aF)) (tgN 3))
 (bF (jR (ug (pZ (aq true 3))) (bF (fj (pR jN 3 (i_ 3) (ak (eC (.int 0)) aF)) (tgN 4))
 (lX (itS (e2 gIx (aq false 0) (aq false 4))) (tgT 3 (aL (tgN 5) (aL (tgN 6) (aL (tgN 7) cz)))) (sIf (eB (e2 kZ (aq false 7) (aq false 2))) (bF (cT (e2 bK (e2 gIx (aq false 2) (aq false 4)) (eAp bT (ak (eAp bT (ak (aq false 5) (ak (aq false 6) aF))) aF))) (tU iW 2 (i_ 2) (aq false 7)))
 (lR bc 3 (i_ 3) (ak (aq false 7) aF))) iM))) 1000000)
 (iI 2)))))
def ig:List D->Option D:=fnP 2 7 ((bF (cT (eAp (bG cZ) (ak (aq false 0) (ak (aq false 1) aF))) (tgN 2))
 (bF (cT (eAp K3 aF) (tgN 3))
 (bF (cT (eAp aZ aF) (tgN 4))
 (bF (lX (itS (eAp fJ (ak (aq false 0) aF))) (tgN 5) (sIf (eB (e2 kZ (aq false 5) (aq false 3))) (bF (cT (eAp (bG eX) (ak (aq false 2) (ak (aq false 5) aF))) (tgN 6))
 (bF (sFz 6 (lR jl 3 (i_ 3) (ak (aq false 6) aF)))
 (lR bc 4 (i_ 4) (ak (aq false 6) aF)))) iM))
 (iI 4))))))
def eU:List D->Option D:=fnP 2 2 ((gY (cR [none] (itS (eAp (bG ig) (ak (aq false 0) (ak (aq false 1) aF)))) (tpN 0) eTT (eAp jn (ak (aq false 0) aF)))))
def cM:List D->Option D:=fnP 2 2 ((gY (cR [none,none,none,none,none,none,some 1] (itE (ak (aq false 0) aF)) (tpT 2 (aL (tpN 0) (aL (tpT 5 (aL (tpN 1) (aL (tpN 2) (aL (tpN 3) (aL (tpN 4) (aL (tpN 5) cz)))))) cz))) (eB (mZ gLe gLt (aq false 4) (aq false 6) (aq false 5))) (aq false 0))))
def cP:List D->Option D:=fnP 2 2 ((gY (cR [none,some 0] (itS (eAp (bG cM) (ak (aq false 0) (ak (aq false 1) aF)))) (tpN 0) eTT (eSl (e2 gIx (aq false 1) (aq false 0)) qp (oF (eC (.int 3)))))))
def aX:List D->Option D:=fnP 2 6 ((bF (cT (eAp bT (ak (eC (.int 0)) (ak (eC (.int 0)) aF))) (tgN 2))
 (bF (lX (itS (eAp (bG bV) (ak (aq false 1) aF))) (tgN 3) (bF (cT (cR [none] (itS (eAp (bG eU) (ak (aq false 0) (ak (eAp (bG cP) (ak (aq false 1) (ak (aq false 3) aF))) aF)))) (tpN 0) eTT (eAp cQ (ak (aq false 0) aF))) (tgN 4))
 (bF (cT (eAp (xT 0) (ak (aq false 4) aF)) (tgN 5))
 (sIf (eB (e2 gGt (aq false 5) (e2 gIx (aq false 2) (eC (.int 0))))) (cT (eAp bT (ak (aq false 5) (ak (aq false 3) aF))) (tgN 2)) iM))))
 (iI 2))))
def dw:List D->Option D:=fnP 1 1 ((gY (eAp fY (ak (e2 bK (cR [none] (itS (aq false 0)) (tpN 0) eTT (e2 gIx (aq false 0) (eC (.int 3)))) (cR [none] (itS (aq false 0)) (tpN 0) eTT (e2 gIx (aq false 0) (eC (.int 4))))) aF))))
def fK:List D->Option D:=fnP 2 3 ((bF (cT (cR [none,some 1,some 0] (um (ak (eAp cQ (ak (aq false 0) aF)) aF)) (tpN 0) (pA (pG (eB (e2 gLt (aq false 1) (e2 gIx (e2 gIx (aq false 2) (aq false 0)) (eC (.int 3)))))) (eB (e2 gLt (aq false 1) (e2 gIx (e2 gIx (aq false 2) (aq false 0)) (eC (.int 4)))))) (aq false 0)) (tgN 2))
 (sFz 2 (gY (eAp bT (ak (aq false 2) (ak (cR [none,some 0] (itS (aq false 2)) (tpN 0) eTT (eSl (e2 gIx (aq false 1) (aq false 0)) qp (oF (eC (.int 3))))) aF)))))))
def kE:List D->Option D:=fnP 1 11 ((bF (lX (um (ak (e2 bK (eC (.int 1)) (eAp jr (ak (eC (.int 8)) (ak (eAp cQ (ak (aq false 0) aF)) aF)))) aF)) (tgN 1) (bF (cT (eAp (bG dW) (ak (aq false 0) (ak (aq false 1) aF))) (tgN 2))
 (bF (fj (eIo eZ [2] (eE aF)) (tgN 3))
 (bF (fj (eIo fH [2] (eE (ak (aq false 3) (ak (eC (.int 0)) aF)))) (tgN 4))
 (bF (sFz 4 (sFz 3 (cT (eAp zY (ak (eAp aZ (ak (aq false 3) (ak (aq false 4) aF))) aF)) (tgN 5))))
 (bF (cT (eAp aZ aF) (tgN 6))
 (bF (lX (itS (eAp fY (ak (e2 bK (eAp aZ (ak (eC (.int 0)) aF)) (eAp (bG dw) (ak (aq false 4) aF))) aF))) (tgN 7) (bF (cT (eAp (bG bU) (ak (aq false 3) (ak (e2 gIx (eAp (bG fK) (ak (aq false 4) (ak (aq false 7) aF))) (eC (.int 1))) aF))) (tgN 8))
 (lR bc 6 (i_ 6) (ak (eAp bT (ak (eAp qz (ak (e2 bK (eAp aZ (ak (eC (.int 0)) aF)) (cR [none] (itS (aq false 8)) (tpN 0) eTT (eAp cQ (ak (aq false 0) aF)))) aF)) (ak (aq false 7) aF))) aF))))
 (bF (cT (eAp qz (ak (cR [none,none] (itS (aq false 6)) (tpT 2 (aL (tpN 0) (aL (tpN 1) cz))) eTT (aq false 0)) aF)) (tgN 9))
 (bF (cT (eAp bT (ak (aq false 9) (ak (e2 gIx (cR [none,none,some 9] (itS (aq false 6)) (tpT 2 (aL (tpN 0) (aL (tpN 1) cz))) (eB (e2 gEq (aq false 0) (aq false 2))) (aq false 1)) (eC (.int 0))) aF))) (tgN 10))
 (bF (sIf (pG (pZ (eAp (bG cW) (ak (eAp (bG aX) (ak (aq false 3) (ak (aq false 4) aF))) (ak (aq false 10) aF))))) (gY (eC (.bl false))) iM)
 (sIf (eOr (pG (pZ (eAp (bG cW) (ak (eAp (bG aX) (ak (eAp g8 (ak (e2 iV (aq false 3) (e1 nU (eC (.int 1)))) aF)) (ak (eAp g8 (ak (e2 iV (aq false 4) (e1 nU (eC (.int 1)))) aF)) aF))) (ak (aq false 10) aF))))) (eB (e2 gNe (eAp zY (ak (eAp aZ (ak (aq false 3) (ak (aq false 4) aF))) aF)) (aq false 5)))) (gY (eC (.bl false))) iM)))))))))))
 (gY (wI (eAp (bG cW) (ak (eAp (bG aX) (ak (eAp aZ aF) (ak (eAp aZ aF) aF))) (ak (eAp bT (ak (eC (.int 0)) (ak (eC (.int 0)) aF))) aF))) (eAp (bG cW) (ak (eAp (bG aX) (ak (eAp aZ (ak (eC (.str "a")) aF)) (ak (eAp aZ aF) aF))) (ak (eAp bT (ak (eC (.int 1)) (ak (eC (.int 0)) aF))) aF)))))))
noncomputable abbrev tp(a b:Int):D:=.lst .own [.int a,.int b]
def Dr(a b m:Int)(q:D×List D):Prop:=∃r U Z:Int,q=(.int r,[tp U Z,.int m])/\0<=r/\r<m/\0<=U
local macro_rules
 |`(tactic|simp_arith[$xs,*])=>`(tactic|simp[aJ,zA,aR,cV,w_ite,Rt,cT,fj,vD,sIf,yP,gY,An,iI,iM,lX,xr,sFz,tH,lR,pR,upS,tgN,tgT,aL,cz,tU,tpN,tpT,i_,zR,aq,eC,aF,ak,eAp,eUp,ug,eE,ee2,fD,qZ,e2,e1,eB,eeB,pZ,pA,eOr,pG,wC,wI,eTT,isB,um,itS,itE,CP,bC,cR,vo,eSl,Jy,La,Fy,qp,oF,eMt,Xa,eIo,objs,mW,bG,gA,eQ,clean,az,au,aA,aB,jf,jt,view,e_,mkV,mkF,fz,fzL,fzo,gh,mkO,fnP,fnI,en0,outs,fZ,ir,obC,truth,$xs,*])
theorem N5{a b m:Int}(Y:0<=a)(q:0<m)(N:m<2 ^ 60):Wp (aD [tp a b,.int m]) (Dr a b m):=by
 have h2:m<18446744073709551616:=by omega
 have J:∀x:Int,-18446744073709551616<x % 40009+7/\x % 40009+7<18446744073709551616:=λx=>by omega
 by_cases h:0<a
 .simp_arith[aD,bK,lu,g_,lL,jz,lA,nU,gLt,gGt,gGe,gIx,aZ,bT,cQ,oH,sY,jr,gIs,oA,atI,ixN,bc,iW,gSl,iV,g8,h,q,h2,J]
  exact⟨_,_,_,rfl,afQ _ (by omega),afg _ q,Int.ediv_nonneg Y (by omega)⟩
 .simp_arith[aD,bK,lu,g_,lL,jz,lA,nU,gLt,gGt,gGe,gIx,aZ,bT,cQ,oH,sY,jr,gIs,oA,atI,ixN,bc,iW,gSl,iV,g8,h,q,h2,J]
  exact⟨_,_,_,rfl,afQ _ (by omega),afg _ q,Y⟩
theorem vG{a b m:Int}(Y:0<=a)(J:0<m)(N:m<2 ^ 60):∃r U Z,aD [tp a b,.int m]=some (.int r,[tp U Z,.int m])/\0<=r/\r<m/\0<=U:=by
 obtain⟨q,e,r,U,Z,rfl,h⟩:=N5 (b:=b) Y J N;exact⟨r,U,Z,e,h⟩
theorem eG{a b m:Int}{Q:D×List D->Prop}(Y:0<=a)(J:0<m)(N:m<2 ^ 60)(h:∀r U Z,0<=r->r<m->0<=U->Q (.int r,[tp U Z,.int m])):Wp (aD [tp a b,.int m]) Q:=by
 refine(N5 (b:=b) Y J N).mono ?_;rintro _ ⟨r,U,Z,rfl,h1,h2,F⟩;exact h r U Z h1 h2 F
def qw:List Str:=["b","aa","zebra","c","quartzes","ab","m","knows","d","mm","likes","z","a","ba","abcdefgh","y"]
def Nm(q:D×List D):Prop:=∃(ns:List Str)(U Z:Int),q=(.lst .own (ns.map D.str),[tp U Z])/\(∀x∈ns,x∈qw∨x="")/\ns.Nodup/\ns.length<=14/\0<=U
theorem Qe:zz "b aa zebra c quartzes ab m knows d mm likes z a ba abcdefgh y" " "=some qw:=by decide +kernel
theorem R8:∀m:Fin 16,((Yp 14).map λ(k:Nat)=>(qw[(((m.val:Int)+5*(k:Int)) % 16).toNat]?).getD "").Nodup:=by decide +kernel
theorem W6{r:Int}(U:0<=r)(O:r<16)(hn:n<=14):((Yp n).map λ(k:Nat)=>(qw[((r+5*(k:Int)) % 16).toNat]?).getD "").Nodup:=by
 obtain⟨m,rfl⟩:∃m:Nat,r=m:=⟨r.toNat,by omega⟩;have h:=R8 ⟨m,by omega⟩;exact List.Nodup.sublist (List.Sublist.map _ (List.range_sublist.mpr hn)) h
theorem O3{a b:Int}(Y:0<=a):Wp (eZ [tp a b]) Nm:=by
 obtain⟨U,a1,Z,e1,b7,b6,b8⟩:=vG (b:=b) Y (show(0:Int)<16 by decide) (by decide);obtain⟨F,a2,N,e2,a8,c4,a9⟩:=vG (b:=Z) b8 (show(0:Int)<3 by decide) (by decide);obtain⟨r3,a3,b3,O,c6,c3,a7⟩:=vG (b:=N) a9 (show(0:Int)<5 by decide) (by decide);obtain⟨r4,a4,b4,e4,c2,c0,b0⟩:=vG (b:=b3) a7 (show(0:Int)<5 by decide) (by decide);obtain⟨r5,a5,b5,e5,c1,c5,b9⟩:=vG (b:=b4) b0 (show(0:Int)<8 by decide) (by decide);simp_arith[eZ,vP,Qe,aZ,bK,jr,e1,e2,O,e4,e5];clear e1 e2 O e4 e5;obtain⟨n,hn,n0,V⟩:∃n:Int,gIx (D.lst Mk.own [D.int F,D.int (10+r3),D.int (4+r4)]) (D.int (if r5<2 then r5 else 2))=some (.int n)/\0<=n/\n<=14:=by
  have:r5=0∨r5=1∨2<=r5:=by omega
  rcases this with rfl|rfl|h
  .exact⟨F,rfl,a8,by omega⟩
  .exact⟨10+r3,rfl,by omega,by omega⟩
  .rw[Yc (by omega)]
   exact⟨4+r4,rfl,by omega,by omega⟩
 simp![hn,cg,bR,aJ,view,az,au,true_and];rw[X7 (by omega),aJ];refine⟨by rw[uv];omega,?_⟩;rw[kh (p:=λ_=>true) (f:=λd=>match d with|.int k=>.str ((qw[((U+5*k) % 16).toNat]?).getD "")|_=>.non)]
 .rw[aJ,filter_tt,P_]
  have e:(Yp n.toNat).map (λ(k:Nat)=>D.str ((qw[((U+5*(k:Int)) % 16).toNat]?).getD ""))=((Yp n.toNat).map λ(k:Nat)=>(qw[((U+5*(k:Int)) % 16).toNat]?).getD "").map D.str:=by rw[XN];rfl
  show(aA ((Yp n.toNat).map (λ(k:Nat)=>D.str ((qw[((U+5*(k:Int)) % 16).toNat]?).getD "")))=true/\aB ((Yp n.toNat).map (λ(k:Nat)=>D.str ((qw[((U+5*(k:Int)) % 16).toNat]?).getD "")))=true)/\Nm (D.lst Mk.own ((Yp n.toNat).map (λ(k:Nat)=>D.str ((qw[((U+5*(k:Int)) % 16).toNat]?).getD ""))),[tp a5 b5]);rw[e];refine⟨⟨cg _,bR _⟩,_,_,_,rfl,λx J=>?_,W6 b7 b6 (by omega),by simp;omega,b9⟩;obtain⟨k,_,rfl⟩:=XM.mp J;cases q:qw[((U+5*(k:Int)) % 16).toNat]? with
  |none=>exact .inr rfl
  |some y=>exact .inl (Yt q)
 .intro d hd
  obtain⟨k,hk,rfl⟩:=Rb hd;have hm:(-18446744073709551616:Int)<5:=by decide
  obtain⟨x,J,a6,a0⟩:=iY (f:=D.str) (l:=qw) (i:=(U+5*(k:Int)) % 16) (by omega) (by show _<(16:Int);omega);simp[tpN,aJ,eTT,e2,aq,view,dm,eC,g_,bK,jz,gIx,a6,a0]
def Jo(ns:List Str)(t:Int)(q:D×List D):Prop:=∃(js:List Jt)(U Z:Int),q=(.lst .own (js.map jD),[tp U Z,.lst .frz (ns.map D.str),.int t])/\(∀j∈js,j.1∈ns/\j.2.1∈ns)/\js.length<=2*ns.length/\0<=U/\∀j∈js,j.2.2.natAbs<=1000000000000
def JoI(ns:List Str)(t w:Int)(k:Nat)(acc:List D)(ρ:En):Prop:=∃(ps:List (Str×Int))(U Z:Int),acc=ps.map pD/\ps.map (·.1)=ns.take k/\(∀p∈ps,p.2.natAbs<=400000000000)/\0<=U/\ρ=[some (tp U Z),some (D.lst Mk.frz (List.map D.str ns)),some (D.int t),some (D.lst Mk.own []),some (D.int w),none,none,none,none,none,none,none]
def JoF(ns:List Str)(t w sl:Int)(ks:List Key)(ds:List D)(k:Nat)(ρ:En):Prop:=∃(js:List Jt)(U Z:Int)(F N O q J:Option D),ρ=[some (tp U Z),some (D.lst Mk.frz (List.map D.str ns)),some (D.int t),some (D.lst Mk.own (js.map jD)),some (D.int w),some (D.dct .own ks ds),some (D.int sl),F,N,O,q,J]/\(∀j∈js,j.1∈ns/\j.2.1∈ns)/\js.length<=k/\0<=U/\∀j∈js,j.2.2.natAbs<=1000000000000
theorem KC{ps:List (Str×Int)}{B:Nat}(Y:ps.length<=50000)(U:∀p∈ps,p.2.natAbs<=B):Wp (wj [.lst .own (ps.map pD)]) λd=>(∃ks ds,d= .dct .own ks ds/\(∀e∈ds,∃i:Int,e= .int i/\i.natAbs<=B)/\∀x∈ps.map (·.1),∃(j:Nat)(i:Int),gq ks (.inr x)=some j/\ds[j]? =some (.int i))/\clean d=true:=by
 simp![wj];rw[X7 ⟨rfl,by simpa using Y⟩,Fe];refine aJ.mpr ?_;have hok:=vf (es:=ps.map λp=>((YF p.1:Key),D.int p.2)) (ks:=[]) (ds:=[]) rfl;have O:=jO (λd=>∃i:Int,d= .int i/\i.natAbs<=B) (es:=ps.map λp=>((YF p.1:Key),D.int p.2)) (ks:=[]) (ds:=[]) (by simp) (λq N=>by obtain⟨p,F,rfl⟩:=XM.mp N;exact⟨p.2,rfl,U p F⟩);refine⟨⟨_,_,rfl,O,λx J=>?_⟩,xZ (bu λd hd=>by obtain⟨i,rfl,_⟩:=O d hd;rfl) (bf λd hd=>by obtain⟨i,rfl,_⟩:=O d hd;rfl)⟩;obtain⟨p,F,rfl⟩:=XM.mp J;obtain⟨j,h1,h2⟩:=PQ ((hok.2 (YF p.1)).mpr (.inr ⟨_,XM.mpr ⟨p,F,rfl⟩,rfl⟩));have Z:j<(bA [] [] (ps.map λp=>((YF p.1:Key),D.int p.2))).2.length:=by rw[←hok.1];exact h2
 obtain⟨i,hi,_⟩:=O _ (Z7 Z);exact⟨j,i,h1,by rw[XX Z,hi]⟩
set_option hygiene false
local macro_rules
 |`(tactic|simp_arith![$x,*])=>`(tactic|simp only[$x,*,en0,Yj,Yx,XH,Yy,Y5,Yd,aR,Nat.reduceAdd,Nat.reduceSub,Yv,List.nil_append])
set_option hygiene true
theorem Dg{a b t:Int}(Y:0<=a)(g4:ns.length<=1000)(ht:0<=t/\t<=1000):Wp (dg [tp a b,.lst .frz (ns.map D.str),.int t]) (Jo ns t):=by
 simp_arith![dg,fnI];refine bj (λρ=>ρ=[some (tp a b),some (D.lst Mk.frz (List.map D.str ns)),some (D.int t),some (D.lst Mk.own []),none,none,none,none,none,none,none,none]) (λQ q=>?_) ?_
 .simp_arith[aZ]
  exact q _ rfl
 rintro _ rfl;refine bj (λρ=>∃(w a1 b1:Int),3<=w/\w<=400000000000/\0<=a1/\ρ=[some (tp a1 b1),some (D.lst Mk.frz (List.map D.str ns)),some (D.int t),some (D.lst Mk.own []),some (D.int w),none,none,none,none,none,none,none]) (λQ q=>?_) ?_
 .simp_arith[aZ,g_,lA]
  refine eG Y (by omega) (by omega) λr1 a1 b1 p1 q1 O=>?_;obtain⟨w,N,w0,w1⟩:∃w:Int,gIx (D.lst Mk.own [D.int 3,D.int 3,D.int 12,D.int 12,D.int 12,D.int 400000000000]) (D.int r1)=some (.int w)/\3<=w/\w<=400000000000:=by
   have:r1=0∨r1=1∨r1=2∨r1=3∨r1=4∨r1=5:=by omega
   rcases this with rfl|rfl|rfl|rfl|rfl|rfl<;>exact⟨_,rfl,by decide,by decide⟩
  simp_arith[N];exact q _ ⟨w,a1,b1,w0,w1,O,rfl⟩
 rintro _ ⟨w,a1,b1,w0,w1,O,rfl⟩;refine bj (λρ=>∃(ks:List Key)(ds:List D)(a' b':Int),0<=a'/\(∀e∈ds,∃i:Int,e= .int i/\i.natAbs<=400000000000)/\(∀x∈ns,∃(j:Nat)(i:Int),gq ks (.inr x)=some j/\ds[j]? =some (.int i))/\ρ=[some (tp a' b'),some (D.lst Mk.frz (List.map D.str ns)),some (D.int t),some (D.lst Mk.own []),some (D.int w),some (D.dct .own ks ds),none,none,none,none,none,none]) (λQ q=>?_) ?_
 .simp_arith[dm,fW,cg,bR]
  refine⟨by omega,Ms (JoI ns t w) ⟨[],a1,b1,rfl,rfl,by simp,O,rfl⟩ ?_ ?_⟩
  .rintro i d acc ρ hi ⟨ps,a2,b2,rfl,hps,hpb,Z,rfl⟩
   rw[List.getElem?_map]at hi;cases J:ns[i]? with
   |none=>simp[J]at hi
   |some x=>
    obtain rfl:D.str x=d:=by simpa[J]using hi
    simp_arith[g_,bT];refine eG Z (by omega) (by omega) λr3 a3 b3 p3 q3 s3=>?_;simp_arith[lu];exact⟨ps++[(x,r3-w)],_,_,by simp[pD],by rw[YB,hps,aas,J];rfl,λp F=>(XC.mp F).elim (hpb p) λz=>by rw[Yh.mp z];show(r3-w).natAbs<=_;omega,s3,rfl⟩
  .rintro ys ρ ⟨ps,a2,b2,rfl,hps,hpb,Z,rfl⟩
   rw[X5,abf]at hps;have e7:aB (ps.map pD)=true:=bf λd hd=>by obtain⟨x,_,rfl⟩:=XM.mp hd;rfl
   have g0:ps.length=ns.length:=by rw[←hps];simp
   refine⟨e7,Wp.mono (KC (by omega) hpb) ?_⟩;rintro _ ⟨⟨ks,ds,rfl,c3,c2⟩,d6⟩;rw[hps]at c2;have d1:(az (D.dct .own ks ds)=true/\au (D.dct .own ks ds)=true):=by simpa[clean]using d6
   exact⟨d1,q _ ⟨ks,ds,a2,b2,Z,c3,c2,rfl⟩⟩
 rintro _ ⟨ks,ds,a2,b2,Z,c3,c2,rfl⟩;refine bj (λρ=>∃(sl a' b':Int),0<=sl/\sl<=12/\0<=a'/\ρ=[some (tp a' b'),some (D.lst Mk.frz (List.map D.str ns)),some (D.int t),some (D.lst Mk.own []),some (D.int w),some (D.dct .own ks ds),some (D.int sl),none,none,none,none,none]) (λQ q=>?_) ?_
 .simp_arith[aZ]
  refine eG Z (by omega) (by omega) λr4 a4 b4 p4 q4 s4=>?_;obtain⟨sl,d7,d2,d0⟩:∃w:Int,gIx (D.lst Mk.own [D.int 0,D.int 0,D.int 3,D.int 12]) (D.int r4)=some (.int w)/\0<=w/\w<=12:=by
   have:r4=0∨r4=1∨r4=2∨r4=3:=by omega
   rcases this with rfl|rfl|rfl|rfl<;>exact⟨_,rfl,by decide,by decide⟩
  simp_arith[d7];exact q _ ⟨sl,a4,b4,d2,d0,s4,rfl⟩
 rintro _ ⟨sl,a4,b4,d2,d0,s4,rfl⟩;refine bj (JoF ns t w sl ks ds (2*ns.length)) (λQ q=>?_) ?_
 .simp_arith[cQ,dm,bK,g_]
  refine eG s4 (by omega) (by omega) λr5 a5 b5 p5 q5 s5=>?_;simp_arith[aJ];refine⟨by omega,kJ (JoF ns t w sl ks ds) ⟨[],a5,b5,_,_,_,_,_,rfl,by simp,by simp,s5,by simp⟩ ?_ ?_⟩
  .rintro k d ρ hk ⟨js,a6,b6,x7,x8,x9,c4,a0,rfl,b0,c8,s6,c1⟩
   obtain⟨f9,rfl⟩:=GX hk;have hn:0<ns.length:=by omega
   simp![tgN,clean,az,au,aal,Yd,aJ,YJ,YZ];refine bj (λρ=>∃(x y:Str)(a' b':Int),x∈ns/\y∈ns/\0<=a'/\ρ=[some (tp a' b'),some (D.lst Mk.frz (List.map D.str ns)),some (D.int t),some (D.lst Mk.own (js.map jD)),some (D.int w),some (D.dct .own ks ds),some (D.int sl),some (D.int k),some (D.str x),some (D.str y),c4,a0]) (λQ q=>?_) ?_
   .simp_arith[cg,bR,dm,gm,fW,lG,lQ,wu,qD,qP,Ew,Hu,Ji,Hn,HS,wW,rY,len_strs,nM,je,Do,Hx,eq_int,qX]
    refine eG s6 (by omega) (by omega) λr7 a7 b7 p7 q7 s7=>?_;obtain⟨x,J,_,e9⟩:=iY (f:=D.str) (l:=ns) p7 q7;simp_arith[cg,bR,dm,gm,fW,lG,lQ,wu,qD,qP,Ew,Hu,Ji,Hn,HS,wW,rY,len_strs,nM,je,Do,Hx,eq_int,qX,e9];refine eG s7 (by omega) (by omega) λr8 a8 b8 p8 q8 s8=>?_;obtain⟨y,hy,_,d9⟩:=iY (f:=D.str) (l:=ns) p8 q8;simp_arith[cg,bR,dm,gm,fW,lG,lQ,wu,qD,qP,Ew,Hu,Ji,Hn,HS,wW,rY,len_strs,nM,je,Do,Hx,eq_int,qX,d9];exact q _ ⟨x,y,_,_,J,hy,s8,rfl⟩
   rintro _ ⟨x,y,a7,b7,J,hy,s7,rfl⟩;refine bj (λρ=>∃(v:Int)(a' b':Int),0<=a'/\ρ=[some (tp a' b'),some (D.lst Mk.frz (List.map D.str ns)),some (D.int t),some (D.lst Mk.own (js.map jD)),some (D.int w),some (D.dct .own ks ds),some (D.int sl),some (D.int k),some (D.str x),some (D.str y),some (D.int v),a0]) (λQ q=>?_) ?_
   .simp_arith[aJ]
    refine eG s7 (by omega) (by omega) λr8 a8 b8 p8 q8 s8=>?_;simp_arith[aJ];exact q _ ⟨_,_,_,s8,rfl⟩
   rintro _ ⟨v,a8,b8,s8,rfl⟩;refine bj (λρ=>∃(y:Str),y∈ns/\ρ=[some (tp a8 b8),some (D.lst Mk.frz (List.map D.str ns)),some (D.int t),some (D.lst Mk.own (js.map jD)),some (D.int w),some (D.dct .own ks ds),some (D.int sl),some (D.int k),some (D.str x),some (D.str y),some (D.int v),a0]) (λQ q=>?_) ?_
   .simp_arith[eq_int]
    split
    .exact q _ ⟨x,J,rfl⟩
    .exact q _ ⟨y,hy,rfl⟩
   clear hy y;rintro _ ⟨y,hy,rfl⟩;have two:∀{Q:Fl->Prop}{a8 b8:Int}{x y:Str}(c:Int)(sw:Bool),x∈ns->y∈ns->0<=a8->(∀x y a' b',x∈ns->y∈ns->0<=a'->Q (.nx [some (tp a' b'),some (D.lst Mk.frz (List.map D.str ns)),some (D.int t),some (D.lst Mk.own (js.map jD)),some (D.int w),some (D.dct .own ks ds),some (D.int sl),some (D.int k),some (D.str x),some (D.str y),some (D.int v),a0]))->
     Wp (sIf (pA (eB (e2 gEq (aq false 10) (eC (.int c)))) (eB (e2 gNe (aq false 3) (eAp aZ aF)))) (fj (Jy (ee2 gIx (eUp (aq false 3)) (eIo aD [0] (eE (ak (eAp cQ (ak (aq false 3) aF)) aF)))) qp (oF (eC (.int 2)))) (tgT 2 (if sw then aL (tgN 9) (aL (tgN 8) cz)else aL (tgN 8) (aL (tgN 9) cz)))) iM [some (tp a8 b8),some (D.lst Mk.frz (List.map D.str ns)),some (D.int t),some (D.lst Mk.own (js.map jD)),some (D.int w),some (D.dct .own ks ds),some (D.int sl),some (D.int k),some (D.str x),some (D.str y),some (D.int v),a0]) Q:=by
    intro Q a8 b8 x y c sw J hy s8 q;simp_arith[cg,bR,dm,gm,fW,lG,lQ,wu,qD,qP,Ew,Hu,Ji,Hn,HS,wW,rY,len_strs,nM,je,Do,Hx,eq_int,qX,aZ];split
    .by_cases hjn:js=[]
     .subst hjn
      simp;exact q _ _ _ _ J hy s8
     .have hjp:0<js.length:=acS.mpr hjn
      simp_arith[hjn,cg,bR,dm,gm,fW,lG,lQ,wu,qD,qP,Ew,Hu,Ji,Hn,HS,wW,rY,len_strs,nM,je,Do,Hx,eq_int,qX];refine eG s8 (by omega) (by omega) λr9 a9 b9 p9 q9 s9=>?_;obtain⟨j,V,_,e4⟩:=iY (f:=jD) (l:=js) p9 q9;cases sw<;>simp_arith[cg,bR,dm,gm,fW,lG,lQ,wu,qD,qP,Ew,Hu,Ji,Hn,HS,wW,rY,len_strs,nM,je,Do,Hx,eq_int,qX,e4]
      .exact q _ _ _ _ (b0 j V).1 (b0 j V).2 s9
      .exact q _ _ _ _ (b0 j V).2 (b0 j V).1 s9
    .exact q _ _ _ _ J hy s8
   refine bj (λρ=>∃(x y:Str)(a' b':Int),x∈ns/\y∈ns/\0<=a'/\ρ=[some (tp a' b'),some (D.lst Mk.frz (List.map D.str ns)),some (D.int t),some (D.lst Mk.own (js.map jD)),some (D.int w),some (D.dct .own ks ds),some (D.int sl),some (D.int k),some (D.str x),some (D.str y),some (D.int v),a0]) (λQ q=>two 1 false J hy s8 λx y a' b' h1 h2 h3=>q _ ⟨x,y,a',b',h1,h2,h3,rfl⟩) ?_;clear J hy x y;rintro _ ⟨x,y,a9,b9,J,hy,s9,rfl⟩;refine bj (λρ=>∃(x y:Str)(a' b':Int),x∈ns/\y∈ns/\0<=a'/\ρ=[some (tp a' b'),some (D.lst Mk.frz (List.map D.str ns)),some (D.int t),some (D.lst Mk.own (js.map jD)),some (D.int w),some (D.dct .own ks ds),some (D.int sl),some (D.int k),some (D.str x),some (D.str y),some (D.int v),a0]) (λQ q=>two 2 true J hy s9 λx y a' b' h1 h2 h3=>q _ ⟨x,y,a',b',h1,h2,h3,rfl⟩) ?_;clear J hy x y;rintro _ ⟨x,y,g3,f2,J,hy,e0,rfl⟩;obtain⟨jx,ix,f0,d3⟩:=c2 x J;obtain⟨jy,iy,e1,c9⟩:=c2 y hy;have bx:ix.natAbs<=400000000000:=by obtain⟨i,e,h⟩:=c3 _ (Yt d3);cases e;exact h
   have bY:iy.natAbs<=400000000000:=by obtain⟨i,e,h⟩:=c3 _ (Yt c9);cases e;exact h
   have d8:e_ false ds=ds:=by
    rw[bN]
    conv=>rhs;rw[←aa1 ds]
    exact Yr λd hd=>by obtain⟨i,rfl,_⟩:=c3 d hd;rfl
   refine bj (λρ=>∃(st:Int)(a' b':Int),st.natAbs<=800000002000/\0<=a'/\ρ=[some (tp a' b'),some (D.lst Mk.frz (List.map D.str ns)),some (D.int t),some (D.lst Mk.own (js.map jD)),some (D.int w),some (D.dct .own ks ds),some (D.int sl),some (D.int k),some (D.str x),some (D.str y),some (D.int v),some (D.int st)]) (λQ q=>?_) ?_
   .have ht1: -18446744073709551616<t/\t<18446744073709551616:=by omega
    simp_arith[gIx,gH,d8,f0,d3,e1,c9,lu];refine eG e0 (by omega) (by omega) λc0 e3 e8 g5 g6 c6=>?_;simp_arith[lu,g_,bK,ht1];have U:(t*(c0-2)).natAbs<=2000:=by
     have h5:c0=0∨c0=1∨c0=2∨c0=3∨c0=4:=by omega
     rcases h5 with rfl|rfl|rfl|rfl|rfl<;>omega
    exact q _ ⟨_,_,_,by omega,c6,rfl⟩
   rintro _ ⟨st,e3,e8,f3,c6,rfl⟩;refine bj (λρ=>∃(st:Int)(a' b':Int),st.natAbs<=1000000000000/\0<=a'/\ρ=[some (tp a' b'),some (D.lst Mk.frz (List.map D.str ns)),some (D.int t),some (D.lst Mk.own (js.map jD)),some (D.int w),some (D.dct .own ks ds),some (D.int sl),some (D.int k),some (D.str x),some (D.str y),some (D.int v),some (D.int st)]) (λQ q=>?_) ?_
   .simp_arith[gGt]
    split
    .refine eG c6 (by omega) (by omega) λg1 e5 f1 f5 f8 c5=>?_
     simp_arith[eq_int];split
     .simp_arith[aZ,nU,lA]
      refine eG c5 (by omega) (by omega) λc7 f7 f4 f6 g2 e6=>?_;have:c7=0∨c7=1∨c7=2∨c7=3:=by omega
      rcases this with rfl|rfl|rfl|rfl<;>simp_arith[gIx,atI,ixN,bK]<;>exact q _ ⟨_,_,_,by omega,e6,rfl⟩
     .exact q _ ⟨_,_,_,by omega,c5,rfl⟩
    .exact q _ ⟨_,_,_,by omega,c6,rfl⟩
   rintro _ ⟨d4,e5,f1,d5,c5,rfl⟩;simp_arith[bc,bT];refine⟨by omega,⟨js++[(x,y,d4)],_,_,_,_,_,_,_,by rw[YB];rfl,?_,by simp;omega,c5,λj V=>(XC.mp V).elim (c1 j) λz=>by rw[Yh.mp z];exact d5⟩⟩;intro j V;rcases XC.mp V with z|z
   .exact b0 j z
   .obtain rfl:j=(x,y,d4):=by simpa using z
    exact⟨J,hy⟩
  .rintro ρ ⟨js,a6,b6,x7,x8,x9,c4,a0,rfl,b0,c8,s6,c1⟩
   rw[uv]at c8;exact q _ ⟨js,a6,b6,x7,x8,x9,c4,a0,rfl,b0,by omega,s6,c1⟩
 rintro _ ⟨js,a6,b6,x7,x8,x9,c4,a0,rfl,b0,c8,s6,c1⟩;simp[iI,aJ,outs,cV];exact⟨js,a6,b6,rfl,b0,c8,s6,c1⟩
inductive Tyd:D->Prop
 |non:Tyd .non
 |bl (b:Bool):Tyd (.bl b)
 |int (i:Int):Tyd (.int i)
 |str (x:Str):Tyd (.str x)
 |tup {ds:List D}:(∀e∈ds,Tyd e)->Tyd (.tup ds)
 |lst {ds:List D}:(∀e∈ds,Tyd e)->Tyd (.lst .frz ds)
variable{ds:List D}
theorem gU{f:D->D}(h:∀e∈ds,f e=e):ds.map f=ds:=by
 conv=>rhs;rw[←aa1 ds]
 exact Yr h
variable{d:D}
theorem Tyd.all(h:Tyd d):fz d=d/\fzo d=d/\(∀b,view b d=d)/\az d=true/\au d=true/\gJ d=true:=by
 induction h with
 |non=>exact⟨rfl,rfl,λ_=>rfl,rfl,rfl,rfl⟩
 |bl b=>exact⟨rfl,rfl,λ_=>rfl,rfl,rfl,rfl⟩
 |int b=>exact⟨rfl,rfl,λ_=>rfl,rfl,rfl,rfl⟩
 |str b=>exact⟨rfl,rfl,λ_=>rfl,rfl,rfl,rfl⟩
 |@tup ds _ Z=>
  have hd:∀l:List D,(∀e∈l,gJ e=true)->il l=true:=λl=>by
   induction l with
   |nil=>intro _;rfl
   |cons x r q=>intro z;simp[il,z x (by simp),q λe V=>z e (by simp[V])]
  exact⟨by rw[fz,fV,gU λe V=>(Z e V).1],by rw[fzo,bW,gU λe V=>(Z e V).2.1],λb=>by rw[view,bN,gU λe V=>(Z e V).2.2.1 b],by rw[az];exact bu λe V=>(Z e V).2.2.2.1,by rw[au];exact bf λe V=>(Z e V).2.2.2.2.1,by rw[gJ];exact hd ds λe V=>(Z e V).2.2.2.2.2⟩
 |@lst ds _ Z=>
  have hd:∀l:List D,(∀e∈l,gJ e=true)->il l=true:=λl=>by
   induction l with
   |nil=>intro _;rfl
   |cons x r q=>intro z;simp[il,z x (by simp),q λe V=>z e (by simp[V])]
  refine⟨by rw[fz,fV,gU λe V=>(Z e V).1];rfl,by rw[fzo,bW,gU λe V=>(Z e V).2.1];rfl,λb=>by rw[view,bN,gU λe V=>(Z e V).2.2.1 b];cases b<;>rfl,?_,?_,by rw[gJ];exact hd ds λe V=>(Z e V).2.2.2.2.2⟩
  .simp[az,bu λe V=>(Z e V).2.2.2.1]
  .simp[au,bf λe V=>(Z e V).2.2.2.2.1]
theorem Tyd.ofL(h:∀e∈ds,Tyd e):fzL ds=ds/\gh ds=ds/\(∀b,e_ b ds=ds)/\aA ds=true/\aB ds=true:=
 ⟨by rw[fV,gU λe V=>(h e V).all.1],by rw[bW,gU λe V=>(h e V).all.2.1],λb=>by rw[bN,gU λe V=>(h e V).all.2.2.1 b],bu λe V=>(h e V).all.2.2.2.1,bf λe V=>(h e V).all.2.2.2.2.1⟩
theorem Fb(f:D->Bool):∀ds:List D,Es (ds.map λd=>.bl (f d))=some (ds.map f)
 |[]=>rfl
 |d::r=>by simp[Es,Fb f r]
theorem all_map(f:D->Bool)(ds:List D):Ml [.lst .own (ds.map λd=>.bl (f d))]=some (.bl (ds.all f)):=by
 simp[Ml,Fb,ae7]
abbrev Pt:=Int×Int
def ptD(p:Pt):D:=.tup [.int p.1,.int p.2]
theorem V3(l:List Pt):aA (l.map ptD)=true:=bu λd hd=>by obtain⟨x,_,rfl⟩:=XM.mp hd;rfl
theorem V1(l:List Pt):aB (l.map ptD)=true:=bf λd hd=>by obtain⟨x,_,rfl⟩:=XM.mp hd;rfl
theorem WM(b:Bool)(l:List Pt):e_ b (l.map ptD)=l.map ptD:=by rw[bN,XN];rfl
theorem Wq(l:List Pt):fzL (l.map ptD)=l.map ptD:=by rw[fV,XN];rfl
theorem Vl(l:List Pt):gh (l.map ptD)=l.map ptD:=by rw[bW,XN];rfl
structure JJ(J:D)(js:List Jt):Prop where
 f:fz J=J
 v:∀b,view b J=J
 b:az J=true
 o:au J=true
 l:cQ [J]=some (.int js.length)
 x:∀i,gIx J (.int i)=atI (js.map jD) i
 s:bC J=some (true,js.map jD)
 e:itE (λ_=>some [J]) []=some (true,gW 0 (js.map jD))
theorem JJ.lst(js:List Jt):JJ (.lst .frz (js.map jD)) js:=⟨by simp[fz,qD,mkF],λb=>by cases b<;>simp[view,wu,mkV],by simp[az,lG],by simp[au,lQ],by simp[cQ],λ_=>rfl,by simp[bC,clean,az,au,lG,lQ,qP],by simp[itE,bC,clean,az,au,lG,lQ,qP]⟩
def ends(j:Jt)(s:Int):Str×Str:=if s=1 then(j.1,j.2.1)else(j.2.1,j.1)
def stp(js:List Jt)(p:Pt):Option (Str×Str):=if 0<=p.1/\p.1<js.length then(js[p.1.toNat]?).map λj=>ends j p.2 else none
def lst(h:Str):List Str->Str
 |[]=>h
 |x::r=>lst x r
def mt(js:List Jt):Str->List Pt->Option (List Str)
 |_,[]=>some []
 |h,p::r=>(stp js p).bind λq=>if q.1=h then(mt js q.2 r).map λt=>q.2::t else none
theorem GQ:∀(l:List Str)(h x:Str),lst h (l++[x])=x
 |[],_,_=>rfl
 |_::r,_,x=>GQ r _ x
variable{js:List Jt}
theorem Gy:∀(ps:List Pt)(h:Str)(p:Pt),mt js h (ps++[p])=(mt js h ps).bind λl=>(stp js p).bind λq=>if q.1=lst h l then some (l++[q.2])else none
 |[],h,p=>by
  rw[List.nil_append,mt,mt,Xz];cases stp js p with
  |none=>rfl
  |some q=>
   simp![Xz];by_cases N:q.1=h
   .rw[X7 N,X7 (show q.1=lst h []from N)];rfl
   .rw[Yc N,Yc (show ¬q.1=lst h []from N)]
 |a::r,h,p=>by
  rw[Yv,mt,mt];cases e:stp js a with
  |none=>simp
  |some q=>
   simp![Xz];by_cases N:q.1=h
   .rw[X7 N,X7 N,Gy r q.2 p]
    cases e2:mt js q.2 r with
    |none=>simp
    |some l=>
     cases F:stp js p with
     |none=>simp
     |some u=>
      simp![Xz,Yq];by_cases O:u.1=lst q.2 l
      .rw[X7 O,X7 (show u.1=lst h (q.2::l)from O)];rfl
      .rw[Yc O,Yc (show ¬u.1=lst h (q.2::l)from O)];rfl
   .rw[Yc N,Yc N]
    rfl
theorem ne_str{y:Str}:gNe (.str x) (.str y)=some (.bl (!decide (x=y))):=by
 unfold gNe;rw[X7 ⟨rfl,rfl,.sc (.str x y)⟩];simp[dt,eqD];exact abQ.mpr (by simp)
def tot(js:List Jt):List Pt->Int
 |[]=>0
 |p::r=>p.2*((js[p.1.toNat]?).map λj=>j.2.2).getD 0+tot js r
theorem RB{a:Bool}:gEq (.bl a) (.bl b)=some (.bl (a==b)):=by
 unfold gEq;rw[X7 ⟨rfl,rfl,.sc (.bl a b)⟩];simp[dt,eqD]
mutual
noncomputable def tz:D->Nat
 |.int i=>if i.natAbs<1000000000000000000 then 20 else i.natAbs+2
 |.str x=>(reprText x).length
 |.tup ds=>4+tzL ds
 |.lst _ ds=>4+tzL ds
 |_=>5
noncomputable def tzL:List D->Nat
 |[]=>0
 |d::r=>tz d+2+tzL r
end
mutual
noncomputable def dz:D->Nat
 |.tup ds=>1+dzL ds
 |.lst _ ds=>1+dzL ds
 |_=>0
noncomputable def dzL:List D->Nat
 |[]=>0
 |d::r=>max (dz d) (dzL r)
end
theorem Gk:∀(ts:List Str)(k:Nat)(a:Str),(textFrom k a ts).length<=a.length+(ts.map λt=>t.length+2).sum
 |[],k,a=>by rw[textFrom.eq_1];simp
 |t::ts,k,a=>by
  rw[textFrom.eq_2];have h1:=Gk ts (k+1) (a++ZK (if k>0 then ", " else "")++t);rw[abw,abw]at h1;have F:(ZK (if k>0 then ", " else "")).length<=2:=by split<;>decide
  rw[XH,aeQ];omega
theorem CQ:∀ts:List Str,piled ts=(ts.map λt=>t.length+2).sum
 |[]=>rfl
 |t::r=>by rw[XH,aeQ,←CQ r];simp[piled]
theorem Qg(ts:List Str):(Str.join ", " ts).length<=(ts.map λt=>t.length+2).sum:=by
 cases ts with
 |nil=>decide
 |cons t r=>
  have:=join_length_add (t::r) (by simp);rw[CQ]at this;omega
theorem Hw{i:Int}(h:i.natAbs<1000000000000000000):(ZK (toString i)).length<=19:=by
 have q:∀n:Nat,n<1000000000000000000->(Nat.repr n).length<=18:=λn hn=>by
  have:=toDigits_len_pow (b:=10) (k:=18) (by decide) (by decide) (n:=n) (by simpa using hn);simpa[Nat.repr]using this
 rw[ofString_len];cases i with
 |ofNat m=>exact Zq (q m h) (by decide)
 |negSucc m=>
  have:=q (m+1) h;show("-"++Nat.repr (m+1)).length<=19;rw[String.length_append];have h1:"-".length=1:=by decide
  omega
mutual
theorem Ba:∀{d:D},gJ d=true->tz d<=1000000->(pyD (dt d)).shown.length<=tz d/\(pyD (dt d)).showable=true/\(pyD (dt d)).depth<=dz d
 |.non,_,_=>⟨by decide,rfl,by decide⟩
 |.bl b,_,_=>by cases b<;>exact⟨by decide,rfl,by decide⟩
 |.int i,_,h=>by
  rw[tz]at h;by_cases hs:i.natAbs<1000000000000000000
  .refine⟨?_,?_,by simp[dt,pyD,PyData.depth]⟩
   .have:=Hw hs
    simp![dt,pyD,adT,tz,hs,Yd];omega
   .simp![dt,pyD,abS]
    refine Zw ?_;by_cases U:i.natAbs=0
    .rw[U];decide
    .exact(Nat.log2_lt U).mpr (Yk (show i.natAbs<2 ^ 60 by omega) (Nat.pow_le_pow_right (by decide) (by decide)))
  .rw[Yc hs]at h
   omega
 |.str x,_,_=>⟨by simp[dt,pyD,adT,tz],by simp[dt,pyD,abS],by simp[dt,pyD,PyData.depth,dz]⟩
 |.tup ds,h,hz=>by
  rw[gJ]at h;rw[tz]at hz;obtain⟨h1,h2,F⟩:=sE h (by omega);refine⟨?_,by simpa[dt,pyD,abS]using h2,by simp![dt,pyD,PyData.depth,dz];omega⟩;simp![dt,pyD,adT,tz];unfold tupleText;rw[abw,abw];have O:(ZK "(").length=1:=by decide
  have Y:(ZK (if((abp (pyL (dtL ds))).length==1)=true then ",)" else ")")).length<=2:=by split<;>decide
  have J:=Qg (abp (pyL (dtL ds)));omega
 |.lst m ds,h,hz=>by
  rw[gJ]at h;rw[tz]at hz;obtain⟨h1,h2,F⟩:=sE h (by omega);refine⟨?_,by simpa[dt,pyD,abS]using h2,by simp![dt,pyD,PyData.depth,dz];omega⟩;simp![dt,pyD,adT,tz];unfold listText;rw[abw];have O:(ZK "[").length=1:=by decide
  have Y:(ZK "]").length=1:=by decide
  have J:=Gk (abp (pyL (dtL ds))) 0 "[";omega
 |.ty _,h,_=>by simp[gJ]at h
 |.dct _ _ _,h,_=>by simp[gJ]at h
 |.ins _ _ _ _,h,_=>by simp[gJ]at h
theorem sE:∀{ds:List D},il ds=true->tzL ds<=1000000->((abp (pyL (dtL ds))).map λt=>t.length+2).sum<=tzL ds/\ac9 (pyL (dtL ds))=true/\ad5 (pyL (dtL ds))<=dzL ds
 |[],_,_=>by simp[dtL,pyL,abp,ac9,ad5,tzL,dzL]
 |d::r,h,hz=>by
  rw[il,Ys]at h;rw[tzL]at hz;obtain⟨h1,h2,F⟩:=Ba h.1 (by omega);obtain⟨J,Y,q⟩:=sE h.2 (by omega);simp![dtL,pyL,abp,ac9,ad5,tzL,dzL,XH,aeQ,h2,Y];refine⟨by omega,rfl,?_⟩;omega
end
theorem Tq(h:gJ d=true)(hz:tz d<=1000000)(hd:dz d<=50):∃x,zY [d]=some (.str x):=by
 obtain⟨h1,h2,F⟩:=Ba h hz;have hs:(1000000:Nat)<=X3:=by decide
 cases d with
 |non=>exact⟨_,rfl⟩
 |bl b=>exact⟨_,rfl⟩
 |int i=>
  have O:i.natAbs.log2<1920:=by simpa[dt,pyD,abS]using h2
  exact⟨_,by simp![zY];rw[X7 O]⟩
 |str x=>exact⟨_,rfl⟩
 |tup ds=>exact⟨_,by simp![zY];rw[X7 ⟨h,by omega,h2,by omega⟩]⟩
 |lst m ds=>exact⟨_,by simp![zY];rw[X7 ⟨h,by omega,h2,by omega⟩]⟩
 |ty n=>simp[gJ]at h
 |dct m ks ds=>simp[gJ]at h
 |ins m c fs ds=>simp[gJ]at h
abbrev Tt:=Int×Int×Str
def tD(t:Tt):D:=.tup [.int t.1,.int t.2.1,.str t.2.2]
theorem Rz(l:List Tt):aA (l.map tD)=true:=bu λd hd=>by obtain⟨x,_,rfl⟩:=XM.mp hd;rfl
theorem Rj(l:List Tt):aB (l.map tD)=true:=bf λd hd=>by obtain⟨x,_,rfl⟩:=XM.mp hd;rfl
theorem RN(b:Bool)(l:List Tt):e_ b (l.map tD)=l.map tD:=by rw[bN,XN];rfl
theorem V9(l:List Tt):gh (l.map tD)=l.map tD:=by rw[bW,XN];rfl
theorem Ei:∀{ds:List D}{m:Nat},(∀e∈ds,tz e<=m)->tzL ds<=ds.length*(m+2)
 |[],m,_=>by simp[tzL]
 |d::r,m,h=>by
  have h1:=h d (by simp);have h2:=Ei (ds:=r) λe V=>h e (by simp[V]);rw[tzL,Yj,Nat.succ_mul];omega
theorem Dv:∀{ds:List D}{m:Nat},(∀e∈ds,dz e<=m)->dzL ds<=m
 |[],m,_=>by simp[dzL]
 |d::r,m,h=>by
  have h1:=h d (by simp);have h2:=Dv (ds:=r) λe V=>h e (by simp[V]);rw[dzL];omega
def one(n:Nat):Str:=⟨#[n]⟩
variable{ρ:En}
theorem Xp{j:Int}(h:f ρ=some [.int j])(h1: -(2 ^ 62)<=j)(h2:j<2 ^ 62):um f ρ=some (true,gQ 0 j.toNat):=by
 unfold um;rw[h];simp![Xz];rw[X7 ⟨h1,h2⟩]
theorem Kv(h:f ρ=some [.int n])(hn:n<=100):um f ρ=some (true,gQ 0 n):=by
 have h1:(n:Int)<=100:=by omega
 have:=Xp h (acO (by decide) (Int.natCast_nonneg n)) (Int.lt_of_le_of_lt h1 (by decide));rw[ZG]at this;exact this
theorem nH(b:Bool)(l:List Int):e_ b (l.map D.int)=l.map D.int:=by rw[bN,XN];rfl
theorem QF(l:List Int):fzL (l.map D.int)=l.map D.int:=by rw[fV,XN];rfl
def Tw(d:D):Prop:=∃a b:Int,d=tp a b/\0<=a
theorem Uj{ns:List Int}(J:0<=k)(F:k<=100)(N:ns.length<=63):Wp (dW [.lst .scr (ns.map D.int),.int k]) Tw:=by
 have U:cQ [.lst .scr (ns.map D.int)]=some (.int ns.length):=by simp[cQ]
 have V:∀c:Int,∀Q:Fl->Prop,(∀a b Z,0<=a->Q (.ret (tp a b) Z))->Wp (bF (cT (e2 g_ (eAp oH (ak (aq false 2) aF)) (eAp sY (ak (e2 gGe (eAp oH (ak (aq false 2) aF)) (e2 lA (eC (.int 10)) (eC (.int 18)))) aF))) (tgN 3)) (gY (eAp aZ (ak (aq false 3) (ak (e2 jz (e2 g_ (e2 bK (e2 bK (e2 jz (aq false 2) (eC (.int 2147483647))) (e2 g_ (eC (.int 7919)) (aq false 1))) (eC (.int 11))) (eC (.int 48271))) (eC (.int 2147483629))) aF)))) [some (.lst .scr (ns.map D.int)),some (.int k),some (.int c),none]) Q:=by
  intro c Q q;simp_arith[oH,lA,gGe,sY,g_,jz,bK,aZ];have O:(0:Int)<=if c<0 then -c else c:=by split<;>omega
  generalize (if c<0 then -c else c)=u at O⊢;refine⟨.inr ?_,q _ _ _ ?_⟩
  .split<;>omega
  .split
   .omega
   .omega
 by_cases h:k<(ns.length:Int)
 .obtain⟨c,_,_,hc⟩:=iY (f:=D.int) (l:=ns) (i:=k) J h
  simp_arith![dW,fnP];refine bj (λρ=>ρ=[some (.lst .scr (ns.map D.int)),some (.int k),some (.int 0),none]) (λQ q=>by simp_arith[aJ];exact q _ rfl) ?_;rintro _ rfl;refine bj (λρ=>ρ=[some (.lst .scr (ns.map D.int)),some (.int k),some (.int c),none]) (λQ q=>by simp_arith[nH,U,gLt,h,Do,hc];exact q _ rfl) ?_;rintro _ rfl;exact V c _ λa b Z Y=>aJ.mpr ⟨a,b,rfl,Y⟩
 .simp_arith![dW,fnP]
  refine bj (λρ=>ρ=[some (.lst .scr (ns.map D.int)),some (.int k),some (.int 0),none]) (λQ q=>by simp_arith[aJ];exact q _ rfl) ?_;rintro _ rfl;refine bj (λρ=>ρ=[some (.lst .scr (ns.map D.int)),some (.int k),some (.int 0),none]) (λQ q=>by simp_arith[nH,U,gLt,h];exact q _ rfl) ?_;rintro _ rfl;exact V 0 _ λa b Z Y=>aJ.mpr ⟨a,b,rfl,Y⟩
theorem pP:∀ns:List Str,dtL (ns.map D.str)=ns.map Dt.str
 |[]=>rfl
 |x::r=>by rw[XH,dtL,pP r];rfl
theorem j7:∀ns:List Str,wO (ns.map D.str)=some (ns.map V.str)
 |[]=>rfl
 |x::r=>by simp[wO,scV,j7 r]
theorem pY:inV (.str x) (ns.map V.str)=decide (x∈ns):=by
 unfold inV;rw[List.any_map,abQ,acz,decide_eq_true_iff];simp![Z8,eqV,beq_iff_eq];exact⟨λ⟨y,h1,h2⟩=>h2▸h1,λh=>⟨x,h,rfl⟩⟩
structure NK(N:D)(ns:List Str):Prop where
 f:fz N=N
 v:∀b,view b N=N
 b:az N=true
 o:au N=true
 l:cQ [N]=some (.int ns.length)
 x:∀i,gIx N (.int i)=atI (ns.map D.str) i
 i:∀y,gIn (.str y) N=some (.bl (decide (y∈ns)))
 ni:∀y,kZ (.str y) N=some (.bl (!decide (y∈ns)))
 s:bC N=some (true,ns.map D.str)
theorem NK.lst(ns:List Str):NK (.lst .frz (ns.map D.str)) ns:=⟨by simp[fz,gm,mkF],λb=>by cases b<;>simp[view,dm,mkV],by simp[az,cg],by simp[au,bR],by simp[cQ],λ_=>rfl,λy=>by simp[gIn,uI,scV,j7,pY],λy=>by simp[kZ,uI,scV,j7,pY],by simp[bC,clean,az,au,cg,bR,fW]⟩
theorem NK.tup(ns:List Str):NK (.tup (ns.map D.str)) ns:=⟨by simp[fz,gm],λb=>by simp[view,dm],by simp[az,cg],by simp[au,bR],by simp[cQ],λ_=>rfl,λy=>by simp[gIn,uI,scV,j7,pY],λy=>by simp[kZ,uI,scV,j7,pY],by simp[bC,clean,az,au,cg,bR,fW]⟩
abbrev Gz:=Bool×List Str
def mkB(b:Bool):Mk:=if b then .own else .frz
def zD(z:Gz):D:=.lst (mkB z.1) (z.2.map D.str)
def fr(g:List Str):D:=.lst .frz (g.map D.str)
theorem Vx(l:List Gz):fzL (l.map zD)=(l.map (·.2)).map fr:=by
 rw[fV,XN,XN];refine Yr λz _=>?_;simp![Z8,zD,fr,fz,gm];cases z.1<;>rfl
theorem Ri(l:List Gz):aA (l.map zD)=true:=bu λd hd=>by
 obtain⟨z,_,rfl⟩:=XM.mp hd;simp![zD,az,cg];cases z.1<;>rfl
theorem Rk(l:List Gz):aB (l.map zD)=true:=bf λd hd=>by
 obtain⟨z,_,rfl⟩:=XM.mp hd;simp![zD,au,bR];cases z.1<;>rfl
theorem yF(b:Bool)(g:List Str):view b (fr g)=fr g:=by cases b<;>simp[fr,view,dm,mkV]
theorem Gu(b:Bool)(l:List (List Str)):e_ b (l.map fr)=l.map fr:=by
 rw[bN,XN];exact Yr λg _=>yF b g
theorem J8(l:List (List Str)):gh (l.map fr)=l.map fr:=by
 rw[bW,XN];refine Yr λg _=>?_;simp[fr,fzo,fW,mkO]
theorem RZ(g:List Str):az (fr g)=true/\au (fr g)=true:=by simp[fr,az,au,cg,bR]
theorem Bp:∀a b:List Str,eqL (a.map Dt.str) (b.map Dt.str)=decide (a=b)
 |[],[]=>rfl
 |[],_::_=>rfl
 |_::_,[]=>rfl
 |x::r,y::q=>by
  rw[XH,XH,eqL,Bp r q,abQ];simp[eqD]
theorem Kq:∀f s:List Str,∀p∈(f.map Dt.str).zip (s.map Dt.str),Sc p.1 p.2
 |[],_,_,h=>by simp at h
 |_::_,[],_,h=>by simp at h
 |x::r,y::q,p,h=>by
  rw[XH,XH,List.zip_cons_cons,XJ]at h;rcases h with rfl|h
  .exact .str x y
  .exact Kq r q p h
theorem RQ{f s:List Str}:gNe (fr f) (fr s)=some (.bl (!decide (f=s))):=by
 unfold gNe;rw[X7 ⟨m8 f,m8 s,.lst (by rw[pP,pP];exact Kq f s)⟩];simp[fr,dt,pP,eqD,Bp]
theorem jL:∀g:List Str,strsOf (g.map D.str)=some g
 |[]=>rfl
 |y::r=>by simp[strsOf,jL r]
theorem Xi(ns:List Str):cC (tpN 0) eTT (eAp aZ (ak (aq false 0) aF)) [none] (ns.map D.str)=some ((ns.map λx=>((true,[x]):Gz)).map zD):=by
 rw[kh (p:=λ_=>true) (f:=λd=>.lst .own [d])]
 .rw[filter_tt,XN,XN]
  rfl
 .intro d hd
  obtain⟨x,_,rfl⟩:=XM.mp hd;simp_arith[aZ]
theorem Wa(x:Str)(gs:List (List Str)):cC (tpN 0) (eB (e2 gIn (aq false 1) (aq false 0))) (aq false 0) [none,some (.str x)] (gs.map fr)=some ((gs.filter λg=>decide (x∈g)).map fr):=by
 have F:∀g:List Str,gIn (.str x) (fr g)=some (.bl (decide (x∈g))):=λg=>(NK.lst g).i x;rw[kh (p:=λd=>match d with|.lst _ ds=>(strsOf ds).any (λg=>decide (x∈g))|_=>false) (f:=id)]
 .rw[aa1,afR]
  congr 2;refine afv λg _=>?_;simp[Z8,fr,jL]
 .intro d hd
  obtain⟨g,_,rfl⟩:=XM.mp hd;simp[tpN,aJ,eB,e2,aq,yF,view,F,isB];simp[fr,jL]
theorem Xj(f s:List Str)(gs:List (List Str)):cC (tpN 0) (pA (eB (e2 gNe (aq false 0) (aq false 1))) (eB (e2 gNe (aq false 0) (aq false 2)))) (aq false 0) [none,some (fr f),some (fr s)] (gs.map fr)=some ((gs.filter λg=>!decide (g=f)&& !decide (g=s)).map fr):=by
 have q:=jL;rw[kh (p:=λd=>match d with|.lst _ ds=>(strsOf ds).any (λg=>!decide (g=f)&& !decide (g=s))|_=>false) (f:=id)]
 .rw[aa1,afR]
  congr 2;refine afv λg _=>?_;simp[Z8,fr,q]
 .intro d hd
  obtain⟨g,_,rfl⟩:=XM.mp hd;simp[tpN,aJ,pA,eB,e2,aq,yF,RQ,isB];by_cases h1:g=f<;>by_cases h2:g=s<;>simp[h1,h2,fr,q]
def bh(g:List Str):List Str:=(lw (g.map λx=>[x])).map λk=>k.headD ""
theorem fG(g:List Str):Yu (bh g) g:=by
 have:=(eV (g.map λx=>[x])).map λk=>k.headD ("":Str);rw[XN]at this;refine this.trans ?_;rw[show((λk:List Str=>k.headD "")∘λx=>[x])=id from rfl,aa1]
theorem xg:∀g:List Str,Bx (g.map D.str)=some (g.map λx=>[x])
 |[]=>rfl
 |x::r=>by simp[Bx,xg r]
variable{m:Mk}{g:List Str}
theorem CZ(h:g.length<64):jG [.lst m (g.map D.str)]=some (.lst .own ((bh g).map D.str)):=by
 simp![jG,X5,h,Yd,xg];rw[bh,XN];rfl
theorem Ft:∀rs:List (List Str),lstK .own (rs.map (fL .own))=some rs
 |[]=>rfl
 |x::r=>by
  have:=jL x;simp[lstK,fL,this,Ft r]
theorem Jp(h:rs.length<64):jG [.lst .own (rs.map (fL .own))]=some (.lst .own ((lw rs).map (fL .own))):=by
 simp![jG,X5,h,Yd];cases rs with
 |nil=>rfl
 |cons x r=>
  have:=Ft (x::r);simp![XH,fL,Bx]at this⊢;rw[this];rfl
def Con(js:List Jt)(g:List Str):Prop:=∀P:Str->Prop,(∃x∈g,P x)->(∃y∈g,¬P y)->∃j∈js,j.1∈g/\j.2.1∈g/\((P j.1/\¬P j.2.1)∨(¬P j.1/\P j.2.1))
theorem uF(x:Str):Con js [x]:=λP ⟨a,Y,p⟩⟨b,U,q⟩=>by
 rw[Yh]at Y U;subst Y U;exact absurd p q
variable{j:Jt}
theorem sr{f s:List Str}(V:j∈js)(h1:j.1∈f)(h2:j.2.1∈s)(q:Con js f)(N:Con js s):Con js (f++s):=λP ⟨a,Y,O⟩⟨b,U,J⟩=>by
 by_cases F:(∃x∈f,P x)/\∃y∈f,¬P y
 .obtain⟨k,hk,k1,k2,k3⟩:=q P F.1 F.2
  exact⟨k,hk,X6 _ k1,X6 _ k2,k3⟩
 .by_cases hs:(∃x∈s,P x)/\∃y∈s,¬P y
  .obtain⟨k,hk,k1,k2,k3⟩:=N P hs.1 hs.2
   exact⟨k,hk,XD _ k1,XD _ k2,k3⟩
  .refine⟨j,V,X6 _ h1,XD _ h2,?_⟩
   by_cases p1:P j.1
   .refine .inl ⟨p1,λp2=>?_⟩
    rcases XC.mp U with z|z
    .exact F ⟨⟨_,h1,p1⟩,⟨b,z,J⟩⟩
    .exact hs ⟨⟨_,h2,p2⟩,⟨b,z,J⟩⟩
   .refine .inr ⟨p1,adD λp2=>?_⟩
    rcases XC.mp Y with z|z
    .exact F ⟨⟨a,z,O⟩,⟨_,h1,p1⟩⟩
    .exact hs ⟨⟨a,z,O⟩,⟨_,h2,p2⟩⟩
theorem Jx{g':List Str}(h:Yu g' g)(c:Con js g):Con js g':=λP ⟨a,Y,O⟩⟨b,U,J⟩=>by
 obtain⟨j,V,N,F,q⟩:=c P ⟨a,h.mem_iff.mp Y,O⟩ ⟨b,h.mem_iff.mp U,J⟩;exact⟨j,V,h.mem_iff.mpr N,h.mem_iff.mpr F,q⟩
theorem sx:fJ [.lst m ds]=jG [.lst m ds]:=rfl
theorem DW[DecidableEq α]:∀{ks ns:List α},ks.Nodup->(∀k∈ks,k∈ns)->ks.length<=ns.length
 |[],_,_,_=>aai _
 |k::r,ns,h,hs=>by
  have U:=hs k (.head _);have h1:=DW (ks:=r) (ns:=ns.erase k) (Yn.mp h).2 λx J=>(List.mem_erase_of_ne (show x≠k from λe=>(Yn.mp h).1 (by rw[←e];exact J))).mpr (hs x (.tail _ J));rw[List.length_erase_of_mem U]at h1;have:=aec U;simp![Yj];omega
theorem kI:(gq (ys.map YF) (YF x)).isSome=decide (x∈ys):=by
 cases e:gq (ys.map YF) (YF x)with
 |none=>
  unfold gq at e;rw[ZD]at e;refine(YH λh=>?_).symm;have:=e (YF x) (XM.mpr ⟨x,h,rfl⟩);simp at this
 |some j=>
  obtain⟨Y,J,_⟩:=YM.mp e;have h2:(ys.map (YF:Str->Key))[j]=YF x:=by simpa using J
  have F:YF x∈ys.map (YF:Str->Key):=h2▸Z7 Y;obtain⟨y,V,O⟩:=XM.mp F;cases O;exact(Zw V).symm
theorem Mw{A B:List Str}:bh A=bh B↔Yu A B:=by
 constructor
 .intro h
  exact(fG A).symm.trans (h▸fG B)
 .intro h
  unfold bh;have h2:=h.map λx=>[x];rw[pJ ((eV _).trans (h2.trans (eV _).symm)) (jH _) (jH _)]
structure Prt(js:List Jt)(ns:List Str)(gs:List (List Str)):Prop where
 p:Yu gs.flatten ns
 e:∀g∈gs,g≠[]
 c:∀g∈gs,Con js g
def j5(js:List Jt)(gs:List (List Str)):Prop:=∀j∈js,∃g∈gs,j.1∈g/\j.2.1∈g
variable{gs:List (List Str)}
theorem Prt.one(h:Prt js ns gs)(hn:ns.Nodup){g':List Str}(h1:g∈gs)(h2:g'∈gs)(x1:x∈g)(J:x∈g'):g=g':=by
 have q:gs.flatten.Nodup:=h.p.nodup_iff.mpr hn;obtain⟨_,F⟩:=acJ.mp q;rw[aao]at F;obtain⟨i,hi,rfl⟩:=Y7 h1;obtain⟨j,V,rfl⟩:=Y7 h2;rcases adv i j with z|z|z
 .exact absurd rfl (F i j hi V z x x1 x J)
 .subst z;rfl
 .exact absurd rfl (F j i V hi z x J x x1)
theorem Prt.nd1(h:Prt js ns gs)(hn:ns.Nodup)(h1:g∈gs):g.Nodup:=by
 have F:gs.flatten.Nodup:=h.p.nodup_iff.mpr hn;exact(acJ.mp F).1 g h1
theorem Prt.mem(h:Prt js ns gs):x∈ns↔∃g∈gs,x∈g:=by
 rw[←h.p.mem_iff,abg]
theorem Prt.nd(h:Prt js ns gs)(hn:ns.Nodup):gs.Nodup:=by
 have q:gs.flatten.Nodup:=h.p.nodup_iff.mpr hn;obtain⟨_,F⟩:=acJ.mp q;refine ab2 (λ{a b} Y U O e=>?_) F;subst e;cases a with
 |nil=>exact h.e _ Y rfl
 |cons x r=>exact O x (by simp) x (by simp) rfl
theorem Prt.ndS(h:Prt js ns gs)(hn:ns.Nodup):(gs.map bh).Nodup:=by
 have:=h.nd hn;refine aaV.mpr (ab2 (λ{a b} Y U O e=>O ?_) this);have F:=Mw.mp e;cases a with
 |nil=>exact absurd rfl (h.e _ Y)
 |cons x r=>exact h.one hn Y U (x:=x) (by simp) (F.mem_iff.mp (by simp))
variable{hs:List (List Str)}
theorem Prt.sub(a:Prt js ns gs)(b:Prt js ns hs)(hn:ns.Nodup)(U:j5 js hs){h:List Str}(q:g∈gs)(O:h∈hs)(x1:x∈g)(J:x∈h):∀y∈g,y∈h:=λy hy=>by
 refine adD λZ=>?_;obtain⟨j,V,Y,j2,j3⟩:=a.c g q (·∈h) ⟨x,x1,J⟩ ⟨y,hy,Z⟩;obtain⟨h',h1,h2,F⟩:=U j V;rcases j3 with⟨N,z2⟩|⟨N,z2⟩
 .exact z2 (b.one hn h1 O h2 N▸F)
 .exact N (b.one hn h1 O F z2▸h2)
theorem Prt.perm(a:Prt js ns gs)(N:j5 js gs)(b:Prt js ns hs)(U:j5 js hs)(hn:ns.Nodup):Yu (gs.map bh) (hs.map bh):=by
 have V:∀{gs hs:List (List Str)},Prt js ns gs->j5 js gs->Prt js ns hs->j5 js hs->∀r∈gs.map bh,r∈hs.map bh:=λ{gs hs} a N b U r O=>by
  obtain⟨g,q,rfl⟩:=XM.mp O;cases F:g with
  |nil=>exact absurd F (a.e _ q)
  |cons x t=>
  have J:x∈g:=by rw[F];simp
  obtain⟨h,Z,Y⟩:=b.mem.mp (a.mem.mpr ⟨g,q,J⟩);rw[←F];refine XM.mpr ⟨h,Z,?_⟩;refine Mw.mpr ((aaR (b.nd1 hn Z) (a.nd1 hn q)).mpr λy=>⟨b.sub a hn N Z q Y J y,a.sub b hn U q Z J Y y⟩)
 exact(aaR (a.ndS hn) (b.ndS hn)).mpr λr=>⟨V a N b U r,V b U a N r⟩
theorem Prt.canon(a:Prt js ns gs)(N:j5 js gs)(b:Prt js ns hs)(U:j5 js hs)(hn:ns.Nodup):lw (gs.map bh)=lw (hs.map bh):=
 pJ ((eV _).trans ((a.perm N b U hn).trans (eV _).symm)) (jH _) (jH _)
theorem vK{g:List Str}:∀{gs:List (List Str)},gs.Nodup->g∈gs->Yu gs (g::gs.filter λx=>!decide (x=g))
 |x::r,hn,h=>by
  obtain⟨h1,h2⟩:=Yn.mp hn;by_cases J:x=g
  .subst J
   rw[afJ,Yc (by simp)];have:r.filter (λy=>!decide (y=x))=r:=List.filter_eq_self.mpr λy V=>by
    simp;exact λe=>h1 (e▸V)
   rw[this]
  .rw[afJ,X7 (by simpa using J)]
   exact((vK h2 ((XJ.mp h).resolve_left λz=>J z.symm)).cons x).trans (.swap g x _)
theorem Prt.merge{f s:List Str}(h:Prt js ns gs)(hn:ns.Nodup)(F:f∈gs)(hs:s∈gs)(Z:f≠s)(V:j∈js)(h1:j.1∈f)(h2:j.2.1∈s):Prt js ns ((gs.filter λg=>!decide (g=f)&& !decide (g=s))++[f++s])where
 p:=by
  refine afS ?_ h.p;have U:=vK (h.nd hn) F;have N:(gs.filter λx=>!decide (x=f)).Nodup:=(h.nd hn).filter _;have Y:=vK N (aae.mpr ⟨hs,by simpa using λz=>Z z.symm⟩);rw[List.filter_filter]at Y;have e:(gs.filter λg=>!decide (g=f)&& !decide (g=s))=gs.filter λg=>!decide (g=s)&& !decide (g=f):=by
   congr 1;funext g;exact Bool.and_comm _ _
  rw[←e]at Y;have J:=(U.trans (Y.cons f)).flatten;refine afS ?_ J.symm;rw[acT];simp![aaw,adU,Ym];refine aaN.trans ?_;rw[aat]
 e:=λg q=>by
  rcases XC.mp q with z|z
  .exact h.e g (aae.mp z).1
  .rw[Yh.mp z]
   intro e;exact h.e f F (List.append_eq_nil_iff.mp e).1
 c:=λg q=>by
  rcases XC.mp q with z|z
  .exact h.c g (aae.mp z).1
  .rw[Yh.mp z]
   exact sr V h1 h2 (h.c f F) (h.c s hs)
theorem Prt.start(js:List Jt)(ns:List Str):Prt js ns (ns.map λx=>[x])where
 p:=by
  have:(ns.map λx=>[x]).flatten=ns:=by
   induction ns with
   |nil=>rfl
   |cons x r Z=>simp![XH,aaw,Z];rfl
  rw[this]
 e:=λg q=>by obtain⟨x,_,rfl⟩:=XM.mp q;simp
 c:=λg q=>by obtain⟨x,_,rfl⟩:=XM.mp q;exact uF x
theorem vR:∀{gs:List (List Str)},(∀g∈gs,g≠[])->gs.length<=gs.flatten.length
 |[],_=>by simp
 |g::r,h=>by
  have:=vR (gs:=r) λx J=>h x (by simp[J]);have q:0<g.length:=acS.mpr (h g (by simp));simp![aaw,Zg,Yj];omega
theorem Prt.len(h:Prt js ns gs):gs.length<=ns.length:=by rw[←h.p.length_eq];exact vR h.e
theorem Prt.len1(h:Prt js ns gs)(q:g∈gs):g.length<=ns.length:=by
 rw[←h.p.length_eq];have:∀{gs:List (List Str)},g∈gs->g.length<=gs.flatten.length:=by
  intro gs
  induction gs with
  |nil=>intro h;cases h
  |cons x r Z=>
   intro h;simp![aaw,Zg];rcases XJ.mp h with rfl|z
   .omega
   .have:=Z z;omega
 exact this q
theorem Hb{f s:List Str}{ps:List Jt}(h:j5 ps gs)(F:f∈gs)(hs:s∈gs)(h1:j.1∈f)(h2:j.2.1∈s):j5 (ps++[j]) ((gs.filter λg=>!decide (g=f)&& !decide (g=s))++[f++s]):=λi hi=>by
 rcases XC.mp hi with z|z
 .obtain⟨g,hg,g1,g2⟩:=h i z
  by_cases e1:g=f
  .exact⟨f++s,by simp,by simp[e1▸g1],by simp[e1▸g2]⟩
  .by_cases e2:g=s
   .exact⟨f++s,by simp,by simp[e2▸g1],by simp[e2▸g2]⟩
   .exact⟨g,X6 _ (aae.mpr ⟨hg,by simp[e1,e2]⟩),g1,g2⟩
 .rw[Yh.mp z]
  exact⟨f++s,by simp,by simp[h1],by simp[h2]⟩
theorem JQ(h:∃g∈gs,x∈g):∃f∈gs,x∈f/\gIx (.lst .own ((gs.filter λg=>decide (x∈g)).map fr)) (.int 0)=some (fr f):=by
 obtain⟨g,q,N⟩:=h;have J:g∈gs.filter λg=>decide (x∈g):=aae.mpr ⟨q,by simpa using N⟩;obtain⟨f,F,_,V⟩:=iY (f:=fr) (l:=gs.filter λg=>decide (x∈g)) (i:=0) (Z9 0) (by have:=aec J;omega);obtain⟨h1,h2⟩:=aae.mp F;exact⟨f,h1,by simpa using h2,V⟩
def ClK(js:List Jt)(ns:List Str)(d:D):Prop:=∃gs:List (List Str),d= .lst .own ((lw (gs.map bh)).map (fL .own))/\Prt js ns gs/\j5 js gs
def ClG(N J:D)(js:List Jt)(ns:List Str)(k:Nat)(ρ:En):Prop:=∃(b:Bool)(zs:List Gz)(Y V O U F:Option D),ρ=[some N,some J,some (.lst (mkB b) (zs.map zD)),Y,V,O,U,F]/\Prt js ns (zs.map (·.2))/\j5 (js.take k) (zs.map (·.2))
variable{N J:D}
theorem wX(O:NK N ns)(hJ:JJ J js)(hn:ns.Nodup)(V:∀j∈js,j.1∈ns/\j.2.1∈ns)(Y:ns.length<=40):Wp (bU [N,J]) (ClK js ns):=by
 simp_arith![bU,fnP];refine bj (ClG N J js ns 0) (λQ hQ=>?_) ?_
 .simp_arith[-bC,O.v,O.s]
  refine⟨by omega,ww (Xi ns) ?_⟩;rw[Ri,Rk];refine⟨by decide,hQ _ ⟨true,_,_,_,_,_,_,rfl,?_,λj V=>by simp at V⟩⟩;rw[XN];exact Prt.start js ns
 rintro ρ0 ⟨b0,c2,y3,y4,y5,y6,y7,rfl,b4,b6⟩;refine bj (ClG N J js ns js.length) (λQ hQ=>?_) ?_
 .simp[lX,itS,aq,hJ.v,hJ.s,aR,aJ,w_ite]
  refine kJ (ClG N J js ns) ⟨b0,c2,y3,y4,y5,y6,y7,rfl,b4,b6⟩ ?_ (λρ h=>hQ _ (by simpa using h));rintro k d ρ hk ⟨b,zs,x3,x4,x5,x6,x7,rfl,q,a0⟩;rw[List.getElem?_map]at hk;cases a3:js[k]? with
  |none=>simp[a3]at hk
  |some j=>
   obtain rfl:jD j=d:=by simpa[a3]using hk
   have a9:j∈js:=Yt a3;obtain⟨b7,b9⟩:=V j a9;have a7:js.take (k+1)=js.take k++[j]:=by rw[aas,a3];rfl
   generalize b1:zs.map (·.2)=gs at q a0;have b3:fz (.lst (mkB b) (zs.map zD))= .lst .frz (gs.map fr):=by
    rw[fz,Vx,b1];cases b<;>rfl
   have c6:gs.length<=40:=Zq q.len Y;obtain⟨f,F,a5,ef⟩:=JQ (q.mem.mp b7);obtain⟨s,hs,a6,es⟩:=JQ (q.mem.mp b9);simp[jD,tgT,aL,cz,tgN,aA,aB,clean,az,au,aJ];refine bj (λρ=>ρ=[some N,some J,some (.lst .frz (gs.map fr)),some (.str j.1),some (.str j.2.1),some (.int j.2.2),some (fr f),x7]) (λQ hQ=>?_) ?_
   .simp_arith[-fz,b3,Gu,J8]
    refine⟨by omega,ww (Wa j.1 gs) ?_⟩;rw[ef,aJ];exact⟨RZ f,hQ _ rfl⟩
   rintro _ rfl;refine bj (λρ=>ρ=[some N,some J,some (.lst .frz (gs.map fr)),some (.str j.1),some (.str j.2.1),some (.int j.2.2),some (fr f),some (fr s)]) (λQ hQ=>?_) ?_
   .simp_arith[Gu,J8]
    refine⟨by omega,ww (Wa j.2.1 gs) ?_⟩;rw[es,aJ];exact⟨RZ s,hQ _ rfl⟩
   rintro _ rfl;have c5:=q.len1 F;have c3:=q.len1 hs;simp_arith[-view,yF,RQ];by_cases a4:f=s
   .simp![a4,Yd]
    refine⟨false,gs.map λg=>(false,g),_,_,_,_,_,by rw[XN];rfl,?_,?_⟩
    .rw[XN,show((λz:Gz=>z.2)∘λg=>(false,g))=id from rfl,aa1];exact q
    .rw[XN,show((λz:Gz=>z.2)∘λg=>(false,g))=id from rfl,aa1,a7]
     intro i hi;rcases XC.mp hi with z|z
     .exact a0 i z
     .rw[Yh.mp z]
      exact⟨f,F,a5,a4▸a6⟩
   .simp![a4,Zi]
    have c4:view false (.lst .frz (gs.map fr))= .lst .frz (gs.map fr):=by rw[view,Gu];rfl
    rw[Gu,J8];refine⟨by simp;omega,ww (Xj f s gs) ?_⟩;have U:bK (fr f) (fr s)=some (.lst .own ((f++s).map D.str)):=by
     simp[fr,bK];omega
    have c8:=aeu (λg=>!decide (g=f)&& !decide (g=s)) gs;have a2:bK (.lst .own ((gs.filter λg=>!decide (g=f)&& !decide (g=s)).map fr)) (.lst .own [.lst .own ((f++s).map D.str)])=some (.lst .own (((gs.filter λg=>!decide (g=f)&& !decide (g=s)).map λg=>((false,g):Gz)).map zD++[((true,f++s):Gz)].map zD)):=by
     have h1:((gs.filter λg=>!decide (g=f)&& !decide (g=s)).map fr).length+1<=1000000:=by rw[X5];omega
     simp![bK,Yj,Yx,aba];rw[X7 ⟨by decide,by decide,h1⟩,XN];rfl
    rw[U,aJ];simp![aZ,Yj,Yx,aJ,Yd,aba,Nat.reduceLeDiff];rw[a2,aJ,←YB];simp![az,au,Ri,Rk];refine⟨by decide,true,_,_,_,_,_,_,rfl,?_,?_⟩
    .rw[YB,XN,show((λz:Gz=>z.2)∘λg=>(false,g))=id from rfl,aa1]
     exact q.merge hn F hs a4 a9 a5 a6
    .rw[YB,XN,show((λz:Gz=>z.2)∘λg=>(false,g))=id from rfl,aa1,a7]
     exact Hb a0 F hs a5 a6
 rintro _ ⟨b,zs,x3,x4,x5,x6,x7,rfl,q,a0⟩;have c7:zs.length<=40:=by have:=q.len;simp at this;omega
 have a8:∀z∈zs,z.2.length<64:=λz hz=>by have:=q.len1 (List.mem_map_of_mem (f:=(·.2)) hz);omega
 have b5:view false (.lst (mkB b) (zs.map zD))= .lst (mkV false (mkB b)) (zs.map λz=>.lst (mkV false (mkB z.1)) (z.2.map D.str)):=by
  rw[view,bN,XN];congr 1;refine Yr λz _=>?_;simp[Z8,zD,view,dm]
 have b8:gh (zs.map λz=>D.lst (mkV false (mkB z.1)) (z.2.map D.str))=zs.map λz=>D.lst (mkV false (mkB z.1)) (z.2.map D.str):=by
  rw[bW,XN];refine Yr λz _=>?_;simp![Z8,fzo,fW];cases z.1<;>rfl
 have c1:cC (tpN 0) eTT (eAp fJ (ak (aq false 0) aF)) [none] (zs.map λz=>D.lst (mkV false (mkB z.1)) (z.2.map D.str))=some (((zs.map λz=>bh z.2)).map (fL .own)):=by
  rw[kh (p:=λ_=>true) (f:=λd=>match d with|.lst _ ds=>.lst .own ((bh ((strsOf ds).getD [])).map D.str)|_=>.non)]
  .rw[filter_tt,XN,XN]
   congr 1;refine Yr λz _=>?_;have:=jL z.2;simp[Z8,this,fL]
  .intro d hd
   obtain⟨z,hz,rfl⟩:=XM.mp hd;have:=jL z.2;have Z:view false (.lst (mkV false (mkB z.1)) (z.2.map D.str))= .lst (mkV false (mkB z.1)) (z.2.map D.str):=by
    rw[view,dm];cases z.1<;>rfl
   simp[tpN,aJ,eTT,eAp,ak,aq,aF,Z,sx,CZ (a8 z hz),this]
 simp_arith[-view,-mkV,b5,b8];refine⟨by omega,ww c1 ?_⟩;rw[sx,Jp (by simp;omega),aJ];have c0:∀rs:List (List Str),aA (rs.map (fL .own))=true:=λrs=>bu λd hd=>by
  obtain⟨z,_,rfl⟩:=XM.mp hd;simp[fL,az,cg]
 have b2:∀rs:List (List Str),aB (rs.map (fL .own))=true:=λrs=>bf λd hd=>by
  obtain⟨z,_,rfl⟩:=XM.mp hd;simp[fL,au,bR]
 simp![az,au,c0,b2];refine⟨by decide,zs.map (·.2),by rw[XN];rfl,q,?_⟩;rw[abf]at a0;exact a0
def lT(l:List Tt):D:=.lst .own (l.map tD)
def lead(ns:List Str)(f:Str->List Tt):D:=.dct .own (ns.map YF) (ns.map λy=>lT (f y))
def upF(f:Str->List Tt)(x:Str)(t:Tt):Str->List Tt:=λy=>if y=x then f y++[t]else f y
def adj(js:List Jt):Nat->Str->List Tt
 |0=>λ_=>[]
 |k+1=>match js[k]? with
  |some j=>upF (upF (adj js k) j.1 (k,1,j.2.1)) j.2.1 (k,-1,j.1)
  |none=>adj js k
theorem yp(J:x∈ns):∃i,gq (ns.map YF) (YF x)=some i/\ns[i]? =some x/\i<ns.length:=by
 have h:=kI (ys:=ns) (x:=x);rw[Zw J]at h;obtain⟨i,hi⟩:=adI.mp h;obtain⟨Y,q,_⟩:=YM.mp hi;have F:i<ns.length:=by simpa using Y
 refine⟨i,hi,?_,F⟩;rw[XX F];simpa using q
theorem Vb{g g':Str->α}{a:α}(hn:ns.Nodup)(hi:ns[i]? =some x)(Y:g' x=a)(q:∀y,y≠x->g' y=g y):(ns.map g).set i a=ns.map g':=by
 apply adp;intro k;rw[acb];have N:i<ns.length:=(XF.mp hi).1;by_cases e:i=k
 .subst e
  rw[X7 rfl,X7 (by simpa using N),List.getElem?_map,hi,←Y];rfl
 .rw[Yc e,List.getElem?_map,List.getElem?_map]
  cases J:ns[k]? with
  |none=>rfl
  |some y=>
   have Z:y≠x:=λz=>by
    rw[z]at J;obtain⟨h1,h2⟩:=XF.mp hi;obtain⟨F,O⟩:=XF.mp J;exact e ((adH hn).mp (h2.trans O.symm))
   simp[q y Z]
variable{t:Tt}{f:Str->List Tt}
theorem Ao{fa:En->Option (List D)}(hn:ns.Nodup)(h2:ρ[2]? =some (some (lead ns f)))(O:aq false i ρ=some (.str x))(J:x∈ns)(hl:(f x).length<1000000)(Y:fa ρ=some [tD t]) :
  lR bc 2 (zR 2 (i_ 2) (aq false i)) fa ρ=some (.nx (ρ.set 2 (some (lead ns (upF f x t))))):=by
 obtain⟨k,hk,a0,Z⟩:=yp J;have q:(ns.map λy=>lT (f y))[k]? =some (lT (f x)):=by rw[List.getElem?_map,a0];rfl
 have e1:ixP (lead ns f) (.str x)=some k:=by simp[ixP,lead,gH,hk,Z]
 have e2:kids (lead ns f)=ns.map λy=>lT (f y):=rfl;have e3:eQ [k] (lT (f x++[t])) (lead ns f)=lead ns (upF f x t):=by
  have hs:=Vb (g:=λy=>lT (f y)) (g':=λy=>lT (upF f x t y)) (a:=lT (f x++[t])) hn a0 (by simp[upF]) (λy V=>by simp[upF,V]);rw[eQ,e2,q];simp![eQ];rw[hs];rfl
 have F:gA [k] (lead ns f)=some (lT (f x)):=by simp[gA,e2,q]
 have N:bc (lT (f x)) [tD t]=some (lT (f x++[t]),.non):=by simp[lT,bc,hl]
 have e0:gA [] (lead ns f)=some (lead ns f):=rfl;have e6:zR 2 (i_ 2) (aq false i) ρ=some [k]:=by
  unfold zR i_;rw[h2,O];simp![Xz,e0,e1,e2,X5,Z,Yd,List.nil_append]
 have U:aA [tD t]=true/\aB [tD t]=true:=⟨rfl,rfl⟩;unfold lR pR;rw[e6,Y];simp![Xz];unfold upS;rw[h2];simp![F,Xz,U.1,U.2,and_self,Yd,N,Yq,e3]
theorem yZ{y:Str}:(upF f x t y).length<=(f y).length+1:=by unfold upF;split<;>simp
theorem zV(js:List Jt)(y:Str):∀k,(adj js k y).length<=2*k
 |0=>by simp[adj]
 |k+1=>by
  have Z:=zV js y k;rw[adj];cases V:js[k]? with
  |some j=>
   simp only;have h1:=yZ (f:=upF (adj js k) j.1 (k,1,j.2.1)) (x:=j.2.1) (y:=y) (t:=((k:Int),-1,j.1));have h2:=yZ (f:=adj js k) (x:=j.1) (y:=y) (t:=((k:Int),1,j.2.1));omega
  |none=>simp only;omega
theorem uA(js:List Jt)(y:Str){t:Tt}:∀k,t∈adj js k y↔∃(n:Nat)(j:Jt),n<k/\js[n]? =some j/\((j.1=y/\t=((n:Int),1,j.2.1))∨(j.2.1=y/\t=((n:Int),-1,j.1)))
 |0=>by simp[adj]
 |k+1=>by
  have Z:=uA js y (t:=t) k;have up:∀(f:Str->List Tt)(x:Str)(u:Tt),t∈upF f x u y↔t∈f y∨(x=y/\t=u):=λf x u=>by
   unfold upF;by_cases e:y=x
   .simp[e]
   .have e':¬x=y:=λz=>e z.symm
    simp[e,e']
  rw[adj];cases V:js[k]? with
  |none=>
   simp only;rw[Z];constructor
   .rintro⟨n,j,h1,h2⟩;exact⟨n,j,by omega,h2⟩
   .rintro⟨n,j,h1,h2,h3⟩
    refine⟨n,j,?_,h2,h3⟩;have:n≠k:=λz=>by rw[z,V]at h2;cases h2
    omega
  |some j=>
   simp only;rw[up,up,Z];constructor
   .rintro((⟨n,i,h1,h2⟩|h)|h)
    .exact⟨n,i,by omega,h2⟩
    .exact⟨k,j,by omega,V,.inl h⟩
    .exact⟨k,j,by omega,V,.inr h⟩
   .rintro⟨n,i,h1,h2,h3⟩
    by_cases e:n=k
    .subst e
     rw[V]at h2;cases h2;rcases h3 with z|z
     .exact .inl (.inr z)
     .exact .inr z
    .exact .inl (.inl ⟨n,i,by omega,h2,h3⟩)
def EbI(N J:D)(ns:List Str)(js:List Jt)(k:Nat)(ρ:En):Prop:=∃Y V O U:Option D,ρ=[some N,some J,some (lead ns (adj js k)),Y,V,O,U]
theorem Vm:∀ns:List Str,ji (tpN 0) eTT (aq false 0) (eAp aZ aF) [none] (ns.map D.str)=some (ns.map λy=>((YF y:Key),D.lst .own []))
 |[]=>rfl
 |x::r=>by
  rw[XH,ji,Vm r];simp_arith[bK,lu,g_,lL,jz,lA,nU,gLt,gGt,gGe,gIx,aZ,bT,cQ,oH,sY,jr,gIs,oA,atI,ixN,bc,iW,gSl,iV,g8,gH]
theorem Sh(O:NK N ns)(hJ:JJ J js)(hn:ns.Nodup)(V:∀j∈js,j.1∈ns/\j.2.1∈ns)(Y:ns.length<=1000)(a2:js.length<=1000):cZ [N,J]=some (lead ns (adj js js.length)):=by
 apply Wp.eq;simp_arith![cZ,fnP];refine bj (EbI N J ns js 0) (λQ q=>?_) ?_
 .have hnd:(ns.map λy=>(YF y:Key)).Nodup:=aaV.mpr (hn.imp λh e=>h (by cases e;rfl))
  simp_arith[-bC,vY,O.v,O.s,Vm];refine⟨by omega,?_⟩;rw[uY,XN,XN,show((λx:Key×D=>x.1)∘λy=>((YF y:Key),D.lst .own []))=YF from rfl];rw[X7 hnd,aJ];refine⟨⟨?_,?_⟩,q _ ⟨_,_,_,_,rfl⟩⟩
  .simp![az];rw[bu λd hd=>by obtain⟨y,_,rfl⟩:=XM.mp hd;rfl];rfl
  .simp![au];rw[bf λd hd=>by obtain⟨y,_,rfl⟩:=XM.mp hd;rfl];rfl
 rintro _ ⟨y3,y4,y5,y6,rfl⟩;refine bj (EbI N J ns js js.length) (λQ q=>?_) ?_
 .simp[lX,itE,aq,ak,aF,hJ.v,hJ.s,aR,aJ,w_ite]
  refine kJ (EbI N J ns js) ⟨y3,y4,y5,y6,rfl⟩ ?_ (λρ h=>q _ (by rw[nu]at h;simpa using h));rintro k d ρ hk ⟨x3,x4,x5,U,rfl⟩;rw[nF,List.getElem?_map]at hk;cases F:js[k]? with
  |none=>simp[F]at hk
  |some j=>
   obtain rfl:D.tup [.int (k:Int),jD j]=d:=by simpa[F]using hk
   obtain⟨a0,a1⟩:=V j (Yt F);have Z:k<js.length:=(XF.mp F).1;simp[jD,tgT,aL,cz,tgN,aA,aB,clean,az,au,aJ];refine bj (λρ=>ρ=[some N,some J,some (lead ns (upF (adj js k) j.1 (k,1,j.2.1))),some (.int k),some (.str j.1),some (.str j.2.1),some (.int j.2.2)]) (λQ q=>?_) ?_
   .refine ww (Ao (t:=((k:Int),1,j.2.1)) hn rfl (x:=j.1) (by simp[aq,view]) a0 (by have:=zV js j.1 k;omega) (by simp_arith[bK,lu,g_,lL,jz,lA,nU,gLt,gGt,gGe,gIx,aZ,bT,cQ,oH,sY,jr,gIs,oA,atI,ixN,bc,iW,gSl,iV,g8,tD])) (q _ rfl)
   rintro _ rfl;refine ww (Ao (t:=((k:Int),-1,j.1)) hn rfl (x:=j.2.1) (by simp[aq,view]) a1 (by have:=zV js j.2.1 k;have:=yZ (f:=adj js k) (x:=j.1) (y:=j.2.1) (t:=((k:Int),1,j.2.1));omega) (by simp_arith[bK,lu,g_,lL,jz,lA,nU,gLt,gGt,gGe,gIx,aZ,bT,cQ,oH,sY,jr,gIs,oA,atI,ixN,bc,iW,gSl,iV,g8,tD])) ⟨some (.int k),some (.str j.1),some (.str j.2.1),some (.int j.2.2),?_⟩;rw[adj,F];rfl
 rintro _ ⟨x3,x4,x5,U,rfl⟩;simp[iI,aJ]
theorem yt{c:En->Option (Bool×En)}{V:En->Option Fl}{Q:Fl->Prop}(I:Nat->En->Prop)(J:Nat)(hs:∀p ρ,I p ρ->Wp (c ρ) λb=>if b.1=true then(p<J/\Wp (V b.2) λr=>match r with
   |.nx ρ2=>I (p+1) ρ2
   |.cnt ρ2=>I (p+1) ρ2
   |.brk ρ2=>Q (.nx ρ2)
   |.ret d ρ2=>Q (.ret d ρ2))else Q (.nx b.2)):∀(q p:Nat)(ρ:En),I p ρ->J-p<q->Wp (jR c V q ρ) Q
 |0,p,ρ,_,h=>by omega
 |q+1,p,ρ,hI,h=>by
  obtain⟨⟨b,ρ1⟩,e1,w⟩:=hs p ρ hI;rw[jR,e1,Xz];cases b with
  |false=>
   simp![Yz,Zi]at w⊢;exact aJ.mpr w
  |true=>
   simp![Yd]at w⊢;obtain⟨F,r,e2,w⟩:=w;rw[e2];cases r with
   |nx ρ2=>exact yt I J hs q (p+1) ρ2 w (by omega)
   |cnt ρ2=>exact yt I J hs q (p+1) ρ2 w (by omega)
   |brk ρ2=>exact aJ.mpr w
   |ret d ρ2=>exact aJ.mpr w
abbrev Uw:=Str×List Pt
def pT(ps:List Pt):D:=.tup (ps.map ptD)
def wM(m:Mk)(us:List Uw):D:=.dct m ((us.map (·.1)).map YF) (us.map λu=>pT u.2)
theorem HJ(ps:List Pt):az (pT ps)=true/\au (pT ps)=true/\(∀b,view b (pT ps)=pT ps)/\fz (pT ps)=pT ps/\fzo (pT ps)=pT ps:=by
 refine⟨?_,?_,λb=>?_,?_,?_⟩<;>simp[pT,az,au,V3,V1,view,WM,fz,Wq,fzo,Vl]
theorem RD(b:Bool)(us:List Uw):e_ b (us.map λu=>pT u.2)=us.map λu=>pT u.2:=by
 rw[bN,XN];exact Yr λu _=>(HJ u.2).2.2.1 b
theorem Ww(us:List Uw):fzL (us.map λu=>pT u.2)=us.map λu=>pT u.2:=by
 rw[fV,XN];exact Yr λu _=>(HJ u.2).2.2.2.1
theorem VF(us:List Uw):aA (us.map λu=>pT u.2)=true:=bu λd hd=>by obtain⟨u,_,rfl⟩:=XM.mp hd;exact(HJ u.2).1
theorem Vv(us:List Uw):aB (us.map λu=>pT u.2)=true:=bf λd hd=>by obtain⟨u,_,rfl⟩:=XM.mp hd;exact(HJ u.2).2.1
variable{us:List Uw}
theorem Va:view false (wM .own us)=wM .brw us:=by simp![wM,view,RD];rfl
theorem Lp:view false (wM .frz us)=wM .frz us:=by simp![wM,view,RD];rfl
theorem Xd(h:m≠.scr):fz (wM m us)=wM .frz us:=by
 simp![wM,fz,Ww];cases m<;>first|rfl|exact absurd rfl h
theorem Dh(h:m= .own∨m= .frz):az (wM m us)=true/\au (wM m us)=true:=by
 rcases h with rfl|rfl<;>simp[wM,az,au,VF,Vv]
theorem Rh:kZ (.str x) (wM m us)=some (.bl (!decide (x∈us.map (·.1)))):=by
 simp![kZ,wM,uI,gH,Yq,kI]
theorem Vr(J:x∈us.map (·.1)):∃ps,(x,ps)∈us/\gIx (wM m us) (.str x)=some (pT ps):=by
 obtain⟨i,h1,h2,F⟩:=yp J;rw[List.getElem?_map]at h2;cases e:us[i]? with
 |none=>simp[e]at h2
 |some u=>
  have e2:u.1=x:=by simpa[e]using h2
  refine⟨u.2,e2▸Yt e,?_⟩;simp![gIx,wM,gH,Xz,h1,List.getElem?_map,e,Yq]
variable{ps:List Pt}
theorem Th(J:x∉us.map (·.1))(Y:us.length<1000000):iW (wM .own us) [.str x,pT ps]=some (wM .own (us++[(x,ps)]),.non):=by
 have h1:gq ((us.map (·.1)).map YF) (YF x)=none:=by
  cases e:gq ((us.map (·.1)).map YF) (YF x)with
  |none=>rfl
  |some j=>have:=kI (ys:=us.map (·.1)) (x:=x);rw[e]at this;exact absurd (of_decide_eq_true this.symm) J
 simp![iW,wM,gH,Xz,X5,Y,Yd,gR,h1,YB,XH,Yy]
theorem Ey{f s:List Str}(V:j∈js)(h1:j.2.1∈f)(h2:j.1∈s)(q:Con js f)(N:Con js s):Con js (f++s):=
 Jx aaN (sr V h2 h1 N q)
def ik(ns:List Str)(f:Str->List Tt):D:=.dct .frz (ns.map YF) (ns.map λy=>.lst .frz ((f y).map tD))
theorem Q3(b:Bool):view b (ik ns f)=ik ns f:=by
 simp![ik,view,bN,XN];congr 1;refine Yr λy _=>?_;simp![Z8,view,RN];rfl
theorem Kw(J:x∈ns):gIx (ik ns f) (.str x)=some (.lst .frz ((f x).map tD)):=by
 obtain⟨i,h1,h2,F⟩:=yp J;simp![gIx,ik,gH,Xz,h1,List.getElem?_map,h2,Yq]
def Led(js:List Jt)(h:Str)(ps:List Pt)(y:Str):Prop:=(∃l,mt js h ps=some l/\lst h l=y)/\∀p∈ps,p.2=1∨p.2= -1
variable{h:Str}
theorem JP{y:Str}{p:Pt}{z:Str}(F:Led js h ps y)(hs:stp js p=some (y,z))(N:p.2=1∨p.2= -1):Led js h (ps++[p]) z:=by
 obtain⟨⟨l,h1,h2⟩,J⟩:=F;refine⟨⟨l++[z],?_,GQ l h z⟩,λq V=>?_⟩
 .rw[Gy,h1,Xz,hs,Xz]
  simp[h2]
 .rcases XC.mp V with e|e
  .exact J q e
  .rw[Yh.mp e];exact N
structure Wy(js:List Jt)(ns:List Str)(h:Str)(us:List Uw):Prop where
 n:(us.map (·.1)).Nodup
 i:∀x∈us.map (·.1),x∈ns
 w:∀u∈us,Led js h u.2 u.1/\u.2.length<us.length
 c:Con js (us.map (·.1))
 h:∃r,us=(h,[])::r
theorem Wy.len(w:Wy js ns h us):us.length<=ns.length:=by
 have:=DW w.n w.i;simpa using this
theorem Wy.one(q:h∈ns):Wy js ns h [(h,[])]where
 n:=by simp
 i:=by simp[q]
 w:=λu O=>by
  obtain rfl:=Yh.mp O;exact⟨⟨⟨[],rfl,rfl⟩,by simp⟩,by simp⟩
 c:=uF h
 h:=⟨[],rfl⟩
theorem QD(h:t∈adj js js.length x):stp js (t.1,t.2.1)=some (x,t.2.2)/\(t.2.1=1∨t.2.1= -1)/\∃j∈js,(j.1=x/\j.2.1=t.2.2)∨(j.2.1=x/\j.1=t.2.2):=by
 obtain⟨n,j,h1,h2,F⟩:=(uA js x js.length).mp h;have J:j∈js:=Yt h2;rcases F with⟨e1,rfl⟩|⟨e1,rfl⟩
 .refine⟨?_,.inl rfl,j,J,.inl ⟨e1,rfl⟩⟩
  unfold stp;simp only;rw[X7 ⟨by omega,by omega⟩,ZG,h2];simp[ends,e1]
 .refine⟨?_,.inr rfl,j,J,.inr ⟨e1,rfl⟩⟩
  unfold stp;simp only;rw[X7 ⟨by omega,by omega⟩,ZG,h2];simp[ends,e1]
theorem Wy.add(w:Wy js ns h us)(J:(x,ps)∈us)(ht:t∈adj js js.length x)(V:∀j∈js,j.1∈ns/\j.2.1∈ns)(hn:t.2.2∉us.map (·.1)):Wy js ns h (us++[(t.2.2,ps++[(t.1,t.2.1)])]):=by
 obtain⟨O,Z,j,F,N⟩:=QD ht;have q:x∈us.map (·.1):=XM.mpr ⟨_,J,rfl⟩;refine⟨?_,?_,?_,?_,?_⟩
 .rw[YB,Yb]
  exact⟨w.n,by simp,λa Y b U e=>hn (by rw[show b=t.2.2 by simpa using U]at e;exact e▸Y)⟩
 .intro y hy
  rw[YB,XC]at hy;rcases hy with z|z
  .exact w.i y z
  .rw[show y=t.2.2 by simpa using z]
   rcases N with⟨_,e⟩|⟨_,e⟩
   .rw[←e];exact(V j F).2
   .rw[←e];exact(V j F).1
 .intro u hu
  rcases XC.mp hu with z|z
  .exact⟨(w.w u z).1,by have:=(w.w u z).2;simp;omega⟩
  .obtain rfl:=Yh.mp z
   exact⟨JP (w.w _ J).1 O Z,by have:=(w.w _ J).2;simp at this⊢;omega⟩
 .rw[YB]
  rcases N with⟨e1,e2⟩|⟨e1,e2⟩
  .exact sr F (e1▸q) (by simp[e2]) w.c (uF _)
  .exact Ey F (e1▸q) (by simp[e2]) w.c (uF _)
 .obtain⟨r,e⟩:=w.h
  exact⟨r++[(t.2.2,ps++[(t.1,t.2.1)])],by rw[e];rfl⟩
def ky(us:List Uw):List Str:=us.map (·.1)
def Aw(js:List Jt)(us:List Uw)(p:Nat):Prop:=∀i,i<p->∀x,(ky us)[i]? =some x->∀t∈adj js js.length x,t.2.2∈ky us
def WyD(js:List Jt)(ns:List Str)(h:Str)(d:D):Prop:=∃us,d=wM .own us/\Wy js ns h us/\∀x∈ky us,∀t∈adj js js.length x,t.2.2∈ky us
def WfI(L:D)(js:List Jt)(ns:List Str)(h:Str)(p:Nat)(ρ:En):Prop:=∃(us:List Uw)(V O U F:Option D),ρ=[some L,some (.str h),some (wM .own us),some (.lst .own (((ky us).drop p).map D.str)),V,O,U,F]/\Wy js ns h us/\p<=us.length/\Aw js us p
def WfJ(L:D)(js:List Jt)(ns:List Str)(h:Str)(p:Nat)(x:Str)(k:Nat)(ρ:En):Prop:=∃(us:List Uw)(O U F:Option D),ρ=[some L,some (.str h),some (wM .own us),some (.lst .own (((ky us).drop (p+1)).map D.str)),some (.str x),O,U,F]/\Wy js ns h us/\p+1<=us.length/\(ky us)[p]? =some x/\Aw js us p/\∀t∈(adj js js.length x).take k,t.2.2∈ky us
theorem jV(us:List Uw):(ky us).length=us.length:=by simp[ky]
theorem vO(us:List Uw)(u:Uw):ky (us++[u])=ky us++[u.1]:=by simp[ky]
variable{k:Nat}
theorem WN{l:List Tt}(h:(l.map tD)[k]? =some d):∃t,l[k]? =some t/\d=tD t:=by
 rw[List.getElem?_map]at h;cases e:l[k]? with
 |none=>simp[e]at h
 |some t=>exact⟨t,rfl,by simpa[e]using h.symm⟩
theorem Ua(hh:h∈ns)(V:∀j∈js,j.1∈ns/\j.2.1∈ns)(Y:ns.length<=1000):Wp (eX [ik ns (adj js js.length),.str h]) (WyD js ns h):=by
 simp_arith![eX,fnP];refine bj (λρ=>ρ=[some (ik ns (adj js js.length)),some (.str h),some (wM .own [(h,[])]),none,none,none,none,none]) (λQ q=>?_) ?_
 .have:uY [((YF h:Key),D.tup [])]=some (wM .own [(h,[])]):=by
   unfold uY;rw[X7 (by simp)];rfl
  simp_arith[bK,lu,g_,lL,jz,lA,nU,gLt,gGt,gGe,gIx,aZ,bT,cQ,oH,sY,jr,gIs,oA,atI,ixN,bc,iW,gSl,iV,g8,Ce,vV,Gd,gH,this];exact⟨Dh (.inl rfl),q _ rfl⟩
 rintro _ rfl;refine bj (λρ=>ρ=[some (ik ns (adj js js.length)),some (.str h),some (wM .own [(h,[])]),some (.lst .own [.str h]),none,none,none,none]) (λQ q=>?_) ?_
 .simp_arith[bK,lu,g_,lL,jz,lA,nU,gLt,gGt,gGe,gIx,aZ,bT,cQ,oH,sY,jr,gIs,oA,atI,ixN,bc,iW,gSl,iV,g8]
  exact q _ rfl
 rintro _ rfl;refine bj (λρ=>∃p,WfI (ik ns (adj js js.length)) js ns h p ρ/\∀us x4 x5 x6 x7 m,ρ=[some (ik ns (adj js js.length)),some (.str h),some (wM .own us),some m,x4,x5,x6,x7]->us.length<=p) (λQ q=>?_) ?_
 .refine yt (WfI (ik ns (adj js js.length)) js ns h) ns.length ?_ 1000000 0 _ ⟨[(h,[])],none,none,none,none,rfl,Wy.one hh,by simp,λi hi=>absurd hi (acR i)⟩ (by omega)
  rintro p ρ ⟨us,x4,x5,x6,x7,rfl,hw,F,Z⟩;have c6:=hw.len;cases e:(ky us).drop p with
  |nil=>
   have a7:us.length<=p:=by
    have:=congrArg Z0 e;rw[aa7,jV]at this;simp at this;omega
   simp[ug,pZ,aq,view,e_,truth,cV,aJ,e];refine q _ ⟨p,⟨us,x4,x5,x6,x7,by rw[e];rfl,hw,F,Z⟩,?_⟩;intro b3 y4 y5 y6 y7 m e2;simp![afL,aac]at e2;have:=e2.2.2.1;have h2:us.map (λu=>pT u.2)=b3.map λu=>pT u.2:=by unfold wM at this;injection this
   have:=congrArg Z0 h2;simp at this;omega
  |cons x r=>
   have J:(ky us)[p]? =some x:=by
    have:=congrArg (λl=>l[0]?) e;simpa using this
   have a7:p<us.length:=by have:=(XF.mp J).1;rw[jV]at this;exact this
   have O:r=(ky us).drop (p+1):=by
    have:=congrArg List.tail e;simpa using this.symm
   have b9:x∈ns:=hw.i x (Yt J);have U:((ky us).drop p).length<1000000:=by rw[aa7,jV];omega
   rw[e]at U;simp[ug,pZ,aq,view,e_,truth,cV,aJ];refine⟨by omega,?_⟩;refine bj (WfJ (ik ns (adj js js.length)) js ns h p x 0) (λQ q=>?_) ?_
   .have hpop:jN (.lst .own ((x::r).map D.str)) [.int 0]=some (.lst .own (r.map D.str),.str x):=by
     simp![jN,X5,U,Yd];simp[ixN]
    have N:upS jN 3 [] [.int 0] [some (ik ns (adj js js.length)),some (.str h),some (wM .own us),some (.lst .own ((x::r).map D.str)),x4,x5,x6,x7]=some (.str x,[some (ik ns (adj js js.length)),some (.str h),some (wM .own us),some (.lst .own (r.map D.str)),x4,x5,x6,x7]):=by
     unfold upS;simp![Yo,Yg,gA,Xz];rw[X7 ⟨rfl,rfl⟩,hpop];rfl
    simp![XH]at N;simp[fj,pR,i_,ak,aF,eC,cV,aR,aJ,N,tgN,az,au,clean];exact q _ ⟨us,x5,x6,x7,by rw[O],hw,a7,J,Z,by simp⟩
   rintro _ ⟨b8,y5,y6,y7,rfl,b5,b6,c2,b7,_⟩;have a8:bC (.lst .frz ((adj js js.length x).map tD))=some (true,(adj js js.length x).map tD):=by simp[bC,clean,az,au,Rz,Rj,V9]
   simp[lX,itS,e2,aq,Q3,view,aR,aJ,Kw b9,a8,-List.map_drop];refine kJ (WfJ (ik ns (adj js js.length)) js ns h p x) ⟨b8,y5,y6,y7,rfl,b5,b6,c2,b7,by simp⟩ ?_ ?_
   .rintro k d ρ hk ⟨us1,z5,z6,z7,rfl,hw1,hp1,hx1,hc1,hd1⟩
    obtain⟨t,ht,rfl⟩:=WN hk;have b4:t∈adj js js.length x:=Yt ht;have a6:(adj js js.length x).take (k+1)=(adj js js.length x).take k++[t]:=by rw[aas,ht];rfl
    have c4:=hw1.len;have b2:x∈us1.map (·.1):=Yt hx1;obtain⟨ps,b1,c1⟩:=Vr (m:=.brw) b2;have c3:ps.length<us1.length:=(hw1.w _ b1).2;simp[tD,tgT,aL,cz,tgN,aA,aB,clean,az,au,aJ,-List.map_drop];simp[sIf,eB,e2,aq,Va,view,Rh,isB,aR,aJ,w_ite,-List.map_drop];by_cases a0:t.2.2∈us1.map (·.1)
    .have hin':∃a,(t.2.2,a)∈us1:=by obtain⟨u,hu,e⟩:=XM.mp a0;exact⟨u.2,by rw[←e];exact hu⟩
     simp[hin',iM,aJ,-List.map_drop];refine⟨us1,_,_,_,rfl,hw1,hp1,hx1,hc1,λu hu=>?_⟩;rw[a6]at hu;rcases XC.mp hu with z|z
     .exact hd1 u z
     .rw[Yh.mp z];exact a0
    .have hin':¬∃a,(t.2.2,a)∈us1:=λ⟨a,z⟩=>a0 (XM.mpr ⟨_,z,rfl⟩)
     simp[hin',-List.map_drop];have a5:bK (pT ps) (.tup [.tup [.int t.1,.int t.2.1]])=some (pT (ps++[(t.1,t.2.1)])):=by
      simp[pT,bK,ptD];omega
     refine bj (λρ=>ρ=[some (ik ns (adj js js.length)),some (.str h),some (wM .own (us1++[(t.2.2,ps++[(t.1,t.2.1)])])),some (.lst .own (((ky us1).drop (p+1)).map D.str)),some (.str x),some (.int t.1),some (.int t.2.1),some (.str t.2.2)]) (λQ q=>?_) ?_
     .have hset:=Th (us:=us1) (x:=t.2.2) (ps:=ps++[(t.1,t.2.1)]) a0 (by omega)
      have a4:=HJ (ps++[(t.1,t.2.1)]);simp[cT,e2,aq,Va,view,c1,eAp,ak,aF,bT,a5,aR,cV,aJ,tU,i_,upS,gA,eQ,hset,aA,aB,az,au,a4.1,a4.2.1,clean,-List.map_drop];exact q _ rfl
     rintro _ rfl;have c0:(((ky us1).drop (p+1)).map D.str).length<1000000:=by rw[X5,aa7,jV];omega
     have a9:bc (.lst .own (((ky us1).drop (p+1)).map D.str)) [.str t.2.2]=some (.lst .own (((ky us1).drop (p+1)).map D.str++[.str t.2.2]),.non):=by
      simp![bc,c0,Yd]
     simp![lR,pR,i_,ak,aF,aq,view,Yo,Yg,Xz,Yq,upS,gA,aA,aB,az,au,aal,and_self,Yd,a9,eQ,aJ,YJ,YZ];have a3:(ky (us1++[(t.2.2,ps++[(t.1,t.2.1)])])).drop (p+1)=(ky us1).drop (p+1)++[t.2.2]:=by
      rw[vO,List.drop_append_of_le_length (by rw[jV];exact hp1)]
     have a1:∀y,y∈ky us1->y∈ky (us1++[(t.2.2,ps++[(t.1,t.2.1)])]):=λy hy=>by rw[vO];exact X6 _ hy
     have b0:∀i y,i<us1.length->(ky (us1++[(t.2.2,ps++[(t.1,t.2.1)])]))[i]? =some y->(ky us1)[i]? =some y:=λi y hi e=>by
      rw[vO,YL (by rw[jV];exact hi)]at e;exact e
     refine⟨us1++[(t.2.2,ps++[(t.1,t.2.1)])],_,_,_,by rw[a3,YB];rfl,hw1.add b1 b4 V a0,by simp;omega,?_,λi hi y hy u hu=>a1 _ (hc1 i hi y (b0 i y (by omega) hy) u hu),λu hu=>?_⟩
     .rw[vO,YL (by rw[jV];omega)];exact hx1
     .rw[a6]at hu
      rcases XC.mp hu with z|z
      .exact a1 _ (hd1 u z)
      .rw[Yh.mp z,vO];simp
   .rintro ρ ⟨us1,z5,z6,z7,rfl,hw1,hp1,hx1,hc1,hd1⟩
    refine⟨us1,_,z5,z6,z7,rfl,hw1,hp1,λi hi y hy=>?_⟩;by_cases ei:i=p
    .subst ei
     rw[hx1]at hy;cases hy;rw[X5,abf]at hd1;exact hd1
    .exact hc1 i (by omega) y hy
 rintro _ ⟨p,⟨us,x4,x5,x6,x7,rfl,hw,F,Z⟩,a2⟩;have c5:=a2 us _ _ _ _ _ rfl;simp[iI,aJ];refine⟨us,rfl,hw,λx J=>?_⟩;obtain⟨i,hi,rfl⟩:=Y7 J;exact Z i (by rw[jV]at hi;omega) _ (XX hi)
theorem Xx(h:g.length<64):fJ [.lst m (g.map D.str)]=some (.lst .own ((bh g).map D.str)):=CZ (m:=m) h
theorem Xg(h:g.length<64):fJ [.tup (g.map D.str)]=some (.lst .own ((bh g).map D.str)):=by
 simp![fJ,X5,h,Yd,jL,Yq];rfl
theorem xm:∀l:List Str,t8 (l.map YF)=some l
 |[]=>rfl
 |x::r=>by simp[t8,xm r]
theorem CW(g:List Str):abm (λa b=>ltS [b] [a]=false) (bh g):=by
 unfold bh;have h1:=jH (g.map λx=>[x]);have h2:∀k∈lw (g.map λx=>[x]),∃x,k=[x]:=λk J=>by
  obtain⟨x,_,rfl⟩:=XM.mp ((eV _).mem_iff.mp J);exact⟨x,rfl⟩
 refine aaV.mpr (ab2 (λ{a b} Y U O=>?_) h1);obtain⟨x,rfl⟩:=h2 a Y;obtain⟨y,rfl⟩:=h2 b U;exact O
theorem Dp{s:Str}(hs:s∈g)(J:∀x∈g,ltS [x] [s]=false):∃t,bh g=s::t:=by
 have F:=fG g;cases e:bh g with
 |nil=>rw[e]at F;have:=F.symm.eq_nil;rw[this]at hs;cases hs
 |cons m t=>
  have O:=CW g;rw[e]at O F;have q:m∈g:=F.mem_iff.mp (by simp);have h1:=J m q;have h2:ltS [s] [m]=false:=by
   rcases XJ.mp (F.mem_iff.mpr hs)with z|z
   .rw[z];exact jq _
   .exact(Zz.mp O).1 s z
  have N:=nP [s] [m] h2 h1;exact⟨t,by rw[List.cons.inj N |>.1]⟩
theorem M7{a b:Str}{r q:List Str}(Z:a≠b)(h:ltS [b] [a]=false):ltS (b::q) (a::r)=false:=by
 have F:¬b=a:=λz=>Z z.symm;simp![ltS,F,Zi]at h⊢;exact h
structure TrC(js:List Jt)(ns:List Str)(us:List Uw):Prop where
 w:∃h,Wy js ns h us
 c:∀x∈ky us,∀t∈adj js js.length x,t.2.2∈ky us
theorem TrC.both(h:TrC js ns us)(V:j∈js):j.1∈ky us↔j.2.1∈ky us:=by
 obtain⟨n,hn,rfl⟩:=Y7 V;have q:js[n]? =some js[n]:=XX hn;constructor
 .intro z
  exact h.c _ z ((n:Int),1,js[n].2.1) ((uA js _ js.length).mpr ⟨n,js[n],hn,q,.inl ⟨rfl,rfl⟩⟩)
 .intro z
  exact h.c _ z ((n:Int),-1,js[n].1) ((uA js _ js.length).mpr ⟨n,js[n],hn,q,.inr ⟨rfl,rfl⟩⟩)
structure TrS(js:List Jt)(ns:List Str)(k:Nat)(hs:List (List Uw)):Prop where
 t:∀us∈hs,TrC js ns us/\∃(i:Nat)(s:Str)(r:List Str),i<k/\(bh ns)[i]? =some s/\bh (ky us)=s::r/\Wy js ns s us
 n:(ky hs.flatten).Nodup
 c:∀i,i<k->∀x,(bh ns)[i]? =some x->x∈ky hs.flatten
 r:RiL ((hs.map ky).map bh)
theorem jK:∀hs:List (List Uw),ky hs.flatten=(hs.map ky).flatten
 |[]=>rfl
 |u::r=>by
  have:=jK r;unfold ky at this⊢;simp![aaw,YB,XH,this]
theorem TrS.nil(js:List Jt)(ns:List Str):TrS js ns 0 []:=⟨λ_ h=>(by cases h),List.nodup_nil,λi hi=>absurd hi (acR i),afq⟩
variable{hs:List (List Uw)}
theorem TrS.skip(h:TrS js ns k hs)(J:(bh ns)[k]? =some x)(q:x∈ky hs.flatten):TrS js ns (k+1) hs:=by
 refine⟨λus O=>?_,h.n,λi hi y V=>?_,h.r⟩
 .obtain⟨a,i,s,r,h1,h2⟩:=h.t us O
  exact⟨a,i,s,r,by omega,h2⟩
 .by_cases e:i=k
  .subst e;rw[J]at V;cases V;exact q
  .exact h.c i (by omega) y V
theorem TrS.add(h:TrS js ns k hs)(hn:ns.Nodup)(J:(bh ns)[k]? =some x)(a7:x∉ky hs.flatten)(N:Wy js ns x us)(Z:∀y∈ky us,∀t∈adj js js.length y,t.2.2∈ky us):TrS js ns (k+1) (hs++[us])/\∀y∈ky us,y∉ky hs.flatten:=by
 have a2:x∈ky us:=by obtain⟨r,e⟩:=N.h;rw[e];simp[ky]
 have a0:∀y∈ky us,y∉ky hs.flatten:=λy hy a5=>by
  rw[jK,abg]at a5;obtain⟨l,hl,a6⟩:=a5;obtain⟨vs,a1,rfl⟩:=XM.mp hl;have b0:x∉ky vs:=λz=>a7 (by rw[jK,abg];exact⟨_,XM.mpr ⟨vs,a1,rfl⟩,z⟩);obtain⟨j,V,j1,j2,j3⟩:=N.c (·∈ky vs) ⟨y,hy,a6⟩ ⟨x,a2,b0⟩;have U:=(h.t vs a1).1.both V;rcases j3 with⟨z1,z2⟩|⟨z1,z2⟩
  .exact z2 (U.mp z1)
  .exact z1 (U.mpr z2)
 have a8:(bh ns).Nodup:=(fG ns).nodup_iff.mpr hn;have hS:=aao.mp (CW ns);have a4:k<(bh ns).length:=(XF.mp J).1;have O:(bh ns)[k]=x:=(XF.mp J).2;obtain⟨t,ht⟩:∃t,bh (ky us)=x::t:=by
  refine Dp a2 λy hy=>?_;have a9:y∈bh ns:=(fG ns).mem_iff.mpr (N.i y hy);obtain⟨i,hi,rfl⟩:=Y7 a9;rcases adv i k with z|z|z
  .exact absurd (h.c i z _ (XX hi)) (a0 _ hy)
  .subst z;rw[O];exact jq _
  .rw[←O];exact hS k i a4 hi z
 refine⟨⟨λvs hv=>?_,?_,λi hi y hy=>?_,?_⟩,a0⟩
 .rcases XC.mp hv with z|z
  .obtain⟨a,i,s,r,h1,h2⟩:=h.t vs z
   exact⟨a,i,s,r,by omega,h2⟩
  .rw[Yh.mp z]
   exact⟨⟨⟨x,N⟩,Z⟩,k,x,t,by omega,J,ht,N⟩
 .rw[acT,aaw,adU,Ym]
  unfold ky;rw[YB,Yb];exact⟨h.n,N.n,λa Y b U e=>a0 b U (e▸Y)⟩
 .rw[acT,aaw,adU,Ym]
  unfold ky;rw[YB,XC];by_cases e:i=k
  .subst e;rw[J]at hy;cases hy;exact .inr a2
  .exact .inl (h.c i (by omega) y hy)
 .rw[YB,YB]
  refine abH.mpr ⟨h.r,by simp,λa Y b U=>?_⟩;obtain⟨l,hl,rfl⟩:=XM.mp Y;obtain⟨vs,a1,rfl⟩:=XM.mp hl;obtain rfl:b=bh (ky us):=by simpa using U
  obtain⟨_,i,s,r,h1,h2,F,_⟩:=h.t vs a1;rw[F,ht];have q:i<(bh ns).length:=(XF.mp h2).1;have a3:(bh ns)[i]=s:=(XF.mp h2).2;refine M7 (λe=>?_) (by rw[←O,←a3];exact hS i k q a4 h1);have:=(adH a8).mp (a3.trans (e.trans O.symm));omega
theorem TrS.fin(h:TrS js ns (bh ns).length hs)(hn:ns.Nodup)(V:∀j∈js,j.1∈ns/\j.2.1∈ns):Prt js ns (hs.map ky)/\j5 js (hs.map ky)/\RiL ((hs.map ky).map bh):=by
 have Z:∀x∈ns,x∈ky hs.flatten:=λx J=>by
  obtain⟨i,hi,rfl⟩:=Y7 ((fG ns).mem_iff.mpr J);exact h.c i hi _ (XX hi)
 refine⟨⟨?_,λg q=>?_,λg q=>?_⟩,λj F=>?_,h.r⟩
 .rw[←jK]
  refine(aaR h.n hn).mpr λx=>⟨λJ=>?_,Z x⟩;rw[jK,abg]at J;obtain⟨l,Y,U⟩:=J;obtain⟨us,O,rfl⟩:=XM.mp Y;obtain⟨⟨⟨y,N⟩,_⟩,_⟩:=h.t us O;exact N.i x U
 .obtain⟨us,O,rfl⟩:=XM.mp q
  obtain⟨⟨⟨y,N⟩,_⟩,_⟩:=h.t us O;obtain⟨r,e⟩:=N.h;rw[e];simp[ky]
 .obtain⟨us,O,rfl⟩:=XM.mp q
  obtain⟨⟨⟨y,N⟩,_⟩,_⟩:=h.t us O;exact N.c
 .have h1:=Z j.1 (V j F).1
  rw[jK,abg]at h1;obtain⟨l,Y,U⟩:=h1;obtain⟨us,O,rfl⟩:=XM.mp Y;exact⟨_,Y,U,((h.t us O).1.both F).mp U⟩
theorem FN:∀{es:List (Key×D)}{ks:List Key}{ds:List D},ks.length=ds.length->(es.map (·.1)).Nodup->(∀k∈es.map (·.1),k∉ks)->bA ks ds es=(ks++es.map (·.1),ds++es.map (·.2))
 |[],ks,ds,_,_,_=>by simp[bA]
 |p::r,ks,ds,hl,hn,hd=>by
  rw[XH,Yn]at hn;have h1:gq ks p.1=none:=zW (hd p.1 (by simp));rw[bA,gR,h1];simp only;rw[FN (ks:=ks++[p.1]) (ds:=ds++[p.2]) (by simp[hl]) hn.2 λk J z=>?_]
  .simp
  .rcases XC.mp z with y|y
   .exact hd k (by simp[XM.mp J]) y
   .rw[Yh.mp y]at J;exact hn.1 J
theorem UG{vs:List Uw}(hn:(ky us).Nodup)(hd:∀y∈ky us,y∉ky vs)(Y:vs.length+us.length<=50000):jl (wM .own vs) [wM .frz us]=some (wM .own (vs++us),.non):=by
 have e1:(((us.map (·.1)).map (YF:Str->Key)).zip (us.map λu=>pT u.2))=us.map λu=>((YF u.1:Key),pT u.2):=by
  rw[XN,List.zip_map'];rfl
 have q:∀{l:List Str}{x:Str},(YF x:Key)∈l.map YF↔x∈l:=λ{l x}=>by
  rw[XM];exact⟨λ⟨y,h1,h2⟩=>by cases h2;exact h1,λh=>⟨x,h,rfl⟩⟩
 have e2:=FN (es:=us.map λu=>((YF u.1:Key),pT u.2)) (ks:=(vs.map (·.1)).map YF) (ds:=vs.map λu=>pT u.2) (by simp) (by
  rw[XN];have:((λx:Key×D=>x.1)∘λu:Uw=>((YF u.1:Key),pT u.2))=YF∘λu:Uw=>u.1:=rfl;rw[this,←XN];exact aaV.mpr (hn.imp λh e=>h (by cases e;rfl))) (λk J=>by
  rw[XN]at J;obtain⟨u,O,rfl⟩:=XM.mp J;intro z;exact hd u.1 (XM.mpr ⟨u,O,rfl⟩) (q.mp z))
 simp![jl,wM,X5,Y,e1,e2];simp[wM]
theorem Sd(us:List Uw):dR (wM .own us)=true:=by
 have h2:∀l:List Pt,b_ (l.map ptD)=true:=by
  intro l
  induction l with
  |nil=>rfl
  |cons p r Z=>rw[XH,b_,Z];rfl
 have h1:b_ (us.map λu=>pT u.2)=true:=by
  induction us with
  |nil=>rfl
  |cons u r Z=>rw[XH,b_,Z,pT,dR,h2];rfl
 simp![wM,dR,h1];rfl
def TrD(js:List Jt)(ns:List Str)(d:D):Prop:=∃hs:List (List Uw),d= .lst .own (hs.map (wM .frz))/\TrS js ns (bh ns).length hs
structure NS(N:D)(ns:List Str):Prop where
 k:NK N ns
 s:fJ [N]=some (.lst .own ((bh ns).map D.str))
theorem NS.lst{ns:List Str}(h:ns.length<=40):NS (.lst .frz (ns.map D.str)) ns:=⟨NK.lst ns,Xx (by omega)⟩
theorem NS.tup{ns:List Str}(h:ns.length<=40):NS (.tup (ns.map D.str)) ns:=⟨NK.tup ns,Xg (by omega)⟩
def TrI(N J:D)(js:List Jt)(ns:List Str)(k:Nat)(ρ:En):Prop:=∃(hs:List (List Uw))(O U:Option D),ρ=[some N,some J,some (lead ns (adj js js.length)),some (wM .own hs.flatten),some (.lst .own (hs.map (wM .frz))),O,U]/\TrS js ns k hs
theorem Wi(hs:List (List Uw)):aA (hs.map (wM .frz))=true:=bu λd hd=>by obtain⟨u,_,rfl⟩:=XM.mp hd;exact(Dh (.inr rfl)).1
theorem Wu(hs:List (List Uw)):aB (hs.map (wM .frz))=true:=bf λd hd=>by obtain⟨u,_,rfl⟩:=XM.mp hd;exact(Dh (.inr rfl)).2
theorem TrS.len(h:TrS js ns k hs):hs.flatten.length<=ns.length/\hs.length<=ns.length:=by
 have h1:(ky hs.flatten).length<=ns.length:=DW h.n λx J=>by
  rw[jK,abg]at J;obtain⟨l,Y,U⟩:=J;obtain⟨us,O,rfl⟩:=XM.mp Y;obtain⟨⟨⟨y,N⟩,_⟩,_⟩:=h.t us O;exact N.i x U
 have h2:=vR (gs:=hs.map ky) λg q=>by
  obtain⟨us,O,rfl⟩:=XM.mp q;obtain⟨⟨⟨y,N⟩,_⟩,_⟩:=h.t us O;obtain⟨r,e⟩:=N.h;rw[e];simp[ky]
 rw[←jK,X5]at h2;rw[jV]at h1;exact⟨h1,by rw[jV]at h2;omega⟩
theorem PN(O:NS N ns)(hJ:JJ J js)(hn:ns.Nodup)(V:∀j∈js,j.1∈ns/\j.2.1∈ns)(Y:ns.length<=40)(a8:js.length<=1000):Wp (ig [N,J]) (TrD js ns):=by
 simp_arith![ig,fnP];refine bj (λρ=>ρ=[some N,some J,some (lead ns (adj js js.length)),none,none,none,none]) (λQ q=>?_) ?_
 .have he:=Sh O.k hJ hn V (by omega) a8
  have F:az (lead ns (adj js js.length))=true/\au (lead ns (adj js js.length))=true:=by
   constructor
   .simp![lead,az];rw[bu λd hd=>by obtain⟨y,_,rfl⟩:=XM.mp hd;simp[lT,az,Rz]];rfl
   .simp![lead,au];rw[bf λd hd=>by obtain⟨y,_,rfl⟩:=XM.mp hd;simp[lT,au,Rj]];rfl
  simp[cT,eAp,bG,ak,aF,aq,O.k.v,hJ.v,fzL,O.k.f,hJ.f,he,aA,aB,O.k.b,O.k.o,hJ.b,hJ.o,aR,cV,aJ,tgN,clean,F.1,F.2];exact q _ rfl
 rintro _ rfl;refine bj (λρ=>ρ=[some N,some J,some (lead ns (adj js js.length)),some (wM .own []),none,none,none]) (λQ q=>?_) ?_
 .simp_arith[K3]
  exact q _ rfl
 rintro _ rfl;refine bj (λρ=>ρ=[some N,some J,some (lead ns (adj js js.length)),some (wM .own []),some (.lst .own []),none,none]) (λQ q=>?_) ?_
 .simp_arith[bK,lu,g_,lL,jz,lA,nU,gLt,gGt,gGe,gIx,aZ,bT,cQ,oH,sY,jr,gIs,oA,atI,ixN,bc,iW,gSl,iV,g8,-az,-au]
  exact q _ rfl
 rintro _ rfl;have a6:∃d,view false (lead ns (adj js js.length))=d/\fz d=ik ns (adj js js.length):=by
  refine⟨_,rfl,?_⟩;simp![lead,ik,view,fz,bN,fV,XN];congr 1;refine Yr λy _=>?_;simp![Z8,lT,view,fz,RN,fV,XN];rfl
 obtain⟨Lv,a4,a9⟩:=a6;refine bj (TrI N J js ns (bh ns).length) (λQ q=>?_) ?_
 .have hseq:bC (.lst .own ((bh ns).map D.str))=some (true,(bh ns).map D.str):=by simp[bC,clean,az,au,cg,bR,fW]
  simp[lX,itS,eAp,ak,aF,aq,O.k.v,O.s,hseq,aR,aJ,w_ite];refine kJ (TrI N J js ns) ⟨[],none,none,rfl,TrS.nil js ns⟩ ?_ (λρ h=>q _ (by rw[X5]at h;exact h));rintro k d ρ hk ⟨hs,x5,x6,rfl,U⟩;rw[List.getElem?_map]at hk;cases a0:(bh ns)[k]? with
  |none=>simp[a0]at hk
  |some x=>
   obtain rfl:D.str x=d:=by simpa[a0]using hk
   have a7:x∈ns:=(fG ns).mem_iff.mp (Yt a0);obtain⟨b0,b1⟩:=U.len;simp[tgN,az,au,clean,aJ];simp[sIf,eB,e2,aq,Va,view,Rh,isB,aR,aJ,w_ite,-List.mem_map,-List.mem_flatten,-List.map_flatten];by_cases a1:x∈ky hs.flatten
   .have hin':x∈hs.flatten.map (·.1):=a1
    simp![hin',Yd,iM,aJ];exact⟨hs,_,_,rfl,U.skip a0 a1⟩
   .have hin':¬x∈hs.flatten.map (·.1):=a1
    simp![hin',Zi];obtain⟨_,e,us,rfl,hw,Z⟩:=Ua a7 V (by omega);have b2:=hw.len;obtain⟨a5,a2⟩:=U.add hn a0 a1 hw Z;refine bj (λρ=>ρ=[some N,some J,some (lead ns (adj js js.length)),some (wM .own hs.flatten),some (.lst .own (hs.map (wM .frz))),some (.str x),some (wM .own us)]) (λQ q=>?_) ?_
    .have F:=Dh (us:=us) (m:=.own) (.inl rfl)
     simp[cT,eAp,bG,ak,aF,aq,a4,view,fzL,a9,fz,e,Sd,aR,cV,aJ,tgN,clean,F.1,F.2];exact q _ rfl
    rintro _ rfl;refine bj (λρ=>ρ=[some N,some J,some (lead ns (adj js js.length)),some (wM .own (hs.flatten++us)),some (.lst .own (hs.map (wM .frz))),some (.str x),some (wM .frz us)]) (λQ q=>?_) ?_
    .have hup:=UG (vs:=hs.flatten) (us:=us) hw.n a2 (by omega)
     have F:=Dh (us:=us) (m:=.frz) (.inr rfl);simp[sFz,tH,Xd,lR,pR,i_,ak,aF,aq,Lp,upS,gA,eQ,aA,aB,F.1,F.2,hup,aR,cV,aJ];exact q _ rfl
    rintro _ rfl;have F:=Dh (us:=us) (m:=.frz) (.inr rfl);have a3:bc (.lst .own (hs.map (wM .frz))) [wM .frz us]=some (.lst .own (hs.map (wM .frz)++[wM .frz us]),.non):=by
     simp![bc,X5,show hs.length<1000000 by omega,Yd]
    simp[lR,pR,i_,ak,aF,aq,Lp,upS,gA,eQ,aA,aB,F.1,F.2,a3,aR,cV,aJ];refine⟨hs++[us],some (.str x),some (wM .frz us),?_,a5⟩;simp
 rintro _ ⟨hs,x5,x6,rfl,U⟩;simp[iI,aJ];exact⟨hs,rfl,U⟩
variable{x:Int}
theorem Vp:dN [.int x,.tup [.ty "list",.ty "tuple"]]=some (.bl false)/\dN [.int x,.ty "str"]=some (.bl false)/\dN [.int x,.ty "int"]=some (.bl true)/\dN [.int x,.ty "bool"]=some (.bl false):=⟨rfl,rfl,rfl,rfl⟩
theorem QJ:gIs (.int x) .non=some (.bl false):=rfl
theorem WW{a:Bool}:gNe (.bl a) (.bl b)=some (.bl (!(a==b))):=by
 unfold gNe;rw[X7 ⟨rfl,rfl,.sc (.bl a b)⟩];simp[dt,eqD]
theorem T9{Fr:List D->Option D}:aQ Fr [.int x,.int x]=some (.bl true):=by
 apply Wp.eq;simp_arith[aQ,bT,Vp.1,Vp.2,eq_int,RB,QJ]
theorem xM:∀es:List D,yS es es=es.map λe=>.tup [e,e]
 |[]=>rfl
 |e::r=>by have:=xM r;unfold yS at this⊢;simp[this]
theorem Nr{Fr:List D->Option D}:∀{es:List D},(∀e∈es,Tyd e/\Fr [e,e]=some (.bl true))->cC (tpT 2 (aL (tpN 0) (aL (tpN 1) cz))) eTT (eAp (bG Fr) (ak (aq false 0) (ak (aq false 1) aF))) [none,none] (es.map λe=>.tup [e,e])=some (es.map λ_=>.bl true)
 |[],_=>rfl
 |e::r,h=>by
  obtain⟨h1,h2⟩:=h e (by simp);obtain⟨V,N,O,q,F,U⟩:=h1.all;rw[XH,cC,Nr λx J=>h x (by simp[J])];simp[tpT,aL,tpN,cz,eTT,eAp,bG,ak,aF,aq,O,fzL,V,h2,aA,aB,q,F,clean,az,au]
variable{es:List D}
theorem Vd:dN [.tup es,.tup [.ty "list",.ty "tuple"]]=some (.bl true)/\dN [.tup es,.ty "list"]=some (.bl false):=⟨rfl,rfl⟩
theorem Uu{Fr:List D->Option D}(h:∀e∈es,Tyd e/\Fr [e,e]=some (.bl true))(Y:es.length<=1000):aQ Fr [.tup es,.tup es]=some (.bl true):=by
 obtain⟨U,Z,q,O,F⟩:=Tyd.ofL λe V=>(h e V).1;have hz:=Nr h;apply Wp.eq;simp_arith[aQ,bT,cQ,Vd.1,Vd.2,eq_int,RB,WW,Kg,U,Z,q,O,F,xM,hz];refine⟨by omega,?_⟩;rw[all_map (λ_=>true) es,aJ];simp[az,au]
def nmG(k:Int):Str:=one ((("abcdefgh":Str).cps.toList[(k % 8).toNat]?).getD 0)++one ((("klmno":Str).cps.toList[(k / 8).toNat]?).getD 0)
def Uk:List Str:=(Yp 40).map λ(k:Nat)=>nmG k
def Gt(q:D×List D):Prop:=∃(js:List Jt)(U Z:Int),q=(.tup [.lst .frz (Uk.map D.str),.lst .own (js.map jD)],[tp U Z,.int 0])/\(∀j∈js,j.1∈Uk/\j.2.1∈Uk)/\js.length<=119/\0<=U/\∀j∈js,j.2.2.natAbs<=1000000000000
theorem J1:∀l:List Jt,b_ (l.map jD)=true
 |[]=>rfl
 |j::r=>by simp[b_,jD,dR,J1 r]
theorem Wj:(""::qw:List Str).all (λx=>decide (tz (.str x)<=40))=true:=by decide +kernel
theorem Xf{x:Str}(h:x∈qw∨x=""):tz (.str x)<=40:=by
 have:=acA.mp Wj x (h.elim (λz=>Yi _ z) λz=>by rw[z];exact Yw);simpa using this
def rD(rs:List (List Str)):D:=.lst .own (rs.map (fL .own))
def Can(js:List Jt)(ns:List Str)(rs:List (List Str)):Prop:=∃gs,rs=lw (gs.map bh)/\Prt js ns gs/\j5 js gs
theorem Can.uniq{q:List (List Str)}(hn:ns.Nodup)(a:Can js ns rs)(b:Can js ns q):rs=q:=by
 obtain⟨gs,rfl,U,Y⟩:=a;obtain⟨hs,rfl,Z,N⟩:=b;exact U.canon Y Z N hn
theorem Can.len(a:Can js ns rs):rs.length<=ns.length/\∀r∈rs,r.length<=ns.length:=by
 obtain⟨gs,rfl,U,Y⟩:=a;have F:=eV (gs.map bh);refine⟨by rw[F.length_eq,X5];exact U.len,λr O=>?_⟩;obtain⟨g,q,rfl⟩:=XM.mp (F.mem_iff.mp O);rw[(fG g).length_eq];exact U.len1 q
theorem BP:∀l:List Str,b_ (l.map D.str)=true
 |[]=>rfl
 |x::r=>by rw[XH,b_,BP r];rfl
theorem S8(rs:List (List Str)):dR (rD rs)=true:=by
 have:∀rs:List (List Str),b_ (rs.map (fL .own))=true:=by
  intro rs
  induction rs with
  |nil=>rfl
  |cons r q Z=>rw[XH,b_,Z,fL,dR,BP];rfl
 rw[rD,dR,this];rfl
theorem VN(rs:List (List Str)):az (rD rs)=true/\au (rD rs)=true:=by
 constructor
 .simp![rD,az];rw[bu λd hd=>by obtain⟨z,_,rfl⟩:=XM.mp hd;simp[fL,az,cg]];rfl
 .simp![rD,au];rw[bf λd hd=>by obtain⟨z,_,rfl⟩:=XM.mp hd;simp[fL,au,bR]];rfl
theorem call_of{F:List D->Option D}(h:F (fzL ds)=some d)(N:dR d=true):bG F ds=some d:=by
 unfold bG;rw[h,Xz,N,Bool.or_true,X7 rfl]
theorem Xy(h:us.length<64)(J:(m== .scr)=false):jn [wM m us]=some (.lst .own ((bh (ky us)).map D.str)):=by
 simp![jn,wM,X5,h,J,xm,Yq];rfl
theorem W3(hN:NS N ns)(hJ:JJ J js)(hn:ns.Nodup)(V:∀j∈js,j.1∈ns/\j.2.1∈ns)(Y:ns.length<=40)(a2:js.length<=1000):Wp (eU [N,J]) (ClK js ns):=by
 obtain⟨_,e,hs,rfl,U⟩:=PN hN hJ hn V Y a2;obtain⟨h1,h2,F⟩:=U.fin hn V;obtain⟨a6,a7⟩:=U.len;have a4:gh (hs.map (wM .frz))=hs.map (wM .frz):=by
  rw[bW,XN];refine Yr λu _=>?_;simp![Z8,wM,fzo,bW,XN];congr 1;exact Yr λv _=>(HJ v.2).2.2.2.2
 have q:cC (tpN 0) eTT (eAp jn (ak (aq false 0) aF)) [none] (hs.map (wM .frz))=some ((hs.map λu=>bh (ky u)).map (fL .own)):=by
  have:∀l:List (List Uw),(∀u∈l,u.length<64)->cC (tpN 0) eTT (eAp jn (ak (aq false 0) aF)) [none] (l.map (wM .frz))=some ((l.map λu=>bh (ky u)).map (fL .own)):=by
   intro l
   induction l with
   |nil=>intro _;rfl
   |cons u r Z=>
    intro h;have hs:=Xy (us:=u) (m:=.frz) (h u (by simp)) rfl;rw[XH,cC,Z λv hv=>h v (by simp[hv])];have a5:=Dh (us:=u) (m:=.frz) (.inr rfl);simp[tpN,eTT,eAp,ak,aF,aq,Lp,hs,fL,az,au,cg,bR,clean]
  refine this hs λu O=>?_;obtain⟨⟨⟨y,hw⟩,_⟩,_⟩:=U.t u O;have:=hw.len;omega
 have a0:clean (.lst .own (hs.map (wM .frz)))=true:=by simp[clean,az,au,Wi,Wu]
 simp_arith![eU,fnP];simp[gY,cR,itS,eAp,bG,ak,aF,aq,hN.k.v,hJ.v,fzL,hN.k.f,hJ.f,e,aA,aB,hN.k.b,hN.k.o,hJ.b,hJ.o,aR,cV,aJ,w_ite,bC,a4,a0,fZ,q];have a3:∀rs:List (List Str),aA (rs.map (fL .own))=true:=λrs=>bu λd hd=>by
  obtain⟨z,_,rfl⟩:=XM.mp hd;simp[fL,az,cg]
 have a1:∀rs:List (List Str),aB (rs.map (fL .own))=true:=λrs=>bf λd hd=>by
  obtain⟨z,_,rfl⟩:=XM.mp hd;simp[fL,au,bR]
 rw[←XN,X7 (by omega),X7 (by simp![clean,az,au,a3,a1];rfl)];refine⟨hs.map ky,?_,h1,h2⟩;rw[pJ (eV _) (jH _) F,XN,XN,XN];rfl
theorem o_(hn:ns.Nodup)(V:∀j∈js,j.1∈ns/\j.2.1∈ns)(Y:ns.length<=40)(q:js.length<=1000):∃rs,Can js ns rs/\∀N J,NS (fz N) ns->JJ (fz J) js->bG bU [N,J]=some (rD rs)/\bG eU [N,J]=some (rD rs):=by
 obtain⟨_,_,gs,rfl,U,Z⟩:=wX (NK.lst ns) (JJ.lst js) hn V Y;refine⟨_,⟨gs,rfl,U,Z⟩,λN J O hJ=>?_⟩;have a0:∀{F:List D->Option D},Wp (F [fz N,fz J]) (ClK js ns)->bG F [N,J]=some (rD (lw (gs.map bh))):=λ{F}⟨_,e,hs,e2,h1,h2⟩=>by
  subst e2;rw[U.canon Z h1 h2 hn];exact call_of e (S8 _)
 exact⟨a0 (wX O.k hJ hn V Y),a0 (W3 O hJ hn V Y q)⟩
abbrev Rw:=Jt×Int×Int
def r5(r:Rw):D:=.tup [.str r.1.1,.str r.1.2.1,.int r.1.2.2,.int r.2.1,.int r.2.2]
theorem pK(l:List Rw):aA (l.map r5)=true:=bu λd hd=>by obtain⟨x,_,rfl⟩:=XM.mp hd;rfl
theorem qt(l:List Rw):aB (l.map r5)=true:=bf λd hd=>by obtain⟨x,_,rfl⟩:=XM.mp hd;rfl
theorem mF(b:Bool)(l:List Rw):e_ b (l.map r5)=l.map r5:=by rw[bN,XN];rfl
theorem Gs(l:List Rw):fzL (l.map r5)=l.map r5:=by rw[fV,XN];rfl
theorem Fg(l:List Rw):gh (l.map r5)=l.map r5:=by rw[bW,XN];rfl
structure RR(R:D)(rs:List Rw):Prop where
 f:fz R=R
 v:∀b,view b R=R
 b:az R=true
 o:au R=true
 l:cQ [R]=some (.int rs.length)
 x:∀i,gIx R (.int i)=atI (rs.map r5) i
 s:bC R=some (true,rs.map r5)
 e:itE (λ_=>some [R]) []=some (true,gW 0 (rs.map r5))
theorem RR.lst(rs:List Rw):RR (.lst .frz (rs.map r5)) rs:=⟨by simp[fz,Gs,mkF],λb=>by cases b<;>simp[view,mF,mkV],by simp[az,pK],by simp[au,qt],by simp[cQ],λ_=>rfl,by simp[bC,clean,az,au,pK,qt,Fg],by simp[itE,bC,clean,az,au,pK,qt,Fg]⟩
theorem RR.tup(rs:List Rw):RR (.tup (rs.map r5)) rs:=⟨by simp[fz,Gs],λb=>by simp[view,mF],by simp[az,pK],by simp[au,qt],by simp[cQ],λ_=>rfl,by simp[bC,clean,az,au,pK,qt,Fg],by simp[itE,bC,clean,az,au,pK,qt,Fg]⟩
theorem Ur:∀l:List Rw,cC (tpN 0) eTT (e2 gIx (aq false 0) (eC (.int 3))) [none] (l.map r5)=some ((l.map λr=>r.2.1).map D.int)
 |[]=>rfl
 |r::q=>by
  rw[XH,cC,Ur q];simp[tpN,eTT,e2,aq,eC,gIx,atI,ixN,r5,view,e_,aA,aB,az,au,clean]
theorem U8:∀l:List Rw,cC (tpN 0) eTT (e2 gIx (aq false 0) (eC (.int 4))) [none] (l.map r5)=some ((l.map λr=>r.2.2).map D.int)
 |[]=>rfl
 |r::q=>by
  rw[XH,cC,U8 q];simp[tpN,eTT,e2,aq,eC,gIx,atI,ixN,r5,view,e_,aA,aB,az,au,clean]
def tms(rs:List Rw):List Int:=rs.map (λr=>r.2.1)++rs.map λr=>r.2.2
theorem jc(l:List Int):aA (l.map D.int)=true:=bu λd hd=>by obtain⟨x,_,rfl⟩:=XM.mp hd;rfl
theorem jb(l:List Int):aB (l.map D.int)=true:=bf λd hd=>by obtain⟨x,_,rfl⟩:=XM.mp hd;rfl
theorem v_:∀l:List Int,mz (l.map D.int)=some l
 |[]=>rfl
 |i::r=>by rw[XH,mz,v_ r];rfl
theorem sU{ns:List Int}(h:ns.length<64):fY [.lst m (ns.map D.int)]=some (.lst .own ((eY ns).map D.int)):=by
 simp![fY,X5,h,Yd,v_,Yq]
variable{rs:List Rw}{R:D}
theorem Hk(J:RR R rs)(Y:rs.length<=31):bV [R]=some (.lst .own ((eY (0::tms rs)).map D.int)):=by
 apply Wp.eq;have hs:fY [.lst .own (.int 0::(tms rs).map D.int)]=some (.lst .own ((eY (0::tms rs)).map D.int)):=sU (m:=.own) (ns:=0::tms rs) (by simp[tms];omega);have e1:bK (.lst .own [.int 0]) (.lst .own ((rs.map λr=>r.2.1).map D.int))=some (.lst .own (.int 0::(rs.map λr=>r.2.1).map D.int)):=by
  simp[bK];omega
 have e2:bK (.lst .own (.int 0::(rs.map λr=>r.2.1).map D.int)) (.lst .own ((rs.map λr=>r.2.2).map D.int))=some (.lst .own ((0::tms rs).map D.int)):=by
  simp[bK,tms];omega
 simp_arith![bV,fnP];have U:(rs.map r5).length<=1000000:=by simp;omega
 simp![gY,eAp,ak,aF,Jb.e2,cR,itS,eC,aq,Yg,J.v,J.s,Xz,Yq,U,Yd,fZ,XH,Yy,ZW,Ur,U8,show aZ [.int 0]=some (.lst .own [.int 0])from rfl,e1,e2,hs,aR,cV,aJ,clean,az,au,jc,jb,abl];simp[aJ]
theorem QV(J:RR R rs)(Y:rs.length<=31):dw [R]=some (.lst .own ((eY (tms rs)).map D.int)):=by
 apply Wp.eq;have hs:fY [.lst .own ((tms rs).map D.int)]=some (.lst .own ((eY (tms rs)).map D.int)):=sU (by simp[tms];omega);have e1:bK (.lst .own ((rs.map λr=>r.2.1).map D.int)) (.lst .own ((rs.map λr=>r.2.2).map D.int))=some (.lst .own ((tms rs).map D.int)):=by
  simp[bK,tms];omega
 simp_arith![dw,fnP];have U:(rs.map r5).length<=1000000:=by simp;omega
 simp![gY,eAp,ak,aF,Jb.e2,cR,itS,eC,aq,Yg,J.v,J.s,Xz,Yq,U,Yd,fZ,XH,Yy,ZW,Ur,U8,e1,hs,aR,cV,aJ,clean,az,au,jc,jb,abl];simp[aJ]
def std(t:Int)(r:Rw):Bool:=decide (r.2.1<=t/\t<r.2.2)
def gf(t:Int):Nat->List Rw->List Int
 |_,[]=>[]
 |n,r::q=>if std t r then(n:Int)::gf t (n+1) q else gf t (n+1) q
def stand(t:Int)(rs:List Rw):List Jt:=(rs.filter (std t)).map (·.1)
theorem RP(t:Int):∀(l:List Rw)(n:Nat),cC (tpT 2 (aL (tpN 0) (aL (tpT 5 (aL (tpN 1) (aL (tpN 2) (aL (tpN 3) (aL (tpN 4) (aL (tpN 5) cz)))))) cz))) (eB (mZ gLe gLt (aq false 4) (aq false 6) (aq false 5))) (aq false 0) [none,none,none,none,none,none,some (.int t)] (gW n (l.map r5))=some ((gf t n l).map D.int)
 |[],_=>rfl
 |r::q,n=>by
  rw[XH,gW,cC,RP t q (n+1),show gf t n (r::q)=if std t r then(n:Int)::gf t (n+1) q else gf t (n+1) q from rfl];by_cases h1:r.2.1<=t
  .by_cases h2:t<r.2.2
   .simp[tpT,aL,tpN,cz,eB,mZ,aq,gLe,gLt,r5,view,Ik,isB,aA,aB,az,au,clean,std,h1,h2]
   .simp[tpT,aL,tpN,cz,eB,mZ,aq,gLe,gLt,r5,view,Ik,isB,aA,aB,az,au,clean,std,h1,h2]
  .simp[tpT,aL,tpN,cz,eB,mZ,aq,gLe,gLt,r5,view,Ik,isB,aA,aB,az,au,clean,std,h1]
theorem yJ(t:Int):∀(l:List Rw)(n:Nat),(gf t n l).length<=l.length
 |[],_=>XQ _
 |r::q,n=>by
  unfold gf;have:=yJ t q (n+1);split<;>simp<;>omega
variable{t:Int}
theorem Dk(J:RR R rs)(Y:rs.length<=1000):cM [R,.int t]=some (.lst .own ((gf t 0 rs).map D.int)):=by
 apply Wp.eq;have V:itE (ak (aq false 0) aF) [some R,some (.int t)]=some (true,gW 0 (rs.map r5)):=by
  have:=J.e;simpa[itE,ak,aq,aF,J.v]using this
 have q:∀(l:List D)(n:Nat),(gW n l).length=l.length:=by
  intro l
  induction l with
  |nil=>intro n;rfl
  |cons a r Z=>intro n;simp[gW,Z]
 have U:(gW 0 (rs.map r5)).length<=1000000:=by rw[q];simp;omega
 simp_arith![cM,fnP];simp![gY,cR,V,Xz,Yq,U,Yd,fZ,XH,Yy,ZW,Yo,Yg,id,RP,aR,cV,aJ,clean,az,au,jc,jb,abl];simp[aJ]
theorem Ul(r:Rw):gSl (r5 r) none (some 3)=some (jD r.1):=rfl
theorem J6{N q:List Rw}{r:Rw}(e:rs=N++r::q):atI (rs.map r5) (N.length:Int)=some (r5 r):=by
 obtain⟨x,_,h2,F⟩:=iY (f:=r5) (l:=rs) (i:=(N.length:Int)) (by omega) (by rw[e];simp;omega);rw[F];rw[e]at h2;simp at h2;rw[h2]
theorem Tz{t:Int}(F:RR R rs):∀(l N:List Rw),rs=N++l->cC (tpN 0) eTT (eSl (e2 gIx (aq false 1) (aq false 0)) qp (oF (eC (.int 3)))) [none,some R] ((gf t N.length l).map D.int)=some ((stand t l).map jD)
 |[],N,e=>rfl
 |r::q,N,e=>by
  have Z:=Tz (t:=t) F q (N++[r]) (by rw[e];simp);rw[Zg,acF]at Z;rw[show gf t N.length (r::q)=if std t r then(N.length:Int)::gf t (N.length+1) q else gf t (N.length+1) q from rfl];have J:gIx R (.int (N.length:Int))=some (r5 r):=by rw[F.x];exact J6 e
  by_cases h:std t r
  .have hj:=Ew r.1
   rw[X7 h,XH,cC,Z];have es:stand t (r::q)=r.1::stand t q:=by simp[stand,h]
   rw[es];simp[tpN,eTT,eSl,La,e2,aq,qp,oF,eC,F.v,show ∀x:Int,view false (.int x)= .int x from λ_=>rfl,J,Ul,clean,jD,az,au,aA,aB]
  .have es:stand t (r::q)=stand t q:=by simp[stand,h]
   rw[Yc h,es];exact Z
theorem Xk(J:RR R rs)(Y:rs.length<=1000):cP [R,.int t]=some (.lst .own ((stand t rs).map jD)):=by
 apply Wp.eq;have hs:=Dk (t:=t) J Y;have hi:=yJ t rs 0;have Z:bG cM [R,.int t]=some (.lst .own ((gf t 0 rs).map D.int)):=by
  simp[bG,fzL,fz,J.f,hs,aA,aB,az,au,J.b,J.o]
 have U:((gf t 0 rs).map D.int).length<=1000000:=by simp;omega
 have F:gh ((gf t 0 rs).map D.int)=(gf t 0 rs).map D.int:=by rw[bW,XN];rfl
 have V:=Tz (t:=t) J rs [] rfl;rw[Yx]at V;simp_arith![cP,fnP];simp![gY,cR,itS,eAp,ak,aF,aq,Yo,Yg,J.v,show ∀x:Int,view false (.int x)= .int x from λ_=>rfl,Z,bC,F,Xz,Yq,U,Yd,fZ,XH,Yy,ZW,id,V,aR,cV,aJ,clean,az,au,lG,lQ,abl];simp[aJ]
theorem Can.perm{js':List Jt}{F:List Str}{rs:List (List Str)}(a:Can js ns rs)(J:∀j,j∈js'↔j∈js)(pn:Yu ns F):Can js' F rs:=by
 obtain⟨gs,rfl,U,Y⟩:=a;refine⟨gs,rfl,⟨U.p.trans pn,U.e,λg q P h1 h2=>?_⟩,λj V=>Y j ((J j).mp V)⟩;obtain⟨j,V,r⟩:=U.c g q P h1 h2;exact⟨j,(J j).mpr V,r⟩
def cls(js:List Jt)(ns:List Str):List (List Str):=Classical.epsilon λN=>Can js ns N
variable{N:List (List Str)}
theorem mQ(hn:ns.Nodup)(h:Can js ns N):cls js ns=N:=(Classical.epsilon_spec (p:=λN=>Can js ns N) ⟨N,h⟩:Can js ns (cls js ns)).uniq hn h
def man(ns:List Str)(rs:List Rw)(t:Int):Int:=mxD 0 ((cls (stand t rs) ns).map λc=>(c.length:Int))
def bsF(f:Int->Int)(b:Int×Int)(t:Int):Int×Int:=if f t>b.1 then(f t,t)else b
def bst(f:Int->Int)(ts:List Int):Int×Int:=ts.foldl (bsF f) (0,0)
def p2(b:Int×Int):D:=.tup [.int b.1,.int b.2]
theorem V8(N:List (List Str)):gh (N.map (fL .own))=N.map fr:=by
 rw[bW,XN];exact Yr λc _=>by simp[fL,fr,fzo,fW,mkO]
theorem Rp:∀N:List (List Str),cC (tpN 0) eTT (eAp cQ (ak (aq false 0) aF)) [none] (N.map fr)=some ((N.map λc=>(c.length:Int)).map D.int)
 |[]=>rfl
 |c::r=>by
  rw[XH,cC,Rp r];simp[tpN,eTT,eAp,ak,aF,aq,fr,view,dm,mkV,cQ,clean,az,au,cg,bR]
theorem mC(V:∀r∈rs,r.1.1∈ns/\r.1.2.1∈ns):∀j∈stand t rs,j.1∈ns/\j.2.1∈ns:=λj h=>by
 obtain⟨r,h1,rfl⟩:=XM.mp h;exact V r (aae.mp h1).1
theorem nq(t:Int)(rs:List Rw):(stand t rs).length<=rs.length:=by
 unfold stand;rw[X5];exact aeu _ _
def MoI(N R:D)(f:Int->Int)(ts:List Int)(k:Nat)(ρ:En):Prop:=∃Y V O:Option D,ρ=[some N,some R,some (p2 (bst f (ts.take k))),Y,V,O]
theorem U_{N:D}(O:NS N ns)(hR:RR R rs)(hn:ns.Nodup)(V:∀r∈rs,r.1.1∈ns/\r.1.2.1∈ns)(Y:ns.length<=40)(b1:rs.length<=31):aX [N,R]=some (p2 (bst (man ns rs) (eY (0::tms rs)))):=by
 apply Wp.eq;have vi:∀x:Int,view false (.int x)= .int x:=λ_=>rfl;have ho:(Mk.own !=Mk.brw&&Mk.own !=Mk.bro)=true:=rfl;have a4:∀b:Int×Int,view false (p2 b)=p2 b:=λ_=>rfl;have ht:=Hk hR b1;have Z:bG bV [R]=some (.lst .own ((eY (0::tms rs)).map D.int)):=by
  simp[bG,fzL,fz,hR.f,ht,aA,aB,hR.b,hR.o]
 have b2:∀l:List Int,gh (l.map D.int)=l.map D.int:=λl=>by rw[bW,XN];rfl
 generalize eY (0::tms rs)=ts at *
 simp_arith![aX,fnP];refine bj (λρ=>ρ=[some N,some R,some (p2 (0,0)),none,none,none]) (λQ hQ=>?_) ?_
 .simp_arith[bT]
  exact hQ _ rfl
 rintro _ rfl;refine bj (MoI N R (man ns rs) ts ts.length) (λQ hQ=>?_) ?_
 .simp![lX,itS,eAp,ak,aF,aq,Yo,Yg,hR.v,Z,bC,b2,Xz,aR,aJ,w_ite,Yd,clean,az,au,jc,jb]
  refine kJ (MoI N R (man ns rs) ts) ⟨none,none,none,rfl⟩ ?_ (λρ h=>hQ _ (by rw[X5]at h;exact h));rintro k d ρ J ⟨x3,x4,x5,rfl⟩;rw[List.getElem?_map]at J;cases a1:ts[k]? with
  |none=>simp[a1]at J
  |some t=>
   obtain rfl:D.int t=d:=by simpa[a1]using J
   have b0:=Xk (t:=t) hR (by omega);have a9:bG cP [R,.int t]=some (.lst .own ((stand t rs).map jD)):=by
    simp[bG,fzL,fz,hR.f,b0,aA,aB,az,au,hR.b,hR.o]
   have b3:=nq t rs;obtain⟨cs,a0,a2⟩:=o_ (js:=stand t rs) hn (mC V) Y (by omega);have F:=(a2 N (.lst .own ((stand t rs).map jD)) (by rw[O.k.f];exact O) (by simp![fz,qD];exact JJ.lst _)).2;have b4:=a0.len;have hm:man ns rs t=mxD 0 (cs.map λc=>(c.length:Int)):=by rw[man,mQ hn a0]
   have U:(cs.map fr).length<=1000000:=by simp;omega
   have a7:∀m:Mk,xT 0 [.lst m ((cs.map λc=>(c.length:Int)).map D.int)]=some (.int (man ns rs t)):=λm=>by rw[hm];simp![xT,v_,Yq]
   have a8:∀l:List Int,view false (.lst .own (l.map D.int))= .lst .brw (l.map D.int):=λl=>by simp![view,nH];rfl
   obtain⟨bb,a3⟩:∃bb,bb=bst (man ns rs) (ts.take k):=⟨_,rfl⟩;have a6:bst (man ns rs) (ts.take (k+1))=bsF (man ns rs) bb t:=by
    rw[a3,aas,a1];simp[bst]
   rw[←a3];simp![tgN,clean,az,au,aal,Yd,aJ,YJ,YZ];refine bj (λρ=>ρ=[some N,some R,some (p2 bb),some (.int t),some (.lst .own ((cs.map λc=>(c.length:Int)).map D.int)),x5]) (λQ hQ=>?_) ?_
   .simp![cT,cR,itS,eAp,ak,aF,aq,Yo,Yg,O.k.v,hR.v,vi,a9,F,rD,bC,V8,Xz,Yq,U,Yd,fZ,XH,Yy,ZW,Rp,aR,cV,aJ,tgN,clean,az,au,jc,jb,abl,ho,Yd,aJ,YJ,YZ]
    exact hQ _ rfl
   rintro _ rfl;refine bj (λρ=>ρ=[some N,some R,some (p2 bb),some (.int t),some (.lst .own ((cs.map λc=>(c.length:Int)).map D.int)),some (.int (man ns rs t))]) (λQ hQ=>?_) ?_
   .simp![cT,eAp,ak,aF,aq,Yo,Yg,a8,a7,Xz,aR,cV,aJ,tgN,clean,az,au,aal,Yd,YJ,YZ]
    exact hQ _ rfl
   rintro _ rfl;have a5:gIx (p2 bb) (.int 0)=some (.int bb.1):=rfl;by_cases q:man ns rs t>bb.1
   .simp[sIf,eB,e2,aq,eC,vi,a4,a5,gGt,isB,q,aR,cV,aJ,w_ite,cT,eAp,ak,aF,bT,tgN,clean,az,au,aA,aB]
    exact⟨some (.int t),some (.lst .own ((cs.map λc=>(c.length:Int)).map D.int)),some (.int (man ns rs t)),by rw[a6];simp[bsF,q,p2]⟩
   .simp[sIf,eB,e2,aq,eC,vi,a4,a5,gGt,isB,q,aR,cV,aJ,w_ite,iM]
    exact⟨some (.int t),some (.lst .own ((cs.map λc=>(c.length:Int)).map D.int)),some (.int (man ns rs t)),by rw[a6];simp[bsF,q,p2]⟩
 rintro _ ⟨x3,x4,x5,rfl⟩;rw[abf];simp[iI,aJ]
theorem zM:∀l:List Rw,il (l.map r5)=true
 |[]=>rfl
 |j::r=>by simp[il,r5,gJ,zM r]
theorem uE{l:List Rw}:gNe (.lst m (l.map r5)) (.lst .own [])=some (.bl (!l.isEmpty)):=by
 unfold gNe;have h1:=zM l;rw[X7 ⟨by simpa[gJ]using h1,rfl,.lst (by simp[dtL])⟩];cases l with
 |nil=>rfl
 |cons j r=>rfl
theorem Ui(l:List Rw):b_ (l.map r5)=true:=by
 induction l with
 |nil=>rfl
 |cons j r Z=>simp[b_,r5,dR,Z]
def tB(k:Nat)(r:Rw):Prop:=(0<=r.2.1/\r.2.1<=20000000*k)/\0<=r.2.2/\r.2.2<=20000000*k
def Ro(ns:List Str)(q:D×List D):Prop:=∃(rs:List Rw)(U Z:Int),q=(.lst .own (rs.map r5),[tp U Z,.lst .frz (ns.map D.str),.int 0])/\(∀r∈rs,r.1.1∈ns/\r.1.2.1∈ns)/\rs.length<=2*ns.length/\0<=U/\(∀r∈rs,r.1.2.2.natAbs<=1000000000000)/\∀r∈rs,tB rs.length r
def RoI(ns:List Str)(js:List Jt)(k:Nat)(ρ:En):Prop:=∃(rs:List Rw)(U Z:Int)(V O q F N:Option D),ρ=[some (tp U Z),some (D.lst Mk.frz (List.map D.str ns)),some (D.int 0),some (D.lst Mk.own (rs.map r5)),V,O,q,F,N]/\rs.map (·.1)=js.take k/\rs.length=k/\0<=U/\∀r∈rs,tB k r
theorem Ti{a b:Int}(Y:0<=a)(d0:ns.length<=1000):Wp (fH [tp a b,.lst .frz (ns.map D.str),.int 0]) (Ro ns):=by
 simp_arith![fH,fnI];refine bj (λρ=>ρ=[some (tp a b),some (D.lst Mk.frz (List.map D.str ns)),some (D.int 0),some (D.lst Mk.own []),none,none,none,none,none]) (λQ hQ=>?_) ?_
 .simp_arith[aZ]
  exact hQ _ rfl
 rintro _ rfl;refine bj (λρ=>∃js:List Jt,RoI ns js js.length ρ/\(∀j∈js,j.1∈ns/\j.2.1∈ns)/\js.length<=2*ns.length/\∀j∈js,j.2.2.natAbs<=1000000000000) (λQ hQ=>?_) ?_
 .have hjo:=Dg (a:=a) (b:=b) (t:=0) (ns:=ns) Y d0 (by omega)
  simp_arith[Jr,dm,gm,bR,cg];refine Wp.mono hjo ?_;rintro _ ⟨js,a5,b5,rfl,b2,c8,s5,N⟩;simp_arith[Jr,dR,b_,J1,lG,lQ,qP];refine kJ (RoI ns js) ⟨[],a5,b5,none,none,none,none,none,rfl,rfl,rfl,s5,by simp⟩ ?_ ?_
  .rintro k d ρ hk ⟨rs,a6,b6,x4,x5,x6,F,x8,rfl,a3,c4,s6,a2⟩
   have d9:k<js.length:=by
    have:=(XF.mp hk).1;simpa using this
   rw[List.getElem?_map]at hk;cases J:js[k]? with
   |none=>simp[J]at hk
   |some j=>
   obtain rfl:jD j=d:=by simpa[J]using hk
   obtain⟨x,y,s⟩:=j;simp![tgT,aL,cz,jD,tgN,clean,az,au,aal,Yd,aJ,aR,Xz,YJ,YZ,Yj,Yx,aB,aA,and_self];have d6:∀l:List Rw,view false (.lst .own (l.map r5))= .lst .brw (l.map r5):=λl=>by simp![view,mF];rfl
   have b0:aZ []=some (.lst .own []):=rfl;refine bj (λρ=>∃(p:Int)(U Z:Int),0<=p/\p<10/\0<=U/\ρ=[some (tp U Z),some (D.lst Mk.frz (List.map D.str ns)),some (D.int 0),some (D.lst Mk.own (rs.map r5)),some (D.str x),some (D.str y),some (D.int s),some (D.int p),x8]) (λQ hQ=>?_) ?_
   .simp_arith[aJ]
    refine eG s6 (by omega) (by omega) λr7 a7 b7 p7 q7 s7=>?_;simp_arith[aJ];exact hQ _ ⟨_,_,_,p7,q7,s7,rfl⟩
   rintro _ ⟨p0,a7,b7,c5,d8,s7,rfl⟩;refine bj (λρ=>∃(p:Int)(U Z:Int),0<=p/\p<=20000000*k+10/\0<=U/\ρ=[some (tp U Z),some (D.lst Mk.frz (List.map D.str ns)),some (D.int 0),some (D.lst Mk.own (rs.map r5)),some (D.str x),some (D.str y),some (D.int s),some (D.int p),x8]) (λQ hQ=>?_) ?_
   .cases he:rs.isEmpty with
    |true=>
     simp_arith[mF,b0,uE,he];exact hQ _ ⟨p0,a7,b7,c5,by omega,s7,rfl⟩
    |false=>
    have d5:0<rs.length:=by cases rs with|nil=>cases he|cons _ _=>exact Nat.succ_pos _
    simp_arith[mF,b0,uE,he];refine eG s7 (by omega) (by omega) λr8 a8 b8 p8 q8 s8=>?_;simp_arith[eq_int];split
    .simp_arith[mF,cQ]
     refine eG s8 (by omega) (by omega) λr9 a9 b9 p9 q9 s9=>?_;obtain⟨j,V,_,c0⟩:=iY (f:=r5) (l:=rs) p9 q9;have b4:gIx (.lst .brw (rs.map r5)) (.int r9)=some (r5 j):=by simp![gIx,c0]
     have N:=a2 j V;simp_arith[mF,pK,qt,b4];refine eG s9 (by omega) (by omega) λa4 c1 b1 c2 c3 a0=>?_;have:a4=0∨a4=1:=by omega
     rcases this with rfl|rfl
     .simp_arith[bK,r5,gIx,atI,ixN]
      exact hQ _ ⟨_,_,_,N.1.1,by have:=N.1.2;omega,a0,rfl⟩
     .simp_arith[bK,r5,gIx,atI,ixN]
      exact hQ _ ⟨_,_,_,N.2.1,by have:=N.2.2;omega,a0,rfl⟩
    .exact hQ _ ⟨p0,_,_,c5,by omega,s8,rfl⟩
   rintro _ ⟨p,a8,b8,d4,d7,s8,rfl⟩;refine bj (λρ=>∃(q:Int)(U Z:Int),0<=q/\q<=p+10000000/\0<=U/\ρ=[some (tp U Z),some (D.lst Mk.frz (List.map D.str ns)),some (D.int 0),some (D.lst Mk.own (rs.map r5)),some (D.str x),some (D.str y),some (D.int s),some (D.int p),some (D.int q)]) (λQ hQ=>?_) ?_
   .simp_arith[lA]
    refine eG s8 (by omega) (by omega) λr9 a9 b9 p9 q9 s9=>?_;simp_arith[bK];refine eG s9 (by omega) (by omega) λa4 c1 b1 c2 c3 a0=>?_;simp_arith[bK,aZ];refine eG a0 (by omega) (by omega) λa1 d3 d1 c6 c7 b3=>?_;have:a1=0∨a1=1∨a1=2∨a1=3:=by omega
    rcases this with rfl|rfl|rfl|rfl<;>simp_arith[gIx,atI,ixN,bK]<;>exact hQ _ ⟨_,_,_,by omega,by omega,b3,rfl⟩
   rintro _ ⟨q,a9,b9,q0,q1,s9,rfl⟩;refine bj (λρ=>∃(q:Int)(U Z:Int),0<=q/\q<=20000000*(k+1)/\0<=U/\ρ=[some (tp U Z),some (D.lst Mk.frz (List.map D.str ns)),some (D.int 0),some (D.lst Mk.own (rs.map r5)),some (D.str x),some (D.str y),some (D.int s),some (D.int p),some (D.int q)]) (λQ hQ=>?_) ?_
   .cases he:rs.isEmpty with
    |true=>
     simp_arith[mF,b0,uE,he];exact hQ _ ⟨_,_,_,q0,by omega,s9,rfl⟩
    |false=>
    have d5:0<rs.length:=by cases rs with|nil=>cases he|cons _ _=>exact Nat.succ_pos _
    simp_arith[mF,b0,uE,he];refine eG s9 (by omega) (by omega) λa4 c1 b1 c2 c3 a0=>?_;simp_arith[eq_int];split
    .simp_arith[mF,cQ,bK]
     refine eG a0 (by omega) (by omega) λa1 d3 d1 c6 c7 b3=>?_;obtain⟨j,V,_,c0⟩:=iY (f:=r5) (l:=rs) c6 c7;have b4:gIx (.lst .brw (rs.map r5)) (.int a1)=some (r5 j):=by simp![gIx,c0]
     have N:=a2 j V;have c9:gIx (r5 j) (.int 4)=some (.int j.2.2):=rfl;have d2:au (r5 j)=true:=rfl;simp_arith[mF,pK,qt,b4,c9,d2,A_];have h1:=N.2.2;have h2:=N.2.1;refine hQ _ ⟨_,_,_,?_,?_,b3,rfl⟩<;>split<;>omega
    .exact hQ _ ⟨_,_,_,q0,by omega,a0,rfl⟩
   rintro _ ⟨q',c1,b1,q2,q3,a0,rfl⟩;simp_arith[bc,bT];refine⟨by omega,⟨rs++[((x,y,s),p,q')],_,_,_,_,_,_,_,by rw[YB];rfl,?_,by simp;omega,a0,?_⟩⟩
   .rw[YB,a3,aas,J];rfl
   .intro r O
    rcases XC.mp O with z|z
    .obtain⟨⟨h1,h2⟩,h3,h4⟩:=a2 r z
     refine⟨⟨h1,?_⟩,h3,?_⟩<;>push_cast<;>omega
    .obtain rfl:r=((x,y,s),p,q'):=by simpa using z
     refine⟨⟨d4,?_⟩,q2,?_⟩<;>push_cast<;>omega
  .rintro ρ h
   rw[X5]at h;exact hQ _ ⟨js,h,b2,c8,N⟩
 rintro _ ⟨js,⟨rs,a6,b6,x4,x5,x6,F,x8,rfl,a3,c4,s6,a2⟩,b2,c8,N⟩;rw[abf]at a3;simp[iI,aJ,outs,cV];have hm:∀r∈rs,r.1∈js:=λr O=>by rw[←a3];exact XM.mpr ⟨r,O,rfl⟩
 exact⟨rs,a6,b6,rfl,λr O=>b2 _ (hm r O),by omega,s6,λr O=>N _ (hm r O),by rw[c4];exact a2⟩
theorem J9(lo:Int)(n:Nat):gQ lo (n+1)= .int lo::gQ (lo+1) n:=by
 unfold gQ;rw[aco,XH,XN];congr 1
 .simp
 .exact Yr λk _=>by simp;omega
theorem Wr{t:Int}(V:RR R rs):∀(l N:List Rw),rs=N++l->cC (tpN 0) (pA (pG (eB (e2 gLt (aq false 1) (e2 gIx (e2 gIx (aq false 2) (aq false 0)) (eC (.int 3)))))) (eB (e2 gLt (aq false 1) (e2 gIx (e2 gIx (aq false 2) (aq false 0)) (eC (.int 4)))))) (aq false 0) [none,some (.int t),some R] (gQ N.length l.length)=some ((gf t N.length l).map D.int)
 |[],N,e=>rfl
 |r::q,N,e=>by
  have Z:=Wr (t:=t) V q (N++[r]) (by rw[e];simp);rw[Zg,acF]at Z;have J:gIx R (.int (N.length:Int))=some (r5 r):=by rw[V.x];exact J6 e
  have F:gIx (r5 r) (.int 3)=some (.int r.2.1):=rfl;have O:gIx (r5 r) (.int 4)=some (.int r.2.2):=rfl;rw[show gf t N.length (r::q)=if std t r then(N.length:Int)::gf t (N.length+1) q else gf t (N.length+1) q from rfl];rw[Yj,J9,cC]
  push_cast at Z
  have U:∀x:Int,view false (.int x)= .int x:=λ_=>rfl;by_cases h1:t<r.2.1
  .simp[tpN,pA,pG,eB,e2,aq,eC,V.v,U,J,F,O,gLt,isB,h1,clean,az,au,Z,std,show ¬r.2.1<=t by omega]
  .by_cases h2:t<r.2.2
   .simp[tpN,pA,pG,eB,e2,aq,eC,V.v,U,J,F,O,gLt,isB,h1,h2,clean,az,au,Z,std,show r.2.1<=t by omega]
   .simp[tpN,pA,pG,eB,e2,aq,eC,V.v,U,J,F,O,gLt,isB,h1,h2,clean,az,au,Z,std]
theorem Xb(J:RR R rs)(Y:rs.length<=90):fK [R,.int t]=some (.tup [.lst .frz ((gf t 0 rs).map D.int),.lst .own ((stand t rs).map jD)]):=by
 apply Wp.eq;have vi:∀x:Int,view false (.int x)= .int x:=λ_=>rfl;have a1:um (ak (eAp cQ (ak (aq false 0) aF)) aF) [some R,some (.int t),none]=some (true,gQ 0 rs.length):=by
  refine Kv ?_ (by omega);simp![ak,eAp,aq,aF,Yg,J.v,Xz,J.l]
 have O:(gQ 0 rs.length).length<=1000000:=by rw[uv];omega
 have Z:=Wr (t:=t) J rs [] rfl;change cC _ _ _ _ (gQ 0 rs.length)=some ((gf t 0 rs).map D.int)at Z;simp_arith![fK,fnP];have N:(Mk.own !=Mk.brw&&Mk.own !=Mk.bro)=true:=rfl;refine bj (λρ=>ρ=[some R,some (.int t),some (.lst .own ((gf t 0 rs).map D.int))]) (λQ q=>?_) ?_
 .simp![cT,cR,a1,Yo,Yg,Xz,Yq,O,Yd,fZ,XH,Yy,ZW,id,Z,aR,cV,aJ,tgN,clean,az,au,jc,jb,abl,N,YJ,YZ]
  exact q _ rfl
 rintro _ rfl;have hi:=yJ t rs 0;have U:((gf t 0 rs).map D.int).length<=1000000:=by simp;omega
 have F:gh ((gf t 0 rs).map D.int)=(gf t 0 rs).map D.int:=by rw[bW,XN];rfl
 have a3:fzL ((gf t 0 rs).map D.int)=(gf t 0 rs).map D.int:=by rw[fV,XN];rfl
 have a0:view false (.lst .frz ((gf t 0 rs).map D.int))= .lst .frz ((gf t 0 rs).map D.int):=by simp![view,nH];rfl
 have V:=Tz (t:=t) J rs [] rfl;rw[Yx]at V;have a2:bC (.lst .frz ((gf t 0 rs).map D.int))=some (true,(gf t 0 rs).map D.int):=by simp[bC,clean,az,au,jc,jb,F]
 simp![sFz,tH,Yo,Yg,fz,a3,mkF,YJ,YZ,aR,aJ,cV,Xz,Yq];simp![gY,cR,itS,eAp,ak,aF,aq,Yo,Yg,a0,a2,Xz,Yq,U,Yd,fZ,XH,Yy,ZW,id,V,aR,cV,aJ];simp[bT,aJ,clean,az,au,aA,aB,lG,lQ,jc,jb]
theorem Gv:∀(l:List Int)(m:Int),m<=mx m l/\∀x∈l,x<=mx m l
 |[],m=>⟨Z9 _,by simp⟩
 |y::r,m=>by
  rw[show mx m (y::r)=mx (if y>m then y else m) r from rfl];have N:m<=(if y>m then y else m)/\y<=if y>m then y else m:=by split<;>omega
  generalize (if y>m then y else m)=w at *
  obtain⟨h1,h2⟩:=Gv r w;refine⟨by omega,λx J=>?_⟩;rcases XJ.mp J with rfl|J
  .omega
  .exact h2 x J
theorem Dm:∀(l:List Int)(m:Int),mx m l=m∨mx m l∈l
 |[],m=>.inl rfl
 |y::r,m=>by
  rw[show mx m (y::r)=mx (if y>m then y else m) r from rfl];rcases Dm r (if y>m then y else m)with h|h
  .rw[h]
   split
   .exact .inr (by simp)
   .exact .inl rfl
  .exact .inr (Yi _ h)
variable{l:List Int}
theorem Vk{m:Int}(h:x∈m::l)(J:∀y∈m::l,y<=x):mx m l=x:=by
 obtain⟨h1,h2⟩:=Gv l m;have F:x<=mx m l:=(XJ.mp h).elim (λe=>e▸h1) (h2 x);have O:mx m l<=x:=J _ (by rcases Dm l m with e|e<;>simp[e]);omega
theorem Ex(f:Int->Int):∀(T:List Int)(b:Int×Int),(T.foldl (bsF f) b=b/\∀t∈T,f t<=b.1)∨∃N t J,T=N++t::J/\T.foldl (bsF f) b=(f t,t)/\b.1<f t/\(∀u∈N,f u<f t)/\∀u∈J,f u<=f t
 |[],b=>.inl ⟨rfl,by simp⟩
 |t::q,b=>by
  rw[aaO];by_cases h:f t>b.1
  .have e:bsF f b t=(f t,t):=X7 h
   rw[e];rcases Ex f q (f t,t)with⟨h1,h2⟩|⟨N,u,J,h1,h2,F,O,Y⟩
   .exact .inr ⟨[],t,q,rfl,h1,h,by simp,h2⟩
   .refine .inr ⟨t::N,u,J,by rw[h1];rfl,h2,by simp at F;omega,λv Z=>?_,Y⟩
    rcases XJ.mp Z with rfl|Z
    .exact F
    .exact O v Z
  .have e:bsF f b t=b:=Yc h
   rw[e];rcases Ex f q b with⟨h1,h2⟩|⟨N,u,J,h1,h2,F,O,Y⟩
   .exact .inl ⟨h1,λv Z=>(XJ.mp Z).elim (λe=>by rw[e];omega) (h2 v)⟩
   .refine .inr ⟨t::N,u,J,by rw[h1];rfl,h2,F,λv Z=>?_,Y⟩
    rcases XJ.mp Z with rfl|Z
    .omega
    .exact O v Z
theorem Uz{f:Int->Int}{T:List Int}(h:((∀t∈T,1<=f t)/\T≠[])∨(T=[0]/\f 0=0)):∃z r q,T.map f=z::r/\(bst f T).1=mx z r/\(T.filter λt=>decide (f t=mx z r))=(bst f T).2::q:=by
 rcases h with⟨h1,h2⟩|⟨rfl,F⟩
 .rcases Ex f T (0,0)with⟨e,g⟩|⟨pre,t,post,e,g1,g2,g3,g4⟩
  .cases T with
   |nil=>exact absurd rfl h2
   |cons t r=>
    have:=g t (by simp);have:=h1 t (by simp);simp at *
    omega
  .obtain⟨z,r,hzr⟩:∃z r,T.map f=z::r:=by
    cases T with
    |nil=>exact absurd rfl h2
    |cons t r=>exact⟨_,_,rfl⟩
   have J:mx z r=f t:=by
    refine Vk ?_ ?_
    .rw[←hzr,e];simp
    .rw[←hzr,e]
     intro y V;obtain⟨u,O,rfl⟩:=XM.mp V;rcases XC.mp O with k|k
     .exact afa (g3 u k)
     .rcases XJ.mp k with rfl|k
      .exact Z9 _
      .exact g4 u k
   have U:bst f T=(f t,t):=g1;refine⟨z,r,post.filter (λt=>decide (f t=mx z r)),hzr,by rw[U,J],?_⟩;rw[U,J,e,List.filter_append,List.filter_cons_of_pos (by simp),List.filter_eq_nil_iff.mpr (λu O=>by have:=g3 u O;simp;omega)];rfl
 .refine⟨f 0,[],[],rfl,?_,?_⟩
  .simp[bst,bsF,F,mx]
  .simp[bst,bsF,F,mx]
theorem GF(h:Can js ns N)(hn:ns≠[]):1<=mxD 0 (N.map λc=>(c.length:Int)):=by
 obtain⟨gs,rfl,U,Y⟩:=h;have F:=eV (gs.map bh);obtain⟨g,q⟩:∃g,g∈gs:=by
  cases gs with
  |nil=>exact absurd (U.p.symm.eq_nil) hn
  |cons g _=>exact⟨g,by simp⟩
 have O:1<=(bh g).length:=by
  rw[(fG g).length_eq];exact acS.mpr (U.e g q)
 have J:((bh g).length:Int)∈(lw (gs.map bh)).map λc=>(c.length:Int):=XM.mpr ⟨bh g,F.mem_iff.mpr (XM.mpr ⟨g,q,rfl⟩),rfl⟩;generalize ((lw (gs.map bh)).map λc=>(c.length:Int))=l at J;cases l with
 |nil=>simp at J
 |cons z r=>
  have V:((bh g).length:Int)<=mx z r:=(XJ.mp J).elim (λe=>e▸(Gv r z).1) ((Gv r z).2 _);show 1<=mx z r;omega
theorem Ab{ns:List Int}:x∈eY ns↔x∈ns:=(j6 ns).mem_iff.trans qm
theorem JF(rs:List Rw):eY (0::eY (tms rs))=eY (0::tms rs):=Gm λx=>by simp[Ab]
theorem QG(rs:List Rw):eY (0::tms rs.reverse)=eY (0::tms rs):=Gm λx=>by simp[tms]
theorem Hh:∀j,j∈stand t rs.reverse↔j∈stand t rs:=λj=>by simp[stand]
theorem QQ(hn:ns.Nodup)(V:∀r∈rs,r.1.1∈ns/\r.1.2.1∈ns)(Y:ns.length<=40)(q:rs.length<=31):man ns.reverse rs.reverse=man ns rs:=by
 funext t;have J:=nq t rs;obtain⟨N,F,_⟩:=o_ (js:=stand t rs) hn (mC V) Y (by omega);have h2:=F.perm (js':=stand t rs.reverse) Hh (ady ns).symm;rw[man,man,mQ hn F,mQ ((ady ns).nodup_iff.mpr hn) h2]
theorem mx0(h:∀x∈l,0<=x):mx 0 l=mxD 0 l:=by
 cases l with
 |nil=>rfl
 |cons z r=>
  have h1:mx 0 (z::r)=mx (if z>0 then z else 0) r:=rfl;have h2:=h z (by simp);rw[h1];split
  .rfl
  .rw[show(0:Int)=z by omega];rfl
theorem Ud(rs:List Rw):(0:Int)∈eY (0::tms rs):=Ab.mpr (by simp)
theorem Ql(hn:ns.Nodup)(V:∀r∈rs,r.1.1∈ns/\r.1.2.1∈ns)(Y:ns.length<=40)(O:rs.length<=31):((∀t∈eY (0::tms rs),1<=man ns rs t)/\eY (0::tms rs)≠[])∨(eY (0::tms rs)=[0]/\man ns rs 0=0):=by
 by_cases h:ns=[]
 .subst h
  obtain rfl:rs=[]:=by
   cases rs with
   |nil=>rfl
   |cons r q=>exact absurd (V r (by simp)).1 (by simp)
  refine .inr ⟨by simp[tms,eY,oY],?_⟩;obtain⟨N,F,_⟩:=o_ (js:=stand 0 []) (ns:=[]) hn (mC V) Y (by simp[stand]);have U:=F.len.1;rw[man,mQ hn F];cases N with
  |nil=>rfl
  |cons _ _=>simp at U
 .refine .inl ⟨λt _=>?_,λe=>by have:=Ud rs;rw[e]at this;cases this⟩
  have J:=nq t rs;obtain⟨N,F,_⟩:=o_ (js:=stand t rs) hn (mC V) Y (by omega);rw[man,mQ hn F];exact GF F h
theorem W_(hs:∀x∈ns,tz (.str x)<=40)(Y:ns.length<=40)(V:∀j∈rs,j.1.1∈ns/\j.1.2.1∈ns)(q:rs.length<=31)(U:∀j∈rs,j.1.2.2.natAbs<=1000000000000)(ht:∀r∈rs,tB rs.length r):∃x,zY [.lst .own [.lst .frz (ns.map D.str),.lst .frz (rs.map r5)]]=some (.str x):=by
 have h1:=Ei (ds:=ns.map D.str) (m:=40) λe he=>by obtain⟨x,J,rfl⟩:=XM.mp he;exact hs x J
 have h2:=Ei (ds:=rs.map r5) (m:=160) λe he=>by
  obtain⟨j,a0,rfl⟩:=XM.mp he;have N:=hs _ (V j a0).1;have Z:=hs _ (V j a0).2;have z3:=U j a0;obtain⟨⟨t1,t2⟩,t3,t4⟩:=ht j a0;have z4:tz (.int j.1.2.2)=20:=by rw[tz,X7 (by omega)]
  have z5:tz (.int j.2.1)=20:=by rw[tz,X7 (by omega)]
  have z6:tz (.int j.2.2)=20:=by rw[tz,X7 (by omega)]
  rw[r5,tz,tzL,tzL,tzL,tzL,tzL,tzL,z4,z5,z6];omega
 have F:=Dv (ds:=ns.map D.str) (m:=0) λe he=>by obtain⟨x,J,rfl⟩:=XM.mp he;simp[dz]
 have O:=Dv (ds:=rs.map r5) (m:=1) λe he=>by obtain⟨x,J,rfl⟩:=XM.mp he;simp[r5,dz,dzL]
 have N:(ns.map D.str).length*(40+2)<=40*42:=aeH _ (by simpa using Y);have Z:(rs.map r5).length*(160+2)<=31*162:=aeH _ (by simpa using q);exact Tq (by simp[gJ,il,m8,zM]) (by simp![tz,tzL];omega) (by simp![dz,dzL];omega)
def sz(f:Int->Int)(t:Int):D:=p2 (f t,t)
theorem Vi(f:Int->Int)(b:Bool)(l:List Int):e_ b (l.map (sz f))=l.map (sz f):=by rw[bN,XN];rfl
theorem VM(f:Int->Int)(l:List Int):gh (l.map (sz f))=l.map (sz f):=by rw[bW,XN];rfl
theorem LC:∀N:List (List Str),cC (tpN 0) eTT (eAp cQ (ak (aq false 0) aF)) [none] (N.map (fL .brw))=some ((N.map λc=>(c.length:Int)).map D.int)
 |[]=>rfl
 |c::r=>by
  rw[XH,cC,LC r];simp[tpN,eTT,eAp,ak,aF,aq,fL,view,dm,mkV,cQ,clean,az,au,cg,bR]
theorem RV(f:Int->Int):∀T:List Int,cC (tpT 2 (aL (tpN 0) (aL (tpN 1) cz))) eTT (aq false 0) [none,none] (T.map (sz f))=some ((T.map f).map D.int)
 |[]=>rfl
 |t::r=>by
  rw[XH,cC,RV f r];simp[sz,p2,tpT,aL,tpN,cz,eTT,aq,view,aA,aB,az,au,clean]
theorem Rq(f:Int->Int)(m:Int):∀T:List Int,cC (tpT 2 (aL (tpN 0) (aL (tpN 1) cz))) (eB (e2 gEq (aq false 0) (aq false 2))) (aq false 1) [none,none,some (.int m)] (T.map (sz f))=some ((T.filter λt=>decide (f t=m)).map D.int)
 |[]=>rfl
 |t::r=>by
  rw[XH,cC,Rq f m r];by_cases h:f t=m
  .simp[sz,p2,tpT,aL,tpN,cz,eB,e2,eq_int,isB,h,aq,view,aA,aB,az,au,clean]
  .simp[sz,p2,tpT,aL,tpN,cz,eB,e2,eq_int,isB,h,aq,view,aA,aB,az,au,clean]
theorem yE{a c:D}{b:Int×Int}(Y:fz a=p2 b)(U:fz c=p2 b):bG cW [a,c]=some (.bl true):=by
 refine call_of ?_ rfl;simp![fzL,Y,U,cW,p2];refine Uu (λe V=>?_) (by simp);simp![XJ,ZC,abt]at V;rcases V with rfl|rfl<;>exact⟨.int _,T9⟩
theorem zX{N:D}(O:NS (fz N) ns)(J:RR (fz R) rs)(hn:ns.Nodup)(V:∀r∈rs,r.1.1∈ns/\r.1.2.1∈ns)(Y:ns.length<=40)(q:rs.length<=31):bG aX [N,R]=some (p2 (bst (man ns rs) (eY (0::tms rs)))):=call_of (U_ O J hn V Y q) rfl
theorem O9:man [] [] 0=0:=by
 obtain⟨N,F,_⟩:=o_ (js:=stand 0 []) (ns:=[]) List.nodup_nil (by simp[stand]) (by simp) (by simp[stand]);have U:=F.len.1;rw[man,mQ List.nodup_nil F];cases N with
 |nil=>rfl
 |cons _ _=>simp at U
theorem PX:man ["a"] [] 0=1:=by
 obtain⟨N,F,_⟩:=o_ (js:=stand 0 []) (ns:=["a"]) (by simp) (by simp[stand]) (by simp) (by simp[stand]);have U:=F.len.2;have h1:=GF F (by simp);rw[man,mQ (by simp) F];have h2:∀x∈N.map (λc=>(c.length:Int)),x<=1:=λx J=>by
  obtain⟨c,Z,rfl⟩:=XM.mp J;have:=U c Z;simp at this⊢;omega
 generalize (N.map λc=>(c.length:Int))=l at *
 cases l with
 |nil=>simp[mxD]at h1
 |cons z r=>
  have:mx z r<=1:=by
   rcases Dm r z with e|e
   .rw[e];exact h2 z (by simp)
   .exact h2 _ (Yi _ e)
  show mx z r=1;have h1:1<=mx z r:=h1;omega
theorem R0:eY (0::tms [])=[0]:=by simp[tms,eY,oY]
noncomputable abbrev scD(F:List Int):D:=.lst .scr (F.map D.int)
def LwI(F:List Int)(k:Nat)(ρ:En):Prop:=∃(x1 J Y V O U Z N x9 q:Option D),ρ=[some (scD F),x1,J,Y,V,O,U,Z,N,x9,q]
def LwJ(V U Y a3 Z J O q:Option D)(f:Int->Int)(T:List Int)(k:Nat)(ρ:En):Prop:=∃(F N:Option D),ρ=[V,U,Y,a3,Z,J,some (.lst .own ((T.take k).map (sz f))),F,N,O,q]
theorem Ck(ns:List Int):(eY ns).length<=ns.length:=by
 rw[(j6 ns).length_eq];by_cases h:(oY ns).length<=ns.length
 .exact h
 .have:=(mL (uC ns) (λx J=>qm.mp J) (by omega)).length_eq
  omega
theorem E_(rs:List Rw):(tms rs).length=2*rs.length:=by simp[tms];omega
theorem MP(sc:List Int)(hl:sc.length<=63):kE [.lst .scr (sc.map D.int)]=some (.bl true):=by
 apply Wp.eq;have d1:cQ [.lst .scr (sc.map D.int)]=some (.int sc.length):=by simp[cQ]
 have g2:aA (sc.map D.int)=true:=bu λd hd=>by obtain⟨x,_,rfl⟩:=XM.mp hd;rfl
 have f9:aB (sc.map D.int)=true:=bf λd hd=>by obtain⟨x,_,rfl⟩:=XM.mp hd;rfl
 have V:um (ak (e2 bK (eC (.int 1)) (eAp jr (ak (eC (.int 8)) (ak (eAp cQ (ak (aq false 0) aF)) aF)))) aF) [some (.lst .scr (sc.map D.int)),none,none,none,none,none,none,none,none,none,none]=some (true,gQ 0 (1+min 8 sc.length)):=by
  refine Kv ?_ (by omega);simp![ak,e2,eC,eAp,aq,aF,Yg,view,mkV,nH,Xz,d1,jr,bK];congr 3;split<;>omega
 have vi:∀x:Int,view false (.int x)= .int x:=λ_=>rfl;have vx:∀x:Str,view false (.str x)= .str x:=λ_=>rfl;have vp:∀b:Int×Int,view false (p2 b)=p2 b:=λ_=>rfl;have fp:∀b:Int×Int,fz (p2 b)=p2 b:=λ_=>rfl;simp_arith![kE,fnP];refine bj (LwI sc (1+min 8 sc.length)) (λQ hQ=>?_) ?_
 .simp![lX,V,aR,aJ,w_ite,Yd]
  refine kJ (LwI sc) ⟨none,none,none,none,none,none,none,none,none,none,rfl⟩ ?_ (λρ h=>hQ _ (by rw[uv]at h;exact h));rintro k d ρ hk ⟨x1,x2,x3,x4,x5,x6,x7,x8,x9,a3,rfl⟩;obtain⟨h7,rfl⟩:=GX hk;simp![tgN,clean,az,au,aal,Yd,aJ,YJ,YZ];refine bj (λρ=>∃a b:Int,0<=a/\ρ=[some (scD sc),some (.int k),some (tp a b),x3,x4,x5,x6,x7,x8,x9,a3]) (λQ hQ=>?_) ?_
  .simp_arith[nH,QF,g2,f9]
   refine Wp.mono (Uj (by omega) (by omega) hl) ?_;rintro _ ⟨a,b,rfl,Y⟩;simp_arith[aJ];exact hQ _ ⟨a,b,Y,rfl⟩
  rintro _ ⟨a1,b1,s1,rfl⟩;refine bj (λρ=>∃(ns:List Str)(a b:Int),ns.length<=14/\(∀x∈ns,tz (.str x)<=40)/\ns.Nodup/\0<=a/\ρ=[some (scD sc),some (.int k),some (tp a b),some (.lst .own (ns.map D.str)),x4,x5,x6,x7,x8,x9,a3]) (λQ hQ=>?_) ?_
  .simp_arith[aJ]
   refine Wp.mono (O3 s1) ?_;rintro _ ⟨ns,a2,b2,rfl,f4,a7,d0,Z⟩;simp_arith[cg,bR];exact hQ _ ⟨ns,_,_,d0,λx J=>Xf (f4 x J),a7,Z,rfl⟩
  rintro _ ⟨ns,a2,b2,d0,g6,a7,Z,rfl⟩;refine bj (λρ=>∃(rs:List Rw)(a b:Int),(∀r∈rs,r.1.1∈ns/\r.1.2.1∈ns)/\(∀r∈rs,r.1.2.2.natAbs<=1000000000000)/\(∀r∈rs,tB rs.length r)/\rs.length<=28/\ρ=[some (scD sc),some (.int k),some (tp a b),some (.lst .own (ns.map D.str)),some (.lst .own (rs.map r5)),x5,x6,x7,x8,x9,a3]) (λQ hQ=>?_) ?_
  .have hro:=Ti (b:=b2) (ns:=ns) Z (by omega)
   simp_arith[dm,gm,bR];refine Wp.mono hro ?_;rintro _ ⟨rs,a5,b5,rfl,a6,f8,s5,c4,c0⟩;simp_arith[dR,b_,Ui,pK,qt];exact hQ _ ⟨rs,_,_,a6,c4,c0,by omega,rfl⟩
  rintro _ ⟨rs,a5,b5,a6,c4,c0,f8,rfl⟩;obtain⟨sx,a8⟩:=W_ g6 (by omega) a6 (by omega) c4 c0;have a4:=NS.lst (ns:=ns) (by omega);have a0:=RR.lst rs;have d6:fz (.lst .own (ns.map D.str))= .lst .frz (ns.map D.str):=by simp[fz,gm,mkF]
  have d3:fz (.lst .own (rs.map r5))= .lst .frz (rs.map r5):=by simp[fz,Gs,mkF]
  obtain⟨N,b8⟩:∃N,N=D.lst .frz (ns.map D.str):=⟨_,rfl⟩;obtain⟨R,c3⟩:∃R,R=D.lst .frz (rs.map r5):=⟨_,rfl⟩;refine bj (λρ=>ρ=[some (scD sc),some (.int k),some (tp a5 b5),some N,some R,some (.str sx),x6,x7,x8,x9,a3]) (λQ hQ=>?_) ?_
  .rw[←b8]at a4 d6 a8
   rw[←c3]at a0 d3 a8;simp![sFz,tH,Yo,Yg,d6,d3,YJ,YZ,aR,aJ,cV,Xz,Yq];simp[cT,eAp,ak,aF,aq,a4.k.v,a0.v,aZ,a8,aR,cV,aJ,tgN,clean,az,au];exact hQ _ rfl
  rintro _ rfl;have d4:iV N (.int (-1))=some (.lst .own (ns.reverse.map D.str)):=by rw[b8];simp[iV]
  have d5:iV R (.int (-1))=some (.lst .own (rs.reverse.map r5)):=by rw[c3];simp[iV]
  rw[←b8]at a4 a8;rw[←c3]at a0 a8;have b0:=zX (N:=N) (R:=R) (by rw[a4.k.f];exact a4) (by rw[a0.f];exact a0) a7 a6 (by omega) (by omega);have a9:∀b,b=bst (man ns rs) (eY (0::tms rs))->bG aX [.tup (ns.reverse.map D.str),.tup (rs.reverse.map r5)]=some (p2 b):=by
   rintro b rfl;have:=zX (N:=.tup (ns.reverse.map D.str)) (R:=.tup (rs.reverse.map r5)) (ns:=ns.reverse) (rs:=rs.reverse) (by rw[fz,gm];exact NS.tup (by simp;omega)) (by rw[fz,Gs];exact RR.tup _) ((ady ns).nodup_iff.mpr a7) (λr O=>by have:=a6 r (List.mem_reverse.mp O);simpa using this) (by simp;omega) (by simp;omega);rw[this,QQ a7 a6 (by omega) (by omega),QG]
  obtain⟨z,r,q,hz,b9,c5⟩:=Uz (Ql a7 a6 (by omega) (by omega));have g7:bG dw [R]=some (.lst .own ((eY (tms rs)).map D.int)):=by
   simp[bG,fzL,fz,a0.f,QV a0 (by omega),aA,aB,a0.b,a0.o]
  have i4:(eY (tms rs)).length<=56:=by have:=Ck (tms rs);rw[E_]at this;omega
  have d8:bK (.lst .own [.int 0]) (.lst .own ((eY (tms rs)).map D.int))=some (.lst .own ((0::eY (tms rs)).map D.int)):=by simp[bK];omega
  have f2:fY [.lst .own ((0::eY (tms rs)).map D.int)]=some (.lst .own ((eY (0::tms rs)).map D.int)):=by rw[sU (by simp;omega),JF]
  have e6:∀t,bG fK [R,.int t]=some (.tup [.lst .frz ((gf t 0 rs).map D.int),.lst .own ((stand t rs).map jD)]):=λt=>by
   simp[bG,fzL,fz,a0.f,Xb (t:=t) a0 (by omega),aA,aB,az,au,a0.b,a0.o]
  have F:∀t,∃cs,bG bU [N,.lst .own ((stand t rs).map jD)]=some (rD cs)/\cs.length<=14/\mx 0 (cs.map λc=>(c.length:Int))=man ns rs t:=λt=>by
   have h6:=nq t rs;obtain⟨cs,b7,c6⟩:=o_ (js:=stand t rs) a7 (mC a6) (by omega) (by omega);refine⟨cs,(c6 N (.lst .own ((stand t rs).map jD)) (by rw[a4.k.f];exact a4) (by simp![fz,qD];exact JJ.lst _)).1,by have:=b7.len.1;omega,?_⟩;rw[mx0 λx J=>by obtain⟨c,_,rfl⟩:=XM.mp J;simp,man,mQ a7 b7]
  have i0:(eY (0::tms rs)).length<=100:=by have:=Ck (0::tms rs);rw[Yj,E_]at this;omega
  generalize eY (0::tms rs)=T at *
  generalize man ns rs=f at *
  have f5:aZ []=some (.lst .own []):=rfl;refine bj (λρ=>ρ=[some (scD sc),some (.int k),some (tp a5 b5),some N,some R,some (.str sx),some (.lst .own []),x7,x8,x9,a3]) (λQ hQ=>?_) ?_
  .simp[cT,eAp,aF,f5,aR,cV,aJ,tgN,clean,az,au,aA,aB]
   exact hQ _ rfl
  rintro _ rfl;have h5:∀l:List Int,gh (l.map D.int)=l.map D.int:=λl=>by rw[bW,XN];rfl
  have ho:(Mk.own !=Mk.brw&&Mk.own !=Mk.bro)=true:=rfl;refine bj (LwJ (some (scD sc)) (some (.int k)) (some (tp a5 b5)) (some N) (some R) (some (.str sx)) x9 a3 f T T.length) (λQ hQ=>?_) ?_
  .simp![lX,itS,eAp,ak,aF,aq,e2,eC,Yo,Yg,a0.v,g7,show aZ [.int 0]=some (.lst .own [.int 0])from rfl,d8,f2,bC,h5,Xz,aR,aJ,w_ite,Yd,clean,az,au,jc,jb]
   refine kJ (LwJ (some (scD sc)) (some (.int k)) (some (tp a5 b5)) (some N) (some R) (some (.str sx)) x9 a3 f T) ⟨x7,x8,rfl⟩ ?_ (λρ h=>hQ _ (by rw[X5]at h;exact h));rintro i d ρ hi ⟨y7,y8,rfl⟩;have h9:i<T.length:=by
    have:=(XF.mp hi).1;simpa using this
   rw[List.getElem?_map]at hi;cases c2:T[i]? with
   |none=>simp[c2]at hi
   |some t=>
   obtain rfl:D.int t=d:=by simpa[c2]using hi
   obtain⟨cs,e9,i3,e4⟩:=F t;have h3:(T.take (i+1)).map (sz f)=(T.take i).map (sz f)++[sz f t]:=by rw[aas,c2];simp
   have h8:((T.take i).map (sz f)).length<=100:=by simp;omega
   have d7:gIx (.tup [.lst .frz ((gf t 0 rs).map D.int),.lst .own ((stand t rs).map jD)]) (.int 1)=some (.lst .own ((stand t rs).map jD)):=rfl;simp![tgN,clean,az,au,aal,Yd,aJ,YJ,YZ];refine bj (λρ=>ρ=[some (scD sc),some (.int k),some (tp a5 b5),some N,some R,some (.str sx),some (.lst .own ((T.take i).map (sz f))),some (.int t),some (rD cs),x9,a3]) (λQ hQ=>?_) ?_
   .simp![cT,eAp,ak,aF,e2,eC,aq,Yo,Yg,a4.k.v,a0.v,vi,e6,d7,e9,Xz,aR,cV,aJ,tgN,clean,VN,aal,Yd,YJ,YZ]
    exact hQ _ rfl
   rintro _ rfl;have e8:view false (rD cs)= .lst .brw (cs.map (fL .brw)):=by
    simp![rD,view,bN,XN];congr 1;exact Yr λc _=>by simp[fL,view,dm,mkV]
   have e0:bC (.lst .brw (cs.map (fL .brw)))=some (false,cs.map (fL .brw)):=by
    simp![bC,bW,XN];congr 2;exact Yr λc _=>by simp[fL,fzo,fW,mkO]
   have g3:(cs.map (fL .brw)).length<=1000000:=by simp;omega
   have f3:bK (.lst .own [.int 0]) (.lst .own ((cs.map λc=>(c.length:Int)).map D.int))=some (.lst .own ((0::cs.map λc=>(c.length:Int)).map D.int)):=by simp[bK];omega
   have d9:qz [.lst .own ((0::cs.map λc=>(c.length:Int)).map D.int)]=some (.int (f t)):=by rw[←e4];simp![qz,v_,Xz]
   have c8:qz [.lst .own (.int 0::(cs.map λc=>(c.length:Int)).map D.int)]=some (.int (f t)):=d9;have f6:bc (.lst .own ((T.take i).map (sz f))) [sz f t]=some (.lst .own ((T.take (i+1)).map (sz f)),.non):=by
    rw[h3];simp![bc];rw[X7 (by omega)]
   have g1:bT [.int (f t),.int t]=some (sz f t):=rfl;have g4:aA [sz f t]=true/\aB [sz f t]=true:=⟨rfl,rfl⟩;simp![lR,pR,i_,upS,gA,eQ,eAp,ak,aF,e2,eC,aq,cR,itS,Yo,Yg,show aZ [.int 0]=some (.lst .own [.int 0])from rfl,e8,e0,g3,Yd,fZ,XH,Yy,ZW,id,LC,vi,f3,c8,g1,f6,g4,and_self,Xz,Yq,aR,cV,aJ,YJ,YZ];exact⟨_,_,rfl⟩
  rintro _ ⟨y7,y8,rfl⟩;rw[abf];have c7:view false (.lst .own (T.map (sz f)))= .lst .brw (T.map (sz f)):=by simp![view,Vi];rfl
  have b4:bC (.lst .brw (T.map (sz f)))=some (false,T.map (sz f)):=by simp![bC,VM];rfl
  have b6:(T.map (sz f)).length<=1000000:=by simp;omega
  obtain⟨m,hm⟩:∃m,m=mx z r:=⟨_,rfl⟩;rw[←hm]at b9 c5;have e7:qz [.lst .own ((T.map f).map D.int)]=some (.int m):=by rw[hz,hm];simp![qz,v_,Xz]
  refine bj (λρ=>ρ=[some (scD sc),some (.int k),some (tp a5 b5),some N,some R,some (.str sx),some (.lst .own (T.map (sz f))),y7,y8,some (.int m),a3]) (λQ hQ=>?_) ?_
  .simp![cT,eAp,ak,aF,aq,cR,itS,Yo,Yg,c7,b4,b6,Yd,fZ,XH,Yy,ZW,id,RV,e7,Xz,Yq,aR,cV,aJ,tgN,clean,az,au,aal,YJ,YZ]
   exact hQ _ rfl
  rintro _ rfl;obtain⟨b,U⟩:∃b,b=bst f T:=⟨_,rfl⟩;have a9:=a9 b U;rw[←U]at b9 c5 b0;have c1:gIx (.lst .own ((b.2::q).map D.int)) (.int 0)=some (.int b.2):=by simp[gIx,atI,ixN]
  have g5:bT [.int m,.int b.2]=some (p2 b):=by rw[←b9];rfl
  have f7:az (p2 b)=true/\au (p2 b)=true:=⟨rfl,rfl⟩;refine bj (λρ=>ρ=[some (scD sc),some (.int k),some (tp a5 b5),some N,some R,some (.str sx),some (.lst .own (T.map (sz f))),y7,y8,some (.int m),some (p2 b)]) (λQ hQ=>?_) ?_
  .simp![cT,eAp,ak,aF,aq,e2,eC,cR,itS,Yo,Yg,c7,vi,b4,b6,Yd,fZ,XH,Yy,ZW,id,Rq,c5,Xz,Yq]
   rw[←XH];simp![c1,g5,Xz,Yq,aR,cV,aJ,tgN,clean,f7,aal,Yd,YJ,YZ];exact hQ _ rfl
  rintro _ rfl;have b3:=yE (fp b) (fp b);refine bj (λρ=>ρ=[some (scD sc),some (.int k),some (tp a5 b5),some N,some R,some (.str sx),some (.lst .own (T.map (sz f))),y7,y8,some (.int m),some (p2 b)]) (λQ hQ=>?_) ?_
  .simp![sIf,pG,pZ,eAp,ak,aF,aq,Yo,Yg,a4.k.v,a0.v,vp,b0,b3,truth,Xz,Yq,aR,cV,aJ,w_ite,iM,acw,Yz,Zi]
   exact hQ _ rfl
  rintro _ rfl;have h0:nU (.int 1)=some (.int (-1)):=rfl;have d2:g8 [.lst .own (ns.reverse.map D.str)]=some (.tup (ns.reverse.map D.str)):=rfl;have c9:g8 [.lst .own (rs.reverse.map r5)]=some (.tup (rs.reverse.map r5)):=rfl;have g9:aZ [N,R]=some (.lst .own [N,R]):=rfl;simp![sIf,eOr,pG,pZ,eB,eAp,ak,aF,e2,e1,eC,aq,Yo,Yg,a4.k.v,a0.v,vp,vx,h0,d4,d5,d2,c9,a9,b3,g9,a8,ne_str,isB,truth,decide_true,Xz,Yq,aR,cV,aJ,w_ite,iM,acw,Yz,Zi];exact⟨_,_,_,_,_,_,_,_,_,_,rfl⟩
 rintro _ ⟨x1,x2,x3,x4,x5,x6,x7,x8,x9,a3,rfl⟩;have h1:=zX (N:=.lst .own []) (R:=.lst .own []) (NS.lst (ns:=[]) (by simp)) (RR.lst []) List.nodup_nil (by simp) (by simp) (by simp);have h2:=zX (N:=.lst .own [.str "a"]) (R:=.lst .own []) (NS.lst (ns:=["a"]) (by simp)) (RR.lst []) (by simp) (by simp) (by simp) (by simp);have h4:bst (man [] []) [0]=(0,0):=by simp[bst,bsF,O9]
 have f0:bst (man ["a"] []) [0]=(1,0):=by simp[bst,bsF,PX]
 rw[R0,h4]at h1;rw[R0,f0]at h2;have b3:=yE (fp (0,0)) (fp (0,0));have e5:=yE (fp (1,0)) (fp (1,0));have c1:aZ []=some (.lst .own []):=rfl;have g0:aZ [.str "a"]=some (.lst .own [.str "a"]):=rfl;have e3:bT [.int 0,.int 0]=some (p2 (0,0)):=rfl;have f1:bT [.int 1,.int 0]=some (p2 (1,0)):=rfl;simp![gY,wI,eAp,ak,eC,aF,c1,g0,e3,f1,h1,h2,b3,e5,truth,isB,Xz,Yq,aR,cV,aJ,Yd];simp[aJ,clean,az,au]
def top(i:Nat):Stmt:=ad6.main.body.getD i (.Pass ⟨0,0,0,0⟩)
local macro_rules
 |`(tactic|trivial)=>`(tactic|exact⟨rfl,by decide +kernel,by decide +kernel,by decide +kernel,rfl,by decide +kernel⟩)
open PySem.W (Frag nsIn fnOf keepIn codeIn mg_of mg_none_of)
abbrev nl0:List Str:=["_law_found","_law_due"]
abbrev nl1:List Str:=["names","joinings"]
abbrev nl2:List Str:=["rows","time"]
abbrev nl3:List Str:=["_law_tape_here","_law_names_here","_law_turn_here"]
abbrev nl4:List Str:=["rows"]
abbrev nl5:List Str:=["_law_rows_here"]
abbrev nl6:List Str:=["_law_names_here","_law_joinings_here","_law_groups","_law_one","_law_other","_law_step","_law_first","_law_second"]
abbrev nl7:List Str:=["_law_script","_law_k"]
abbrev nl8:List Str:=["_law_tape_here","_law_many"]
abbrev nl9:List Str:=["_law_tape_here"]
abbrev QR:List Str:=["_law_names_here","_law_joinings_here"]
abbrev Q9:List Str:=["_law_group"]
noncomputable abbrev O8:List Str:=["leading","start"]
abbrev Qf:List Str:=["names","rows"]
abbrev QS:List Str:=["_law_rows_here","_law_time"]
abbrev O7:List Str:=["_law_script","_law_k","_law_tape_here","_law_names_here","_law_rows_here","_law_kept","_law_sizes","_law_time","_law_groups","_law_most","_law_due"]
abbrev Q5:List Str:=["_law_script"]
abbrev U9:List Str:=["_law_rows_here","_law_time","_law_numbers"]
abbrev Wd:List Str:=["_law_tape_here","_law_some","_law_first","_law_many"]
abbrev Wz:List Str:=["_law_k","_law_some","_law_first"]
abbrev W7:List Str:=["_law_tape_here","_law_names_here","_law_turn_here","_law_found","_law_wide","_law_kept","_law_slips","_law_turn_by","_law_one","_law_other","_law_way","_law_step"]
abbrev Vn:List Str:=["_law_name","_law_wide","_law_tape_here"]
abbrev VH:List Str:=["_law_group","_law_first","_law_second"]
noncomputable abbrev W0:List Str:=["names","joinings","leading","number","one","other","step"]
noncomputable abbrev V4:List Str:=["number","one","other","step","begin","end","time"]
abbrev V2:List Str:=["names","rows","best","time","sizes","many"]
abbrev V5:List Str:=["_law_n","_law_time","_law_rows_here"]
abbrev Vj:List Str:=["_law_size","_law_time","_law_most"]
abbrev ob0:Nat->Bool:=λi=>i==0
abbrev jM(P:YG)(w:World)(K:Frag)(mg:Str->Option Value)(base:Heap):Prop:=Cal P w K mg base 1 "_law_draw" nl8 (spI ⟨K,mg⟩ ob0 ob0 aD)
abbrev lN(P:YG)(w:World)(K:Frag)(mg:Str->Option Value)(base:Heap):Prop:=Cal P w K mg base 2 "_law_joinings" nl3 (spI ⟨K,mg⟩ ob0 ob0 dg)
abbrev mO(P:YG)(w:World)(K:Frag)(mg:Str->Option Value)(base:Heap):Prop:=Cal P w K mg base 1 "ends_by_name" nl1 (spP ⟨K,mg⟩ cZ)
abbrev t7(P:YG)(w:World)(K:Frag)(mg:Str->Option Value)(base:Heap):Prop:=Cal P w K mg base 1 "ways_from" O8 (spP ⟨K,mg⟩ eX)
abbrev Gp(P:YG)(w:World)(K:Frag)(mg:Str->Option Value)(base:Heap):Prop:=Cal P w K mg base 2 "trees" nl1 (spP ⟨K,mg⟩ ig)
abbrev nZ(P:YG)(w:World)(K:Frag)(mg:Str->Option Value)(base:Heap):Prop:=Cal P w K mg base 1 "standing_at" nl2 (spP ⟨K,mg⟩ cM)
abbrev lF(P:YG)(w:World)(K:Frag)(mg:Str->Option Value)(base:Heap):Prop:=Cal P w K mg base 1 "turning_times" nl4 (spP ⟨K,mg⟩ bV)
abbrev w5(P:YG)(w:World)(K:Frag)(mg:Str->Option Value)(base:Heap):Prop:=Cal P w K mg base 3 "classes" nl1 (spP ⟨K,mg⟩ eU)
abbrev n_(P:YG)(w:World)(K:Frag)(mg:Str->Option Value)(base:Heap):Prop:=Cal P w K mg base 2 "joinings_at" nl2 (spP ⟨K,mg⟩ cP)
abbrev tK(P:YG)(w:World)(K:Frag)(mg:Str->Option Value)(base:Heap):Prop:=Cal P w K mg base 1 "_law_tape" nl7 (spP ⟨K,mg⟩ dW)
abbrev qJ(P:YG)(w:World)(K:Frag)(mg:Str->Option Value)(base:Heap):Prop:=Cal P w K mg base 2 "_law_names" nl9 (spI ⟨K,mg⟩ ob0 ob0 eZ)
abbrev tQ(P:YG)(w:World)(K:Frag)(mg:Str->Option Value)(base:Heap):Prop:=Cal P w K mg base 3 "_law_rows" nl3 (spI ⟨K,mg⟩ ob0 ob0 fH)
abbrev tL(P:YG)(w:World)(K:Frag)(mg:Str->Option Value)(base:Heap):Prop:=Cal P w K mg base 4 "_law_same" nl0 (spP ⟨K,mg⟩ cW)
abbrev mD(P:YG)(w:World)(K:Frag)(mg:Str->Option Value)(base:Heap):Prop:=Cal P w K mg base 1 "_law_classes" QR (spP ⟨K,mg⟩ bU)
abbrev lJ(P:YG)(w:World)(K:Frag)(mg:Str->Option Value)(base:Heap):Prop:=Cal P w K mg base 4 "most_together" Qf (spP ⟨K,mg⟩ aX)
abbrev qN(P:YG)(w:World)(K:Frag)(mg:Str->Option Value)(base:Heap):Prop:=Cal P w K mg base 1 "_law_marks" nl5 (spP ⟨K,mg⟩ dw)
abbrev xY(P:YG)(w:World)(K:Frag)(mg:Str->Option Value)(base:Heap):Prop:=Cal P w K mg base 1 "_law_at" QS (spP ⟨K,mg⟩ fK)
noncomputable abbrev iD:Stmt:=top 12
noncomputable abbrev iu:Stmt:=top 13
noncomputable abbrev gj:Stmt:=top 15
noncomputable abbrev dF:Stmt:=top 17
noncomputable abbrev iH:Stmt:=top 18
noncomputable abbrev gG:Stmt:=top 14
noncomputable abbrev bQ:Stmt:=top 20
noncomputable abbrev cG:Stmt:=top 8
noncomputable abbrev dB:Stmt:=top 1
noncomputable abbrev gK:Stmt:=top 2
noncomputable abbrev m7:Stmt:=top 3
noncomputable abbrev iw:Stmt:=top 4
noncomputable abbrev d_:Stmt:=top 6
noncomputable abbrev d8:Stmt:=top 7
noncomputable abbrev cX:Stmt:=top 10
noncomputable abbrev fu:Stmt:=top 21
noncomputable abbrev iJ:Stmt:=top 19
noncomputable abbrev lK:Stmt:=top 22
structure Blt(mg:Str->Option Value):Prop where
 abs:mg "abs"=none
 all:mg "all"=none
 bool_:mg "bool"=none
 dict:mg "dict"=none
 enumerate:mg "enumerate"=none
 int_:mg "int"=none
 isinstance:mg "isinstance"=none
 len:mg "len"=none
 list_:mg "list"=none
 max:mg "max"=none
 min:mg "min"=none
 range:mg "range"=none
 set_:mg "set"=none
 sorted:mg "sorted"=none
 str_:mg "str"=none
 tuple:mg "tuple"=none
 zip:mg "zip"=none
variable{A:Zc}
theorem aN(r:iZ k A):A.units+1<cLine:=by have:=r.units;omega
theorem ux(r:iZ k A):A.units+2<cLine:=by have:=r.units;omega
section
variable{P:Program}{w:World}{K:Frag}{mg:Str->Option Value}{base:Heap}
theorem tX:cB ["_law_script","_law_k","_law_cell","_law_digits"] nl7 (aG iD):=⟨rfl,rfl,rfl,by decide +kernel,rfl,by decide +kernel,by decide +kernel⟩
theorem Be{f:Addr}{fd:Y9}(F:Fun K "_law_tape" "_law_tape" iD f fd)(B:Blt mg):gn P w K mg base CX0 1 f fd nl7 (spP ⟨K,mg⟩ dW):=by
 have nd:∀_:Unit,_:=λ_=>tX.nd;refine okP (k:=0) (ob:=(λi=>false)) (Pr:=λ_=>false) F tX λJ A outer s H E O=>?_;exact(aK (bI 2 nd aC)
  (aK (gV (bZ GK (aj false 1) (aV fP (λ_=>rfl) (λ_=>B.len) aaE (aa (aj false 0) ao))) (aO (bI 2 nd (eF (ixb (λ_=>aN O)) (aj false 0) (aj false 1)))) dZ)
  (aK (bI 3 nd (cu jU (aV GD (λ_=>rfl) (λ_=>B.abs) boot_abs (aa (aj false 2) ao)) (j_ QX (λ_=>rfl) (λ_=>B.int_) boot_int (aa (rn Vg (aV GD (λ_=>rfl) (λ_=>B.abs) boot_abs (aa (aj false 2) ao)) (cu zU aC aC)) ao))))
  (aO (dX (cY (aa (aj false 3) (aa (cu mq (cu jU (cu di (cu di (cu mq (aj false 2) aC) (cu jU aC (aj false 1))) aC) aC) aC) ao))))))))
theorem tV:cB ["_law_tape_here","_law_many","_law_found","_law_once"] nl8 (aG iu):=⟨rfl,rfl,rfl,by decide +kernel,rfl,by decide +kernel,by decide +kernel⟩
theorem Cy{f:Addr}{fd:Y9}(F:Fun K "_law_draw" "_law_draw" iu f fd)(B:Blt mg):gn P w K mg base CX0 1 f fd nl8 (spI ⟨K,mg⟩ ob0 ob0 aD):=by
 have nd:∀_:Unit,_:=λ_=>tV.nd;refine okI (k:=0) (ob:=ob0) (pr:=ob0) F tV λJ A outer s H E O=>?_;exact(aK (gV (bZ M5 (eF (ixb (λ_=>aN O)) (aj true 0) aC) aC) (aK (bI 2 nd (cu mq (eF (ixb (λ_=>aN O)) (aj true 0) aC) (aj false 1)))
  (aK (yl (cu Fx (eF (ixb (λ_=>aN O)) (aj true 0) aC) (aj false 1)) (zT (yG (λ_=>aN O)) (gB 0) aC))
  (aO (jh 2)))) dZ)
  (aK (yl (cu mq (cu di (cu jU (eF (ixb (λ_=>aN O)) (aj true 0) aC) aC) aC) aC) (zT (yG (λ_=>aN O)) (gB 0) aC))
  (aK (bI 3 nd (cu mq (cu jU (eF (ixb (λ_=>aN O)) (aj true 0) aC) (cu di (cu mq (eF (ixb (λ_=>aN O)) (aj true 0) aC) aC) aC)) aC))
  (aO (dX (cu mq (cu Fx (aj false 3) aC) (aj false 1)))))))
theorem pN:cB Wd nl9 (aG gj):=⟨rfl,rfl,rfl,by decide +kernel,rfl,by decide +kernel,by decide +kernel⟩
def ue:Scope:={kind:=.function,names:=[(".0",.local),("_law_k",.local),("_law_first",.free),("_law_some",.free)],isGenerator:=false,isCoroutine:=false}
theorem uN:(Wz:List Str).Nodup:=by decide +kernel
theorem uL:bH (aG gj) Wd Wz ue [none,some 1,some 2]:=by trivial
theorem zK{f:Addr}{fd:Y9}(F:Fun K "_law_names" "_law_names" gj f fd)(B:Blt mg)(J:jM P w K mg base):gn P w K mg base CX0 2 f fd nl9 (spI ⟨K,mg⟩ ob0 ob0 eZ):=by
 have nd:∀_:Unit,_:=λ_=>pN.nd;refine okI (k:=1) (ob:=ob0) (pr:=ob0) F pN λq A outer s H E O=>?_;exact(aK (bI 1 nd (Wf Hm PySem.F.plainAttrs_str PySem.F.slot_str_split PySem.F.type_str_split Ds (aa Ds ao)))
  (aK (dM 2 nd (cA [0] (λ_=>J) (λ_=>O.mono (by decide)) (bD 0 (bB (a_ (aa aC ao))))))
  (aK (dM 3 nd (iB (ixb (λ_=>aN O)) (Gn (cL (cA [0] (λ_=>J) (λ_=>O.mono (by decide)) (bD 0 (bB (a_ (aa aC ao))))) (cL (jo di (cO aC) (cA [0] (λ_=>J) (λ_=>O.mono (by decide)) (bD 0 (bB (a_ (aa aC ao)))))) (cL (jo di (cO aC) (cA [0] (λ_=>J) (λ_=>O.mono (by decide)) (bD 0 (bB (a_ (aa aC ao)))))) (a_ ao))))) (xu (Cm (λ_=>rfl)) (λ_=>rfl) (λ_=>B.min) boot_min (cL (cO aC) (cL (cA [0] (λ_=>J) (λ_=>O.mono (by decide)) (bD 0 (bB (a_ (aa aC ao))))) (a_ ao))))))
  (aO (dX (dY [none,some 1,some 2] ob0 (λ_=>rfl) (λ_=>rfl) (λ_=>uL) (cJ rfl) (De (λ_=>rfl) (λ_=>B.range) (aa (aj false 3) ao)) (aW 0 (λ_=>uN)) dh (eF (ixb (λ_=>aN O)) (aj false 1) (cu mq (cu di (aj false 2) (cu jU aC (aj false 0))) aC))))))))
theorem lH:cB W7 nl3 (aG dF):=⟨rfl,rfl,rfl,by decide +kernel,rfl,by decide +kernel,by decide +kernel⟩
def oZ:Scope:={kind:=.function,names:=[(".0",.local),("_law_name",.local),("_law_draw",.globalImplicit),("_law_tape_here",.free),("_law_wide",.free)],isGenerator:=false,isCoroutine:=false}
theorem pM:(Vn:List Str).Nodup:=by decide +kernel
theorem qH:bH (aG dF) W7 Vn oZ [none,some 4,some 0]:=by trivial
theorem ud{f:Addr}{fd:Y9}(F:Fun K "_law_joinings" "_law_joinings" dF f fd)(B:Blt mg)(J:jM P w K mg base):gn P w K mg base CX0 2 f fd nl3 (spI ⟨K,mg⟩ ob0 ob0 dg):=by
 have nd:∀_:Unit,_:=λ_=>lH.nd;refine okI (k:=1) (ob:=ob0) (pr:=ob0) F lH λq A outer s H E O=>?_;exact(aK (bI 3 nd (cY ao))
  (aK (dM 4 nd (iB (ixb (λ_=>aN O)) (cO (cY (aa aC (aa aC (aa aC (aa aC (aa aC (aa (cu jU aC (cu zU aC aC)) ao)))))))) (cA [0] (λ_=>J) (λ_=>O.mono (by decide)) (bD 0 (bB (a_ (aa aC ao)))))))
  (aK (dM 5 nd (DX (NP (λ_=>rfl)) (λ_=>rfl) (λ_=>B.dict) boot_dict (cL (Nt [none,some 4,some 0] ob0 (λ_=>rfl) (λ_=>rfl) (λ_=>qH) (Rf rfl) (cJ rfl) (cF (aj false 1)) (H9 0 (λ_=>pM)) dh (Qu (cL (cO (aj false 0)) (cL (jo Ec (cA [2] (λ_=>J) (λ_=>O.mono (by decide)) (bD 2 (bB (a_ (aa (cu jU aC (aj false 1)) ao))))) (cO (aj false 1))) (a_ ao))))) (a_ ao))))
  (aK (dM 6 nd (iB (ixb (λ_=>aN O)) (cO (cY (aa aC (aa aC (aa aC (aa aC ao)))))) (cA [0] (λ_=>J) (λ_=>O.mono (by decide)) (bD 0 (bB (a_ (aa aC ao)))))))
  (aK (Bd (λ_=>Z4) (λ_=>rfl) (Qv (λ_=>rfl) (λ_=>B.range) (cL (cA [0] (λ_=>J) (λ_=>O.mono (by decide)) (bD 0 (bB (a_ (aa (cu di (cu jU aC (aV fP (λ_=>rfl) (λ_=>B.len) aaE (aa (aj false 1) ao))) aC) ao))))) (a_ ao))) (bJ 7 nd) (aK (K5 8 9 (λ_=>rfl) nd (cL (iB (ixb (λ_=>aN O)) (cO (aj false 1)) (cA [0] (λ_=>J) (λ_=>O.mono (by decide)) (bD 0 (bB (a_ (aa (aV fP (λ_=>rfl) (λ_=>B.len) aaE (aa (aj false 1) ao)) ao)))))) (cL (iB (ixb (λ_=>aN O)) (cO (aj false 1)) (cA [0] (λ_=>J) (λ_=>O.mono (by decide)) (bD 0 (bB (a_ (aa (aV fP (λ_=>rfl) (λ_=>B.len) aaE (aa (aj false 1) ao)) ao)))))) (a_ ao))))
  (aK (dM 10 nd (cA [0] (λ_=>J) (λ_=>O.mono (by decide)) (bD 0 (bB (a_ (aa aC ao))))))
  (aK (gV (bZ (cb_eq _ (λ_=>rfl) O.units) (aj false 10) aC) (aO (bI 9 nd (aj false 8))) dZ)
  (aK (gV (vd (uB (bZ (cb_eq _ (λ_=>rfl) O.units) (aj false 10) aC) (qd (bZ (pC _ (λ_=>rfl) O.units) (aj false 3) (cY ao))))) (aO (CN (xN slb (iB (ixb (λ_=>aN O)) (cO (aj false 3)) (cA [0] (λ_=>J) (λ_=>O.mono (by decide)) (bD 0 (bB (a_ (aa (aV fP (λ_=>rfl) (λ_=>B.len) aaE (aa (aj false 3) ao)) ao)))))) pX (pI aC)) (lg (λ_=>rfl) (bO (bJ 8 nd) (bO (bJ 9 nd) jw))))) dZ)
  (aK (gV (vd (uB (bZ (cb_eq _ (λ_=>rfl) O.units) (aj false 10) aC) (qd (bZ (pC _ (λ_=>rfl) O.units) (aj false 3) (cY ao))))) (aO (CN (xN slb (iB (ixb (λ_=>aN O)) (cO (aj false 3)) (cA [0] (λ_=>J) (λ_=>O.mono (by decide)) (bD 0 (bB (a_ (aa (aV fP (λ_=>rfl) (λ_=>B.len) aaE (aa (aj false 3) ao)) ao)))))) pX (pI aC)) (lg (λ_=>rfl) (bO (bJ 9 nd) (bO (bJ 8 nd) jw))))) dZ)
  (aK (dM 11 nd (jo di (cO (cu Ec (eF (ixb (λ_=>aN O)) (aj false 5) (aj false 9)) (eF (ixb (λ_=>aN O)) (aj false 5) (aj false 8)))) (jo jU (cO (aj false 2)) (jo Ec (cA [0] (λ_=>J) (λ_=>O.mono (by decide)) (bD 0 (bB (a_ (aa aC ao))))) (cO aC)))))
  (aK (yH (Eo (vq (uz (bZ M5 (aj false 6) aC)) (rG (v5 (cb_eq _ (λ_=>rfl) O.units) (cA [0] (λ_=>J) (λ_=>O.mono (by decide)) (bD 0 (bB (a_ (aa (aj false 6) ao))))) (cO aC))))) (aO (dM 11 nd (jo di (cO (aj false 11)) (iB (ixb (λ_=>aN O)) (cO (cY (aa aC (aa (Gj zG aC) (aa aC (aa (cu zU aC aC) ao)))))) (cA [0] (λ_=>J) (λ_=>O.mono (by decide)) (bD 0 (bB (a_ (aa aC ao))))))))) dZ)
  (aO (jE gF Zu ZM ZP (gB 3) (aa (gw (aa (aj false 8) (aa (aj false 9) (aa (aj false 11) ao)))) ao)))))))))))
  (aO (jh 3)))))))
theorem tM:cB ["_law_tape_here","_law_names_here","_law_turn_here","_law_found","_law_one","_law_other","_law_step","_law_begin","_law_end"] nl3 (aG iH):=⟨rfl,rfl,rfl,by decide +kernel,rfl,by decide +kernel,by decide +kernel⟩
theorem Bu{f:Addr}{fd:Y9}(F:Fun K "_law_rows" "_law_rows" iH f fd)(B:Blt mg)(q:lN P w K mg base)(J:jM P w K mg base):gn P w K mg base CX0 3 f fd nl3 (spI ⟨K,mg⟩ ob0 ob0 fH):=by
 have nd:∀_:Unit,_:=λ_=>tM.nd;refine okI (k:=2) (ob:=ob0) (pr:=ob0) F tM λN A outer s H E O=>?_;exact(aK (bI 3 nd (cY ao))
  (aK (Bd (λ_=>Z4) (λ_=>rfl) (M_ (cA [0] (λ_=>q) (λ_=>O.mono (by decide)) (bD 0 (bB (a_ (aa (aj false 1) (aa (aj false 2) ao))))))) (lg (λ_=>rfl) (bO (bJ 4 nd) (bO (bJ 5 nd) (bO (bJ 6 nd) jw)))) (aK (dM 7 nd (cA [0] (λ_=>J) (λ_=>O.mono (by decide)) (bD 0 (bB (a_ (aa aC ao))))))
  (aK (yH (Eo (vq (uz (bZ (pC _ (λ_=>rfl) O.units) (aj false 3) (cY ao))) (rG (v5 (cb_eq _ (λ_=>rfl) O.units) (cA [0] (λ_=>J) (λ_=>O.mono (by decide)) (bD 0 (bB (a_ (aa aC ao))))) (cO aC))))) (aO (dM 7 nd (iB (ixb (λ_=>aN O)) (iB (ixb (λ_=>aN O)) (cO (aj false 3)) (cA [0] (λ_=>J) (λ_=>O.mono (by decide)) (bD 0 (bB (a_ (aa (aV fP (λ_=>rfl) (λ_=>B.len) aaE (aa (aj false 3) ao)) ao)))))) (jo di (cO aC) (cA [0] (λ_=>J) (λ_=>O.mono (by decide)) (bD 0 (bB (a_ (aa aC ao))))))))) dZ)
  (aK (dM 8 nd (jo di (cO (aj false 7)) (iB (ixb (λ_=>aN O)) (Gn (cL (jo di (cO aC) (cA [0] (λ_=>J) (λ_=>O.mono (by decide)) (bD 0 (bB (a_ (aa aC ao)))))) (cL (jo di (cO aC) (cA [0] (λ_=>J) (λ_=>O.mono (by decide)) (bD 0 (bB (a_ (aa aC ao)))))) (a_ (aa aC (aa (cu zU aC aC) ao)))))) (cA [0] (λ_=>J) (λ_=>O.mono (by decide)) (bD 0 (bB (a_ (aa aC ao))))))))
  (aK (yH (Eo (vq (uz (bZ (pC _ (λ_=>rfl) O.units) (aj false 3) (cY ao))) (rG (v5 (cb_eq _ (λ_=>rfl) O.units) (cA [0] (λ_=>J) (λ_=>O.mono (by decide)) (bD 0 (bB (a_ (aa aC ao))))) (cO aC))))) (aO (dM 8 nd (xu (Bq (λ_=>rfl)) (λ_=>rfl) (λ_=>B.max) boot_max (cL (cO (cu di (aj false 7) aC)) (cL (iB (ixb (λ_=>aN O)) (iB (ixb (λ_=>aN O)) (cO (aj false 3)) (cA [0] (λ_=>J) (λ_=>O.mono (by decide)) (bD 0 (bB (a_ (aa (aV fP (λ_=>rfl) (λ_=>B.len) aaE (aa (aj false 3) ao)) ao)))))) (cO aC)) (a_ ao)))))) dZ)
  (aO (jE gF Zu ZM ZP (gB 3) (aa (gw (aa (aj false 4) (aa (aj false 5) (aa (aj false 6) (aa (aj false 7) (aa (aj false 8) ao)))))) ao))))))))
  (aO (jh 3))))
theorem tW:cB nl0 nl0 (aG gG):=⟨rfl,rfl,rfl,by decide +kernel,rfl,by decide +kernel,by decide +kernel⟩
def vA:Scope:={kind:=.function,names:=[(".0",.local),("_law_one",.local),("_law_other",.local),("_law_same",.globalImplicit)],isGenerator:=false,isCoroutine:=false}
theorem ou:(["_law_one","_law_other"]:List Str).Nodup:=by decide +kernel
theorem wL:bH (aG gG) nl0 ["_law_one","_law_other"] vA [none,none]:=by trivial
theorem jB{f:Addr}{fd:Y9}{n:Nat}{Frec:List D->Option D}(F:Fun K "_law_same" "_law_same" gG f fd)(B:Blt mg)(U:Cal P w K mg base (0+n) "_law_same" nl0 (spP ⟨K,mg⟩ Frec)):gn P w K mg base CX0 (0+n+1) f fd nl0 (spP ⟨K,mg⟩ (aQ Frec)):=by
 have nd:∀_:Unit,_:=λ_=>tW.nd;refine okP (k:=0+n) (ob:=(λi=>false)) (Pr:=λ_=>false) F tW λJ A outer s H E O=>?_;exact(aK (gV (nG (aV d9 (λ_=>rfl) (λ_=>B.isinstance) Z5 (aa (aj false 1) (aa (gw (aa (lD (λ_=>rfl) (λ_=>B.list_) afh) (aa (lD (λ_=>rfl) (λ_=>B.tuple) aeI) ao))) ao)))) (aK (gV (vd (Dz (uy (nG (aV d9 (λ_=>rfl) (λ_=>B.isinstance) Z5 (aa (aj false 0) (aa (gw (aa (lD (λ_=>rfl) (λ_=>B.list_) afh) (aa (lD (λ_=>rfl) (λ_=>B.tuple) aeI) ao))) ao))))) (yC (bZ (pC _ (λ_=>rfl) O.units) (aV d9 (λ_=>rfl) (λ_=>B.isinstance) Z5 (aa (aj false 0) (aa (lD (λ_=>rfl) (λ_=>B.list_) afh) ao))) (aV d9 (λ_=>rfl) (λ_=>B.isinstance) Z5 (aa (aj false 1) (aa (lD (λ_=>rfl) (λ_=>B.list_) afh) ao))))))) (aO (dX N6)) dZ)
  (aO (dX (wA (rn (cb_eq _ (λ_=>rfl) O.units) (aV fP (λ_=>rfl) (λ_=>B.len) aaE (aa (aj false 0) ao)) (aV fP (λ_=>rfl) (λ_=>B.len) aaE (aa (aj false 1) ao))) (zJ (aV (Q7 (λ_=>rfl)) (λ_=>rfl) (λ_=>B.all) boot_all (aa (dY [none,none] (λi=>i==0||i==1) (λ_=>rfl) (λ_=>rfl) (λ_=>wL) (cJ rfl) (M8 (λ_=>rfl) (λ_=>B.zip) (aa (aj false 0) (aa (aj false 1) ao))) (mR (λ_=>rfl) (cN (aW 0 (λ_=>ou)) (cN (aW 1 (λ_=>ou)) jX))) dh (eO (λ_=>U) (λ_=>O.mono (by omega)) (aa (aj false 0) (aa (aj false 1) ao)))) ao))))))) dZ)
  (aK (gV (vd (Dz (bZ Wv (aj false 1) Vc) (yC (nG (aV d9 (λ_=>rfl) (λ_=>B.isinstance) Z5 (aa (aj false 1) (aa (lD (λ_=>rfl) (λ_=>B.str_) aeJ) ao))))))) (aO (dX (wA (rn (cb_eq _ (λ_=>rfl) O.units) (aj false 0) (aj false 1)) (zJ (rn (cb_eq _ (λ_=>rfl) O.units) (aV d9 (λ_=>rfl) (λ_=>B.isinstance) Z5 (aa (aj false 0) (aa (lD (λ_=>rfl) (λ_=>B.str_) aeJ) ao))) (aV d9 (λ_=>rfl) (λ_=>B.isinstance) Z5 (aa (aj false 1) (aa (lD (λ_=>rfl) (λ_=>B.str_) aeJ) ao)))))))) dZ)
  (aO (dX (wA (aV d9 (λ_=>rfl) (λ_=>B.isinstance) Z5 (aa (aj false 0) (aa (lD (λ_=>rfl) (λ_=>B.int_) boot_int) ao))) (wA (rn (cb_eq _ (λ_=>rfl) O.units) (aV d9 (λ_=>rfl) (λ_=>B.isinstance) Z5 (aa (aj false 0) (aa (lD (λ_=>rfl) (λ_=>B.bool_) boot_bool) ao))) (aV d9 (λ_=>rfl) (λ_=>B.isinstance) Z5 (aa (aj false 1) (aa (lD (λ_=>rfl) (λ_=>B.bool_) boot_bool) ao)))) (zJ (rn (cb_eq _ (λ_=>rfl) O.units) (aj false 0) (aj false 1)))))))))
theorem my:cB nl6 QR (aG bQ):=⟨rfl,rfl,rfl,by decide +kernel,rfl,by decide +kernel,by decide +kernel⟩
def pQ:Scope:={kind:=.function,names:=[(".0",.local),("_law_name",.local)],isGenerator:=false,isCoroutine:=false}
theorem rT:(["_law_name"]:List Str).Nodup:=by decide +kernel
theorem rN:bH (aG bQ) nl6 ["_law_name"] pQ [none]:=by trivial
def qM:Scope:={kind:=.function,names:=[(".0",.local),("_law_group",.local),("_law_one",.free)],isGenerator:=false,isCoroutine:=false}
theorem rE:(["_law_group","_law_one"]:List Str).Nodup:=by decide +kernel
theorem sX:bH (aG bQ) nl6 ["_law_group","_law_one"] qM [none,some 3]:=by trivial
def qR:Scope:={kind:=.function,names:=[(".0",.local),("_law_group",.local),("_law_other",.free)],isGenerator:=false,isCoroutine:=false}
theorem sS:(["_law_group","_law_other"]:List Str).Nodup:=by decide +kernel
theorem tG:bH (aG bQ) nl6 ["_law_group","_law_other"] qR [none,some 4]:=by trivial
def qC:Scope:={kind:=.function,names:=[(".0",.local),("_law_group",.local),("_law_first",.free),("_law_second",.free)],isGenerator:=false,isCoroutine:=false}
theorem qW:(VH:List Str).Nodup:=by decide +kernel
theorem sG:bH (aG bQ) nl6 VH qC [none,some 6,some 7]:=by trivial
def qO:Scope:={kind:=.function,names:=[(".0",.local),("_law_group",.local),("sorted",.globalImplicit)],isGenerator:=false,isCoroutine:=false}
theorem rQ:(Q9:List Str).Nodup:=by decide +kernel
theorem rZ:bH (aG bQ) nl6 Q9 qO [none]:=by trivial
theorem vB{f:Addr}{fd:Y9}(F:Fun K "_law_classes" "_law_classes" bQ f fd)(B:Blt mg):gn P w K mg base CX0 1 f fd QR (spP ⟨K,mg⟩ bU):=by
 have nd:∀_:Unit,_:=λ_=>my.nd;refine okP (k:=0) (ob:=(λi=>false)) (Pr:=λ_=>false) F my λJ A outer s H E O=>?_;exact(aK (uQ 2 [none] ob0 nd (λ_=>rfl) (λ_=>rfl) (λ_=>rN) (cJ rfl) (cF (aj false 0)) (aW 0 (λ_=>rT)) dh (cY (aa (aj false 0) ao)))
  (aK (lz (λ_=>Z4) (λ_=>rfl) (cF (aj false 1)) (lg (λ_=>rfl) (bO (bJ 3 nd) (bO (bJ 4 nd) (bO (bJ 5 nd) jw)))) (aK (uO 2 (bI 6 nd (eF (ixb (λ_=>aN O)) (dY [none,some 3] ob0 (λ_=>rfl) (λ_=>rfl) (λ_=>sX) (cJ rfl) (cF (aj false 2)) (aW 0 (λ_=>rE)) (kj (bZ (RW (λ_=>aN O)) (aj false 1) (aj false 0))) (aj false 0)) aC)))
  (aK (bI 7 nd (eF (ixb (λ_=>aN O)) (dY [none,some 4] ob0 (λ_=>rfl) (λ_=>rfl) (λ_=>tG) (cJ rfl) (cF (aj false 2)) (aW 0 (λ_=>sS)) (kj (bZ (RW (λ_=>aN O)) (aj false 1) (aj false 0))) (aj false 0)) aC))
  (aO (gV (bZ (pC _ (λ_=>rfl) O.units) (aj false 6) (aj false 7)) (aO (bI 2 nd (cu di (dY [none,some 6,some 7] ob0 (λ_=>rfl) (λ_=>rfl) (λ_=>sG) (cJ rfl) (cF (aj false 2)) (aW 0 (λ_=>qW)) (kj (vd (uB (bZ (pC _ (λ_=>rfl) O.units) (aj false 0) (aj false 1)) (qd (bZ (pC _ (λ_=>rfl) O.units) (aj false 0) (aj false 2)))))) (aj false 0)) (cY (aa (cu di (aj false 6) (aj false 7)) ao))))) dZ)))))
  (aO (dX (aV (jC _ (λ_=>rfl) (ux O) (λ_=>rfl)) (λ_=>rfl) (λ_=>B.sorted) ac2 (aa (dY [none] ob0 (λ_=>rfl) (λ_=>rfl) (λ_=>rZ) (cJ rfl) (cF (aj false 2)) (aW 0 (λ_=>rQ)) dh (aV (jC _ (λ_=>rfl) (ux O) (λ_=>rfl)) (λ_=>rfl) (λ_=>B.sorted) ac2 (aa (aj false 0) ao))) ao))))))
theorem j9:cB nl4 nl4 (aG cG):=⟨rfl,rfl,rfl,by decide +kernel,rfl,by decide +kernel,by decide +kernel⟩
def nT:Scope:={kind:=.function,names:=[(".0",.local),("row",.local)],isGenerator:=false,isCoroutine:=false}
theorem oX:(["row"]:List Str).Nodup:=by decide +kernel
theorem oK:bH (aG cG) nl4 ["row"] nT [none]:=by trivial
def nQ:Scope:={kind:=.function,names:=[(".0",.local),("row",.local)],isGenerator:=false,isCoroutine:=false}
theorem o6:(["row"]:List Str).Nodup:=by decide +kernel
theorem ph:bH (aG cG) nl4 ["row"] nQ [none]:=by trivial
theorem tu{f:Addr}{fd:Y9}(F:Fun K "turning_times" "turning_times" cG f fd)(B:Blt mg):gn P w K mg base CX0 1 f fd nl4 (spP ⟨K,mg⟩ bV):=by
 have nd:∀_:Unit,_:=λ_=>j9.nd;refine okP (k:=0) (ob:=(λi=>false)) (Pr:=λ_=>false) F j9 λJ A outer s H E O=>?_;exact(aO (dX (oV (λ_=>rfl) (λ_=>B.sorted) (λ_=>B.set_) (aa (cu di (cu di (cY (aa aC ao)) (dY [none] ob0 (λ_=>rfl) (λ_=>rfl) (λ_=>oK) (cJ rfl) (cF (aj false 0)) (aW 0 (λ_=>oX)) dh (eF (ixb (λ_=>aN O)) (aj false 0) aC))) (dY [none] ob0 (λ_=>rfl) (λ_=>rfl) (λ_=>ph) (cJ rfl) (cF (aj false 0)) (aW 0 (λ_=>o6)) dh (eF (ixb (λ_=>aN O)) (aj false 0) aC))) ao))))
theorem lO:cB W0 nl1 (aG dB):=⟨rfl,rfl,rfl,by decide +kernel,rfl,by decide +kernel,by decide +kernel⟩
def oJ:Scope:={kind:=.function,names:=[(".0",.local),("name",.local)],isGenerator:=false,isCoroutine:=false}
theorem qT:(["name"]:List Str).Nodup:=by decide +kernel
theorem qG:bH (aG dB) W0 ["name"] oJ [none]:=by trivial
theorem ut{f:Addr}{fd:Y9}(F:Fun K "ends_by_name" "ends_by_name" dB f fd)(B:Blt mg):gn P w K mg base CX0 1 f fd nl1 (spP ⟨K,mg⟩ cZ):=by
 have nd:∀_:Unit,_:=λ_=>lO.nd;refine okP (k:=0) (ob:=(λi=>false)) (Pr:=λ_=>false) F lO λJ A outer s H E O=>?_;exact(aK (Jz 2 [none] ob0 nd (λ_=>rfl) (λ_=>rfl) (λ_=>qG) (cJ rfl) (cF (aj false 0)) (aW 0 (λ_=>qT)) dh (aj false 0) (cY ao))
  (aK (lz (λ_=>Z4) (λ_=>rfl) (Ag (λ_=>rfl) (λ_=>B.enumerate) (aa (aj false 1) ao)) (lg (λ_=>rfl) (bO (bJ 3 nd) (bO (lg (λ_=>rfl) (bO (bJ 4 nd) (bO (bJ 5 nd) (bO (bJ 6 nd) jw)))) jw))) (aK (jE gF Zu ZM ZP (Gw (λ_=>aN O) (gB 2) (aj false 4)) (aa (gw (aa (aj false 3) (aa aC (aa (aj false 5) ao)))) ao))
  (aO (jE gF Zu ZM ZP (Gw (λ_=>aN O) (gB 2) (aj false 5)) (aa (gw (aa (aj false 3) (aa (Gj zG aC) (aa (aj false 4) ao)))) ao)))))
  (aO (jh 2))))
theorem qe:cB ["leading","start","ways","waiting","name","number","side","end"] O8 (aG gK):=⟨rfl,rfl,rfl,by decide +kernel,rfl,by decide +kernel,by decide +kernel⟩
theorem yW{f:Addr}{fd:Y9}(F:Fun K "ways_from" "ways_from" gK f fd)(B:Blt mg):gn P w K mg base CX0 1 f fd O8 (spP ⟨K,mg⟩ eX):=by
 have nd:∀_:Unit,_:=λ_=>qe.nd;refine okP (k:=0) (ob:=(λi=>i==3)) (Pr:=λ_=>false) F qe λJ A outer s H E O=>?_;exact(aK (bI 2 nd (Qk (Iv (aj false 1) (gw ao) Nh)))
  (aK (bI 3 nd (cY (aa (aj false 1) ao)))
  (aK (HD 1000000 (λ_=>Z4) (uz (nG (aj true 3))) (aK (dM 4 nd (Qa Jc Zu PySem.F.slot_list_pop PySem.F.type_list_pop (gB 3) (aa aC ao)))
  (aO (lz (λ_=>Z4) (λ_=>rfl) (cF (eF (ixb (λ_=>aN O)) (aj false 0) (aj false 4))) (lg (λ_=>rfl) (bO (bJ 5 nd) (bO (bJ 6 nd) (bO (bJ 7 nd) jw)))) (aO (gV (bZ (BJ (λ_=>aN O)) (aj false 7) (aj false 2)) (aK (yl (cu di (eF (ixb (λ_=>aN O)) (aj false 2) (aj false 4)) (gw (aa (gw (aa (aj false 5) (aa (aj false 6) ao))) ao))) (zT (yG (λ_=>aN O)) (gB 2) (aj false 7)))
  (aO (jE gF Zu ZM ZP (gB 3) (aa (aj false 7) ao)))) dZ))))))
  (aO (jh 2)))))
theorem Bj:cB ["names","joinings","leading","placed","found","name","ways"] nl1 (aG m7):=⟨rfl,rfl,rfl,by decide +kernel,rfl,by decide +kernel,by decide +kernel⟩
theorem JR{f:Addr}{fd:Y9}(F:Fun K "trees" "trees" m7 f fd)(B:Blt mg)(q:mO P w K mg base)(N:t7 P w K mg base):gn P w K mg base CX0 2 f fd nl1 (spP ⟨K,mg⟩ ig):=by
 have nd:∀_:Unit,_:=λ_=>Bj.nd;refine okP (k:=1) (ob:=(λi=>false)) (Pr:=λ_=>false) F Bj λJ A outer s H E O=>?_;exact(aK (bI 2 nd (eO (λ_=>q) (λ_=>O.mono (by decide)) (aa (aj false 0) (aa (aj false 1) ao))))
  (aK (bI 3 nd O6)
  (aK (bI 4 nd (cY ao))
  (aK (lz (λ_=>Z4) (λ_=>rfl) (cF (aV (jC _ (λ_=>rfl) (ux O) (λ_=>rfl)) (λ_=>rfl) (λ_=>B.sorted) ac2 (aa (aj false 0) ao))) (bJ 5 nd) (aO (gV (bZ (BJ (λ_=>aN O)) (aj false 5) (aj false 3)) (aK (bI 6 nd (eO (λ_=>N) (λ_=>O.mono (by decide)) (aa (aj false 2) (aa (aj false 5) ao))))
  (aK (uO 6 (jE (Df (λ_=>rfl)) PySem.F.plainAttrs_dict PySem.F.slot_dict_update PySem.F.type_dict_update (gB 3) (aa (aj false 6) ao)))
  (aO (jE gF Zu ZM ZP (gB 4) (aa (aj false 6) ao))))) dZ)))
  (aO (jh 4))))))
theorem wg:cB nl1 nl1 (aG iw):=⟨rfl,rfl,rfl,by decide +kernel,rfl,by decide +kernel,by decide +kernel⟩
def wR:Scope:={kind:=.function,names:=[(".0",.local),("ways",.local),("sorted",.globalImplicit)],isGenerator:=false,isCoroutine:=false}
theorem zg:(["ways"]:List Str).Nodup:=by decide +kernel
theorem yO:bH (aG iw) nl1 ["ways"] wR [none]:=by trivial
theorem Eg{f:Addr}{fd:Y9}(F:Fun K "classes" "classes" iw f fd)(B:Blt mg)(q:Gp P w K mg base):gn P w K mg base CX0 3 f fd nl1 (spP ⟨K,mg⟩ eU):=by
 have nd:∀_:Unit,_:=λ_=>wg.nd;refine okP (k:=2) (ob:=(λi=>false)) (Pr:=λ_=>false) F wg λJ A outer s H E O=>?_;exact(aO (dX (dY [none] ob0 (λ_=>rfl) (λ_=>rfl) (λ_=>yO) (cJ rfl) (cF (eO (λ_=>q) (λ_=>O.mono (by decide)) (aa (aj false 0) (aa (aj false 1) ao)))) (aW 0 (λ_=>zg)) dh (aV (B_ _ (λ_=>rfl) (ux O) (λ_=>rfl)) (λ_=>rfl) (λ_=>B.sorted) ac2 (aa (aj false 0) ao)))))
theorem lZ:cB nl2 nl2 (aG d_):=⟨rfl,rfl,rfl,by decide +kernel,rfl,by decide +kernel,by decide +kernel⟩
def qy:Scope:={kind:=.function,names:=[(".0",.local),("number",.local),("one",.local),("other",.local),("step",.local),("begin",.local),("end",.local),("time",.free)],isGenerator:=false,isCoroutine:=false}
theorem du:(V4:List Str).Nodup:=by decide +kernel
theorem rO:bH (aG d_) nl2 V4 qy [none,none,none,none,none,none,some 1]:=by trivial
theorem uU{f:Addr}{fd:Y9}(F:Fun K "standing_at" "standing_at" d_ f fd)(B:Blt mg):gn P w K mg base CX0 1 f fd nl2 (spP ⟨K,mg⟩ cM):=by
 have nd:∀_:Unit,_:=λ_=>lZ.nd;refine okP (k:=0) (ob:=(λi=>false)) (Pr:=λ_=>false) F lZ λJ A outer s H E O=>?_;exact(aO (dX (dY [none,none,none,none,none,none,some 1] (λi=>i==0||i==1||i==2||i==3||i==4||i==5) (λ_=>rfl) (λ_=>rfl) (λ_=>rO) (cJ rfl) (Ag (λ_=>rfl) (λ_=>B.enumerate) (aa (aj false 0) ao)) (mR (λ_=>rfl) (cN (aW 0 (λ_=>du)) (cN (mR (λ_=>rfl) (cN (aW 1 (λ_=>du)) (cN (aW 2 (λ_=>du)) (cN (aW 3 (λ_=>du)) (cN (aW 4 (λ_=>du)) (cN (aW 5 (λ_=>du)) jX)))))) jX))) (kj (Hj Wb GK (aj false 4) (aj false 6) (aj false 5))) (aj false 0))))
theorem mV:cB nl2 nl2 (aG d8):=⟨rfl,rfl,rfl,by decide +kernel,rfl,by decide +kernel,by decide +kernel⟩
def pU:Scope:={kind:=.function,names:=[(".0",.local),("number",.local),("rows",.free)],isGenerator:=false,isCoroutine:=false}
theorem sJ:(["number","rows"]:List Str).Nodup:=by decide +kernel
theorem rM:bH (aG d8) nl2 ["number","rows"] pU [none,some 0]:=by trivial
theorem v6{f:Addr}{fd:Y9}(F:Fun K "joinings_at" "joinings_at" d8 f fd)(B:Blt mg)(q:nZ P w K mg base):gn P w K mg base CX0 2 f fd nl2 (spP ⟨K,mg⟩ cP):=by
 have nd:∀_:Unit,_:=λ_=>mV.nd;refine okP (k:=1) (ob:=(λi=>false)) (Pr:=λ_=>false) F mV λJ A outer s H E O=>?_;exact(aO (dX (dY [none,some 0] ob0 (λ_=>rfl) (λ_=>rfl) (λ_=>rM) (cJ rfl) (cF (eO (λ_=>q) (λ_=>O.mono (by decide)) (aa (aj false 0) (aa (aj false 1) ao)))) (aW 0 (λ_=>sJ)) dh (Cp slb (eF (ixb (λ_=>aN O)) (aj false 1) (aj false 0)) pX (pI aC)))))
theorem j8:cB V2 Qf (aG cX):=⟨rfl,rfl,rfl,by decide +kernel,rfl,by decide +kernel,by decide +kernel⟩
def nW:Scope:={kind:=.function,names:=[(".0",.local),("group",.local),("len",.globalImplicit)],isGenerator:=false,isCoroutine:=false}
theorem o7:(["group"]:List Str).Nodup:=by decide +kernel
theorem oN:bH (aG cX) V2 ["group"] nW [none]:=by trivial
theorem rC{f:Addr}{fd:Y9}(F:Fun K "most_together" "most_together" cX f fd)(B:Blt mg)(V:lF P w K mg base)(N:w5 P w K mg base)(q:n_ P w K mg base):gn P w K mg base CX0 4 f fd Qf (spP ⟨K,mg⟩ aX):=by
 have nd:∀_:Unit,_:=λ_=>j8.nd;refine okP (k:=3) (ob:=(λi=>false)) (Pr:=λ_=>false) F j8 λJ A outer s H E O=>?_;exact(aK (bI 2 nd (gw (aa aC (aa aC ao))))
  (aK (lz (λ_=>Z4) (λ_=>rfl) (cF (eO (λ_=>V) (λ_=>O.mono (by decide)) (aa (aj false 1) ao))) (bJ 3 nd) (aK (uQ 4 [none] ob0 nd (λ_=>rfl) (λ_=>rfl) (λ_=>oN) (cJ rfl) (cF (eO (λ_=>N) (λ_=>O.mono (by decide)) (aa (aj false 0) (aa (eO (λ_=>q) (λ_=>O.mono (by decide)) (aa (aj false 1) (aa (aj false 3) ao))) ao)))) (aW 0 (λ_=>o7)) dh (aV fP (λ_=>rfl) (λ_=>B.len) aaE (aa (aj false 0) ao)))
  (aK (bI 5 nd (Pg (λ_=>rfl) (λ_=>B.max) (aa (aj false 4) ao)))
  (aO (gV (bZ M5 (aj false 5) (eF (ixb (λ_=>aN O)) (aj false 2) aC)) (aO (bI 2 nd (gw (aa (aj false 5) (aa (aj false 3) ao))))) dZ)))))
  (aO (jh 2))))
theorem qi:cB nl5 nl5 (aG fu):=⟨rfl,rfl,rfl,by decide +kernel,rfl,by decide +kernel,by decide +kernel⟩
def uc:Scope:={kind:=.function,names:=[(".0",.local),("_law_row",.local)],isGenerator:=false,isCoroutine:=false}
theorem uR:(["_law_row"]:List Str).Nodup:=by decide +kernel
theorem uK:bH (aG fu) nl5 ["_law_row"] uc [none]:=by trivial
def ul:Scope:={kind:=.function,names:=[(".0",.local),("_law_row",.local)],isGenerator:=false,isCoroutine:=false}
theorem vJ:(["_law_row"]:List Str).Nodup:=by decide +kernel
theorem uT:bH (aG fu) nl5 ["_law_row"] ul [none]:=by trivial
theorem zm{f:Addr}{fd:Y9}(F:Fun K "_law_marks" "_law_marks" fu f fd)(B:Blt mg):gn P w K mg base CX0 1 f fd nl5 (spP ⟨K,mg⟩ dw):=by
 have nd:∀_:Unit,_:=λ_=>qi.nd;refine okP (k:=0) (ob:=(λi=>false)) (Pr:=λ_=>false) F qi λJ A outer s H E O=>?_;exact(aO (dX (oV (λ_=>rfl) (λ_=>B.sorted) (λ_=>B.set_) (aa (cu di (dY [none] ob0 (λ_=>rfl) (λ_=>rfl) (λ_=>uK) (cJ rfl) (cF (aj false 0)) (aW 0 (λ_=>uR)) dh (eF (ixb (λ_=>aN O)) (aj false 0) aC)) (dY [none] ob0 (λ_=>rfl) (λ_=>rfl) (λ_=>uT) (cJ rfl) (cF (aj false 0)) (aW 0 (λ_=>vJ)) dh (eF (ixb (λ_=>aN O)) (aj false 0) aC))) ao))))
theorem xj:cB U9 QS (aG iJ):=⟨rfl,rfl,rfl,by decide +kernel,rfl,by decide +kernel,by decide +kernel⟩
def zj:Scope:={kind:=.function,names:=[(".0",.local),("_law_n",.local),("_law_rows_here",.free),("_law_time",.free)],isGenerator:=false,isCoroutine:=false}
theorem Bw:(V5:List Str).Nodup:=by decide +kernel
theorem CK:bH (aG iJ) U9 V5 zj [none,some 1,some 0]:=by trivial
def zZ:Scope:={kind:=.function,names:=[(".0",.local),("_law_n",.local),("_law_rows_here",.free)],isGenerator:=false,isCoroutine:=false}
theorem CV:(["_law_n","_law_rows_here"]:List Str).Nodup:=by decide +kernel
theorem Am:bH (aG iJ) U9 ["_law_n","_law_rows_here"] zZ [none,some 0]:=by trivial
theorem Ig{f:Addr}{fd:Y9}(F:Fun K "_law_at" "_law_at" iJ f fd)(B:Blt mg):gn P w K mg base CX0 1 f fd QS (spP ⟨K,mg⟩ fK):=by
 have nd:∀_:Unit,_:=λ_=>xj.nd;refine okP (k:=0) (ob:=(λi=>false)) (Pr:=λ_=>false) F xj λJ A outer s H E O=>?_;exact(aK (uQ 2 [none,some 1,some 0] ob0 nd (λ_=>rfl) (λ_=>rfl) (λ_=>CK) (cJ rfl) (De (λ_=>rfl) (λ_=>B.range) (aa (aV fP (λ_=>rfl) (λ_=>B.len) aaE (aa (aj false 0) ao)) ao)) (aW 0 (λ_=>Bw)) (kj (vd (uB (uy (bZ GK (aj false 1) (eF (ixb (λ_=>aN O)) (eF (ixb (λ_=>aN O)) (aj false 2) (aj false 0)) aC))) (qd (bZ GK (aj false 1) (eF (ixb (λ_=>aN O)) (eF (ixb (λ_=>aN O)) (aj false 2) (aj false 0)) aC)))))) (aj false 0))
  (aO (uO 2 (dX (gw (aa (aj false 2) (aa (dY [none,some 0] ob0 (λ_=>rfl) (λ_=>rfl) (λ_=>Am) (cJ rfl) (cF (aj false 2)) (aW 0 (λ_=>CV)) dh (Cp slb (eF (ixb (λ_=>aN O)) (aj false 1) (aj false 0)) pX (pI aC))) ao)))))))
theorem MN:cB O7 Q5 (aG lK):=⟨rfl,rfl,rfl,by decide +kernel,rfl,by decide +kernel,by decide +kernel⟩
def HN:Scope:={kind:=.function,names:=[(".0",.local),("_law_group",.local),("len",.globalImplicit)],isGenerator:=false,isCoroutine:=false}
theorem Ko:(Q9:List Str).Nodup:=by decide +kernel
theorem JX:bH (aG lK) O7 Q9 HN [none]:=by trivial
def Jd:Scope:={kind:=.function,names:=[(".0",.local),("_law_size",.local),("_law_time",.local)],isGenerator:=false,isCoroutine:=false}
theorem Ac:(["_law_size","_law_time"]:List Str).Nodup:=by decide +kernel
theorem N_:bH (aG lK) O7 ["_law_size","_law_time"] Jd [none,none]:=by trivial
def HX:Scope:={kind:=.function,names:=[(".0",.local),("_law_size",.local),("_law_time",.local),("_law_most",.free)],isGenerator:=false,isCoroutine:=false}
theorem Az:(Vj:List Str).Nodup:=by decide +kernel
theorem JK:bH (aG lK) O7 Vj HX [none,none,some 9]:=by trivial
theorem R5{f:Addr}{fd:Y9}(F:Fun K "law" "law" lK f fd)(B:Blt mg)(a0:tK P w K mg base)(Y:qJ P w K mg base)(Z:tQ P w K mg base)(U:tL P w K mg base)(q:mD P w K mg base)(N:lJ P w K mg base)(V:qN P w K mg base)(a1:xY P w K mg base):gn P w K mg base CX0 5 f fd Q5 (spP ⟨K,mg⟩ kE):=by
 have nd:∀_:Unit,_:=λ_=>MN.nd;refine okP (k:=4) (ob:=(λi=>i==2)) (Pr:=λ_=>false) F MN λJ A outer s H E O=>?_;exact(aK (lz (λ_=>Z4) (λ_=>rfl) (De (λ_=>rfl) (λ_=>B.range) (aa (cu di aC (aV (Cm (λ_=>rfl)) (λ_=>rfl) (λ_=>B.min) boot_min (aa aC (aa (aV fP (λ_=>rfl) (λ_=>B.len) aaE (aa (aj false 0) ao)) ao)))) ao)) (bJ 1 nd) (aK (bI 2 nd (eO (λ_=>a0) (λ_=>O.mono (by decide)) (aa (aj false 0) (aa (aj false 1) ao))))
  (aK (dM 3 nd (cA [2] (λ_=>Y) (λ_=>O.mono (by decide)) (bD 2 (bB (a_ ao)))))
  (aK (dM 4 nd (cA [2] (λ_=>Z) (λ_=>O.mono (by decide)) (bD 2 (bB (a_ (aa (aj false 3) (aa aC ao)))))))
  (aK (uO 4 (uO 3 (bI 5 nd (j_ (Gq _ (λ_=>rfl) O.gd O.units) (λ_=>rfl) (λ_=>B.str_) aeJ (aa (cY (aa (aj false 3) (aa (aj false 4) ao))) ao)))))
  (aK (bI 6 nd (cY ao))
  (aK (lz (λ_=>Z4) (λ_=>rfl) (cF (oV (λ_=>rfl) (λ_=>B.sorted) (λ_=>B.set_) (aa (cu di (cY (aa aC ao)) (eO (λ_=>V) (λ_=>O.mono (by decide)) (aa (aj false 4) ao))) ao))) (bJ 7 nd) (aK (bI 8 nd (eO (λ_=>q) (λ_=>O.mono (by decide)) (aa (aj false 3) (aa (eF (ixb (λ_=>aN O)) (eO (λ_=>a1) (λ_=>O.mono (by decide)) (aa (aj false 4) (aa (aj false 7) ao))) aC) ao))))
  (aO (jE gF Zu ZM ZP (gB 6) (aa (gw (aa (aV (Cg (λ_=>rfl)) (λ_=>rfl) (λ_=>B.max) boot_max (aa (cu di (cY (aa aC ao)) (dY [none] ob0 (λ_=>rfl) (λ_=>rfl) (λ_=>JX) (cJ rfl) (cF (aj false 8)) (aW 0 (λ_=>Ko)) dh (aV fP (λ_=>rfl) (λ_=>B.len) aaE (aa (aj false 0) ao)))) ao)) (aa (aj false 7) ao))) ao)))))
  (aK (bI 9 nd (aV (Cg (λ_=>rfl)) (λ_=>rfl) (λ_=>B.max) boot_max (aa (dY [none,none] (λi=>i==0||i==1) (λ_=>rfl) (λ_=>rfl) (λ_=>N_) (cJ rfl) (cF (aj false 6)) (mR (λ_=>rfl) (cN (aW 0 (λ_=>Ac)) (cN (aW 1 (λ_=>Ac)) jX))) dh (aj false 0)) ao)))
  (aK (bI 10 nd (gw (aa (aj false 9) (aa (eF (ixb (λ_=>aN O)) (dY [none,none,some 9] (λi=>i==0||i==1) (λ_=>rfl) (λ_=>rfl) (λ_=>JK) (cJ rfl) (cF (aj false 6)) (mR (λ_=>rfl) (cN (aW 0 (λ_=>Az)) (cN (aW 1 (λ_=>Az)) jX))) (kj (bZ (cb_eq _ (λ_=>rfl) O.units) (aj false 0) (aj false 2))) (aj false 1)) aC) ao))))
  (aK (gV (uy (nG (eO (λ_=>U) (λ_=>O.mono (by decide)) (aa (eO (λ_=>N) (λ_=>O.mono (by decide)) (aa (aj false 3) (aa (aj false 4) ao))) (aa (aj false 10) ao))))) (aO (dX N6)) dZ)
  (aO (gV (vd (Dz (uy (nG (eO (λ_=>U) (λ_=>O.mono (by decide)) (aa (eO (λ_=>N) (λ_=>O.mono (by decide)) (aa (j_ xf (λ_=>rfl) (λ_=>B.tuple) aeI (aa (Ge (aj false 3) (Gj zG aC)) ao)) (aa (j_ xf (λ_=>rfl) (λ_=>B.tuple) aeI (aa (Ge (aj false 4) (Gj zG aC)) ao)) ao))) (aa (aj false 10) ao))))) (yC (bZ (pC _ (λ_=>rfl) O.units) (j_ (Gq _ (λ_=>rfl) O.gd O.units) (λ_=>rfl) (λ_=>B.str_) aeJ (aa (cY (aa (aj false 3) (aa (aj false 4) ao))) ao)) (aj false 5))))) (aO (dX N6)) dZ))))))))))))
  (aO (dX (wA (eO (λ_=>U) (λ_=>O.mono (by decide)) (aa (eO (λ_=>N) (λ_=>O.mono (by decide)) (aa (cY ao) (aa (cY ao) ao))) (aa (gw (aa aC (aa aC ao))) ao))) (zJ (eO (λ_=>U) (λ_=>O.mono (by decide)) (aa (eO (λ_=>N) (λ_=>O.mono (by decide)) (aa (cY (aa Ds ao)) (aa (cY ao) ao))) (aa (gw (aa aC (aa aC ao))) ao))))))))
end
variable{H:Hp}
theorem Af{W:Wn}:∀ns:List Int,aH G H W (ns.map D.int) (ns.map V.int) []
 |[]=>.nil
 |x::r=>aH.cons (M:=[]) (M':=[]) cU (Af r)
theorem TF{K:Frag}{ns:List Int}{Q:VK}{E:XK}(Y:ns.length<=63)(N:SqL K H a (ns.map V.int))(q:∀H',Q (.bl true) H'):spP ⟨K,mg⟩ kE [.ref a] H Q E:=by
 refine⟨[.lst .scr (ns.map D.int)],λ_=>False,?_,?_,?_,λ_ z=>z.elim,.bl true,MP ns Y,λv H' L s r fr nd c=>?_⟩
 .refine aH.one (M:=[]) ?_
  rw[Rep];refine⟨a,_,[],rfl,Af ns,?_,rfl,rfl⟩;rcases N with z|z
  .exact .inl ⟨z,⟨λz=>z,λz=>z,λz=>z⟩⟩
  .exact .inr ⟨_,rfl,z⟩
 .simp[aA,az,bu (ds:=ns.map D.int) (by simp[az])]
 .simp[aB,au,bf (ds:=ns.map D.int) (by simp[au])]
 .rw[(jm r).1];exact q H'
variable{P:List Value->Prop}
theorem un1(h:∀V,P [V]):∀us:List Value,us.length=1->P us
 |[V],_=>h V
theorem un2(h:∀V U,P [V,U]):∀us:List Value,us.length=2->P us
 |[V,U],_=>h V U
theorem un3(h:∀V U Y,P [V,U,Y]):∀us:List Value,us.length=3->P us
 |[V,U,Y],_=>h V U Y
def JT(K:Frag):Sp:=λvs H Q _=>∃(a:Addr)(ns:List Int),vs=[.ref a]/\SqL K H a (ns.map V.int)/\ns.length<=63/\∀H',Q (.bl true) H'
variable{l:ad2}
theorem all_mk{K:Frag}{h:Heap}{fa f1 f2 f3 f4 f5 f6 f7 f8 f9 g4 g2 g3 g5 g6 g0 f0 g7 g1:Addr}(X:K.In h)(G:h.Ns Ye mg)(A8:mg "law"=some (.ref fa))
  {A5 F0 E1 t2 x4 t8 D1 x6 y8 A0 D3 y6 v7 C2 C3 B2 v0 E8 r2 q3 p9 s6 s7 r8 h4 j7 q0 o7 n6 i4 p0 o9 q7 m0 q9 d9:Option Addr} {C5 A1 u6 B1 A2 y4 v1 D8 v8 r7 j5 p6 k0 i0 l0 n4 r0 n9:Array (Option Value)} {w6 D9 y1 u5 h6 u1 A3 u8 C6 G0 i5 B6 w7 C8 u7 E2 r4 u9 v4 x8 w3 w9 g8 x9 y3 E5 B9 z0 g9 C7 t5 E9 C9 t4 s3 t9 t1 s9 u4 x7 o2 x3 B7 C1 D7 C4 o8 t3 y7 D0 A9 A4 m8 x0 s0 i7 i3 j6 e9 j0 i6 p8 r3 h3 d6 h0 h7 m5 o6 q8 e2 n3 j1 s1 n5 j4 e0 q4 j3 q5 r5 i8 e6 m1 h9 o4 n7 h5 e4 o0 j9 s2 m3 o1 d7 o3 s8 m9 j2 m6 e8 p7 s5 e5 e1 e7 d5 e3:Value}
  (a1:nsIn K Ye "_law_tape"=some (some (.ref f1))) (l1:K.lookup f1=some ⟨w6,A5,.func (fnOf "_law_tape" "_law_tape" (cD iD) (bL iD) (aG iD) .none D9 y1 u5 F0 h6 u1),C5⟩) (O:codeIn K h6 "_law_tape"=true) (F:keepIn K (.ref f1)=true)
  (a2:nsIn K Ye "_law_draw"=some (some (.ref f2))) (l2:K.lookup f2=some ⟨A3,E1,.func (fnOf "_law_draw" "_law_draw" (cD iu) (bL iu) (aG iu) .none u8 C6 G0 t2 i5 B6),A1⟩) (c2:codeIn K i5 "_law_draw"=true) (k2:keepIn K (.ref f2)=true)
  (a3:nsIn K Ye "_law_names"=some (some (.ref f3))) (l3:K.lookup f3=some ⟨w7,x4,.func (fnOf "_law_names" "_law_names" (cD gj) (bL gj) (aG gj) .none C8 u7 E2 t8 r4 u9),u6⟩) (c3:codeIn K r4 "_law_names"=true) (k3:keepIn K (.ref f3)=true)
  (a4:nsIn K Ye "_law_joinings"=some (some (.ref f4))) (l4:K.lookup f4=some ⟨v4,D1,.func (fnOf "_law_joinings" "_law_joinings" (cD dF) (bL dF) (aG dF) .none x8 w3 w9 x6 g8 x9),B1⟩) (c4:codeIn K g8 "_law_joinings"=true) (k4:keepIn K (.ref f4)=true)
  (a5:nsIn K Ye "_law_rows"=some (some (.ref f5))) (l5:K.lookup f5=some ⟨y3,y8,.func (fnOf "_law_rows" "_law_rows" (cD iH) (bL iH) (aG iH) .none E5 B9 z0 A0 g9 C7),A2⟩) (c5:codeIn K g9 "_law_rows"=true) (k5:keepIn K (.ref f5)=true)
  (a6:nsIn K Ye "_law_same"=some (some (.ref f6))) (l6:K.lookup f6=some ⟨t5,D3,.func (fnOf "_law_same" "_law_same" (cD gG) (bL gG) (aG gG) .none E9 C9 t4 y6 s3 t9),y4⟩) (c6:codeIn K s3 "_law_same"=true) (k6:keepIn K (.ref f6)=true)
  (a7:nsIn K Ye "_law_classes"=some (some (.ref f7))) (l7:K.lookup f7=some ⟨t1,v7,.func (fnOf "_law_classes" "_law_classes" (cD bQ) (bL bQ) (aG bQ) .none s9 u4 x7 C2 o2 x3),v1⟩) (c7:codeIn K o2 "_law_classes"=true) (k7:keepIn K (.ref f7)=true)
  (a8:nsIn K Ye "turning_times"=some (some (.ref f8))) (l8:K.lookup f8=some ⟨B7,C3,.func (fnOf "turning_times" "turning_times" (cD cG) (bL cG) (aG cG) .none C1 D7 C4 B2 o8 t3),D8⟩) (c8:codeIn K o8 "turning_times"=true) (k8:keepIn K (.ref f8)=true)
  (a9:nsIn K Ye "ends_by_name"=some (some (.ref f9))) (l9:K.lookup f9=some ⟨y7,v0,.func (fnOf "ends_by_name" "ends_by_name" (cD dB) (bL dB) (aG dB) .none D0 A9 A4 E8 m8 x0),v8⟩) (c9:codeIn K m8 "ends_by_name"=true) (k9:keepIn K (.ref f9)=true)
  (E3:nsIn K Ye "ways_from"=some (some (.ref g4))) (y2:K.lookup g4=some ⟨s0,r2,.func (fnOf "ways_from" "ways_from" (cD gK) (bL gK) (aG gK) .none i7 i3 j6 q3 e9 j0),r7⟩) (v3:codeIn K e9 "ways_from"=true) (n1:keepIn K (.ref g4)=true)
  (D4:nsIn K Ye "trees"=some (some (.ref g2))) (w4:K.lookup g2=some ⟨i6,p9,.func (fnOf "trees" "trees" (cD m7) (bL m7) (aG m7) .none p8 r3 h3 s6 d6 h0),j5⟩) (y0:codeIn K d6 "trees"=true) (m4:keepIn K (.ref g2)=true)
  (w8:nsIn K Ye "classes"=some (some (.ref g3))) (t0:K.lookup g3=some ⟨h7,s7,.func (fnOf "classes" "classes" (cD iw) (bL iw) (aG iw) .none m5 o6 q8 r8 e2 n3),p6⟩) (D5:codeIn K e2 "classes"=true) (n2:keepIn K (.ref g3)=true)
  (w1:nsIn K Ye "standing_at"=some (some (.ref g5))) (D2:K.lookup g5=some ⟨j1,h4,.func (fnOf "standing_at" "standing_at" (cD d_) (bL d_) (aG d_) .none s1 n5 j4 j7 e0 q4),k0⟩) (v9:codeIn K e0 "standing_at"=true) (r6:keepIn K (.ref g5)=true)
  (w2:nsIn K Ye "joinings_at"=some (some (.ref g6))) (D6:K.lookup g6=some ⟨j3,q0,.func (fnOf "joinings_at" "joinings_at" (cD d8) (bL d8) (aG d8) .none q5 r5 i8 o7 e6 m1),i0⟩) (E6:codeIn K e6 "joinings_at"=true) (q6:keepIn K (.ref g6)=true)
  (E0:nsIn K Ye "most_together"=some (some (.ref g0))) (C0:K.lookup g0=some ⟨h9,n6,.func (fnOf "most_together" "most_together" (cD cX) (bL cX) (aG cX) .none o4 n7 h5 i4 e4 o0),l0⟩) (u3:codeIn K e4 "most_together"=true) (r1:keepIn K (.ref g0)=true)
  (B0:nsIn K Ye "_law_marks"=some (some (.ref f0))) (B3:K.lookup f0=some ⟨j9,p0,.func (fnOf "_law_marks" "_law_marks" (cD fu) (bL fu) (aG fu) .none s2 m3 o1 o9 d7 o3),n4⟩) (A6:codeIn K d7 "_law_marks"=true) (n8:keepIn K (.ref f0)=true)
  (E4:nsIn K Ye "_law_at"=some (some (.ref g7))) (y9:K.lookup g7=some ⟨s8,q7,.func (fnOf "_law_at" "_law_at" (cD iJ) (bL iJ) (aG iJ) .none m9 j2 m6 m0 e8 p7),r0⟩) (E7:codeIn K e8 "_law_at"=true) (h8:keepIn K (.ref g7)=true)
  (B5:nsIn K Ye "law"=some (some (.ref g1))) (u2:K.lookup g1=some ⟨s5,q9,.func (fnOf "law" "law" (cD lK) (bL lK) (aG lK) .none e5 e1 e7 d9 d5 e3),n9⟩) (B4:codeIn K d5 "law"=true) (w0:keepIn K (.ref g1)=true)
  (z1:nsIn K Ye "abs"=some none)
  (Z:nsIn K Ye "all"=some none)
  (z3:nsIn K Ye "bool"=some none)
  (z4:nsIn K Ye "dict"=some none)
  (z5:nsIn K Ye "enumerate"=some none)
  (z6:nsIn K Ye "int"=some none)
  (z7:nsIn K Ye "isinstance"=some none)
  (z8:nsIn K Ye "len"=some none)
  (z9:nsIn K Ye "list"=some none)
  (B8:nsIn K Ye "max"=some none)
  (x2:nsIn K Ye "min"=some none)
  (x5:nsIn K Ye "range"=some none)
  (u0:nsIn K Ye "set"=some none)
  (t6:nsIn K Ye "sorted"=some none)
  (v2:nsIn K Ye "str"=some none)
  (A7:nsIn K Ye "tuple"=some none)
  (v5:nsIn K Ye "zip"=some none) :
  ∃fd:Y9,(∀(s:Mx)(v:Value),aeh s fd ⟨[v],[]⟩ [("_law_script",v)])/\∀base:Heap,K.In base->base.Ns Ye mg->gn l.prog w K mg base CX0 5 fa fd Q5 (JT K):=by
 have e:=A8.symm.trans (mg_of X G B5);cases e;have B:Blt mg:=⟨mg_none_of X G z1,mg_none_of X G Z,mg_none_of X G z3,mg_none_of X G z4,mg_none_of X G z5,mg_none_of X G z6,mg_none_of X G z7,mg_none_of X G z8,mg_none_of X G z9,mg_none_of X G B8,mg_none_of X G x2,mg_none_of X G x5,mg_none_of X G u0,mg_none_of X G t6,mg_none_of X G v2,mg_none_of X G A7,mg_none_of X G v5⟩;have F1:=fO (st:=iD) l1 O F;have F2:=fO (st:=iu) l2 c2 k2;have F3:=fO (st:=gj) l3 c3 k3;have F4:=fO (st:=dF) l4 c4 k4;have F5:=fO (st:=iH) l5 c5 k5;have F6:=fO (st:=gG) l6 c6 k6;have F7:=fO (st:=bQ) l7 c7 k7;have F8:=fO (st:=cG) l8 c8 k8;have F9:=fO (st:=dB) l9 c9 k9;have p5:=fO (st:=gK) y2 v3 n1;have o5:=fO (st:=m7) w4 y0 m4;have i9:=fO (st:=iw) t0 D5 n2;have j8:=fO (st:=d_) D2 v9 r6;have r9:=fO (st:=d8) D6 E6 q6;have s4:=fO (st:=cX) C0 u3 r1;have n0:=fO (st:=fu) B3 A6 n8;have m2:=fO (st:=iJ) y9 E7 h8;have y5:=fO (st:=lK) u2 B4 w0;refine⟨fnOf "law" "law" (cD lK) (bL lK) (aG lK) .none e5 e1 e7 d9 d5 e3,λs v=>.of_eq rfl,λbase _ _=>?_⟩;have d1:tK l.prog w K mg base:=⟨_,_,Be F1 B,mg_of X G a1,F,F1.binds (ps:=nl7) λ_ _ _ _ _ _=>un2 λ_ _=>rfl⟩;have J:jM l.prog w K mg base:=⟨_,_,Cy F2 B,mg_of X G a2,k2,F2.binds (ps:=nl8) λ_ _ _ _ _ _=>un2 λ_ _=>rfl⟩;have c0:qJ l.prog w K mg base:=⟨_,_,zK F3 B J,mg_of X G a3,k3,F3.binds (ps:=nl9) λ_ _ _ _ _ _=>un1 λ_=>rfl⟩;have a0:lN l.prog w K mg base:=⟨_,_,ud F4 B J,mg_of X G a4,k4,F4.binds (ps:=nl3) λ_ _ _ _ _ _=>un3 λ_ _ _=>rfl⟩;have d0:tQ l.prog w K mg base:=⟨_,_,Bu F5 B a0 J,mg_of X G a5,k5,F5.binds (ps:=nl3) λ_ _ _ _ _ _=>un3 λ_ _ _=>rfl⟩;have b7:Cal l.prog w K mg base (0+0) "_law_same" nl0 (spP ⟨K,mg⟩ (λ_=>none)):=⟨_,_,Mq,mg_of X G a6,k6,F6.binds (ps:=nl0) λ_ _ _ _ _ _=>un2 λ_ _=>rfl⟩;have b6:Cal l.prog w K mg base (0+1) "_law_same" nl0 (spP ⟨K,mg⟩ (aQ (λ_=>none))):=⟨_,_,jB (n:=0) F6 B  b7,mg_of X G a6,k6,F6.binds (ps:=nl0) λ_ _ _ _ _ _=>un2 λ_ _=>rfl⟩;have b4:Cal l.prog w K mg base (0+2) "_law_same" nl0 (spP ⟨K,mg⟩ (aQ (aQ (λ_=>none)))):=⟨_,_,jB (n:=1) F6 B  b6,mg_of X G a6,k6,F6.binds (ps:=nl0) λ_ _ _ _ _ _=>un2 λ_ _=>rfl⟩;have b5:Cal l.prog w K mg base (0+3) "_law_same" nl0 (spP ⟨K,mg⟩ (aQ (aQ (aQ (λ_=>none))))):=⟨_,_,jB (n:=2) F6 B  b4,mg_of X G a6,k6,F6.binds (ps:=nl0) λ_ _ _ _ _ _=>un2 λ_ _=>rfl⟩;have U:tL l.prog w K mg base:=⟨_,_,jB (n:=3) F6 B  b5,mg_of X G a6,k6,F6.binds (ps:=nl0) λ_ _ _ _ _ _=>un2 λ_ _=>rfl⟩;have b1:mD l.prog w K mg base:=⟨_,_,vB F7 B,mg_of X G a7,k7,F7.binds (ps:=QR) λ_ _ _ _ _ _=>un2 λ_ _=>rfl⟩;have V:lF l.prog w K mg base:=⟨_,_,tu F8 B,mg_of X G a8,k8,F8.binds (ps:=nl4) λ_ _ _ _ _ _=>un1 λ_=>rfl⟩;have b0:mO l.prog w K mg base:=⟨_,_,ut F9 B,mg_of X G a9,k9,F9.binds (ps:=nl1) λ_ _ _ _ _ _=>un2 λ_ _=>rfl⟩;have b9:t7 l.prog w K mg base:=⟨_,_,yW p5 B,mg_of X G E3,n1,p5.binds (ps:=O8) λ_ _ _ _ _ _=>un2 λ_ _=>rfl⟩;have d4:Gp l.prog w K mg base:=⟨_,_,JR o5 B b0 b9,mg_of X G D4,m4,o5.binds (ps:=nl1) λ_ _ _ _ _ _=>un2 λ_ _=>rfl⟩;have d2:w5 l.prog w K mg base:=⟨_,_,Eg i9 B d4,mg_of X G w8,n2,i9.binds (ps:=nl1) λ_ _ _ _ _ _=>un2 λ_ _=>rfl⟩;have b2:nZ l.prog w K mg base:=⟨_,_,uU j8 B,mg_of X G w1,r6,j8.binds (ps:=nl2) λ_ _ _ _ _ _=>un2 λ_ _=>rfl⟩;have b3:n_ l.prog w K mg base:=⟨_,_,v6 r9 B b2,mg_of X G w2,q6,r9.binds (ps:=nl2) λ_ _ _ _ _ _=>un2 λ_ _=>rfl⟩;have N:lJ l.prog w K mg base:=⟨_,_,rC s4 B V d2 b3,mg_of X G E0,r1,s4.binds (ps:=Qf) λ_ _ _ _ _ _=>un2 λ_ _=>rfl⟩;have b8:qN l.prog w K mg base:=⟨_,_,zm n0 B,mg_of X G B0,n8,n0.binds (ps:=nl5) λ_ _ _ _ _ _=>un1 λ_=>rfl⟩;have d3:xY l.prog w K mg base:=⟨_,_,Ig m2 B,mg_of X G E4,h8,m2.binds (ps:=QS) λ_ _ _ _ _ _=>un2 λ_ _=>rfl⟩;exact gn.imp (R5 y5 B d1 c0 d0 U b1 N b8 d3) λvs H Q E ⟨a,ns,e,hS,Y,q⟩=>by subst e;exact TF Y hS q
theorem walk{q:YG}{J:List Str}{V:(Str->Option Value)->Heap->Prop}{U:World->Heap->Prop}{d:DefRec}{K:Params->Frag}(hn:l.most=some 63)(O:d.params.defaults=[])
  (Z:∀(w:World)(h:Heap),U w h->(K w.params).In h)
  (F:∀(w:World)(mg:Str->Option Value)(fa:Addr)(h:Heap),(K w.params).In h->h.Ns Ye mg->mg d.name=some (.ref fa)->
   ∃fd:Y9,(∀(s:Mx)(u:Value),aeh s fd ⟨[u],[]⟩ [("_law_script",u)])/\∀base:Heap,(K w.params).In base->base.Ns Ye mg->gn l.prog w (K w.params) mg base CX0 5 fa fd Q5 (JT (K w.params))) :
  af2 q J V U l.row.toRowW d [] (λf vs=>afK f vs):=
 L2.walk_of (n:=63) (k:=5) (x:="_law_script") (CX:=λ_=>CX0) (sp:=λw=>JT (K w.params)) hn (by decide) O ⟨rfl,by decide,by decide,rfl⟩ Z F (λ_ _ a ns Y _ N=>⟨a,ns,rfl,N,Y,λ_=>rfl⟩) λ_ _ _ _ _ z=>z
end Jb
end
namespace PySem.W.Fast
def tw6070951201038220379:=0
def tw11151637176522669094:=0
def tw11140639939719492436:=0
def tw14688623623626229059:=0
def tw17047254339381650338:=0
def tw9527741556288885841:=0
def tw6250274281802704312:=0
def tw12290788992189336947:=0
def tw10295697172808711516:=0
def tw6642122516707214101:=0
def tw13636658026470690307:=0
def tw13615703099901530851:=0
def tw2324367710168502277:=0
def tw14283206661300802945:=0
def tw580727625099154934:=0
def tw11780060639545068342:=0
def tw7146889868180926156:=0
def tw2393695477899259024:=0
def tw11857022098770624954:=0
def tw8504388893802923014:=0
def tw9548277116967703710:=0
def tw10285624076202301515:=0
def tw829122136417172952:=0
def tw1121047180837561432:=0
def tw5027173261732706190:=0
def tw1214401590732053130:=0
def tw12470378239629046074:=0
def tw10654886823145889493:=0
def tw13848121868037398848:=0
def tw10346914390757833230:=0
def tw17013594606058121310:=0
def tw5562755858681694994:=0
def tw4129002692790065255:=0
def tw5301116144843052565:=0
def tw17487429612585513438:=0
def tw438355804475223921:=0
def tw17969114114021736093:=0
def tw13818351347228418774:=0
def tw12855730851295803280:=0
def tw1733734425526358736:=0
def tw4878375313206943107:=0
def tw4912596492211713381:=0
def tw8310142546681165082:=0
def tw5643163244669993483:=0
def tw5330704053488861359:=0
def tw17155894614190692771:=0
def tw2021223915308174654:=0
def tw17601109125395758454:=0
def tw3165648828119020401:=0
def tw17936852952438484931:=0
def tw12910425849630381720:=0
def tw11403155127919681946:=0
def tw13037775139204746972:=0
def tw18416531545276972430:=0
def tw15475845968634111398:=0
def tw7466318043817655148:=0
def tw2521455454340470582:=0
def tw14643991712323883198:=0
def tw11404514589410570033:=0
def tw5000987779126293897:=0
def tw1935960436576944511:=0
def tw10079393141520346662:=0
def tw5123542339433146352:=0
def tw4691599476769409755:=0
def tw7021946944039601037:=0
def tw8994068594826638542:=0
def tw11441615190751573355:=0
def tw8815911224957590072:=0
def tw3675767709014437259:=0
def tw16166648848760664015:=0
def tw4740219665689635141:=0
def tw9406537333286237474:=0
def tw6431358550251593847:=0
def tw11486771474944156757:=0
def tw6245058208477899019:=0
def tw16988621017516008619:=0
def tw14907305660104229996:=0
def tw16044396104123530912:=0
def tw9479413650540943656:=0
def tw3222856427734077845:=0
def tw18131944204938877546:=0
def tw9388918867631116954:=0
def tw7374049243848104114:=0
def tw15749419124120845154:=0
def tw12124790725453253168:=0
def tw4646672886714834387:=0
def tw2997067943305595906:=0
def tw10875109378524591873:=0
def tw13619304538076533112:=0
def tw15405881422937750427:=0
def tw1377284211994330581:=0
def tw11982167210323073294:=0
def tw10498334668237686774:=0
def tw8901553470299855115:=0
def tw17066874666758823189:=0
def tw17571549162843717778:=0
def tw4224662989983549764:=0
def tw8819648337169912497:=0
def tw17430633017147436923:=0
def tw109141424339328774:=0
def tw10672996704677409996:=0
def tw9569609797558707843:=0
def tw6592540089101812844:=0
def tw11575428692393442107:=0
def tw13941130235852592032:=0
end PySem.W.Fast
open PySem PySem.W PyProof.Rows
set_option maxRecDepth 100000 in
set_option maxHeartbeats 0 in
theorem PySem.Challenge.cw_joinback_k45_most_together_holds : PySem.Challenge.rw_joinback_k45_most_together.Holds := by
 w_on;o_law;k_head;(case hw=>w_witness2)
 k_fill
 refine Jb.walk (l:=PySem.Challenge.rw_joinback_k45_most_together) rfl rfl (λw h Y=>PySem.W.kIn_of Y) ?F
 case F=>
  intro w mg fa h KX G hmg;refine' Jb.all_mk KX G hmg ?_ ?_ ?_ ?_ ?_ ?_ ?_ ?_ ?_ ?_ ?_ ?_ ?_ ?_ ?_ ?_ ?_ ?_ ?_ ?_ ?_ ?_ ?_ ?_ ?_ ?_ ?_ ?_ ?_ ?_ ?_ ?_ ?_ ?_ ?_ ?_ ?_ ?_ ?_ ?_ ?_ ?_ ?_ ?_ ?_ ?_ ?_ ?_ ?_ ?_ ?_ ?_ ?_ ?_ ?_ ?_ ?_ ?_ ?_ ?_ ?_ ?_ ?_ ?_ ?_ ?_ ?_ ?_ ?_ ?_ ?_ ?_ ?_ ?_ ?_ ?_ ?_ ?_ ?_ ?_ ?_ ?_ ?_ ?_ ?_ ?_ ?_ ?_ ?_
  any_goals k_is
